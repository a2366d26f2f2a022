import PyProof.Rows.All
import Wide.All
import OpenK.AllK
import Wide.FinOn
import Lean
import PyProof.EqAt
import PyProof.EqKinds
import PyProof.TupleCall
import PyProof.ExcClass3
import PyProof.StationsW
import PyProof.ExcBaseAll.ValueError
import PyProof.ExcArgsOwn
import PyProof.IsiBase
import PyProof.IsiH_tuple
import PyProof.ExcAttrAll.ValueError
import PyProof.Rows.RuleN_isinstance
import PyProof.MeetsSeq
import PyProof.RulesAs
import PyProof.IsiH_list
import PyProof.AttrMiss
import KE.KDictOf
import PyProof.Rows.SumAny
import PyProof.Rows.MinMaxN
import PyProof.Rows.SortShellK
import PyProof.Rows.SortWalk
import PyProof.ZipIter
import PyProof.WalksMore
import PyProof.DictWalks
import PyProof.AutoSeq1
import PyProof.Rows.Range3
import PyProof.CollectWalk
import KE.KSortTup
import PyProof.EnumMake
import PyProof.ListRange
import KE.KRevIter
import PyProof.SetScanFacts
import PyProof.SetKind
import PyProof.DictKinds
import PyProof.FactsAll.set_0
import PyProof.FactsAll.set_1
import PyProof.FactsAll.set_2
import PyProof.FactsAll.set_3
import PyProof.FactsLen
import PyProof.TupleIter
import PyProof.Rows.SetFrom
import PyProof.Rows.SortShell
import PyProof.TupleKey
import PyProof.SetRoads
import PySem.Challenge.RW_farclocks_k33_whole_ways
noncomputable section
open PySem.Challenge renaming pw_farclocks_k33_whole_ways→JY,rw_farclocks_k33_whole_ways→NH
open PyProof.Rows.F renaming plain_set_update_loop→KS,entry_set_update_loop→LU
open PySem.Builtin.SmallTypes renaming ownedTupleHandOut→LW,ownedTupleIsFree→Jx,nextOf→JI
open PySem.AutoListH renaming list___mul___list_int_3→OU
open PyProof.Rows renaming slot_tuple_getitem→JU,callWith_builtin1→Lq,callWith_type1→JL,subscriptTail_builtinR→N1,entry_tuple_getitem→OM,args_tuple_getitem→Pd,tupleItemsOf_→Pe,subscriptTail→Pf,boot_all→Qg,boot_sum→Qh,IntsAre→MK,AllBare→NM,IsTup→QK
open PySem.F renaming args_dict_keyiterator_next_1→MC,entry_dict_keyiterator_next→MJ,slot_dict_keyiterator_next→Kn,args_tuple_iterator_next_1→MO,entry_tuple_iterator_next→MT,slot_tuple_iterator_next→K4,excBase_ValueError→M6,slot_list_getattribute→Lk,args_tuple_add_2→L5,slot_zip_getattribute→Lv,entry_tuple_add→Mc,plainAttrs_list→Me,args_dict_get_2→NF,slot_tuple_add→Mp,entry_dict_get→NW,slot_dict_get→Mz,slot_enumerate_next→Oe,kt_typeCall_dict_1→Oz,args_dict_init_2→OW,args_zip_next_1→Nu,args_int_rmul_2→Pq,slot_tuple_rmul→Pt,entry_dict_init→Pv,slot_tuple_mul→NQ,entry_zip_next→NS,slot_int_index→PX,entry_int_rmul→PY,kt_called_dict→P2,slot_dict_iter→P3,slot_zip_next→Ll,slot_int_rmul→MS,fills_int_mul→Ql,slot_zip_iter→Qs,plain_set_new→Qt,called_set→LD
open PySem renaming wpAny_typeNameOfWhole_keyiter→KQ,wpAny_newFunctionEnv_cells→M9,wpAny_binaryOp_repeat_ref→Ni,wpAny_typeNameOf_keyiter→Lo,wpAny_callSpecial?_slot→JH,wpAny_pyNext_list_item→N0,wpAny_Call_method_late→N3,wpAny_nextOf_list_item→N4,builtinLookup_eq_fast→LG,wpAny_notOrdered_dict→MH,wpAny_pyNext_list_end→On,codeAny_call_function→Oo,wpAny_isOneOf_keyiter→Ou,codeAny_call_builtin→MM,wpAny_raiseAttrError→OA,wpAny_updateSeq_pair→OB,mem_of_lookup→KY,wpAny_Call_Name_kw→JV,wpAny_pyIter_tuple→K8,tupleKind_room_in1→K9,wpAny_setField_rec→Mm,wpAny_List_spliced→Pa,sub_AttributeError→Ph,wpAny_dictSet_heap→Pj,foldedSetIterable→Jy,wpAny_newObj_type→J3,wpAny_truthy_bool→KA,wpAny_pyIter_list→LM,wpAny_setState_of→Mw,wpAny_dictEntries→ND,wpAny_assign_Name→Pz,wpAny_sequenceKey→PC,wpAny_pyIter_enum→PD,wpAny_pyIter_slot→PF,wpAny_storeSet_of→PH,wpAny_call_entry→J1,noFill_tuple_add→NU,wpAny_isInstance→NV,seqSlot_of→P0,wpAny_execs_cons→Qa,kt_code_dict_new→Qb,codeAny_builtin→K1,wpAny_loadPart'→Lp,letOwnedTupleGo→Mj,wpAny_execs_nil→MW,typeLookup_type→MY,pushCells_keeps→Os,wpAny_dictEpoch→Ot,importedModules→Qw,wpAny_passesOwn→Qx,wpAny_specialOf→QD,codeAny_of_tree→QH,wpAny_seqItems→Ko,wpAny_setField→Nj,firstArgMember→Nk,isSubtype_stop→OF,wpAny_holding→Kj,attributeBase→KG,wpAny_attempt→Mk,plainId_quiet→Ml,behindInMarks→NN,nums_intItems→NO,swapsWithSole→O8,swappedStores→O9,seq_tuple_add→Pb,comprehension→Pg,bootBuiltins→Jw,wpAny_typeOf→Mb,codeAny_mono→MG,concat_meets→PU,mainGlobals→JF,wpAny_field→Ka,sizeLine_eq→K0,sliceBounds→Mv,excClassObj→MX,subscripted→ON,keywordEach→Qz,wpAny_of_eq→QC,intItems_at→QF,wpAny_bind→IH,wpAny_pure→IS,assignEach→KB,sysModules→Ln,wpAny_mono→LL,IsTupleKey→LN,call_meets→MP,builtinsNs→NA,typeLookup→NB,wpAny_rule→NC,typeIs_int→Ox,swapsWith→J0,compareOp→J6,cellsFrom→Lw,DictEntry→ME,tupleKind→MF,Arguments→Om,pushCells→Oq,starEach→Jj,binaryOp→KL,FuncData→KM,boot_len→K2,NameKind→LK,intItems→Nd,GenState→O7,bindArgs→Qe,Program→Jp,BindsTo→PB,Keyword→QB,Shared→IR,Around→JO,IsPair→MZ,IsPart→Pc,Result→Qy,Paired→QJ,Value→IQ,World→J2,Scope→L1
open PySem.Builtin.Dict_items renaming ownsTuple→MN
open PySem.Builtin.Slice renaming slicePartIndex→Qc,sliceApplied→M0,slicePlaces→La,sliceAdjust→LV
open PySem.Builtin.Frozenset renaming updateFrom→Qd
open List renaming getElem?_append_right→K3,getD_eq_getElem?_getD→LP,nodup_iff_pairwise_ne→LQ,getElem?_eq_some_iff→Jd,drop_eq_getElem_cons→Ki,getElem?_append_left→Lb,pairwise_iff_getElem→LY,getElem?_eq_getElem→IU,filterMap_cons_some→Kl,length_erase_of_mem→Ma,filterMap_cons_none→Nv,getElem?_cons_succ→Kd,getElem?_replicate→Mg,getElem?_set_self→Jl,drop_eq_nil_of_le→Lx,take_of_length_le→Ly,length_pos_of_mem→Mr,mem_append_right→Jn,length_singleton→Kk,getElem?_eq_none→LA,take_append_drop→LF,set_getElem_self→Of,mem_cons_of_mem→IJ,getElem?_set_ne→Js,mem_of_getElem?→JT,mem_append_left→Ks,mem_erase_of_ne→LS,map_congr_left→JM,filterMap_cons→JZ,getElem_of_mem→J8,replicate_succ→Ky,getElem?_range→OI,drop_succ_cons→OL,mem_cons_self→IL,length_append→IX,mem_singleton→IY,mem_filterMap→J5,forIn_toArray→OY,append_of_mem→O6,size_toArray→Je,getElem?_map→Jm,append_assoc→JE,nodup_append→JR,length_range→Kz,flatten_cons→Li,any_eq_false→Nq,pairwise_map→Ny,flatMap_cons→Nz,take_sublist→Pp,drop_sublist→Px,getElem_drop→Py,length_cons→IV,all_eq_true→Jf,not_mem_nil→JQ,lookup_cons→Kb,getElem_mem→Ku,length_take→KN,length_drop→KO,any_eq_true→MI,getElem_map→NR,drop_length→PZ,nodup_range→P4,filter_cons→P6,cons_append→P7,mem_flatMap→P9,length_map→IP,nodup_cons→Jq,map_append→Jv,mem_append→JC,append_nil→J7,length_set→J9,nil_append→Kp,find?_cons→LC,forIn_cons→Mh,of_mem_zip→MR,range_succ→MV,mem_filter→N7,foldl_cons→Ob,length_nil→Qp,idxOf_cons→Qv,replicate→Jr,mem_range→JJ,nodup_nil→KU,forIn_nil→Ng,map_cons→IM,mem_cons→IW,sum_cons→KF,any_cons→Lu,mem_map→Jh,map_map→JX,map_nil→Oa,toArray→PM,set_set→PQ,length→J4,lookup→L3,map_id→Qq,range→JA,Nodup→LI,foldl→Nr
open PySem.Builtin.Tuple renaming tupleItemsOf→M4,tupleIsExact→M5,tupleHashOf→Nf,tupleExact→KI
open PySem.Calls renaming Name_function_global→M7,callWith_builtin→Mq,evalArgs_plain→LR,spliced_cons→K6,spliced_nil→Lg
open Array renaming getElem?_eq_some_iff→M8,getElem?_eq_getElem→KC,getElem?_eq_none→NY,toList_filterMap→NZ,getElem?_toList→MB,mem_toList_iff→ML,length_toList→Jt,find?_toList→OS,replicate→Qu,toList→N9
open Classical renaming byContradiction→L0
open PySem.Builtin.List renaming listTooLong→Ld
open Option renaming isSome_iff_exists→Lh,map_eq_some_iff→Kg,isSome_some→OV,isSome_map→Pu,getD_none→NP,bind_some→NT,map_some→Og,some→JP
open PySem.Builtin.Dict renaming addKeywords→Nm,selfAndRest→Nn,updateFrom→Ls,pairItems→NX,showsAll→N6
open Int renaming eq_ofNat_of_zero_le→Jz,toNat_of_nonneg→OK,emod_lt_of_pos→Nc,toNat_natCast→JD,emod_nonneg→Ol,le_antisymm→Qr,le_refl→Ke
open PySem.Heap renaming get?_push_of_some→IK,get?_update_self→LB,get?_push_size→IZ,NewAttrErr→MU,size_push→Kc,lt_size→Ja,SameBut→Lr,ExtBut→Qm
open PySem.SetTable.layClean renaming free→Kv
open PySem.W renaming cellsFrom_some→Mo,hideAll_none→Oy,hideAll_get→MQ,of_hideAll→OP,callWith_K→OQ,codeRec_of→OR,methodObj→Nl,kitx_list→Pk,kitx_dict→Pl,plainGet→PV,kia_one→Kh,instObj→N5,hideAll→Qi,keepIn→Mx,lookIn→OC,codeIn→OD,mg_of→NG,Frag→II,fnOf→L4,nsIn→L6
open PySem.Obj renaming isFreed_of_fields→Oc,data_mapFields→Mi,cls_mapFields→Pr
open Bool renaming and_eq_false_iff→Oj,and_eq_true_iff→KR,false_ne_true→Jo,false_eq_true→KJ,not_eq_true'→Pw,and_eq_true→IT,or_eq_true→Qo,and_false→OE,true_and→KD,false_or→NJ
open PySem.Around renaming under_plainId→Kt,units→MD
open PySem.Heap.SameBut renaming update→Kx,refl→Pn
open Nat renaming lt_of_lt_of_le→Ji,eq_or_lt_of_le→O4,lt_of_le_of_lt→O5,lt_succ_of_lt→Lj,le_of_succ_le→Nt,lt_succ_self→K5,le_add_right→P5,mod_eq_of_lt→P8,lt_irrefl→Ju,ne_of_lt→JS,le_trans→JW,le_of_lt→L8,le_of_eq→L9,ne_of_gt→MA,sub_self→Na,sub_zero→Nb,zero_add→Oi,add_comm→PJ,mul_comm→PK,lt_trans→PL,lt_or_ge→PR,le_refl→Jc,zero_le→KP
open PySem.SetTable renaming layClean→Km,insertAt→Lm,below→Jk,Probe→LZ,turns→My,probe→Nh,bits→Kr,has→Oh
open PySem.SetTable.probe renaming go→Ms
open Option.some renaming injEq→Np,inj→JB
open List.Pairwise renaming nil→Pm
open PySem.SetTable.below renaming go→Po
open ForInStep renaming yield→Lz
open PySem.Expr renaming Subscript→KW,Attribute→LX,ListComp→NL,Constant→OZ,Compare→PN,UnaryOp→PP,BoolOp→Lc,Name→JG,Call→KZ
open PySem.NameKind renaming free→JN,cell→Kq
open PySem.Paired renaming length→Mf
open PySem.Str renaming ofString→Jb
open PySem.Stmt renaming Assign→Mu
open PySem.Value renaming isInt→NI,none→JK,bool→Kf,type→L7,ref→Jg,int→Kw,str→KH
open PySem.Scope renaming names→NK
open PySem.Pos renaming endLine→OJ,line→LJ
open Prod.mk renaming inj→Qj
open PySem.Shared renaming heap→Qn
open True renaming intro→Lf
open False renaming elim→LH
open PySem.BoolOp renaming And→Ov,Or→O0
open PySem.Env renaming scope→K7
open PyProof.Rows.IsTup renaming new→Qk
open Iff renaming rfl→Mt
open Ne renaming symm→N8
open Sum renaming inl→OG,inr→OH
set_option Elab.async false
set_option linter.all false
set_option maxRecDepth 100000
set_option maxHeartbeats 8000000
noncomputable section
abbrev nDb (x:PySem.Str):Prop:=(x == PySem.Str.ofString "__debug__")=false
theorem qr_ (h:True:=by first | exact .inl rfl | exact .inr rfl | assumption):True:=trivial
def r_:=qr_._auto_1
theorem qs_ (h:True:=by decide):True:=trivial
def s_:=qs_._auto_1
theorem qt_ (h:True:=by intro _;rfl):True:=trivial
def t_:=qt_._auto_1
theorem qu_ (h:True:=by first | exact Or.inl rfl | exact Or.inr (Or.inl rfl) | exact Or.inr (Or.inr rfl)):True:=trivial
def u_:=qu_._auto_1
theorem qv_ (h:True:=by with_unfolding_all rfl):True:=trivial
def v_:=qv_._auto_1
theorem qw_ (h:True:=by intro _ _;rfl):True:=trivial
def w_:=qw_._auto_1
theorem qx_ (h:True:=by first | exact Or.inl rfl | exact Or.inr rfl):True:=trivial
def x_:=qx_._auto_1
theorem qy_ (h:True:=by decide+kernel):True:=trivial
def y_:=qy_._auto_1
theorem qz_ (h:True:=by exact fsc):True:=trivial
def z_:=qz_._auto_1
namespace L2
open PySem PySem.Spec PyProof.Rows
inductive V where
 | non | bl (b:Bool) | int (i:Int) | str (x:Str) | byt (b:Array UInt8) | flt (b:UInt64) | ref (a:Addr) | ty (n:String)
 deriving DecidableEq
def B3 (s:Stmt)(j:Nat):Stmt:=match s with
 | .ClassDef _ _ _ body _ _ _ _ _ _ _=>body.getD j (.Pass ⟨0,0,0,0⟩)
 | _=> .Pass ⟨0,0,0,0⟩
def fD (s:Stmt):Om:=match s with
 | .FunctionDef _ a _ _ _ _ _ _ _ _=>a
 | _=> { posonlyargs:=[],args:=[],vararg:=none,kwonlyargs:=[],kw_defaults:=[],kwarg:=none,defaults:=[] }
def cE (s:Stmt):List Stmt:=match s with
 | .FunctionDef _ _ b _ _ _ _ _ _ _=>b
 | _=> []
def aB (s:Stmt):L1:=match s with
 | .FunctionDef _ _ _ _ _ _ sc _ _ _=>sc
 | _=> { kind:=.function,names:=[],isGenerator:=false,isCoroutine:=false }
end L2
namespace Tr
open PySem PySem.Spec PyProof.Rows L2
inductive T where
 | non | bl (b:Bool) | int (i:Int) | str (x:Str) | tup (l:List T) | lst (l:List T)
 /-- the law's script: a list of ints that is only read -/
 | scr (l:List Int)
 /-- a dict: its keys,its values -/
 | dct (ks vs:List T)
 /-- an instance: its class,the names of its attributes,what they are -/
 | ob (C:Str) (ns:List Str) (ts:List T)
abbrev Ow:=Addr->Prop
inductive OT where
 | lst (l:List T) | dct (ks ts:List T) | dd (ks:List T) (rows:List (List T×List T))
 /-- an instance,its attributes own lists -/
 | ob (C:Str) (ns:List Str) (ls:List (List T))
def OT.view:OT->T
 | .lst l=> .lst l
 | .dct ks ts=> .dct ks ts
 | .dd ks rows=> .dct ks (rows.map λr=> .dct r.1 r.2)
 | .ob C ns ls=> .ob C ns (ls.map T.lst)
abbrev Mn:=Nat->Ow
def Mn.set (M:Mn)(i:Nat)(m:Ow):Mn:=λj=>if j=i then m else M j
def calmNames:List Str:=["__init__","__getattribute__","__getattr__","__class__"]
def ya:IQ->Bool
 | .str _ _=>true
 | _=>false
end Tr
namespace Tr
def fO:List Int->List Int->Bool
 | [],[] =>false
 | [],_::_=>true
 | _::_,[] =>false
 | a::l,b::m=>if a=b then fO l m else decide (a<b)
end Tr
namespace Tr
open PySem PySem.Spec PyProof.Rows L2
structure RK where
 V:Heap->IQ->List Int->Prop
 inj:∀{h v a b},V h v a->V h v b->a=b
 on:∀{h h':Heap} {v a},V h v a->(∀b o,h.get? b=some o->h'.get? b=some o)->V h' v a
 fst:∀{h v a},V h v a->∃ad xs n o m t,v= .ref ad/\h.get? ad=some o/\o.cls= .type "tuple"/\o.data= .seq xs n/\xs[0]? =some (.int m t)
 lt:∀{prog w A s E x y a b} {Q:Bool->IR->Prop},A.units+60<cLine->V s.heap x a->V s.heap y b->Q (fO a b) s->wpAny (model prog w) A (keyLt' (tuples' true) x y) Q E s
variable (R:RK)
open Classical in
def RK.key (h:Heap)(v:IQ):Option (List Int):=if e:∃ns,R.V h v ns then some e.choose else none
variable {R:RK}
end Tr
namespace Tr
open PySem PySem.Spec PyProof.Rows L2 PySem.W
def zP (h:Heap):Frag:=(JA h.objs.size).filterMap λa=>(h.get? a).map λo=>(a,o)
def obF (K:Frag)(n:Str):Option (Str×Str×Om×FuncBody×L1×Addr×List (Str×Addr)×IQ×Addr×Bool×Bool):=match nsIn K JF n with
 | some (some (.ref f))=>match K.lookup f with
  | some ⟨_,_,.func d,_⟩=>some (d.name,d.qualname,d.params,d.body,d.scope,d.globals,d.closure,d.defaults,d.builtins,codeIn K d.code n,keepIn K (.ref f))
  | _=>none
 | _=>none
def exF (n:Str)(st:Stmt):Option (Str×Str×Om×FuncBody×L1×Addr×List (Str×Addr)×IQ×Addr×Bool×Bool):=
 some (n,n,fD st,.stmts (cE st),aB st,JF,[],.none,NA,true,true)
def GC (K:Frag)(N:Addr)(n:Str):Bool:=match nsIn K N n with | some none=>true | _=>false
def HA (K:Frag)(n:Str):Option Int:=match nsIn K JF n with | some (some (.int i _))=>some i | _=>none
def vf:List IQ->Bool
 | [.type a,.type b,.type c,.type d] =>a == "ValueError" &&b == "Exception" &&c == "BaseException" &&d == "object"
 | _=>false
def xW (D:Option Addr)(m:List IQ):Bool:=match D with
 | none=>vf m
 | some D=>match m with
  | .ref E::m=>E == D&&vf m
  | _=>false
def BO (K:Frag)(D:Option Addr)(n:Str):Option Addr:=match nsIn K JF n with
 | some (some (.ref C))=>match K.lookup C with
  | some ⟨.type t,_,.cls c,⟨[_,_,_,_,some (.builtin b),_]⟩⟩=>match c.mro,K.lookup c.ns with
   | .ref E::m,some ⟨_,_,.dict es _,_⟩=>
    if (t == "type" &&b == "ValueError.__new__" && !c.hasDel&&(es.toList.all λe=>ya e.key)&&calmNames.all (GC K c.ns)&&E == C&&xW D m)=true then some C else none
   | _,_=>none
  | _=>none
 | _=>none
def uT {α:Type}:List (Option α)->Option (List α)
 | [] =>some []
 | none::_=>none
 | some a::r=>match uT r with | some l=>some (a::l) | none=>none
def qf:List Addr->Bool
 | [] =>true
 | a::r=>(r.all λb=> !(a == b))&&qf r
def Hz (K:Frag):List Str->Bool
 | [] =>true
 | m::es=>match BO K none m with
  | some D=>match uT (es.map (BO K (some D)))with | some l=>qf (l++ [D]) | none=>false
  | none=>false
structure xJ where
 tab:List (Str×Nat)
 zs:List Str
 cs:List (Str×Int)
 es:List Str
def sj (S:xJ)(K:Frag):=(S.tab.map (λp=>obF K p.1),S.zs.all (GC K JF),S.cs.map (λc=>HA K c.1),Hz K S.es)
def rk (S:xJ)(top:Nat->Stmt):=(S.tab.map (λp=>exF p.1 (top p.2)),true,S.cs.map (λc=>some c.2),true)
def obM (K:Frag)(C:Addr)(m q:Str):Option (Str×Str×Om×FuncBody×L1×Addr×List (Str×Addr)×IQ×Addr×Bool×Bool×Bool):=match findIn K (.ref C) m with
 | some (some (.ref f))=>match K.lookup f with
  | some ⟨_,_,.func d,_⟩=>some (d.name,d.qualname,d.params,d.body,d.scope,d.globals,d.closure,d.defaults,d.builtins,codeIn K d.code q,keepIn K (.ref f),isFn K (.ref f))
  | _=>none
 | _=>none
def exM (m q:Str)(st:Stmt):Option (Str×Str×Om×FuncBody×L1×Addr×List (Str×Addr)×IQ×Addr×Bool×Bool×Bool):=
 some (m,q,fD st,.stmts (cE st),aB st,JF,[],.none,NA,true,true,true)
def noAt (K:Frag)(C:Addr)(f:Str):Bool:=match findIn K (.ref C) f with | some none=>true | _=>false
def saOk (K:Frag)(C:Addr):Bool:=match findIn K (.ref C) "__setattr__" with | some (some (.builtin b))=>b == "object.__setattr__" | _=>false
def Hb (K:Frag)(C:Addr)(as:List Str):Bool:=plainGet K C Str.empty&&hasDictIn K C&&plainOver K C&&saOk K C&&makesIn K C&&keepIn K (.ref C)&&as.all (noAt K C)
structure Fw where
 c:Str
 i:Nat
 as:List Str
 ms:List (Str×Str×Nat)
def obK (K:Frag)(A:Fw):=match nsIn K JF A.c with
 | some (some (.ref C))=>some (Hb K C A.as,A.ms.map λ(m:Str×Str×Nat)=>obM K C m.1 m.2.1)
 | _=>none
def exK (top:Nat->Stmt)(A:Fw):=some (true,A.ms.map λ(m:Str×Str×Nat)=>exM m.1 m.2.1 (B3 (top A.i) m.2.2))
structure tV where
 a:xJ
 ks:List Fw
def yU (S:tV)(K:Frag):=(sj S.a K,S.ks.map (obK K))
def xV (S:tV)(top:Nat->Stmt):=(rk S.a top,S.ks.map (exK top))
end Tr
namespace G
open PySem PySem.Spec PyProof.Rows L2 Tr
def top (i:Nat):Stmt:=JY.main.body.getD i (.Pass ⟨0,0,0,0⟩)
def Ai:xJ:=⟨([("_law_cell",53),("_law_drawn",54),("_law_events",57),("_law_letter",56),("_law_clock",55),("_law_record",58),("is_long",14),("is_whole",12),("is_within",13),("is_pace",17),("rises",15),("are_readings",16),("is_clock",18),("are_clocks",19),("is_event",20)]:List (Str×Nat))++([("is_delay",21),("is_letter",22),("are_letters",23),("is_record",24),("need_record",25),("events",27),("bounds_of_clock",29),("bounds_of_letter",30),("bounds",31),("_law_drawn_world",62),("need_event",26),("need_events",46),("is_better",38),("settle",37),("greatest_world",40)]:List (Str×Nat))++([("world",41),("has_world",42),("need_world",43),("walks_from",47),("way",50),("_law_table",60),("most_of",48),("most_between",49),("are_numbers",33),("leads",35),("sum_of",34),("shows",51),("_law_is_least",63),("leads_round",36),("bars",44)]:List (Str×Nat))++([("law",64)]:List (Str×Nat)),(["all","bool","dict","enumerate","int","isinstance","len","list","max","min","range","set","sum","tuple","zip"]:List Str),[("MOST_CLOCKS",4),("MOST_LETTERS",8),("MOST_READINGS",4),("LAST_READING",99),("SLOWEST",9),("LONGEST",999)],["ClockError","NoRecord","NoEvent","NoWorld"]⟩
def asks:tV:=⟨Ai,[]⟩
def vw:Jp:=PySem.W.view JY [64]
def lse:List Str:=(["ClockError","NoRecord","NoEvent","NoWorld","MOST_CLOCKS","MOST_LETTERS","MOST_READINGS","LAST_READING","SLOWEST","LONGEST","is_whole","is_within","is_long","rises","are_readings","is_pace","is_clock","are_clocks","is_event","is_delay"]:List Str)++(["is_letter","are_letters","is_record","need_record","need_event","events","bounds_of_clock","bounds_of_letter","bounds","are_numbers","sum_of","leads","leads_round","settle","is_better","greatest_world","world","has_world","need_world","bars"]:List Str)++(["need_events","walks_from","most_of","most_between","way","shows","_law_cell","_law_drawn","_law_clock","_law_letter","_law_events","_law_record","_law_bounds","_law_table","_law_world","_law_drawn_world","_law_is_least"]:List Str)
def lhs (w:J2)(h:Heap)(d:Drawn)(t:Nat)(os:OsState):=(PySem.W.topFrom treeTable JY w 9000 ⟨h,⟨[]⟩,d,t,os⟩).map (λs=>(PySem.W.openSeen vw lse (Qw JY.main.body) (λ_=>true) true s,yU asks (zP s.heap)))
def rhs (w:J2):=some (PySem.W.openGood vw lse,xV asks top)
theorem lhs_r:lhs=lhs:=rfl
theorem rhs_r:rhs=rhs:=rfl
end G
section
lay_quick G.lhs G.rhs
name_quick lhsz for G.lhs by G.lhs_r
name_quick rhsz for G.rhs by G.rhs_r
open PySem PySem.W PyProof.Rows
set_option maxRecDepth 100000 in
theorem G.Iz (w:J2)(os:OsState):PySem.W.Fast.lhsz w (boot_heap w.params) boot_drawn boot_toks os=PySem.W.Fast.rhsz w:=by kernel_rfl
end
namespace L2
open PySem PySem.Spec PyProof.Rows
abbrev Key:=Sum Int Str
def oF:Key->IQ->Bool
 | .inl k,v=>NI k v
 | .inr x,v=>Value.isStrOf x v
def keyH (w:J2):Key->Int
 | .inl k=>hashInt k
 | .inr x=>hashStr w x
theorem cm:∀{k:Key} {v:IQ},oF k v=true->(∃i t,k=OG i/\v=Kw i t)\/(∃x t,k=OH x/\v=KH x t)
 | .inl i,v,h=>by
  obtain⟨t,e⟩:=Value.isInt_shape (k:=i) (v:=v) h
  exact .inl ⟨i,t,rfl,e⟩
 | .inr x,v,h=>by
  obtain⟨t,e⟩:=Value.isStrOf_shape (x:=x) (v:=v) h;exact .inr ⟨x,t,rfl,e⟩
theorem xc (i:Int)(t:Tok):oF (.inl i) (.int i t)=true:=by simp[oF,NI]
theorem xb (x:Str)(t:Tok):oF (.inr x) (.str x t)=true:=by simp[oF,Value.isStrOf]
theorem EG (a b:Int):decide ((OG a:Key)=OG b)=(a == b):=by
 by_cases e:a=b
 ·subst e;simp
 ·have h:¬ (OG a:Key)=OG b:=λq=>e (OG.inj q)
  rw[decide_eq_false h];exact(beq_eq_false_iff_ne.mpr e).symm
theorem EC (a b:Str):decide ((OH a:Key)=OH b)=decide (a=b):=by
 by_cases e:a=b
 ·subst e;simp
 ·have h:¬ (OH a:Key)=OH b:=λq=>e (OH.inj q)
  rw[decide_eq_false h,decide_eq_false e]
theorem EF (a:Int)(b:Str):decide ((OG a:Key)=OH b)=false:=decide_eq_false (λq=>nomatch q)
theorem ED (a:Str)(b:Int):decide ((OH a:Key)=OG b)=false:=decide_eq_false (λq=>nomatch q)
def cb (prog:Jp)(w:J2):PySem.KeyKind prog w Key where
 is:=oF
 hash:=keyH w
 inj:=λv a b ha hb=>by
  rcases cm ha with⟨i,t,rfl,rfl⟩ | ⟨x,t,rfl,rfl⟩
  ·rcases cm hb with⟨j,u,rfl,e⟩ | ⟨y,u,rfl,e⟩
   ·injection e with e1 _;rw[e1]
   ·exact nomatch e
  ·rcases cm hb with⟨j,u,rfl,e⟩ | ⟨y,u,rfl,e⟩
   ·exact nomatch e
   ·injection e with e1 _;rw[e1]
 byValue:=λk v h=>by
  rcases cm h with⟨i,t,rfl,rfl⟩ | ⟨x,t,rfl,rfl⟩ <;> rfl
 pyHash:=λhv h=>by
  rcases cm hv with⟨i,t,rfl,rfl⟩ | ⟨x,t,rfl,rfl⟩
  ·exact wpAny_pyHash_int h
  ·exact wpAny_pyHash_str h
 eqBool:=λhu hv h=>by
  rcases cm hu with⟨i,t,rfl,rfl⟩ | ⟨x,t,rfl,rfl⟩
  ·rcases cm hv with⟨j,u,rfl,rfl⟩ | ⟨y,u,rfl,rfl⟩
   ·rw[EG]at h;exact wpAny_eqBool_int h
   ·rw[EF]at h;exact SeqAt.EqAt.int_str i t y u _ _ _ _ h
  ·rcases cm hv with⟨j,u,rfl,rfl⟩ | ⟨y,u,rfl,rfl⟩
   ·rw[ED]at h;exact SeqAt.EqAt.str_int x t j u _ _ _ _ h
   ·rw[EC]at h;exact wpAny_eqBool_str h
 «strs»:=λk x t v h=>by
  rcases cm h with⟨i,u,rfl,e⟩ | ⟨y,u,rfl,e⟩
  ·exact nomatch e
  ·injection e with e1 _
   subst e1;cases v <;> rfl
theorem sJ (prog:Jp)(w:J2)(i:Int)(t:Tok):(cb prog w).is (.inl i) (.int i t)=true:=xc i t
theorem sI (prog:Jp)(w:J2)(x:Str)(t:Tok):(cb prog w).is (.inr x) (.str x t)=true:=xb x t
def RelV:V->IQ->Prop
 | .non,u=>u=JK
 | .bl b,u=>u=Kf b
 | .int i,u=> ∃t,u=Kw i t
 | .str x,u=> ∃t,u=KH x t
 | .byt b,u=> ∃t,u=Value.bytes b t
 | .flt b,u=> ∃t,u=Value.float b t
 | .ref a,u=>u=Jg a
 | .ty n,u=>u=L7 n
abbrev Vals:List V->List IQ->Prop:=QJ RelV
theorem Vals.length {xs:List V}{us:List IQ}(r:Vals xs us):xs.length=us.length:=Mf r
theorem Vals.get:∀{xs:List V} {us:List IQ} {i:Nat} {x:V},Vals xs us->xs[i]? =some x->∃u,us[i]? =some u/\RelV x u
 | _,_,_,_,.nil,e=>by simp at e
 | _,_,0,_,.cons r _,e=>by simp at e;subst e;exact⟨_,rfl,r⟩
 | _,_,i+1,x,.cons _ t,e=>by
  obtain⟨u,h1,h2⟩:=Vals.get (i:=i) (x:=x) t (by simpa using e)
  exact⟨u,by simpa using h1,h2⟩
theorem Vals.append:∀{xs ys:List V} {us ws:List IQ},Vals xs us->Vals ys ws->Vals (xs++ys) (us++ws)
 | _,_,_,_,.nil,s=>s
 | _,_,_,_,.cons r t,s=> .cons r (Vals.append t s)
theorem Vals.take:∀{xs:List V} {us:List IQ} (n:Nat),Vals xs us->Vals (xs.take n) (us.take n)
 | _,_,0,_=> .nil
 | _,_,_+1,.nil=> .nil
 | _,_,n+1,.cons r t=> .cons r (Vals.take n t)
theorem Vals.drop:∀{xs:List V} {us:List IQ} (n:Nat),Vals xs us->Vals (xs.drop n) (us.drop n)
 | _,_,0,r=>r
 | _,_,_+1,.nil=> .nil
 | _,_,n+1,.cons _ t=>Vals.drop n t
def RelO:Option V->Option IQ->Prop
 | some v,some u=>RelV v u
 | none,none=>True
 | _,_=>False
def KV {κ:Type}:List (κ×V)->List (κ×IQ)->Prop:=QJ λ(p:κ×V) (q:κ×IQ)=>p.1=q.1/\RelV p.2 q.2
def kV:Key->V
 | .inl i=> .int i
 | .inr x=> .str x
inductive HO where
 /-- a list -/
 | lst (xs:List V)
 /-- a tuple (never changes) -/
 | tup (xs:List V)
 /-- a dict whose keys are ints and texts;one whose keys are tuples of ints and texts (the empty one is both) -/
 | dK (kvs:List (Key×V)) | dT (kvs:List (List Key×V))
 /-- a set of ints: its members,its size -/
 | set (S:Int->Bool) (n:Nat)
 /-- an instance of the class at C,its dict at dx,its attributes -/
 | ins (C dx:Addr) (fs:List (Str×V))
 /-- the dict of the instance at x -/
 | own (x:Addr)
 /-- the dict of an exception -/
 | xd (fs:List (Str×V))
 /-- a bound method,f of x -/
 | met (f x:Addr)
 /-- a range object lo,lo+1,.. below hi -/
 | rng (lo hi:Int)
 /-- a thing that is known to the object (the script;a dict while a loop walks it): read,never written while it is so -/
 | frz (o:Obj) (u:HO)
 /-- a code object's table -/
 | tbl (ps:Array IQ)
 /-- any other thing,by what is true of its one object (a def of one's own: SetO a S n:=HO.ext λh=> ..) -/
 | ext (φ:Heap->Prop)
abbrev Hp:=Addr->Option HO
def upd (H:Hp)(a:Addr)(o:HO):Hp:=λb=>if b=a then some o else H b
theorem aH {H:Hp}{a:Addr}{o:HO}:upd H a o a=some o:=by unfold upd;rw[if_pos rfl]
theorem aF {H:Hp}{a b:Addr}{o:HO}(h:b≠a):upd H a o b=H b:=by unfold upd;rw[if_neg h]
theorem iY {H:Hp}{a:Addr}{o u:HO}:upd (upd H a o) a u=upd H a u:=by
 funext b;unfold upd;split <;> rfl
theorem iG {H:Hp}{a b:Addr}{o u:HO}(h:H a=some o)(h':H b=some u)(d:o≠u):a≠b:=by
 intro e;subst e;rw[h]at h';exact d (JB h')
theorem bX {H:Hp}{a b:Addr}{o:HO}(h:H a=some o)(h':H b=none):a≠b:=by
 intro e;subst e;rw[h]at h';cases h'
section
variable (P:Jp)(w:J2)
def ObjOk (H:Hp)(h:Heap)(a:Addr):HO->Prop
 | .lst xs=>xs.length<=sizeLine/\∃(its:List IQ) (n:Nat),Vals xs its/\h.get? a=some { cls:=.type "list",data:=.seq its.toArray n }
 | .tup xs=>xs.length<=sizeLine/\∃its:List IQ,Vals xs its/\QK h a its.toArray
 | .dK kvs=>kvs.length<=sizeLine/\(a == Ln)=false/\∃vs,KV kvs vs/\h.DictOf (cb P w) a vs
 | .dT kvs=>kvs.length<=sizeLine/\(a == Ln)=false/\∃xs:List (List Key×Addr×IQ),
   QJ (λ(p:List Key×V) (q:List Key×Addr×IQ)=>p.1=q.1/\H q.2.1=some (.tup (p.1.map kV))/\RelV p.2 q.2.2) kvs xs ∧
   ∃o es ep,h.get? a=some o/\o.ExactDict/\o.data= .dict es ep/\es.toList=xs.map (entryOfKey (MF (cb P w)))/\(xs.map (·.1)).Nodup
 | .set S n=>h.SetOf (intKind P w) a S n
 | .ins C dx fs=>H dx=some (.own a)/\fs.length<=1000/\dx≠a/\h.get? a=some (N5 C dx) ∧
   ∃mA,h.Ns1 dx mA/\(∀f,RelO (fs.lookup f) (mA f))/\PySem.Within mA (fs.map (·.1))
 | .own _=> ∃o,h.get? a=some o
 | .xd fs=> ∃mA,h.Ns1 a mA/\∀f,RelO (fs.lookup f) (mA f)
 | .rng lo hi=> ∃t u v,h.get? a=some { cls:=.type "range",data:=.fields #[.int lo t,.int hi u,.int 1 v] }
 | .frz o u=>h.get? a=some o/\ObjOk H h a u
 | .tbl ps=>h.get? a=some { cls:=.none,data:=.fields ps }
 | .met f x=>h.get? a=some (Nl (.ref f) (.ref x))
 | .ext φ=>φ h/\(∃o,h.get? a=some o)/\∀h1 h2:Heap,φ h1->(∀o,h1.get? a=some o->h2.get? a=some o)->φ h2
def HOk (H:Hp)(h:Heap):Prop:=∀a o,H a=some o->ObjOk P w H h a o
end
section
variable {P:Jp}{w:J2}{H H':Hp}{h h':Heap}{a:Addr}{o:HO}
theorem ObjOk.lt (x:ObjOk P w H h a o):a<h.objs.size:=by
 cases o with
 | lst xs=>obtain⟨_,_,_,_,e⟩:=x;exact Ja e
 | tup xs=>obtain⟨_,_,_,p⟩:=x;exact p.lt
 | dK kvs=>obtain⟨_,_,_,_,o,_,_,e,_⟩:=x;exact Ja e
 | dT kvs=>obtain⟨_,_,_,_,o,_,_,e,_⟩:=x;exact Ja e
 | set S n=>obtain⟨o,_,_,_,e,_⟩:=x;exact Ja e
 | ins C dx fs=>obtain⟨_,_,_,e,_⟩:=x;exact Ja e
 | own y=>obtain⟨_,e⟩:=x;exact Ja e
 | xd fs=>obtain⟨_,⟨_,_,_,e,_⟩,_⟩:=x;exact Ja e
 | rng lo hi=>obtain⟨_,_,_,e⟩:=x;exact Ja e
 | frz ob u=>obtain⟨e,_⟩:=x;exact Ja e
 | tbl ps=>exact Ja (show h.get? a=some _ from x)
 | met f y=>exact Ja (show h.get? a=some _ from x)
 | ext φ=>obtain⟨_,⟨_,e⟩,_⟩:=x;exact Ja e
theorem Paired.Il {α β:Type}{F G:α->β->Prop}:∀{l₁:List α} {l₂:List β},QJ F l₁ l₂->(∀a b,F a b->G a b)->QJ G l₁ l₂
 | _,_,.nil,_=> .nil
 | _,_,.cons r t,f=> .cons (f _ _ r) (Paired.Il t f)
theorem ObjOk.HN (x:ObjOk P w H h a o)(k:∀b u,(b=a\/H b=some (.own a))->h.get? b=some u->h'.get? b=some u)
  (ho:∀b,H b=some (.own a)->H' b=some (.own a)) (ht:∀b xs,H b=some (.tup xs)->H' b=some (.tup xs)):ObjOk P w H' h' a o:=by
 induction o with
 | lst xs=>obtain⟨z,its,n,r,e⟩:=x;exact⟨z,its,n,r,k _ _ (.inl rfl) e⟩
 | tup xs=>obtain⟨z,its,r,ob,e,c⟩:=x;exact⟨z,its,r,ob,k _ _ (.inl rfl) e,c⟩
 | dK kvs=>obtain⟨z,y,vs,r,ob,es,ep,e,c⟩:=x;exact⟨z,y,vs,r,ob,es,ep,k _ _ (.inl rfl) e,c⟩
 | dT kvs=>
  obtain⟨z,y,xs,r,ob,es,ep,e,c⟩:=x
  exact⟨z,y,xs,Paired.Il r λp q z=>⟨z.1,ht _ _ z.2.1,z.2.2⟩,ob,es,ep,k _ _ (.inl rfl) e,c⟩
 | set S n=>obtain⟨ob,es,ep,t,e,c⟩:=x;exact⟨ob,es,ep,t,k _ _ (.inl rfl) e,c⟩
 | ins C dx fs=>
  obtain⟨d,z,ne,e,mA,⟨od,es,ep,e2,c⟩,r⟩:=x
  exact⟨ho _ d,z,ne,k _ _ (.inl rfl) e,mA,⟨od,es,ep,k _ _ (.inr d) e2,c⟩,r⟩
 | own y=>obtain⟨ob,e⟩:=x;exact⟨ob,k _ _ (.inl rfl) e⟩
 | xd fs=>obtain⟨mA,⟨od,es,ep,e,c⟩,r⟩:=x;exact⟨mA,⟨od,es,ep,k _ _ (.inl rfl) e,c⟩,r⟩
 | rng lo hi=>obtain⟨t,u,v,e⟩:=x;exact⟨t,u,v,k _ _ (.inl rfl) e⟩
 | frz ob u ih=>obtain⟨e,q⟩:=x;exact⟨k _ _ (.inl rfl) e,ih q⟩
 | tbl ps=>
  have e:h.get? a=some { cls:=.none,data:=.fields ps }:=x
  show h'.get? a=some { cls:=.none,data:=.fields ps }
  exact k a _ (.inl rfl) e
 | met f y=>
  have e:h.get? a=some (Nl (.ref f) (.ref y)):=x
  show h'.get? a=some (Nl (.ref f) (.ref y))
  exact k a _ (.inl rfl) e
 | ext φ=>obtain⟨p,⟨o,e⟩,st⟩:=x;exact⟨st _ _ p λo q=>k _ _ (.inl rfl) q,⟨o,k _ _ (.inl rfl) e⟩,st⟩
theorem HOk.lt (x:HOk P w H h)(e:H a=some o):a<h.objs.size:=(x a o e).lt
theorem HOk.fresh (x:HOk P w H h)(e:h.objs.size<=a):H a=none:=by
 cases q:H a with
 | none=>rfl
 | some u=>exact absurd (Ji (x.lt q) e) (Ju _)
theorem HOk.kept (x:HOk P w H h)(k:∀b u,h.get? b=some u->h'.get? b=some u):HOk P w H h':=λa o e=>
 (x a o e).HN (λb u _ q=>k b u q) (λ_ q=>q) λ_ _ q=>q
theorem HOk.laid (x:HOk P w H h)(k:∀b u,h.get? b=some u->h'.get? b=some u)(hp:h.objs.size<=a)(new:ObjOk P w (upd H a o) h' a o):HOk P w (upd H a o) h':=λb u e=>by
 have hn:=x.fresh hp
 by_cases hb:b=a
 ·subst hb;rw[aH]at e;cases e;exact new
 ·rw[aF hb]at e
  exact(x b u e).HN (λc v _ q=>k c v q) (λc q=>by rw[aF (bX q hn)];exact q) λc xs q=>by rw[aF (bX q hn)];exact q
end
def Rd (H:Hp)(a:Addr)(u:HO):Prop:=H a=some u\/∃o,H a=some (.frz o u)
theorem Rd.ok {P:Jp}{w:J2}{H:Hp}{h:Heap}{a:Addr}{u:HO}(r:Rd H a u)(x:HOk P w H h):ObjOk P w H h a u:=by
 rcases r with r | ⟨o,r⟩
 ·exact x a u r
 ·obtain⟨_,q⟩:=x a _ r
  exact q
def Hm:Option HO->Prop
 | some (.lst _)=>True
 | some (.dK _)=>True
 | some (.dT _)=>True
 | some (.set _ _)=>True
 | some (.ins _ _ _)=>True
 | some (.ext _)=>True
 | _=>False
section
variable {P:Jp}{w:J2}{H:Hp}{h h':Heap}{x e:Addr}{o':HO}
theorem HOk.write (ok:HOk P w H h)(mu:Hm (H x))(he:e=x\/H e=some (.own x))(k:∀b u,b≠e->h.get? b=some u->h'.get? b=some u)(heo:∃u,h'.get? e=some u)
  (new:ObjOk P w (upd H x o') h' x o'):HOk P w (upd H x o') h':=λb u q=>by
 have nown:∀c y,H c=some (.own y)->c≠x:=λc y r z=>by subst z;rw[r]at mu;exact mu
 have ntup:∀c xs,H c=some (.tup xs)->c≠x:=λc xs r z=>by subst z;rw[r]at mu;exact mu
 by_cases hb:b=x
 ·subst hb;rw[aH]at q;cases q;exact new
 ·rw[aF hb]at q
  by_cases hbe:b=e
  ·have q':H b=some (.own x):=by
    rcases he with z | z
    ·exact absurd (hbe.trans z) hb
    ·rw[hbe];exact z
   rw[q]at q';cases q';obtain⟨v,hv⟩:=heo;exact⟨v,by rw[hbe];exact hv⟩
  ·refine(ok b u q).HN (λc v hc r=>k c v ?_ r) (λc r=>by rw[aF (nown c b r)];exact r) λc xs r=>by rw[aF (ntup c xs r)];exact r
   rcases hc with rfl | hc
   ·exact hbe
   ·rintro rfl
    rcases he with z | z
    ·exact nown c b hc z
    ·rw[hc]at z;cases z;exact hb rfl
end
structure Un (fs ex:List Addr)(H H':Hp)(h h':Heap):Prop where
 keep:∀b o,h.get? b=some o->H b=none->b∉fs->b∉ex->h'.get? b=some o
 slot:∀b o,h.get? b=some o->H b=none->b∈fs->b∉ex->∃sl,h'.get? b=some { o with slots:=sl }
 free:∀b o,h.get? b=some o->H b=none->b∉ex->H' b=none
 there:∀b o,h.get? b=some o->b∉ex->∃o',h'.get? b=some o'
 tups:∀b xs,H b=some (.tup xs)->H' b=some (.tup xs)
 frzs:∀b o u,H b=some (.frz o u)->H' b=some (.frz o u)
 tbls:∀b ps,H b=some (.tbl ps)->∃more,H' b=some (.tbl (ps++more))
section
variable {fs fs' ex ex':List Addr}{H H1 H2:Hp}{h h1 h2 h':Heap}{a x e:Addr}{o:HO}
theorem Un.any (u:Un fs ex H H1 h h1){b:Addr}{ob:Obj}(q:h.get? b=some ob)(n:H b=none)(hx:b∉ex):∃sl,h1.get? b=some { ob with slots:=sl }:=by
 by_cases hb:b∈fs
 ·exact u.slot b ob q n hb hx
 ·exact⟨ob.slots,u.keep b ob q n hb hx⟩
theorem Un.kept (k:∀b u,h.get? b=some u->h'.get? b=some u):Un fs ex H H h h':=
 ⟨λb ob q _ _ _=>k b ob q,λb ob q _ _ _=>⟨ob.slots,k b ob q⟩,λ_ _ _ n _=>n,λb ob q _=>⟨ob,k b ob q⟩,λ_ _ q=>q,λ_ _ _ q=>q,λ_ ps q=>⟨#[],by rw[q];simp⟩⟩
theorem Un.refl:Un fs ex H H h h:=Un.kept λ_ _ q=>q
theorem Un.laid (k:∀b u,h.get? b=some u->h'.get? b=some u)(hp:h.objs.size<=a)(hn:H a=none):Un fs ex H (upd H a o) h h' where
 keep:=λb u q _ _ _=>k b u q
 slot:=λb u q _ _ _=>⟨u.slots,k b u q⟩
 free:=λb u q n _=>by rw[aF (JS (Ji (Ja q) hp))];exact n
 there:=λb u q _=>⟨u,k b u q⟩
 tups:=λb xs q=>by rw[aF (bX q hn)];exact q
 frzs:=λb u xs q=>by rw[aF (bX q hn)];exact q
 tbls:=λb ps q=>⟨#[],by rw[aF (bX q hn),q];simp⟩
theorem Un.write (mu:Hm (H x))(he:e=x\/H e=some (.own x))(k:∀b u,b≠e->h.get? b=some u->h'.get? b=some u)(heo:∃u,h'.get? e=some u):Un fs ex H (upd H x o) h h':=by
 have hx:∀b,H b=none->b≠x:=λb n z=>by subst z;rw[n]at mu;exact mu
 have hb:∀b,H b=none->b≠e:=λb n z=>by
  subst z;rcases he with r | r
  ·exact hx b n r
  ·rw[n]at r;cases r
 have hm:∀b u,H b=some u->¬ Hm (some u)->b≠x:=λb u q nm z=>by subst z;rw[q]at mu;exact nm mu
 refine⟨λb u q n _ _=>k b u (hb b n) q,λb u q n _ _=>⟨u.slots,k b u (hb b n) q⟩,λb u q n _=>by rw[aF (hx b n)];exact n,λb u q _=> ?_,
  λb xs q=>by rw[aF (hm b _ q λz=>z)];exact q,λb u xs q=>by rw[aF (hm b _ q λz=>z)];exact q,λb ps q=>⟨#[],by rw[aF (hm b _ q λz=>z),q];simp⟩⟩
 by_cases hbe:b=e
 ·subst hbe;exact heo
 ·exact⟨u,k b u hbe q⟩
end
def trk (h:Heap)(H:Hp):List Addr:=(JA h.objs.size).filter λa=>(H a).isSome
def qC (h:Heap)(H:Hp):Heap:=Qi h (trk h H)
theorem xi (h:Heap)(H:Hp):(qC h H).objs.size=h.objs.size:=PySem.W.hideAll_size _ _
theorem zK {h:Heap}{H:Hp}{b:Addr}{o:Obj}(e:h.get? b=some o)(n:H b=none):(qC h H).get? b=some o:=
 MQ _ e λhm=>by
  have q:(H b).isSome=true:=(N7.mp hm).2;rw[n]at q;simp at q
theorem BN {h:Heap}{H:Hp}{b:Addr}{o:Obj}(e:(qC h H).get? b=some o):h.get? b=some o/\H b=none:=by
 have e':h.get? b=some o:=OP (trk h H) e;refine⟨e',?_⟩
 cases q:H b with
 | none=>rfl
 | some x=>
  have hm:b∈trk h H:=N7.mpr ⟨JJ.mpr (Ja e'),by simp[q]⟩
  have z:(qC h H).get? b=none:=Oy (trk h H) hm;rw[z]at e;cases e
def Cp (g h:Heap)(L:Addr):List (Addr×Obj):=(JA h.objs.size).filterMap λa=>if a=L\/(g.get? a).isSome=true then none else(h.get? a).map λo=>(a,o)
def rest (g h:Heap)(L d:Addr):List (Addr×Obj):=(Cp g h L).filter λp=>decide (p.1≠d)
structure Mod (K:II)(mg:Str->Option IQ)(base:Heap):Prop where
 kin:K.In base
 glob:base.Ns JF mg
 blt:∃mb,base.Ns NA mb/\∀x:Str,x≠ "__name__"->mb x=Jw x
 nolimit:base.NoLimit
structure Cx where
 prog:Jp
 w:J2
 K:II
 mg:Str->Option IQ
 base:Heap
 A:JO
 N:List Str
 s₀:IR
 H₀:Hp
 env:Env
 outer:List Env
 stack:List Env
 ex:List Addr
 fn:Str->Bool
 calm:Bool
 pn:List (Addr×Obj)
 xe:IQ->IR->Prop
def qE (l:List Env):List Addr:=l.filterMap (·.frame)
abbrev Cx.fs (X:Cx):List Addr:=qE X.outer
def tW (sc:L1)(x:Str):Prop:=sc.names.lookup x=some .local\/sc.names.lookup x=some .cell\/sc.names.lookup x=some .free
def Loc (sc:L1)(x:Str):Prop:=sc.names.lookup x=some .local\/sc.names.lookup x=some .cell
def Look (env:Env)(h:Heap)(m:Str->Option IQ)(x:Str)(u:IQ):Prop:=
 (env.kindOf x=some .local/\m x=some u)\/((env.kindOf x=some .cell\/env.kindOf x=some .free)/\∃c,env.cells.lookup x=some c/\h.IsCell c (some u))
structure Cx.Ok (X:Cx):Prop where
 mod:Mod X.K X.mg X.base
 kind:X.env.scope.kind= .function
 glob:X.env.globals=JF
 blt:X.env.builtins=NA
 above:X.s₀.heap.objs.size<=X.env.locals
 inj:∀x y c,X.env.cells.lookup x=some c->X.env.cells.lookup y=some c->x=y
 has:∀x,(X.env.kindOf x=some .cell\/X.env.kindOf x=some .free)->∃c,X.env.cells.lookup x=some c
 cab:∀x c,X.fn x=true->X.env.cells.lookup x=some c->X.s₀.heap.objs.size<=c
 hd:X.calm=true->X.A.handled=none
 frames:X.A.frames=some X.stack
 stk:X.stack=X.outer\/(X.stack=X.env::X.outer/\X.env.frame=some X.env.locals)
 exf:∀b∈X.ex,b≠X.env.locals/\∀x c,X.env.cells.lookup x=some c->c≠b
 bs:∀b o,X.base.get? b=some o->X.s₀.heap.get? b=some o/\X.H₀ b=none
 bsz:X.base.objs.size<=X.s₀.heap.objs.size
 noex:∀b o,X.base.get? b=some o->b∉X.ex
 exfs:∀b∈X.ex,b∉X.fs
 funs:X.s₀.heap.FunFrames X.base X.outer
 frf:∀b∈X.fs,X.H₀ b=none
structure Inv (X:Cx)(pins:List (Addr×Obj))(σ:List (Option V))(H:Hp)(s:IR):Prop where
 ok:X.Ok
 os:s.os=X.s₀.os
 bare:NM s.gens
 base:Un X.fs X.ex X.H₀ H X.s₀.heap s.heap
 loc:∃m,s.heap.Ns X.env.locals m/\∀(i:Nat) (x:Str) (v:V),X.N[i]? =some x->σ[i]? =some (some v)->tW X.env.scope x->∃u,RelV v u/\Look X.env s.heap m x u
 cell:∀x c,X.env.cells.lookup x=some c->∃v,s.heap.IsCell c v
 free:H X.env.locals=none
 freeC:∀x c,X.env.cells.lookup x=some c->H c=none
 pin:∀p∈X.pn++pins,s.heap.get? p.1=some p.2/\H p.1=none/\p.1≠X.env.locals/\p.1∉X.fs/\∀v,p.2.data≠ .cell v
 hok:HOk X.prog X.w H s.heap
 len:σ.length=X.N.length
section
variable {X:Cx}{pins:List (Addr×Obj)}{σ:List (Option V)}{H H':Hp}{s:IR}{h':Heap}
theorem Cx.Ok.IF (ok:X.Ok){b:Addr}{o:Obj}(e:X.base.get? b=some o):b∉X.fs:=λhb=>by
 have:=(ok.funs.mem hb).1;rw[e]at this;cases this
theorem Inv.bs (I:Inv X pins σ H s):∀b o,X.base.get? b=some o->s.heap.get? b=some o/\H b=none:=λb o e=>
 ⟨I.base.keep b o (I.ok.bs b o e).1 (I.ok.bs b o e).2 (I.ok.IF e) (I.ok.noex b o e),I.base.free b o (I.ok.bs b o e).1 (I.ok.bs b o e).2 (I.ok.noex b o e)⟩
theorem Inv.bk (I:Inv X pins σ H s):∀b o,X.base.get? b=some o->s.heap.get? b=some o:=λb o e=>(I.bs b o e).1
theorem Inv.mod (I:Inv X pins σ H s):Mod X.K X.mg X.base:=I.ok.mod
theorem Inv.kIn (I:Inv X pins σ H s):X.K.In s.heap:=I.ok.mod.kin.keeps I.bk
theorem Inv.lt (I:Inv X pins σ H s):X.env.locals<s.heap.objs.size:=let ⟨_,hn,_⟩:=I.loc;hn.lt
theorem Inv.sz (I:Inv X pins σ H s):X.s₀.heap.objs.size<=s.heap.objs.size:=JW I.ok.above (L8 I.lt)
theorem Inv.IE (I:Inv X pins σ H s){a:Addr}(h:s.heap.objs.size<=a):a∉X.fs:=λhb=>by
 obtain⟨_,o,ho,_⟩:=I.ok.funs.mem hb;exact absurd (Ji (Ja ho) (JW I.sz h)) (Ju _)
theorem Inv.cne (I:Inv X pins σ H s):∀x c,X.env.cells.lookup x=some c->c≠X.env.locals:=λx c e z=>by
 obtain⟨v,o,ho,hd⟩:=I.cell x c e;obtain⟨m,⟨o',es,ep,ho',hd',_⟩,_⟩:=I.loc;rw[z,ho']at ho;cases ho;rw[hd']at hd;cases hd
theorem Inv.funs (I:Inv X pins σ H s):s.heap.FunFrames X.base X.outer:=by
 have all:∀(l:List Env),(∀b∈qE l,b∈X.fs)->X.s₀.heap.FunFrames X.base l->s.heap.FunFrames X.base l:=by
  intro l
  induction l with
  | nil=>intro _ _;trivial
  | cons env r ih=>
   intro hs hl;obtain⟨hk,⟨L,o,hf,hn,ho,hd⟩,hr⟩:=hl
   have hL:L∈X.fs:=hs L (by unfold qE;rw[JZ,hf];exact IL)
   obtain⟨sl,e⟩:=I.base.slot L o ho (I.ok.frf L hL) hL λz=>I.ok.exfs L z hL
   exact⟨hk,⟨L,_,hf,hn,e,hd⟩,ih (λb hb=>hs b (by unfold qE;rw[JZ,hf];exact IJ _ hb)) hr⟩
 exact all X.outer (λ_ hb=>hb) I.ok.funs
theorem Inv.stack (I:Inv X pins σ H s):s.heap.FunFrames X.base X.stack:=by
 rcases I.ok.stk with e | ⟨e,hf⟩
 ·rw[e];exact I.funs
 ·rw[e]
  obtain⟨m,hn,_⟩:=I.loc;refine .cons (by rw[I.ok.kind];decide) hf hn ?_ I.funs
  exact Heap.get?_none_of_le (JW I.ok.bsz I.ok.above)
theorem Inv.HY (I:Inv X pins σ H s):∀b∈qE X.stack,b∈X.env.locals::X.fs:=λb hb=>by
 rcases I.ok.stk with e | ⟨e,hf⟩
 ·rw[e]at hb;exact IJ _ hb
 ·rw[e]at hb
  unfold qE at hb;rw[JZ,hf]at hb;exact hb
theorem Inv.HR (I:Inv X pins σ H s):∀b∈qE X.stack,H b=none:=λb hb=>by
 rcases IW.mp (I.HY b hb)with e | hb
 ·rw[e];exact I.free
 ·obtain⟨_,o,ho,_⟩:=I.ok.funs.mem hb
  exact I.base.free b o ho (I.ok.frf b hb) λz=>I.ok.exfs b z hb
theorem Inv.step {g':Array O7}{t':Nat}{d':Drawn}{ch:List Addr}(I:Inv X pins σ H s)
  (hch:∀b∈ch,(b∈X.ex\/X.s₀.heap.objs.size<=b)/\b≠X.env.locals/\(∀x c,X.env.cells.lookup x=some c->c≠b)/\∀p∈X.pn++pins,p.1≠b)
  (keep:∀b o,b≠X.env.locals->b∉X.fs->b∉ch->s.heap.get? b=some o->H b=none->h'.get? b=some o)
  (slot:∀b o,b≠X.env.locals->b∈X.fs->b∉ch->s.heap.get? b=some o->H b=none->∃sl,h'.get? b=some { o with slots:=sl }) (free:∀b o,b∉ch->s.heap.get? b=some o->H b=none->H' b=none)
  (there:∀b o,b∉ch->s.heap.get? b=some o->∃o',h'.get? b=some o')
  (tups:∀b xs,H b=some (.tup xs)->H' b=some (.tup xs)) (frzs:∀b o u,H b=some (.frz o u)->H' b=some (.frz o u)) (tbls:∀b ps,H b=some (.tbl ps)->∃more,H' b=some (.tbl (ps++more)))
  (ns:∀m,s.heap.Ns X.env.locals m->h'.Ns X.env.locals m) (hok:HOk X.prog X.w H' h') (hg:NM g') :
  Inv X pins σ H' { s with heap:=h',gens:=g',drawn:=d',toks:=t' }:=by
 have neL:∀b o,X.s₀.heap.get? b=some o->b≠X.env.locals:=λb o e=>JS (Ji (Ja e) I.ok.above)
 have neC:∀b o,X.s₀.heap.get? b=some o->b∉X.ex->b∉ch:=λb o e hx hb=>by
  rcases(hch b hb).1 with z | z
  ·exact hx z
  ·exact absurd (Ji (Ja e) z) (Ju _)
 have cellK:∀x c,X.env.cells.lookup x=some c->∀v,s.heap.IsCell c v->h'.IsCell c v:=λx c e v hh_=>by
  obtain⟨o,ho,hd⟩:=hh_
  have nch:c∉ch:=λz=>(hch c z).2.2.1 x c e rfl
  by_cases hc:c∈X.fs
  ·obtain⟨sl,q⟩:=slot c o (I.cne x c e) hc nch ho (I.freeC x c e)
   exact⟨_,q,hd⟩
  ·exact⟨o,keep c o (I.cne x c e) hc nch ho (I.freeC x c e),hd⟩
 refine⟨I.ok,I.os,hg,⟨λb o e n hb hx=> ?_,λb o e n hb hx=> ?_,λb o e n hx=> ?_,λb o e hx=> ?_,λb xs e=>tups b xs (I.base.tups b xs e),λb o xs e=>frzs b o xs (I.base.frzs b o xs e),λb ps e=> ?_⟩,?_,λx c e=> ?_,?_,λx c e=> ?_,λp hp=> ?_,hok,I.len⟩
 ·exact keep b o (neL b o e) hb (neC b o e hx) (I.base.keep b o e n hb hx) (I.base.free b o e n hx)
 ·obtain⟨sl,e1⟩:=I.base.slot b o e n hb hx
  obtain⟨sl',e2⟩:=slot b _ (neL b o e) hb (neC b o e hx) e1 (I.base.free b o e n hx);exact⟨sl',e2⟩
 ·obtain⟨o',e1⟩:=I.base.there b o e hx
  exact free b o' (neC b o e hx) e1 (I.base.free b o e n hx)
 ·obtain⟨o',e1⟩:=I.base.there b o e hx
  exact there b o' (neC b o e hx) e1
 ·obtain⟨m1,e1⟩:=I.base.tbls b ps e
  obtain⟨m2,e2⟩:=tbls b _ e1;exact⟨m1++m2,by rw[e2,Array.append_assoc]⟩
 ·obtain⟨m,hn,hl⟩:=I.loc
  refine⟨m,ns m hn,λi x v e1 e2 e3=> ?_⟩
  obtain⟨u,r,l⟩:=hl i x v e1 e2 e3;refine⟨u,r,?_⟩
  rcases l with l | ⟨k,c,e,z⟩
  ·exact .inl l
  ·exact .inr ⟨k,c,e,cellK x c e _ z⟩
 ·obtain⟨v,z⟩:=I.cell x c e
  exact⟨v,cellK x c e v z⟩
 ·obtain⟨m,⟨o,_,_,ho,_⟩,_⟩:=I.loc
  exact free _ o (λz=>(hch _ z).2.1 rfl) ho I.free
 ·obtain⟨v,o,ho,hd⟩:=I.cell x c e
  exact free c o (λz=>(hch c z).2.2.1 x c e rfl) ho (I.freeC x c e)
 ·obtain⟨e,n,ne,nf,d⟩:=I.pin p hp
  have nch:p.1∉ch:=λz=>(hch p.1 z).2.2.2 p hp rfl
  exact⟨keep p.1 p.2 ne nf nch e n,free p.1 p.2 nch e n,ne,nf,d⟩
theorem Inv.un {t':Nat}(I:Inv X pins σ H s)(u:Un X.fs [] H H' s.heap h')(hok:HOk X.prog X.w H' h'):Inv X pins σ H' { s with heap:=h',toks:=t' }:=by
 obtain⟨m,⟨o,es,ep,ho,r⟩,_⟩:=id I.loc;obtain⟨sl,hL⟩:=u.any ho I.free (by simp)
 exact I.step (g':=s.gens) (d':=s.drawn) (ch:=[]) (λ_ z=>nomatch z) (λb o _ hb _ e n=>u.keep b o e n hb (by simp)) (λb o _ hb _ e n=>u.slot b o e n hb (by simp)) (λb o _ e n=>u.free b o e n (by simp)) (λb o _ e=>u.there b o e (by simp)) u.tups u.frzs u.tbls (λm' hm=>by
  obtain⟨o',es',ep',ho',r'⟩:=hm;rw[ho]at ho';cases ho';exact⟨_,es',ep',hL,r'⟩) hok I.bare
theorem Inv.call {g':Array O7}{t':Nat}{d':Drawn}{ch:List Addr}(I:Inv X pins σ H s)(u:Un (qE X.stack) ch H H' s.heap h')(hok:HOk X.prog X.w H' h')(hg:NM g')
  (hch:∀b∈ch,(b∈X.ex\/X.s₀.heap.objs.size<=b)/\b≠X.env.locals/\(∀x c,X.env.cells.lookup x=some c->c≠b)/\∀p∈X.pn++pins,p.1≠b) :
  Inv X pins σ H' { s with heap:=h',gens:=g',drawn:=d',toks:=t' }:=by
 obtain⟨m,⟨o,es,ep,ho,r⟩,_⟩:=id I.loc;obtain⟨sl,hL⟩:=u.any ho I.free λz=>(hch _ z).2.1 rfl
 exact I.step (ch:=ch) hch (λb o hL hb hc e n=>u.keep b o e n (λz=>(IW.mp (I.HY b z)).elim hL hb) hc) (λb o _ _ hc e n=>u.any e n hc) (λb o hc e n=>u.free b o e n hc) (λb o hc e=>u.there b o e hc) u.tups u.frzs u.tbls (λm' hm=>by
  obtain⟨o',es',ep',ho',r'⟩:=hm;rw[ho]at ho';cases ho';exact⟨_,es',ep',hL,r'⟩) hok hg
theorem Inv.turned {t':Nat}{it:Addr}(I:Inv X pins σ H s)(k:∀b o,b≠it->s.heap.get? b=some o->h'.get? b=some o)(hn:H it=none)(hL:it≠X.env.locals)
  (h1:it∈X.ex\/X.s₀.heap.objs.size<=it) (h2:∀x c,X.env.cells.lookup x=some c->c≠it) (h3:∀p∈X.pn++pins,p.1≠it):Inv X pins σ H { s with heap:=h',toks:=t' }:=by
 have nit:∀b u,H b=some u->b≠it:=λb u e z=>by rw[z,hn]at e;cases e
 refine I.step (g':=s.gens) (d':=s.drawn) (ch:=[it]) (λb hb=> ?_) (λb o _ _ hc e _=>k b o (λz=>hc (by simp[z])) e) (λb o _ _ hc e _=>⟨o.slots,k b o (λz=>hc (by simp[z])) e⟩) (λ_ _ _ _ n=>n)
  (λb o hc e=>⟨o,k b o (λz=>hc (by simp[z])) e⟩) (λ_ _ e=>e) (λ_ _ _ e=>e) (λb ps e=>⟨#[],by rw[e];simp⟩) (λm hm=> ?_) (λb u e=> ?_) I.bare
 ·have e:b=it:=by simpa using hb
  subst e;exact⟨h1,hL,h2,h3⟩
 ·obtain⟨o,es,ep,ho,r⟩:=hm
  exact⟨o,es,ep,k _ o (N8 hL) ho,r⟩
 ·refine(I.hok b u e).HN (λc v hc q=>k c v ?_ q) (λ_ q=>q) λ_ _ q=>q
  rcases hc with z | z
  ·rw[z];exact nit b u e
  ·exact nit c _ z
theorem Inv.tok (I:Inv X pins σ H s)(t:Nat):Inv X pins σ H { s with toks:=t }:=I.un (h':=s.heap) (t':=t) Un.refl I.hok
theorem Inv.kept {t':Nat}(I:Inv X pins σ H s)(k:∀b u,s.heap.get? b=some u->h'.get? b=some u):Inv X pins σ H { s with heap:=h',toks:=t' }:=I.un (Un.kept k) (I.hok.kept k)
theorem Inv.laid {a:Addr}{o:HO}{t':Nat}(I:Inv X pins σ H s)(k:∀b u,s.heap.get? b=some u->h'.get? b=some u)(hp:s.heap.objs.size<=a)(new:ObjOk X.prog X.w (upd H a o) h' a o) :
  Inv X pins σ (upd H a o) { s with heap:=h',toks:=t' }:=I.un (Un.laid k hp (I.hok.fresh hp)) (I.hok.laid k hp new)
theorem Inv.write {x e:Addr}{o:HO}{t':Nat}(I:Inv X pins σ H s)(mu:Hm (H x))(he:e=x\/H e=some (.own x))(k:∀b u,b≠e->s.heap.get? b=some u->h'.get? b=some u)(heo:∃u,h'.get? e=some u)
  (new:ObjOk X.prog X.w (upd H x o) h' x o):Inv X pins σ (upd H x o) { s with heap:=h',toks:=t' }:=I.un (Un.write mu he k heo) (I.hok.write mu he k heo new)
theorem Inv.HZ {pins':List (Addr×Obj)}(I:Inv X pins σ H s)(h:∀p∈pins',s.heap.get? p.1=some p.2/\H p.1=none/\p.1≠X.env.locals/\p.1∉X.fs/\∀v,p.2.data≠ .cell v):Inv X pins' σ H s:=
 ⟨I.ok,I.os,I.bare,I.base,I.loc,I.cell,I.free,I.freeC,λp hp=>(JC.mp hp).elim (λz=>I.pin p (Ks _ z)) (h p),I.hok,I.len⟩
theorem sy {N:List Str}(hN:N.Nodup){i j:Nat}{x:Str}(a:N[i]? =some x)(b:N[j]? =some x):i=j:=by
 obtain⟨h1,e1⟩:=Jd.mp a
 obtain⟨h2,e2⟩:=Jd.mp b
 exact(List.getElem_inj hN).mp (e1.trans e2.symm)
theorem n6 {M:Model}{A:JO}{E:IQ->IR->Prop}{i:Nat}{x:Str}{v:V}{u:IQ}{Q:Unit->IR->Prop}(I:Inv X pins σ H s)(hN:X.N.Nodup)(hi:X.N[i]? =some x)(hx:Loc X.env.scope x)(r:RelV v u)
  (h:∀s',Inv X pins (σ.set i (some v)) H s'->(∃a,Lr a s.heap s'.heap/\(a=X.env.locals\/X.env.cells.lookup x=some a))->Q () s') (hf:autoParam (X.fn x=true\/X.env.scope.names.lookup x=some .local) r_):wpAny M A (storeName X.env x u) Q E s:=by
 obtain⟨m,hn,hl⟩:=id I.loc
 have hcls:(X.env.scope.kind == .class||(X.env.scope.kind == .module&&X.env.locals != X.env.globals))=false:=by rw[I.ok.kind];rfl
 have hiσ:i<σ.length:=by rw[I.len];exact(Jd.mp hi).1
 have cne:=I.cne
 have tracked:∀{a:Addr} {h':Heap},(∃o,s.heap.get? a=some o/\H a=none)->Lr a s.heap h'->HOk X.prog X.w H h':=λ{a h'} ha hs b ob e=>by
  obtain⟨_,_,hfree⟩:=ha;refine(I.hok b ob e).HN (λc w' hc q=>(hs.2 c ?_).trans q) (λ_ q=>q) λ_ _ q=>q
  rintro rfl
  rcases hc with rfl | hc
  ·rw[hfree]at e;cases e
  ·rw[hfree]at hc;cases hc
 rcases hx with hk | hk
 ·refine wpAny_storeName_local hk hn (λh' hn' hs=> ?_) hcls
  obtain⟨oL,_,_,hoL,_⟩:=id hn;refine h _ ⟨I.ok,I.os,I.bare,⟨λb o e n hb hx=> ?_,λb o e n hb hx=> ?_,I.base.free,λb o e hx=> ?_,I.base.tups,I.base.frzs,I.base.tbls⟩,⟨_,hn',λj y v' e1 e2 e3=> ?_⟩,λy c e=> ?_,I.free,I.freeC,λp hp=> ?_,tracked ⟨oL,hoL,I.free⟩ hs,by simpa using I.len⟩ ⟨_,hs,.inl rfl⟩
  ·exact(hs.2 b (JS (Ji (Ja e) I.ok.above))).trans (I.base.keep b o e n hb hx)
  ·obtain⟨sl,e1⟩:=I.base.slot b o e n hb hx
   exact⟨sl,(hs.2 b (JS (Ji (Ja e) I.ok.above))).trans e1⟩
  ·obtain⟨o',e1⟩:=I.base.there b o e hx
   exact⟨o',(hs.2 b (JS (Ji (Ja e) I.ok.above))).trans e1⟩
  ·by_cases hj:j=i
   ·subst hj
    rw[hi]at e1;cases e1;rw[Jl hiσ]at e2
    cases e2;exact⟨u,r,.inl ⟨hk,by simp⟩⟩
   ·rw[Js (N8 hj)]at e2
    obtain⟨u',r',q⟩:=hl j y v' e1 e2 e3;refine⟨u',r',?_⟩
    rcases q with⟨k,e⟩ | ⟨k,c,e,z⟩
    ·refine .inl ⟨k,?_⟩
     have:y≠x:=λe=>hj (sy hN e1 (e▸hi))
     simp[this,e]
    ·exact .inr ⟨k,c,e,z.sameBut hs (cne y c e)⟩
  ·obtain⟨w',z⟩:=I.cell y c e
   exact⟨w',z.sameBut hs (cne y c e)⟩
  ·obtain⟨e,n,ne,nf,d⟩:=I.pin p hp
   exact⟨(hs.2 p.1 ne).trans e,n,ne,nf,d⟩
 ·have hfn:X.fn x=true:=by
   rcases hf with z | z
   ·exact z
   ·rw[z]at hk;cases hk
  obtain⟨c,hc⟩:=I.ok.has x (.inl hk);obtain⟨w',z⟩:=I.cell x c hc;refine wpAny_storeName_cell I.ok.kind hk hc z (λh' hc' hs=> ?_)
  obtain⟨oc,hoc,hocd⟩:=id z;refine h { s with heap:=h' } ⟨I.ok,I.os,I.bare,⟨λb o e n hb hx=> ?_,λb o e n hb hx=> ?_,I.base.free,λb o e hx=> ?_,I.base.tups,I.base.frzs,I.base.tbls⟩,⟨m,hn.sameBut hs (N8 (cne x c hc)),λj y v' e1 e2 e3=> ?_⟩,λy c' e=> ?_,I.free,I.freeC,λp hp=> ?_,tracked ⟨oc,hoc,I.freeC x c hc⟩ hs,by simpa using I.len⟩ ⟨c,hs,.inr hc⟩
  ·exact(hs.2 b (JS (Ji (Ja e) (I.ok.cab x c hfn hc)))).trans (I.base.keep b o e n hb hx)
  ·obtain⟨sl,e1⟩:=I.base.slot b o e n hb hx
   exact⟨sl,(hs.2 b (JS (Ji (Ja e) (I.ok.cab x c hfn hc)))).trans e1⟩
  ·obtain⟨o',e1⟩:=I.base.there b o e hx
   exact⟨o',(hs.2 b (JS (Ji (Ja e) (I.ok.cab x c hfn hc)))).trans e1⟩
  ·by_cases hj:j=i
   ·subst hj
    rw[hi]at e1;cases e1;rw[Jl hiσ]at e2
    cases e2;exact⟨u,r,.inr ⟨.inl hk,c,hc,hc'⟩⟩
   ·rw[Js (N8 hj)]at e2
    obtain⟨u',r',q⟩:=hl j y v' e1 e2 e3;refine⟨u',r',?_⟩
    rcases q with q | ⟨k,c',e,z'⟩
    ·exact .inl q
    ·refine .inr ⟨k,c',e,z'.sameBut hs ?_⟩
     rintro rfl
     exact hj (sy hN e1 (I.ok.inj _ _ _ e hc▸hi))
  ·by_cases hcc:c'=c
   ·subst hcc;exact⟨_,hc'⟩
   ·obtain⟨w2,z2⟩:=I.cell y c' e
    exact⟨w2,z2.sameBut hs hcc⟩
  ·obtain⟨e,n,ne,nf,d⟩:=I.pin p hp
   refine⟨(hs.2 p.1 ?_).trans e,n,ne,nf,d⟩
   intro q;rw[q,hoc]at e
   have q':oc=p.2:=JB e;exact d w' (by rw[<-q'];exact hocd)
theorem rC {M:Model}{A:JO}{E:IQ->IR->Prop}{i:Nat}{x:Str}{v:V}{u:IQ}{Q:Unit->IR->Prop}(I:Inv X pins σ H s)(hN:X.N.Nodup)(hi:X.N[i]? =some x)(hx:Loc X.env.scope x)(r:RelV v u)
  (h:∀s',Inv X pins (σ.set i (some v)) H s'->Q () s') (hf:autoParam (X.fn x=true\/X.env.scope.names.lookup x=some .local) r_):wpAny M A (storeName X.env x u) Q E s:=
 n6 I hN hi hx r (λs' I' _=>h s' I') hf
theorem Inv.Ih {s':IR}{ch:List Addr}(I:Inv X pins σ H s)(ho:s'.os=s.os)(u:Un (qE X.stack) ch H H' s.heap s'.heap)(hok:HOk X.prog X.w H' s'.heap)(hg:NM s'.gens)
  (hch:∀b∈ch,(b∈X.ex\/X.s₀.heap.objs.size<=b)/\b≠X.env.locals/\(∀x c,X.env.cells.lookup x=some c->c≠b)/\∀p∈X.pn++pins,p.1≠b):Inv X pins σ H' s':=by
 obtain⟨h',g',d',t',o'⟩:=s'
 have e:o'=s.os:=ho;subst e;exact I.call (g':=g') (t':=t') (d':=d') u hok hg hch
end
abbrev XK:=IQ->Option Addr->Hp->Prop
abbrev St:=List (Option V)
abbrev VK:=V->Hp->Prop
abbrev TE:=St->Hp->VK->Prop
abbrev TT:=St->Hp->(Bool->Hp->Prop)->Prop
abbrev TA:=St->Hp->(List V->Hp->Prop)->Prop
structure qX where
 nx:St->Hp->Prop
 rt:VK
 bk:St->Hp->Prop:=λ_ _=>False
 ct:St->Hp->Prop:=λ_ _=>False
abbrev TS:=qX->St->Hp->Prop
def EP (X:Cx)(pins:List (Addr×Obj))(σ:St)(Q:VK)(u:IQ)(s':IR):Prop:=∃v H',Inv X pins σ H' s'/\RelV v u/\Q v H'
def TP (X:Cx)(pins:List (Addr×Obj))(σ:St)(Q:Bool->Hp->Prop)(b:Bool)(s':IR):Prop:=∃H',Inv X pins σ H' s'/\Q b H'
def AP (X:Cx)(pins:List (Addr×Obj))(σ:St)(Q:List V->Hp->Prop)(us:List IQ)(s':IR):Prop:=∃vs H',Inv X pins σ H' s'/\Vals vs us/\Q vs H'
def SP (X:Cx)(pins:List (Addr×Obj))(D:qX)(f:Flow)(s':IR):Prop:=
 match f with
 | .next=> ∃σ' H',Inv X pins σ' H' s'/\D.nx σ' H'
 | .brk=> ∃σ' H',Inv X pins σ' H' s'/\D.bk σ' H'
 | .cont=> ∃σ' H',Inv X pins σ' H' s'/\D.ct σ' H'
 | .ret u=> ∃v σ' H',Inv X pins σ' H' s'/\RelV v u/\D.rt v H'
def PE (X:Cx)(e:Expr)(t:TE):Prop:=
 ∀(pins:List (Addr×Obj)) (s:IR) (σ:St) (H:Hp) (Q:VK),Inv X pins σ H s->t σ H Q->wpAny (model X.prog X.w) X.A (eval e X.env) (EP X pins σ Q) X.xe s
def PT (X:Cx)(e:Expr)(t:TT):Prop:=
 ∀(pins:List (Addr×Obj)) (s:IR) (σ:St) (H:Hp) (Q:Bool->Hp->Prop),Inv X pins σ H s->t σ H Q->wpAny (model X.prog X.w) X.A (isTrue e X.env (eval e X.env)) (TP X pins σ Q) X.xe s
def PW (X:Cx)(e:Expr)(t:TT):Prop:=
 ∀(whole:Sem IQ) (pins:List (Addr×Obj)) (s:IR) (σ:St) (H:Hp) (Q:Bool->Hp->Prop),Inv X pins σ H s->t σ H Q->wpAny (model X.prog X.w) X.A (isTrue e X.env whole) (TP X pins σ Q) X.xe s
theorem PW.pt {X:Cx}{e:Expr}{t:TT}(h:PW X e t):PT X e t:=h _
def PA (X:Cx)(es:List Expr)(t:TA):Prop:=
 ∀(pos:Pos) (pins:List (Addr×Obj)) (s:IR) (σ:St) (H:Hp) (Q:List V->Hp->Prop),Inv X pins σ H s->t σ H Q->wpAny (model X.prog X.w) X.A (spliced (backTo pos (Jj es X.env))) (AP X pins σ Q) X.xe s
def PS (X:Cx)(st:Stmt)(t:TS):Prop:=
 ∀(pins:List (Addr×Obj)) (s:IR) (σ:St) (H:Hp) (D:qX),Inv X pins σ H s->t D σ H->wpAny (model X.prog X.w) X.A (exec st X.env) (SP X pins D) X.xe s
def PSs (X:Cx)(st:List Stmt)(t:TS):Prop:=
 ∀(pins:List (Addr×Obj)) (s:IR) (σ:St) (H:Hp) (D:qX),Inv X pins σ H s->t D σ H->wpAny (model X.prog X.w) X.A (execs st X.env) (SP X pins D) X.xe s
theorem cq {α:Type}{t:Sem α}{Q Q':α->IR->Prop}{M:Model}{A:JO}{E:IQ->IR->Prop}{s:IR}(h:wpAny M A t Q E s)(hQ:∀a s,Q a s->Q' a s):wpAny M A t Q' E s:=LL h hQ λ_ _ x=>x
section
variable {X:Cx}
def rz (i:Nat):TE:=λσ H Q=> ∃v,σ[i]? =some (some v)/\Q v H
def tC (v:V):TE:=λ_ H Q=>Q v H
theorem jC {i:Nat}{x:Str}{pos:Pos}(hN:X.N[i]? =some x)(hv:tW X.env.scope x)(hd:autoParam ((x == ("__debug__" : Str))=false) s_)(hcd:autoParam ((x == ("__classdict__" : Str))=false) s_):PE X (.Name x pos) (rz i):=by
 intro pins s σ H Q I h;obtain⟨v,e,h⟩:=h;obtain⟨m,hn,hl⟩:=I.loc;obtain⟨u,r,l⟩:=hl i x v hN e hv
 have fin:EP X pins σ Q u s:=⟨v,H,I,r,h⟩;rcases l with⟨hk,hm⟩ | ⟨hk,c,hc,hcell⟩
 ·exact wpAny_Name (wpAny_loadName_local I.ok.kind hk hn hm fin) hd
 ·rcases hk with hk | hk
  ·exact wpAny_Name (wpAny_loadName_cell I.ok.kind hk hc hcell fin) hd
  ·exact wpAny_Name (wpAny_loadName_free I.ok.kind hk hc hcell fin hcd) hd
theorem Eb {i j pos}:PE X (.Constant (.int i) j pos) (tC (.int i)):=λ_ _ _ H _ I h=>wpAny_Constant_int ⟨.int i,H,I.tok _,⟨_,rfl⟩,h⟩
theorem Gv {b j pos}:PE X (.Constant (.bool b) j pos) (tC (.bl b)):=λ_ _ _ H _ I h=>Constant_bool ⟨.bl b,H,I,rfl,h⟩
theorem yG {j pos}:PE X (.Constant .none j pos) (tC .non):=λ_ _ _ H _ I h=>Constant_none ⟨.non,H,I,rfl,h⟩
def Gl (X:Cx)(x:Str):Prop:=X.env.kindOf x=some .globalImplicit
theorem lL {E:IQ->IR->Prop}{pins:List (Addr×Obj)}{s:IR}{σ:St}{H:Hp}{x:Str}{u:IQ}{pos:Pos}{Q:IQ->IR->Prop}(I:Inv X pins σ H s)(hg:Gl X x)(hm:X.mg x=some u)(h:Q u s)
  (hd:autoParam ((x == ("__debug__" : Str))=false) s_):wpAny (model X.prog X.w) X.A (eval (.Name x pos) X.env) Q E s:=
 M7 I.ok.kind hg (Calls.loadGlobal_global (by rw[I.ok.glob];exact I.mod.glob.keeps I.bk) hm h) hd
theorem fo {E:IQ->IR->Prop}{pins:List (Addr×Obj)}{s:IR}{σ:St}{H:Hp}{x:Str}{u:IQ}{pos:Pos}{Q:IQ->IR->Prop}(I:Inv X pins σ H s)(hg:Gl X x)(hm:X.mg x=none)(hv:Jw x=some u)(h:Q u s)
  (hn:autoParam (x≠ "__name__") s_) (hd:autoParam ((x == ("__debug__" : Str))=false) s_):wpAny (model X.prog X.w) X.A (eval (.Name x pos) X.env) Q E s:=by
 obtain⟨mb,h1,h2⟩:=I.mod.blt;exact M7 I.ok.kind hg (Calls.loadGlobal_builtin (by rw[I.ok.glob];exact I.mod.glob.keeps I.bk) hm (by rw[I.ok.blt];exact h1.keeps I.bk) ((h2 x hn).trans hv) h) hd
theorem BF {x:Str}{v:V}{u:IQ}{pos:Pos}(hg:Gl X x)(hm:X.mg x=some u)(r:RelV v u)(hd:autoParam ((x == ("__debug__" : Str))=false) s_):PE X (.Name x pos) (tC v):=
 λ_ _ _ H _ I h=>lL I hg hm ⟨v,H,I,r,h⟩ hd
theorem BG {x:Str}{v:V}{u:IQ}{pos:Pos}(hg:Gl X x)(hm:X.mg x=none)(hv:Jw x=some u)(r:RelV v u)(hn:autoParam (x≠ "__name__") s_)(hd:autoParam ((x == ("__debug__" : Str))=false) s_):PE X (.Name x pos) (tC v):=
 λ_ _ _ H _ I h=>fo I hg hm hv ⟨v,H,I,r,h⟩ hn hd
variable {a b:Expr}{ta tb:TE}{pos:Pos}
def tB (t:TE):TT:=λσ H Q=>t σ H λx H1=> ∃c,x= .bl c/\Q c H1
theorem DX {e:Expr}{t:TE}(h:PE X e t)(he:autoParam (∀whole,isTrue e X.env whole=(do let v <-whole;standAt e.pos;holding [v] (truthy v))) t_):PT X e (tB t):=by
 intro pins s σ H Q I hw;refine isTrue_plain (cq (h pins s σ H _ I hw) λv s1 ⟨x,H1,I1,r1,q1⟩=> ?_) (he _)
 obtain⟨d,rfl,q⟩:=q1;cases r1;exact KA ⟨H1,I1,q⟩
variable {tA tB':TT}{rest:List Expr}
def tAnd (t u:TT):TT:=λσ H Q=>t σ H λc H1=>if c=true then u σ H1 Q else Q false H1
def tOr (t u:TT):TT:=λσ H Q=>t σ H λc H1=>if c=true then Q true H1 else u σ H1 Q
def tNot (t:TT):TT:=λσ H Q=>t σ H λc H1=>Q (!c) H1
theorem Bs (ha:PT X a tA):PW X (.BoolOp .And [a] pos) tA:=by
 intro wh pins s σ H Q I h;refine isTrue_and (cq (ha pins s σ H Q I h) λc s1 e=> ?_)
 cases c with
 | true=>exact isTrue_and_nil e
 | false=>exact e
theorem DU (ha:PT X a tA):PW X (.BoolOp .Or [a] pos) tA:=by
 intro wh pins s σ H Q I h;refine isTrue_or (cq (ha pins s σ H Q I h) λc s1 e=> ?_)
 cases c with
 | false=>exact isTrue_or_nil e
 | true=>exact e
theorem DV (ha:PT X a tA)(hb:PW X (.BoolOp .And (b::rest) pos) tB'):PW X (.BoolOp .And (a::b::rest) pos) (tAnd tA tB'):=by
 intro wh pins s σ H Q I h;refine isTrue_and (cq (ha pins s σ H _ I h) λc s1 hh_=> ?_)
 obtain⟨H1,I1,q1⟩:=hh_
 cases c with
 | true=>exact hb wh pins s1 σ H1 Q I1 q1
 | false=>exact⟨H1,I1,q1⟩
theorem Gn (ha:PT X a tA)(hb:PW X (.BoolOp .Or (b::rest) pos) tB'):PW X (.BoolOp .Or (a::b::rest) pos) (tOr tA tB'):=by
 intro wh pins s σ H Q I h;refine isTrue_or (cq (ha pins s σ H _ I h) λc s1 hh_=> ?_)
 obtain⟨H1,I1,q1⟩:=hh_
 cases c with
 | true=>exact⟨H1,I1,q1⟩
 | false=>exact hb wh pins s1 σ H1 Q I1 q1
theorem DY (ha:PT X a tA):PT X (.UnaryOp .Not a pos) (tNot tA):=by
 intro pins s σ H Q I h;exact isTrue_not (ha pins s σ H (λc H1=>Q (!c) H1) I h)
def FT (ta tb:TE):TE:=λσ H Q=>ta σ H λx H1=> ∃c,x= .bl c/\if c=true then tb σ H1 Q else Q (.bl false) H1
def tOrV (ta tb:TE):TE:=λσ H Q=>ta σ H λx H1=> ∃c,x= .bl c/\if c=true then Q (.bl true) H1 else tb σ H1 Q
def FK (ta:TE):TE:=λσ H Q=>ta σ H λx H1=> ∃c,x= .bl c/\Q (.bl (!c)) H1
theorem D8 {op}{t:TE}(h:PE X a t):PE X (.BoolOp op [a] pos) t:=λpins s σ H Q I hw=>BoolOp_one (h pins s σ H Q I hw)
theorem Ed (ha:PE X a ta)(hb:PE X (.BoolOp .And (b::rest) pos) tb):PE X (.BoolOp .And (a::b::rest) pos) (FT ta tb):=by
 intro pins s σ H Q I h;refine BoolOp_and (cq (ha pins s σ H _ I h) λv s1 hh_=> ?_)
 obtain⟨x,H1,I1,r1,q1⟩:=hh_;obtain⟨c,rfl,q1⟩:=q1;cases r1;refine KA ?_
 cases c with
 | true=>exact hb pins s1 σ H1 Q I1 q1
 | false=>exact⟨.bl false,H1,I1,rfl,q1⟩
theorem Gu (ha:PE X a ta)(hb:PE X (.BoolOp .Or (b::rest) pos) tb):PE X (.BoolOp .Or (a::b::rest) pos) (tOrV ta tb):=by
 intro pins s σ H Q I h;refine BoolOp_or (cq (ha pins s σ H _ I h) λv s1 hh_=> ?_)
 obtain⟨x,H1,I1,r1,q1⟩:=hh_;obtain⟨c,rfl,q1⟩:=q1;cases r1;refine KA ?_
 cases c with
 | false=>exact hb pins s1 σ H1 Q I1 q1
 | true=>exact⟨.bl true,H1,I1,rfl,q1⟩
theorem D9 (ha:PE X a ta):PE X (.UnaryOp .Not a pos) (FK ta):=by
 intro pins s σ H Q I h;refine UnaryOp_ (cq (ha pins s σ H _ I h) λv s1 hh_=> ?_)
 obtain⟨x,H1,I1,r1,q1⟩:=hh_;obtain⟨c,rfl,q1⟩:=q1;cases r1;exact not_of (KA ⟨.bl (!c),H1,I1,rfl,q1⟩)
def tIf (t:TT)(ta tb:TE):TE:=λσ H Q=>t σ H λc H1=>if c=true then ta σ H1 Q else tb σ H1 Q
theorem yH {c:Expr}(hc:PT X c tA)(ha:PE X a ta)(hb:PE X b tb):PE X (.IfExp c a b pos) (tIf tA ta tb):=by
 intro pins s σ H Q I h;refine wpAny_IfExp (cq (hc pins s σ H _ I h) λd s1 hh_=> ?_)
 obtain⟨H1,I1,q1⟩:=hh_
 cases d with
 | true=>exact ha pins s1 σ H1 Q I1 q1
 | false=>exact hb pins s1 σ H1 Q I1 q1
end
def SqL (K:II)(H:Hp)(a:Addr)(xs:List V):Prop:=
 Rd H a (.lst xs) ∨
  ∃(o:Obj) (its:Array IQ) (n:Nat),K.lookup a=some o/\o.cls= .type "list"/\o.dict=none/\o.data= .seq its n/\its.size<=sizeLine/\Vals xs its.toList
def SqT (K:II)(H:Hp)(a:Addr)(xs:List V):Prop:=
 Rd H a (.tup xs) ∨
  ∃(o:Obj) (its:Array IQ) (n:Nat),K.lookup a=some o/\o.cls= .type "tuple"/\o.data= .seq its n/\its.size<=sizeLine/\Vals xs its.toList
def absV:IQ->Option V
 | .none=>some .non
 | .bool b=>some (.bl b)
 | .int i _=>some (.int i)
 | .str x _=>some (.str x)
 | .bytes b _=>some (.byt b)
 | .float b _=>some (.flt b)
 | .ref a=>some (.ref a)
 | .type n=>some (.ty n)
 | _=>none
theorem RelV.abs {x:V}{u:IQ}(r:RelV x u):absV u=some x:=by
 cases x with
 | non=>cases r;rfl
 | bl _=>cases r;rfl
 | int _=>obtain⟨t,rfl⟩:=r;rfl
 | str _=>obtain⟨t,rfl⟩:=r;rfl
 | byt _=>obtain⟨t,rfl⟩:=r;rfl
 | flt _=>obtain⟨t,rfl⟩:=r;rfl
 | ref _=>cases r;rfl
 | ty _=>cases r;rfl
theorem RelV.inj {x y:V}{u:IQ}(r:RelV x u)(q:RelV y u):x=y:=JB (r.abs.symm.trans q.abs)
theorem Vals.inj:∀{xs ys:List V} {us:List IQ},Vals xs us->Vals ys us->xs=ys
 | _,_,_,.nil,.nil=>rfl
 | _,_,_,.cons r t,.cons r' t'=>by rw[r.inj r',Vals.inj t t']
section
variable {X:Cx}{pins:List (Addr×Obj)}{σ:St}{H:Hp}{s:IR}{a:Addr}{xs ys:List V}
theorem SqL.of {K:II}(h:H a=some (.lst xs)):SqL K H a xs:=.inl (.inl h)
theorem SqT.of {K:II}(h:H a=some (.tup xs)):SqT K H a xs:=.inl (.inl h)
theorem Inv.list (I:Inv X pins σ H s)(h:SqL X.K H a xs):∃its:List IQ,Vals xs its/\PlainL s.heap a its.toArray/\xs.length<=sizeLine:=by
 rcases h with h | ⟨o,its,n,hk,hc,hd,hs,hz,r⟩
 ·obtain⟨z,its,n,r,e⟩:=h.ok I.hok
  exact⟨its,r,⟨_,n,e,rfl,rfl,rfl⟩,z⟩
 ·refine⟨its.toList,r,⟨o,n,I.kIn a o hk,hc,hd,by simpa using hs⟩,?_⟩
  have e:=r.length;simp only[Jt]at e;omega
theorem Inv.tuple (I:Inv X pins σ H s)(h:SqT X.K H a xs):∃its:List IQ,Vals xs its/\QK s.heap a its.toArray/\xs.length<=sizeLine:=by
 rcases h with h | ⟨o,its,n,hk,hc,hs,hz,r⟩
 ·obtain⟨z,its,r,p⟩:=h.ok I.hok
  exact⟨its,r,p,z⟩
 ·refine⟨its.toList,r,⟨o,I.kIn a o hk,hc,n,by simpa using hs⟩,?_⟩
  have e:=r.length;simp only[Jt]at e;omega
theorem Inv.HS (I:Inv X pins σ H s)(h:SqL X.K H a xs)(h':SqL X.K H a ys):xs=ys:=by
 obtain⟨its,r,⟨o,n,e,_,_,d⟩,_⟩:=I.list h;obtain⟨its',r',⟨o',n',e',_,_,d'⟩,_⟩:=I.list h';rw[e]at e';cases e';rw[d]at d';injection d' with d1 _
 have:its=its':=by simpa using congrArg N9 d1
 subst this;exact r.inj r'
theorem Inv.HQ (I:Inv X pins σ H s)(h:SqT X.K H a xs)(h':SqT X.K H a ys):xs=ys:=by
 obtain⟨its,r,⟨o,e,_,n,d⟩,_⟩:=I.tuple h;obtain⟨its',r',⟨o',e',_,n',d'⟩,_⟩:=I.tuple h';rw[e]at e';cases e';rw[d]at d';injection d' with d1 _
 have:its=its':=by simpa using congrArg N9 d1
 subst this;exact r.inj r'
end
abbrev Cx.FM (X:Cx)(E:IQ->IR->Prop):Cx:={ X with xe:=E }
abbrev Cx.nox (X:Cx):Cx:=X.FM λ_ _=>False
theorem Cx.Ok.FM {X:Cx}(ok:X.Ok)(E:IQ->IR->Prop):(X.FM E).Ok:=
 ⟨ok.mod,ok.kind,ok.glob,ok.blt,ok.above,ok.inj,ok.has,ok.cab,ok.hd,ok.frames,ok.stk,ok.exf,ok.bs,ok.bsz,ok.noex,ok.exfs,ok.funs,ok.frf⟩
theorem Cx.Ok.GT {X:Cx}{E:IQ->IR->Prop}(ok:(X.FM E).Ok):X.Ok:=
 ⟨ok.mod,ok.kind,ok.glob,ok.blt,ok.above,ok.inj,ok.has,ok.cab,ok.hd,ok.frames,ok.stk,ok.exf,ok.bs,ok.bsz,ok.noex,ok.exfs,ok.funs,ok.frf⟩
section
variable {X:Cx}{pins:List (Addr×Obj)}{σ:St}{H:Hp}{s:IR}{E:IQ->IR->Prop}
theorem Inv.FM (I:Inv X pins σ H s)(E:IQ->IR->Prop):Inv (X.FM E) pins σ H s:=⟨I.ok.FM E,I.os,I.bare,I.base,I.loc,I.cell,I.free,I.freeC,I.pin,I.hok,I.len⟩
theorem Inv.GT (I:Inv (X.FM E) pins σ H s):Inv X pins σ H s:=⟨I.ok.GT,I.os,I.bare,I.base,I.loc,I.cell,I.free,I.freeC,I.pin,I.hok,I.len⟩
theorem SP.GT {D:qX}{f:Flow}{s':IR}(h:SP (X.FM E) pins D f s'):SP X pins D f s':=by
 cases f with
 | next=>obtain⟨σ',H',I,q⟩:=h;exact⟨σ',H',I.GT,q⟩
 | brk=>obtain⟨σ',H',I,q⟩:=h;exact⟨σ',H',I.GT,q⟩
 | cont=>obtain⟨σ',H',I,q⟩:=h;exact⟨σ',H',I.GT,q⟩
 | ret u=>obtain⟨v,σ',H',I,r,q⟩:=h;exact⟨v,σ',H',I.GT,r,q⟩
theorem PSs.nox {st:List Stmt}{t:TS}(h:PSs X.nox st t):PSs X st t:=λpins s σ H D I hw=>
 LL (h pins s σ H D (I.FM _) hw) (λ_ _ q=>q.GT) λ_ _ z=>LH z
end
section
variable {X:Cx}{st:Stmt}{rest:List Stmt}{t u:TS}{e:Expr}{te:TE}{pos:Pos}
def FL:TS:=λD σ H=>D.nx σ H
def tSeq (t u:TS):TS:=λD σ H=>t { D with nx:=u D } σ H
theorem Bu:PSs X [] FL:=λ_ _ σ H _ I h=>MW ⟨σ,H,I,h⟩
theorem yy (h1:PS X st t)(h2:PSs X rest u):PSs X (st::rest) (tSeq t u):=by
 intro pins s σ H D I h;refine Qa (cq (h1 pins s σ H { D with nx:=u D } I h) λf s1 q=> ?_)
 cases f with
 | next=>
  obtain⟨σ',H',I',q⟩:=q
  exact h2 pins s1 σ' H' D I' q
 | ret v=>exact q
 | brk=>exact q
 | cont=>exact q
theorem Bt (h1:PS X st t):PSs X [st] t:=by
 intro pins s σ H D I h;refine Qa (cq (h1 pins s σ H D I h) λf s1 q=> ?_)
 cases f with
 | next=>exact MW q
 | ret v=>exact q
 | brk=>exact q
 | cont=>exact q
def FQ:TS:=λD σ H=>D.ct σ H
theorem rY:PS X (.Continue pos) FQ:=λ_ _ σ H _ I h=>wpAny_Continue ⟨σ,H,I,h⟩
theorem Inv.quiet {pins:List (Addr×Obj)}{σ:St}{H:Hp}{s:IR}(I:Inv X pins σ H s):interactive X.env=false:=by simp[interactive,I.ok.kind]
def FO (te:TE):TS:=λD σ H=>te σ H λ_ H1=>D.nx σ H1
theorem pT (he:PE X e te)(hs:J0 e none pos.line X.env=pure false:=by rfl):PS X (.Expr e pos) (FO te):=by
 intro pins s σ H D I h;exact wpAny_Expr_any (cq (he pins s σ H _ I h) λv s1 ⟨x,H1,I1,r1,q1⟩=>⟨σ,H1,I1,q1⟩) I.quiet hs
def tRet (te:TE):TS:=λD σ H=>te σ H D.rt
theorem DZ (he:PE X e te):PS X (.Return (some e) pos) (tRet te):=by
 intro pins s σ H D I h;exact wpAny_Return_some (cq (he pins s σ H _ I h) λv s1 ⟨x,H1,I1,r1,q1⟩=>⟨x,σ,H1,I1,r1,q1⟩)
def tIfS (c:TT)(t u:TS):TS:=λD σ H=>c σ H λb H1=>if b=true then t D σ H1 else u D σ H1
theorem Gp {c:Expr}{a b:List Stmt}{tc:TT}(hc:PT X c tc)(ha:PSs X a t)(hb:PSs X b u):PS X (.If c a b pos) (tIfS tc t u):=by
 intro pins s σ H D I h;refine wpAny_If (cq (hc pins s σ H _ I h) λd s1 hh_=> ?_)
 obtain⟨H1,I1,q1⟩:=hh_
 cases d with
 | true=>exact ha pins s1 σ H1 D I1 q1
 | false=>exact hb pins s1 σ H1 D I1 q1
end
abbrev TG:=V->St->Hp->(St->Hp->Prop)->Prop
abbrev Ct:=List V->St->Hp->(St->Hp->Prop)->Prop
def PG (X:Cx)(target:Expr)(t:TG):Prop:=
 ∀(pins:List (Addr×Obj)) (s:IR) (σ:St) (H:Hp) (v:V) (u:IQ) (Q:St->Hp->Prop),Inv X pins σ H s->RelV v u->t v σ H Q →
  wpAny (model X.prog X.w) X.A (assign target X.env u) (λ_ s'=> ∃σ' H',Inv X pins σ' H' s'/\Q σ' H') X.xe s
def PGs (X:Cx)(ts:List Expr)(t:Ct):Prop:=
 ∀(pins:List (Addr×Obj)) (s:IR) (σ:St) (H:Hp) (vs:List V) (us:List IQ) (Q:St->Hp->Prop),Inv X pins σ H s->Vals vs us->t vs σ H Q →
  wpAny (model X.prog X.w) X.A (assignInOrder ((KB ts X.env).map (·.2)) us) (λ_ s'=> ∃σ' H',Inv X pins σ' H' s'/\Q σ' H') X.xe s
section
variable {X:Cx}{pos:Pos}
def zL (i:Nat):TG:=λv σ H Q=>Q (σ.set i (some v)) H
theorem BD {i:Nat}{x:Str}(hN:X.N.Nodup)(hi:X.N[i]? =some x)(hx:Loc X.env.scope x)(hf:autoParam (X.fn x=true\/X.env.scope.names.lookup x=some .local) r_):PG X (.Name x pos) (zL i):=by
 intro pins s σ H v u Q I r h;exact Pz (rC I hN hi hx r (λs' I'=>⟨_,H,I',h⟩) hf)
def gNil:Ct:=λvs σ H Q=>vs= []/\Q σ H
def GY (t:TG)(u:Ct):Ct:=λvs σ H Q=> ∃v r,vs=v::r/\t v σ H λσ' H'=>u r σ' H' Q
theorem BC:PGs X [] gNil:=by
 intro pins s σ H vs us Q I r h;obtain⟨e,h⟩:=h;subst e;cases r;exact assignInOrder_nil ⟨σ,H,I,h⟩
theorem yE {e:Expr}{es:List Expr}{t:TG}{u:Ct}(h1:PG X e t)(h2:PGs X es u)
  (hs:(KB (e::es) X.env).map (·.2)=assign e X.env::(KB es X.env).map (·.2):=by rfl):PGs X (e::es) (GY t u):=by
 intro pins s σ H vs us Q I r h;obtain⟨v,vr,e1,h⟩:=h;subst e1
 cases r with
 | cons r rr=>
  rw[hs];refine assignInOrder_cons (cq (h1 pins s σ H _ _ _ I r h) λ_ s1 hh_=> ?_)
  obtain⟨σ1,H1,I1,q1⟩:=hh_;exact h2 pins s1 σ1 H1 _ _ Q I1 rr q1
def gTup (K:II)(n:Nat)(t:Ct):TG:=λv σ H Q=> ∃a xs,v= .ref a/\SqT K H a xs/\xs.length=n/\t xs σ H Q
theorem D6 {es:List Expr}{k:Nat}{t:Ct}{n:Nat}(hc:X.calm=true)(h:PGs X es t)
  (hn:(KB es X.env).length=n:=by rfl) (hst:(KB es X.env).findIdx? (·.1)=none:=by rfl):PG X (.Tuple es k pos) (gTup X.K n t):=by
 intro pins s σ H v u Q I r hw;obtain⟨a,xs,e1,hq,hl,hw⟩:=hw;subst e1;cases r;obtain⟨its,rv,ht,hz⟩:=I.tuple hq;refine assign_Tuple_tuple (I.ok.hd hc) ht (by simp[hn,<-hl,rv.length]) hst λh' hx=> ?_
 have I1:Inv X pins σ H { s with heap:=h' }:=I.kept (t':=s.toks) λb o e=>hx b o (JS (Ja e)) e
 exact h pins _ σ H xs _ Q I1 (by simpa using rv) hw
def x8 (te:TE)(g:TG):TS:=λD σ H=>te σ H λx H1=>g x σ H1 D.nx
theorem D1 {tg e:Expr}{te:TE}{g:TG}(he:PE X e te)(hg:PG X tg g)(hs:O8 [tg] e pos.line X.env=pure false:=by rfl)(hw:O9 [tg] e X.env=pure none:=by rfl)
  (h1:(KB [tg] X.env).map (·.2)= [assign tg X.env]:=by rfl):PS X (.Assign [tg] e pos) (x8 te g):=by
 intro pins s σ H D I h;refine wpAny_Assign_stores (cq (he pins s σ H _ I h) λv s1 ⟨x,H1,I1,r1,q1⟩=> ?_) hs hw
 rw[h1];exact cq (hg pins s1 σ H1 x v _ I1 r1 q1) λ_ s2 q=>q
theorem pR {i:Nat}{x:Str}{e:Expr}{te:TE}{pos':Pos}(hN:X.N.Nodup)(hi:X.N[i]? =some x)(hx:Loc X.env.scope x)(he:PE X e te)(hs:J0 e (some (.Name x pos')) pos.line X.env=pure false:=by rfl)(hf:autoParam (X.fn x=true\/X.env.scope.names.lookup x=some .local) r_) :
  PS X (.Assign [.Name x pos'] e pos) (x8 te (zL i)):=by
 intro pins s σ H D I h;refine wpAny_Assign_Name (cq (he pins s σ H _ I h) λv s1 ⟨y,H1,I1,r1,q1⟩=> ?_) hs
 exact rC I1 hN hi hx r1 (λs2 I2=>⟨_,H1,I2,q1⟩) hf
end
section
variable {X:Cx}{pos:Pos}
def ub (c:TT)(tb:TS):TS:=λD σ H=> ∃W:Nat->St->Hp->Prop,(∃m,W m σ H)/\∀m σ H,W m σ H →
 c σ H λb H1=>if b=true then ∃N:St->Hp->Prop,(∀σ' H',N σ' H'->∃m',m'<m/\W m' σ' H')/\tb { D with nx:=N,ct:=N,bk:=D.nx } σ H1 else D.nx σ H1
theorem yz {c:Expr}{body:List Stmt}{tc:TT}{tb:TS}(hp:PassesOwn (model X.prog X.w) X.A X.env X.xe)(hc:PT X c tc)(hb:PSs X body tb):PS X (.While c body [] pos) (ub tc tb):=by
 intro pins s σ H D I h;obtain⟨W,⟨m0,w0⟩,turn⟩:=h;refine wpAny_While (codeAny_whileLoop (λn s'=> ∃σ' H',Inv X pins σ' H' s'/\W n σ' H') ?_ m0 ⟨σ,H,I,w0⟩)
 rintro n s1 ⟨σ1,H1,I1,w1⟩
 refine Qx hp (cq (hc pins s1 σ1 H1 _ I1 (turn n σ1 H1 w1)) λb s2 hh_=> ?_)
 obtain⟨H2,I2,q2⟩:=hh_
 cases b with
 | true=>
  obtain⟨N,hN,q2⟩:=q2;rw[if_pos rfl];refine Qx hp (cq (hb pins s2 σ1 H2 _ I2 q2) λf s3 q3=> ?_)
  cases f with
  | next=>
   obtain⟨σ3,H3,I3,n3⟩:=q3;obtain⟨m',hm,w3⟩:=hN σ3 H3 n3
   exact⟨m',hm,σ3,H3,I3,w3⟩
  | cont=>
   obtain⟨σ3,H3,I3,n3⟩:=q3;obtain⟨m',hm,w3⟩:=hN σ3 H3 n3
   exact⟨m',hm,σ3,H3,I3,w3⟩
  | brk=>exact q3
  | ret v=>exact q3
 | false=>
  rw[if_neg Jo];exact MW ⟨σ1,H2,I2,q2⟩
end
structure It where
 go:Nat->Hp->Prop
 yld:Nat->Hp->V->Hp->Prop
 stop:Nat->Hp->Prop
def kx (X:Cx)(pins:List (Addr×Obj))(H:Hp)(b:Addr):Prop:=
 H b=none/\b≠X.env.locals/\b∉X.fs/\(b∈X.ex\/X.s₀.heap.objs.size<=b)/\(∀x c,X.env.cells.lookup x=some c->c≠b)/\∀p∈X.pn++pins,p.1≠b
theorem Inv.HU {X:Cx}{pins:List (Addr×Obj)}{σ:St}{H H':Hp}{s:IR}{b:Addr}(I:Inv X pins σ H s)(hb:s.heap.objs.size<=b)(hn:H' b=none):kx X pins H' b:=by
 refine⟨hn,MA (Ji I.lt hb),I.IE hb,.inr (JW I.sz hb),λx c e z=> ?_,λp hp z=> ?_⟩
 ·obtain⟨v,q⟩:=I.cell x c e
  exact absurd (Ji q.lt (by rw[z];exact hb)) (Ju _)
 ·exact absurd (Ji (Ja (I.pin p hp).1) (by rw[z];exact hb)) (Ju _)
structure xE (P:Jp)(w:J2)(K:II)(tg:Expr)(J:It)(fp:List Addr)(it:Addr)(tn:Nat->Heap->Prop):Prop where
 mem:it∈fp
 obj:∀i h,tn i h->∀b∈fp,∃o,h.get? b=some o/\∀v,o.data≠ .cell v
 keep:∀i h h',tn i h->(∀b∈fp,∀o,h.get? b=some o->h'.get? b=some o)->tn i h'
 item:∀(X:Cx),X.prog=P->X.w=w->X.K=K->X.calm=true->∀(i:Nat) (pins:List (Addr×Obj)) (s:IR) (σ:St) (H:Hp) (E:IQ->IR->Prop),Inv X pins σ H s->(∀b∈fp,kx X pins H b)->tn i s.heap->J.go i H →
  wpAny (model P w) X.A (pyNext (.ref it)) (λr s1=> ∃u,r=some u ∧
   wpAny (model P w) X.A (Mj tg (.ref it) u) (λ_ s2=> ∃x H',Inv X pins σ H' s2/\RelV x u/\J.yld i H x H'/\tn (i+1) s2.heap/\∀b∈fp,H' b=none) E s1) E s
 done:∀(X:Cx),X.prog=P->X.w=w->X.K=K->X.calm=true->∀(i:Nat) (pins:List (Addr×Obj)) (s:IR) (σ:St) (H:Hp) (E:IQ->IR->Prop),Inv X pins σ H s->(∀b∈fp,kx X pins H b)->tn i s.heap->J.stop i H →
  wpAny (model P w) X.A (pyNext (.ref it)) (λr s1=>r=none/\Inv X pins σ H s1) E s
 self:∀(A:JO) (i:Nat) (s:IR) (Q:IQ->IR->Prop) (E:IQ->IR->Prop),tn i s.heap->Q (.ref it) s->wpAny (model P w) A (pyIter (.ref it)) Q E s
abbrev TI:=St->Hp->(It->Hp->Prop)->Prop
def PIE (X:Cx)(pins:List (Addr×Obj))(σ:St)(tg:Expr)(R:It->Hp->Prop)(itv:IQ)(s2:IR):Prop:=
 ∃(it:Addr) (fp:List Addr) (tn:Nat->Heap->Prop) (J:It) (H':Hp),itv= .ref it/\Inv X pins σ H' s2/\xE X.prog X.w X.K tg J fp it tn/\tn 0 s2.heap/\(∀b∈fp,kx X pins H' b)/\R J H'
def PI (X:Cx)(tg iter:Expr)(wi:TI):Prop:=
 ∀(pins:List (Addr×Obj)) (s:IR) (σ:St) (H:Hp) (R:It->Hp->Prop),Inv X pins σ H s->wi σ H R →
  wpAny (model X.prog X.w) X.A (eval iter X.env) (λv s1=>wpAny (model X.prog X.w) X.A (pyIter v) (PIE X pins σ tg R) X.xe s1) X.xe s
theorem vQ {M:Model}{A:JO}{E:IQ->IR->Prop}{s:IR}{tg:Expr}{it:Addr}{u:IQ}{o:Obj}{n:String}{vs:Array IQ}{Q:Unit->IR->Prop}(ho:s.heap.get? it=some o)(hc:o.cls= .type n)(hd:o.data= .fields vs)
  (hn:["enumerate","zip","dict_itemiterator","dict_reverseitemiterator","odict_iterator","itertools.zip_longest","itertools.pairwise"].contains n=false) (hQ:Q () s):wpAny M A (Mj tg (.ref it) u) Q E s:=by
 unfold Mj
 cases tg <;> first
  | exact IS hQ
  | (cases u <;> first
    | exact IS hQ
    | (refine IH (wpAny_load ho ?_)
       rw[hc,hd]
       show wpAny M A (if (["enumerate","zip","dict_itemiterator","dict_reverseitemiterator","odict_iterator","itertools.zip_longest","itertools.pairwise"].contains n&&vs[0]? == some (rawInt _))=true then _ else _) Q E s
       rw[if_neg (by intro h;rw[hn,Bool.false_and]at h;cases h)]
       exact IS hQ))
def Itl (K:II)(a:Addr):It:=
 ⟨λi H=> ∃xs x,SqL K H a xs/\xs[i]? =some x,λi H x H'=>H'=H/\∀xs,SqL K H a xs->xs[i]? =some x,λi H=> ∃xs,SqL K H a xs/\xs.length<=i⟩
def Itt (K:II)(a:Addr):It:=
 ⟨λi H=> ∃xs x,SqT K H a xs/\xs[i]? =some x,λi H x H'=>H'=H/\∀xs,SqT K H a xs->xs[i]? =some x,λi H=> ∃xs,SqT K H a xs/\xs.length<=i⟩
def Itr (lo:Int)(n:Nat):It:=⟨λi _=>i<n,λi H x H'=>H'=H/\x= .int (lo+i),λi _=>n<=i⟩
theorem wz {P:Jp}{w:J2}{K:II}{tg:Expr}(a it:Addr):xE P w K tg (Itl K a) [it] it (λi h=>h.IsListIter it a i) where
 mem:=by simp
 obj:=λi h st b hb=>by
  have e:b=it:=by simpa using hb
  subst e;obtain⟨o,e,c,d⟩:=st;exact⟨o,e,λv z=>by rw[d]at z;cases z⟩
 keep:=λi h h' st k=>st.at λo e=>k it (by simp) o e
 item:=by
  intro X hP hw hK hc i pins s σ H E I hf st hg;subst hP hw hK;obtain⟨xs,x,hq,hx⟩:=hg;obtain⟨its,rv,p,hz⟩:=I.list hq;obtain⟨u,hu,ru⟩:=rv.get hx;obtain⟨f0,f1,f2,f3,f4,f5⟩:=hf it (by simp)
  refine N0 st p.isList (x:=u) (by simpa using hu) λh' st' sb=> ?_
  have I1:Inv X pins σ H { s with heap:=h' }:=I.turned (t':=s.toks) (λb o hb e=>(sb.2 b hb).trans e) f0 f1 f3 f4 f5
  obtain⟨o,e,c,d⟩:=id st';exact⟨u,rfl,vQ (s:={ s with heap:=h' }) e c d (by decide) ⟨x,H,I1,ru,⟨rfl,λys hy=>by rw[I.HS hy hq];exact hx⟩,st',λb hb=>(hf b hb).1⟩⟩
 done:=by
  intro X hP hw hK hc i pins s σ H E I hf st hg;subst hP hw hK;obtain⟨xs,hq,hx⟩:=hg;obtain⟨its,rv,p,hz⟩:=I.list hq;obtain⟨f0,f1,f2,f3,f4,f5⟩:=hf it (by simp)
  have hl:=rv.length;exact On (I.ok.hd hc) st p.isList (by simp;omega) λh' eb=>⟨rfl,I.turned (t':=s.toks) (λb o hb e=>eb b o hb e) f0 f1 f3 f4 f5⟩
 self:=λ_ _ _ _ _ st h=>wpAny_pyIter_listiter st h
theorem tY {P:Jp}{w:J2}{K:II}{tg:Expr}(a it:Addr):xE P w K tg (Itt K a) [it] it (λi h=>h.IsTupleIter it a i) where
 mem:=by simp
 obj:=λi h st b hb=>by
  have e:b=it:=by simpa using hb
  subst e;obtain⟨o,e,c,d⟩:=st;exact⟨o,e,λv z=>by rw[d]at z;cases z⟩
 keep:=λi h h' st k=>st.at λo e=>k it (by simp) o e
 item:=by
  intro X hP hw hK hc i pins s σ H E I hf st hg;subst hP hw hK;obtain⟨xs,x,hq,hx⟩:=hg;obtain⟨its,rv,p,hz⟩:=I.tuple hq;obtain⟨u,hu,ru⟩:=rv.get hx;obtain⟨f0,f1,f2,f3,f4,f5⟩:=hf it (by simp)
  refine wpAny_pyNext_tuple_item st (show s.heap.IsTuple a its.toArray from p) (x:=u) (by simpa using hu) λh' st' sb=> ?_
  have I1:Inv X pins σ H { s with heap:=h' }:=I.turned (t':=s.toks) (λb o hb e=>(sb.2 b hb).trans e) f0 f1 f3 f4 f5
  obtain⟨o,e,c,d⟩:=id st';exact⟨u,rfl,vQ (s:={ s with heap:=h' }) e c d (by decide) ⟨x,H,I1,ru,⟨rfl,λys hy=>by rw[I.HQ hy hq];exact hx⟩,st',λb hb=>(hf b hb).1⟩⟩
 done:=by
  intro X hP hw hK hc i pins s σ H E I hf st hg;subst hP hw hK;obtain⟨xs,hq,hx⟩:=hg;obtain⟨its,rv,p,hz⟩:=I.tuple hq;obtain⟨f0,f1,f2,f3,f4,f5⟩:=hf it (by simp)
  have hl:=rv.length;exact wpAny_pyNext_tuple_end (I.ok.hd hc) st (show s.heap.IsTuple a its.toArray from p) (by simp;omega) λh' eb=>⟨rfl,I.turned (t':=s.toks) (λb o hb e=>eb b o hb e) f0 f1 f3 f4 f5⟩
 self:=λ_ _ _ _ _ st h=>wpAny_pyIter_tupleiter st h
theorem tZ {P:Jp}{w:J2}{K:II}{tg:Expr}(it:Addr)(lo:Int)(n:Nat):xE P w K tg (Itr lo n) [it] it (λi h=>IsRangeIter h it (lo+(i:Nat)*1) ((n:Int) - (i:Nat)) 1) where
 mem:=by simp
 obj:=λi h st b hb=>by
  have e:b=it:=by simpa using hb
  subst e
  exact⟨_,st,λv z=>by
   have z':Data.fields _=Data.cell v:=z;cases z'⟩
 keep:=λi h h' st k=>k it (by simp) _ st
 item:=by
  intro X hP hw hK hc i pins s σ H E I hf st hg;subst hP hw hK;obtain⟨f0,f1,f2,f3,f4,f5⟩:=hf it (by simp)
  have W:=Walks.range (prog:=X.prog) (w:=X.w) (I.ok.hd hc) it lo 1 n;refine W.item i s _ _ hg st λv h' tk hv st' kk=> ?_
  obtain⟨t,rfl⟩:=hv
  have I1:Inv X pins σ H { s with heap:=h',toks:=tk }:=I.turned (λb o hb e=>kk b o (by simpa using hb) e) f0 f1 f3 f4 f5
  refine⟨_,rfl,vQ (s:={ s with heap:=h',toks:=tk }) (n:="range_iterator") st' rfl rfl (by decide) ⟨.int (lo+i),H,I1,⟨t,?_⟩,⟨rfl,rfl⟩,st',λb hb=>(hf b hb).1⟩⟩
  rw[Int.mul_one]
 done:=by
  intro X hP hw hK hc i pins s σ H E I hf st hg;subst hP hw hK;obtain⟨f0,f1,f2,f3,f4,f5⟩:=hf it (by simp)
  exact wpAny_pyNext_range_end (I.ok.hd hc) st (by have:n<=i:=hg;omega) λh' eb=>⟨rfl,I.turned (t':=s.toks) (λb o hb e=>eb b o hb e) f0 f1 f3 f4 f5⟩
 self:=λ_ _ _ _ _ st h=>wpAny_pyIter_rangeiter st h
section
variable {X:Cx}{tg:Expr}
def GW (K:II)(tl:TE):TI:=λσ H R=>tl σ H λx H1=> ∃a,x= .ref a/\(∃xs,SqL K H1 a xs)/\R (Itl K a) H1
def iTup (K:II)(tl:TE):TI:=λσ H R=>tl σ H λx H1=> ∃a,x= .ref a/\(∃xs,SqT K H1 a xs)/\R (Itt K a) H1
theorem BA {l:Expr}{tl:TE}(hl:PE X l tl):PI X tg l (GW X.K tl):=by
 intro pins s σ H R I h;refine cq (hl pins s σ H _ I h) λv s1 hh_=> ?_
 obtain⟨x,H1,I1,r1,q1⟩:=hh_;obtain⟨a,e,⟨xs,hq⟩,q⟩:=q1;subst e;cases r1;obtain⟨its,rv,p,hz⟩:=I1.list hq;refine LM p.isList ?_
 refine⟨s1.heap.objs.size,[s1.heap.objs.size],_,_,H1,rfl,I1.kept (t':=s1.toks) λb o e=>IK _ e,wz a _,⟨_,IZ _ rfl,rfl,rfl⟩,λb hb=> ?_,q⟩
 have e:b=s1.heap.objs.size:=by simpa using hb
 subst e;exact I1.HU (Jc _) (I1.hok.fresh (Jc _))
theorem D5 {l:Expr}{tl:TE}(hl:PE X l tl):PI X tg l (iTup X.K tl):=by
 intro pins s σ H R I h;refine cq (hl pins s σ H _ I h) λv s1 hh_=> ?_
 obtain⟨x,H1,I1,r1,q1⟩:=hh_;obtain⟨a,e,⟨xs,hq⟩,q⟩:=q1;subst e;cases r1;obtain⟨its,rv,p,hz⟩:=I1.tuple hq;refine K8 (show s1.heap.IsTuple a its.toArray from p) ?_
 refine⟨s1.heap.objs.size,[s1.heap.objs.size],_,_,H1,rfl,I1.kept (t':=s1.toks) λb o e=>IK _ e,tY a _,⟨_,IZ _ rfl,rfl,rfl⟩,λb hb=> ?_,q⟩
 have e:b=s1.heap.objs.size:=by simpa using hb
 subst e;exact I1.HU (Jc _) (I1.hok.fresh (Jc _))
theorem rW {pins:List (Addr×Obj)}{σ:St}{H:Hp}{s:IR}{R:It->Hp->Prop}{E:IQ->IR->Prop}{lo hi:Int}{t u v:Tok}{tk:Nat}(I:Inv X pins σ H s)(h1 : -(2 ^ 62)<=lo)(h2:lo<2 ^ 62)(h3 : -(2 ^ 62)<=hi)(h4:hi<2 ^ 62)
  (q:R (Itr lo (hi - lo).toNat) H):wpAny (model X.prog X.w) X.A (pyIter (.ref s.heap.objs.size)) (PIE X pins σ tg R) E { s with heap:=s.heap.push { cls:=.type "range",data:=.fields #[.int lo t,.int hi u,.int 1 v] },toks:=tk }:=by
 refine wpAny_pyIter_range (IsRange.new ..) (small_one h1 h2 h3 h4) ?_
 have I1:Inv X pins σ H { s with heap:=s.heap.push { cls:=.type "range",data:=.fields #[.int lo t,.int hi u,.int 1 v] },toks:=tk }:=I.kept λb o e=>IK _ e
 refine⟨(s.heap.push { cls:=.type "range",data:=.fields #[.int lo t,.int hi u,.int 1 v] }).objs.size,[(s.heap.push { cls:=.type "range",data:=.fields #[.int lo t,.int hi u,.int 1 v] }).objs.size],_,_,H,rfl,
  I1.kept (t':=tk) λb o e=>IK _ e,tZ _ lo (hi - lo).toNat,?_,λb hb=> ?_,q⟩
 ·have e1:lo+((0:Nat):Int)*1=lo:=by simp
  have e2:(((hi - lo).toNat:Nat):Int) - ((0:Nat):Int)=Builtin.Range.rangeSize lo hi 1:=by rw[rangeSize_one];split <;> omega
  show IsRangeIter _ _ (lo+((0:Nat):Int)*1) ((((hi - lo).toNat:Nat):Int) - ((0:Nat):Int)) 1
  rw[e1,e2];exact IZ _ rfl
 ·have e:b=(s.heap.push { cls:=.type "range",data:=.fields #[.int lo t,.int hi u,.int 1 v] }).objs.size:=by simpa using hb
  subst e;exact I1.HU (Jc _) (I1.hok.fresh (Jc _))
def tFor (wi:TI)(g:TG)(tb:TS):TS:=λD σ H=>wi σ H λJ H1=> ∃W:Nat->Nat->St->Hp->Prop,(∃m,W 0 m σ H1)/\∀i m σ H,W i m σ H →
 (J.stop i H/\D.nx σ H)\/(J.go i H/\∃N:St->Hp->Prop,(∀σ' H',N σ' H'->∃m',m'<m/\W (i+1) m' σ' H')/\∀x H',J.yld i H x H'->g x σ H' λσ2 H2=>tb { D with nx:=N,ct:=N,bk:=D.nx } σ2 H2)
def mi (fp:List Addr)(h:Heap):List (Addr×Obj):=fp.filterMap λb=>(h.get? b).map λo=>(b,o)
theorem gO {fp:List Addr}{h:Heap}{b:Addr}{o:Obj}(hb:b∈fp)(e:h.get? b=some o):(b,o)∈mi fp h:=J5.mpr ⟨b,hb,by rw[e];rfl⟩
theorem wU {fp:List Addr}{h:Heap}{p:Addr×Obj}(hp:p∈mi fp h):p.1∈fp/\h.get? p.1=some p.2:=by
 obtain⟨b,hb,e⟩:=J5.mp hp
 cases q:h.get? b with
 | none=>rw[q]at e;cases e
 | some o=>
  rw[q]at e
  have e':(b,o)=p:=JB e;subst e';exact⟨hb,q⟩
theorem Inv.pinned {pins:List (Addr×Obj)}{σ:St}{H:Hp}{s:IR}{fp:List Addr}(I:Inv X pins σ H s)(hf:∀b∈fp,kx X pins H b)(ho:∀b∈fp,∃o,s.heap.get? b=some o/\∀v,o.data≠ .cell v):Inv X (pins++mi fp s.heap) σ H s:=
 I.HZ λp hp=>(JC.mp hp).elim (λz=>I.pin p (Jn _ z)) λz=>by
  obtain⟨hb,e⟩:=wU z;obtain⟨f0,f1,f2,_⟩:=hf p.1 hb;obtain⟨o,e',d⟩:=ho p.1 hb;rw[e]at e';cases e';exact⟨e,f0,f1,f2,d⟩
theorem Inv.HK {pins pl:List (Addr×Obj)}{σ:St}{H:Hp}{s:IR}(I:Inv X (pins++pl) σ H s):Inv X pins σ H s:=I.HZ λp hp=>I.pin p (Jn _ (Ks _ hp))
end
abbrev R2:=V->V->Hp->VK->Prop
def o6 (X:Cx)(f:IQ->IQ->Sem IQ)(r:R2):Prop:=
 ∀(pins:List (Addr×Obj)) (s:IR) (σ:St) (H:Hp) (x y:V) (v u:IQ) (Q:VK),Inv X pins σ H s->RelV x v->RelV y u->r x y H Q →
  wpAny (model X.prog X.w) X.A (f v u) (EP X pins σ Q) X.xe s
def UnR (X:Cx)(f:IQ->Sem IQ)(r:V->Hp->VK->Prop):Prop:=
 ∀(pins:List (Addr×Obj)) (s:IR) (σ:St) (H:Hp) (x:V) (v:IQ) (Q:VK),Inv X pins σ H s->RelV x v->r x H Q →
  wpAny (model X.prog X.w) X.A (f v) (EP X pins σ Q) X.xe s
def CallR (X:Cx)(f:IQ)(r:List V->Hp->VK->Prop):Prop:=
 ∀(pins:List (Addr×Obj)) (s:IR) (σ:St) (H:Hp) (xs:List V) (us:List IQ) (Q:VK),Inv X pins σ H s->Vals xs us->r xs H Q →
  wpAny (model X.prog X.w) X.A (call f us) (EP X pins σ Q) X.xe s
def tUn (r:V->Hp->VK->Prop)(ta:TE):TE:=λσ H Q=>ta σ H λx H1=>r x H1 Q
def rI (C:Int->Int->Prop)(g:Int->Int->V):R2:=λx y H Q=> ∃i j,x= .int i/\y= .int j/\C i j/\Q (g i j) H
def CJ (g:Int->Int->V):R2:=λx y H Q=> ∃i j,x= .int i/\y= .int j/\Q (g i j) H
def rU (g:Int->V):V->Hp->VK->Prop:=λx H Q=> ∃i,x= .int i/\Q (g i) H
section
variable {X:Cx}{a b c:Expr}{ta tb tc:TE}{pos:Pos}
theorem Gs {op:UnaryOp}{r:V->Hp->VK->Prop}(ho:UnR X (unaryOp op) r)(ha:PE X a ta):PE X (.UnaryOp op a pos) (tUn r ta):=by
 intro pins s σ H Q I h;exact UnaryOp_ (cq (ha pins s σ H _ I h) λv s1 ⟨x,H1,I1,r1,q1⟩=>ho pins s1 σ H1 x v Q I1 r1 q1)
theorem opI {f:IQ->IQ->Sem IQ}{C:Int->Int->Prop}{g:Int->Int->Int}
  (rule:∀(i j:Int) (t u:Tok) (s:IR) (Q:IQ->IR->Prop) (E:IQ->IR->Prop),C i j->Q (.int (g i j) s.toks) { s with toks:=s.toks+1 }->wpAny (model X.prog X.w) X.A (f (.int i t) (.int j u)) Q E s) :
  o6 X f (rI C λi j=> .int (g i j)):=by
 intro pins s σ H x y v u Q I rx ry h;obtain⟨i,j,rfl,rfl,hc,q⟩:=h;obtain⟨t,rfl⟩:=rx;obtain⟨t',rfl⟩:=ry;exact rule i j t t' s _ _ hc ⟨.int (g i j),H,I.tok _,⟨_,rfl⟩,q⟩
theorem GB {f:IQ->IQ->Sem IQ}{g:Int->Int->Int}
  (rule:∀(i j:Int) (t u:Tok) (s:IR) (Q:IQ->IR->Prop) (E:IQ->IR->Prop),Q (.int (g i j) s.toks) { s with toks:=s.toks+1 }->wpAny (model X.prog X.w) X.A (f (.int i t) (.int j u)) Q E s) :
  o6 X f (CJ λi j=> .int (g i j)):=by
 intro pins s σ H x y v u Q I rx ry h;obtain⟨i,j,rfl,rfl,q⟩:=h;obtain⟨t,rfl⟩:=rx;obtain⟨t',rfl⟩:=ry;exact rule i j t t' s _ _ ⟨.int (g i j),H,I.tok _,⟨_,rfl⟩,q⟩
theorem Eo {f:IQ->IQ->Sem IQ}{g:Int->Int->Bool}
  (rule:∀(i j:Int) (t u:Tok) (s:IR) (Q:IQ->IR->Prop) (E:IQ->IR->Prop),Q (.bool (g i j)) s->wpAny (model X.prog X.w) X.A (f (.int i t) (.int j u)) Q E s) :
  o6 X f (CJ λi j=> .bl (g i j)):=by
 intro pins s σ H x y v u Q I rx ry h;obtain⟨i,j,rfl,rfl,q⟩:=h;obtain⟨t,rfl⟩:=rx;obtain⟨t',rfl⟩:=ry;exact rule i j t t' s _ _ ⟨.bl (g i j),H,I,rfl,q⟩
def CDiv (i j:Int):Prop:=0<j/\j<1073741824
def CMul (i j:Int):Prop:=(-(2 ^ 64)<i/\i<2 ^ 64)\/(-(2 ^ 64)<j/\j<2 ^ 64)
theorem CMul.ok {i j:Int}(h:CMul i j):IntMulOk i j:=by
 rcases h with⟨h1,h2⟩ | ⟨h1,h2⟩
 ·exact .of_left (intBits_le_64 h1 h2)
 ·exact .of_right (intBits_le_64 h1 h2)
theorem Em:o6 X (KL .Add) (CJ λi j=> .int (i+j)):=GB λ_ _ _ _ _ _ _ q=>add_int q
theorem Ef:o6 X (KL .Sub) (CJ λi j=> .int (i - j)):=GB λ_ _ _ _ _ _ _ q=>sub_int q
theorem Ei:o6 X (KL .Mult) (rI CMul λi j=> .int (i*j)):=opI λ_ _ _ _ _ _ _ hc q=>mul_int q hc.ok
theorem BK:o6 X (KL .FloorDiv) (rI CDiv λi j=> .int (i / j)):=opI λi j _ _ _ _ _ hc q=>by
 have h1:(0:Int)<j:=hc.1
 have h2:j<1073741824:=hc.2;exact floordiv_int (by omega) (by rw[Int.fdiv_eq_ediv_of_nonneg i (by omega)];exact q) (.inl (PyProof.noPylong_small (by omega)))
theorem Ej:o6 X (KL .Mod) (rI (λ_ j=>0<j) λi j=> .int (i % j)):=opI λi j _ _ _ _ _ hc q=>by
 have h1:(0:Int)<j:=hc;exact mod_int' (by omega) (by rw[Int.fmod_eq_emod_of_nonneg i (by omega)];exact q)
theorem unI {f:IQ->Sem IQ}{g:Int->Int}
  (rule:∀(i:Int) (t:Tok) (s:IR) (Q:IQ->IR->Prop) (E:IQ->IR->Prop),Q (.int (g i) s.toks) { s with toks:=s.toks+1 }->wpAny (model X.prog X.w) X.A (f (.int i t)) Q E s) :
  UnR X f (rU λi=> .int (g i)):=by
 intro pins s σ H x v Q I rx h;obtain⟨i,rfl,q⟩:=h;obtain⟨t,rfl⟩:=rx;exact rule i t s _ _ ⟨.int (g i),H,I.tok _,⟨_,rfl⟩,q⟩
theorem C9:UnR X (unaryOp .USub) (rU λi=> .int (-i)):=unI λ_ _ _ _ _ q=>neg_int q
end
section
variable {X:Cx}{a b c:Expr}{ta tb tc:TE}{pos:Pos}
theorem zT {pins:List (Addr×Obj)}{σ:St}{H:Hp}{s:IR}{Q:VK}{k k':Bool}(I:Inv X pins σ H s)(q:Q (.bl k) H)(e:k=k'):EP X pins σ Q (.bool k') s:=by
 subst e;exact⟨.bl k,H,I,rfl,q⟩
theorem Gy:o6 X (J6 .Lt) (CJ λi j=> .bl (decide (i<j))):=Eo λ_ _ _ _ _ _ _ q=>lt_int q
theorem Gz:o6 X (J6 .LtE) (CJ λi j=> .bl (decide (i<=j))):=Eo λ_ _ _ _ _ _ _ q=>le_int q
theorem GA:o6 X (J6 .Gt) (CJ λi j=> .bl (decide (j<i))):=Eo λ_ _ _ _ _ _ _ q=>gt_int q
theorem Ek:o6 X (J6 .Is) (λx y H Q=>y= .non/\Q (.bl (decide (x= .non))) H):=by
 intro pins s σ H x y v u Q I rx ry h;obtain⟨rfl,q⟩:=h;cases ry;refine is_none_gen (zT I q ?_)
 cases x <;> first
  | (cases rx;rfl)
  | (obtain⟨t,rfl⟩:=rx;rfl)
theorem BJ:o6 X (J6 .IsNot) (λx y H Q=>y= .non/\Q (.bl (!decide (x= .non))) H):=by
 intro pins s σ H x y v u Q I rx ry h;obtain⟨rfl,q⟩:=h;cases ry;refine isnot_none_gen (zT I q ?_)
 cases x <;> first
  | (cases rx;rfl)
  | (obtain⟨t,rfl⟩:=rx;rfl)
theorem mJ:(sizeLine:Nat)<2 ^ 63:=by rw[K0];decide
theorem uw:o6 X (KL .Add) (λx y H Q=> ∃i j,x= .str i/\y= .str j/\i.length+j.length<=sizeLine/\Q (.str (i++j)) H):=by
 intro pins s σ H x y v u Q I rx ry h;obtain⟨i,j,rfl,rfl,hz,q⟩:=h;obtain⟨t,rfl⟩:=rx;obtain⟨t',rfl⟩:=ry;exact add_str (λt' tk=>⟨.str (i++j),H,I.tok _,⟨_,rfl⟩,q⟩) hz
theorem iq {x:V}{us:List IQ}(r:Vals [x] us):∃u,us= [u]/\RelV x u:=by
 cases r with
 | cons r1 r2=>cases r2;exact⟨_,rfl,r1⟩
theorem xT {x y:V}{us:List IQ}(r:Vals [x,y] us):∃u w',us= [u,w']/\RelV x u/\RelV y w':=by
 cases r with
 | cons r1 r2=>
  cases r2 with
  | cons r3 r4=>cases r4;exact⟨_,_,rfl,r1,r3⟩
theorem xy (hc:X.calm=true):CallR X (.builtin "max") (λxs H Q=> ∃i j,xs= [.int i,.int j]/\Q (.int (if j > i then j else i)) H):=by
 intro pins s σ H xs us Q I r h;obtain⟨i,j,rfl,q⟩:=h;obtain⟨u,w',rfl,⟨t,rfl⟩,⟨t',rfl⟩⟩:=xT r;refine max_two_ints (I.ok.hd hc) λh' tk k=>⟨_,H,I.kept k,?_,q⟩
 by_cases hj:j > i
 ·rw[if_pos hj,if_pos hj];exact⟨_,rfl⟩
 ·rw[if_neg hj,if_neg hj];exact⟨_,rfl⟩
theorem xw (hc:X.calm=true):CallR X (.builtin "min") (λxs H Q=> ∃i j,xs= [.int i,.int j]/\Q (.int (if j<i then j else i)) H):=by
 intro pins s σ H xs us Q I r h;obtain⟨i,j,rfl,q⟩:=h;obtain⟨u,w',rfl,⟨t,rfl⟩,⟨t',rfl⟩⟩:=xT r;refine min_two_ints (I.ok.hd hc) λh' tk k=>⟨_,H,I.kept k,?_,q⟩
 by_cases hj:j<i
 ·rw[if_pos hj,if_pos hj];exact⟨_,rfl⟩
 ·rw[if_neg hj,if_neg hj];exact⟨_,rfl⟩
theorem xA:CallR X (.type "int") (λxs H Q=>(∃i,xs= [.int i]/\Q (.int i) H)\/∃k,xs= [.bl k]/\Q (.int (if k then 1 else 0)) H):=by
 intro pins s σ H xs us Q I r h;rcases h with⟨i,rfl,q⟩ | ⟨k,rfl,q⟩
 ·obtain⟨u,rfl,t,rfl⟩:=iq r
  exact call_int_int ⟨.int i,H,I,⟨_,rfl⟩,q⟩
 ·obtain⟨u,rfl,r1⟩:=iq r
  cases r1;exact call_int_bool ⟨.int (if k then 1 else 0),H,I.tok _,⟨_,rfl⟩,q⟩
end
structure ObjM (h:Heap)(x dx C:Addr)(mA:Str->Option IQ):Prop where
 obj:h.get? x=some (N5 C dx)
 ns:h.Ns1 dx mA
 ne:dx≠x
theorem wZ {h:Heap}{dx:Addr}{mA:Str->Option IQ}(n:h.Ns1 dx mA):∃od,h.get? dx=some od/\∀name,OC name od=some (mA name):=by
 obtain⟨o,es,ep,ho,hd,hk,_,hm⟩:=n;refine⟨o,ho,λname=> ?_⟩
 have e:=hm name;unfold nsFind findBy at e;rw[<-OS]at e
 unfold OC;rw[hd]
 dsimp only
 split
 ·rename_i y q
  rw[q]at e;exact congrArg some e
 ·rename_i q
  rw[q]at e
  have a:es.toList.any (·.refKey)=false:=by
   rw[Nq];intro y hy;obtain⟨z,t,hkey⟩:=hk y (ML.mp hy);simp[DictEntry.refKey,hkey]
  have a':¬ es.toList.any (·.refKey)=true:=by rw[a];exact Jo
  rw[if_neg a'];exact congrArg some e
theorem ObjM.look {h:Heap}{x dx C:Addr}{mA:Str->Option IQ}(I:ObjM h x dx C mA):∃od,PySem.W.InstAt h x (N5 C dx) C (some od)/\∀name,OC name od=some (mA name):=
 let ⟨od,ho,hl⟩:=wZ I.ns
 ⟨od,⟨I.obj,rfl,rfl,ho⟩,hl⟩
theorem RelO.some_of {v:V}{o:Option IQ}(r:RelO (some v) o):∃u,o=some u/\RelV v u:=by
 cases o with
 | none=>exact(show False from r).elim
 | some u=>exact⟨u,rfl,r⟩
section
variable {P:Jp}{w:J2}{H H':Hp}{h h':Heap}{a C dx:Addr}{fs fs':List (Str×V)}
theorem B2 (hok:HOk P w H h)(e:H a=some (.ins C dx fs)):∃mA,ObjM h a dx C mA/\(∀f,RelO (fs.lookup f) (mA f))/\PySem.Within mA (fs.map (·.1))/\fs.length<=1000/\H dx=some (.own a):=by
 obtain⟨d,z,ne,ob,mA,n,r,q⟩:=(show ObjOk P w H h a (.ins C dx fs)from hok a _ e)
 exact⟨mA,⟨ob,n,ne⟩,r,q,z,d⟩
end
structure Cls (K:II)(C:Addr):Prop where
 pg:PV K C Str.empty=true
 hd:PySem.W.hasDictIn K C=true
 po:PySem.W.plainOver K C=true
 sa:PySem.W.findIn K (.ref C) "__setattr__" =some (some (.builtin "object.__setattr__"))
theorem Cls.get {K:II}{C:Addr}(c:Cls K C)(f:Str):PV K C f=true:=c.pg
section
variable {X:Cx}{pins:List (Addr×Obj)}{σ:St}{H:Hp}{s:IR}{A:JO}{E:IQ->IR->Prop}{Q:IQ->IR->Prop}{c:IQ}{b:Bool}
inductive k7 (K:II) (H:Hp):V->IQ->Prop where
 | non:k7 K H .non (.type "NoneType")
 | bl (x:Bool):k7 K H (.bl x) (.type "bool")
 | int (i:Int):k7 K H (.int i) (.type "int")
 | str (x:Str):k7 K H (.str x) (.type "str")
 | flt (x:UInt64):k7 K H (.flt x) (.type "float")
 | lst {a:Addr} {xs:List V} (e:H a=some (.lst xs)):k7 K H (.ref a) (.type "list")
 | frz {a:Addr} {o:Obj} {xs:List V} (e:H a=some (.frz o (.lst xs))):k7 K H (.ref a) (.type "list")
 | tup {a:Addr} {xs:List V} (e:H a=some (.tup xs)):k7 K H (.ref a) (.type "tuple")
 | dK {a:Addr} {kvs:List (Key×V)} (e:H a=some (.dK kvs)):k7 K H (.ref a) (.type "dict")
 | dT {a:Addr} {kvs:List (List Key×V)} (e:H a=some (.dT kvs)):k7 K H (.ref a) (.type "dict")
 | ins {a C dx:Addr} {fs:List (Str×V)} (e:H a=some (.ins C dx fs)) (cl:Cls K C) (ha:PySem.W.findIn K (.ref C) "__class__" =some (some (.builtin "object.__class__")))
   (hn:PySem.W.specialIn K (.builtin "object.__class__") "__get__" =some (some (.builtin "getset_descriptor.__get__"))) (htk:PySem.W.takesIn K (.builtin "object.__class__")=some true)
   (hm:PySem.W.mroIn K C (.type "object")=some true):k7 K H (.ref a) (.ref C)
theorem xg {x:V}{u t:IQ}(I:Inv X pins σ H s)(rx:RelV x u)(ty:k7 X.K H x t)(e:PySem.W.kitOne X.K t c=some b)(h:∀tk,Q (.bool b) { s with toks:=tk }) :
  wpAny (model X.prog X.w) A (call (.builtin "isinstance") [u,c]) Q E s:=by
 cases ty with
 | non=>cases (show u=JK from rx);exact Kh PySem.W.kitx_none I.kIn Lf e (λz=>nomatch z) h
 | bl y=>cases (show u=Kf y from rx);exact Kh PySem.W.kitx_bool I.kIn Lf e (λz=>nomatch z) h
 | int i=>obtain⟨t,q⟩:=(show ∃t,u=Kw i t from rx);cases q;exact Kh PySem.W.kitx_int I.kIn Lf e (λz=>nomatch z) h
 | str y=>obtain⟨t,q⟩:=(show ∃t,u=KH y t from rx);cases q;exact Kh PySem.W.kitx_str I.kIn Lf e (λz=>nomatch z) h
 | flt y=>obtain⟨t,q⟩:=(show ∃t,u=Value.float y t from rx);cases q;exact Kh PySem.W.kitx_float I.kIn Lf e (λz=>nomatch z) h
 | @lst a xs ea=>
  cases (show u=Jg a from rx)
  obtain⟨_,_,n,_,h1⟩:=(show ObjOk X.prog X.w H s.heap a (.lst xs)from I.hok a _ ea)
  exact Kh Pk I.kIn ⟨_,h1,rfl⟩ e (λz=>nomatch z) h
 | @frz a ob xs ea=>
  cases (show u=Jg a from rx)
  obtain⟨_,_,_,n,_,h1⟩:=(show ObjOk X.prog X.w H s.heap a (.frz ob (.lst xs))from I.hok a _ ea)
  exact Kh Pk I.kIn ⟨_,h1,rfl⟩ e (λz=>nomatch z) h
 | @tup a xs ea=>
  cases (show u=Jg a from rx)
  obtain⟨_,_,_,p⟩:=(show ObjOk X.prog X.w H s.heap a (.tup xs)from I.hok a _ ea)
  obtain⟨o,h1,h2,_⟩:=p
  exact Kh PySem.W.kitx_tuple I.kIn ⟨o,h1,h2⟩ e (λz=>nomatch z) h
 | @dK a kvs ea=>
  cases (show u=Jg a from rx)
  obtain⟨_,_,vs,_,p⟩:=(show ObjOk X.prog X.w H s.heap a (.dK kvs)from I.hok a _ ea)
  obtain⟨o,es,ep,h1,h2,_⟩:=p
  exact Kh Pl I.kIn ⟨o,h1,h2.1⟩ e (λz=>nomatch z) h
 | @dT a kvs ea=>
  cases (show u=Jg a from rx)
  obtain⟨_,_,xs,_,o,es,ep,h1,h2,_⟩:=(show ObjOk X.prog X.w H s.heap a (.dT kvs)from I.hok a _ ea)
  exact Kh Pl I.kIn ⟨o,h1,h2.1⟩ e (λz=>nomatch z) h
 | @ins a C dx fs ea cl ha hn htk hm=>
  cases (show u=Jg a from rx)
  obtain⟨mA,O,_⟩:=B2 I.hok ea;obtain⟨od,J,_⟩:=O.look;exact Kh (PySem.W.kitx_own (cl.get _) cl.hd ha hn htk hm) I.kIn J e (λz=>nomatch z) h
end
structure Room (k:Nat)(A:JO):Prop where
 hd:A.handled=none
 dp:A.depth+3*k+5<recursionLimit
 un:A.units+16*k+200<cLine
theorem Room.mono {j k:Nat}{A:JO}(r:Room k A)(h:j<=k):Room j A:=⟨r.hd,by have:=r.dp;omega,by have:=r.un;omega⟩
theorem Room.deeper {k:Nat}{A:JO}(r:Room (k+1) A)(env:Env):Room k (A.deeper env):=
 ⟨r.hd,by have:=r.dp;show A.depth+1+3*k+5<_;omega,by have:=r.un;show A.units+3+16*k+200<_;omega⟩
theorem Room.depth {k:Nat}{A:JO}(r:Room k A):A.depth<recursionLimit:=by have:=r.dp;omega
def x6:TA:=λ_ H Q=>Q [] H
def jT (ta:TE)(tr:TA):TA:=λσ H Q=>ta σ H λx H1=>tr σ H1 λxs H2=>Q (x::xs) H2
section
variable {X:Cx}{e:Expr}{es:List Expr}{te:TE}{t:TA}{pos:Pos}
theorem iz:PA X [] x6:=λ_ _ _ _ H Q I h=>Lg ⟨[],H,I,.nil,h⟩
theorem dX (ha:PE X e te)(hr:PA X es t)(hs:Jj (e::es) X.env=(false,eval e X.env)::Jj es X.env:=by rfl):PA X (e::es) (jT te t):=by
 intro pos pins s σ H Q I h;rw[hs]
 show wpAny _ _ (spliced ((false,eval e X.env)::backTo pos (Jj es X.env))) _ _ s
 refine K6 (cq (ha pins s σ H _ I h) λu s1 hh_=> ?_)
 obtain⟨x,H1,I1,r1,q1⟩:=hh_;exact cq (hr pos pins s1 σ H1 _ I1 q1) λus s2 ⟨xs,H2,I2,r2,q2⟩=>⟨x::xs,H2,I2,.cons r1 r2,q2⟩
def AQ (t:TA):TE:=λσ H Q=>t σ H λxs H1=>xs.length<=sizeLine/\∀p,H1 p=none->Q (.ref p) (upd H1 p (.tup xs))
def tLst (t:TA):TE:=λσ H Q=>t σ H λxs H1=>xs.length<=sizeLine/\∀p,H1 p=none->Q (.ref p) (upd H1 p (.lst xs))
theorem uv {x1}(h:PA X es t):PE X (.Tuple es x1 pos) (AQ t):=by
 intro pins s σ H Q I hq;refine wpAny_Tuple_spliced (cq (h pos pins s σ H _ I hq) λus s1 ⟨xs,H1,I1,r,z,q⟩=>⟨by rw[<-r.length];exact z,?_⟩)
 have hf:H1 s1.heap.objs.size=none:=I1.hok.fresh (Jc _);refine⟨.ref s1.heap.objs.size,upd H1 s1.heap.objs.size (.tup xs),I1.laid (t':=s1.toks) (λb u e=>IK _ e) (Jc _) ?_,rfl,q _ hf⟩
 exact⟨z,us,r,⟨_,IZ _ rfl,rfl,_,rfl⟩⟩
theorem Ea (h:PA X es t):PE X (.List es pos) (tLst t):=by
 intro pins s σ H Q I hq;refine Pa (cq (h pos pins s σ H _ I hq) λus s1 ⟨xs,H1,I1,r,z,q⟩=>⟨by rw[<-r.length];exact z,?_⟩)
 have hf:H1 s1.heap.objs.size=none:=I1.hok.fresh (Jc _);refine⟨.ref s1.heap.objs.size,upd H1 s1.heap.objs.size (.lst xs),I1.laid (t':=s1.toks) (λb u e=>IK _ e) (Jc _) ?_,rfl,q _ hf⟩
 exact⟨z,us,0,r,IZ _ rfl⟩
end
abbrev Sp:=List V->Hp->VK->XK->Prop
abbrev AB:=List Env->Hp->IR->XK->IQ->IR->Prop
structure Ax (P:Jp)(w:J2)(K:II)(mg:Str->Option IQ)(base:Heap)(A:JO)(outer:List Env)(s:IR)(H:Hp):Prop where
 frames:A.frames=some outer
 mod:Mod K mg base
 bs:∀b o,base.get? b=some o->s.heap.get? b=some o/\H b=none
 bsz:base.objs.size<=s.heap.objs.size
 funs:s.heap.FunFrames base outer
 frf:∀b∈qE outer,H b=none
 hok:HOk P w H s.heap
 bare:NM s.gens
def CE (outer:List Env)(P:Jp)(w:J2)(H:Hp)(s:IR)(Q:VK)(u:IQ)(s':IR):Prop:=
 ∃v H',s'.os=s.os/\NM s'.gens/\Un (qE outer) [] H H' s.heap s'.heap/\HOk P w H' s'.heap/\RelV v u/\Q v H'
def CR (CX:AB)(outer:List Env)(P:Jp)(w:J2)(H:Hp)(s:IR)(Q:VK)(E:XK)(r:Qy)(s':IR):Prop:=
 match r with
 | .ok (.ret u)=>CE outer P w H s Q u s'
 | .ok _=>False
 | .error e=>CX outer H s E e s'
structure qU (P:Jp)(w:J2)(K:II)(mg:Str->Option IQ)(base:Heap)(CX:AB)(k:Nat)(f:Addr)(fd:KM)(ps:List Str)(sp:Sp):Prop where
 len:∀vs H Q E,sp vs H Q E->vs.length=ps.length
 run:∀(A:JO) (outer:List Env) (s:IR) (H:Hp) (args:Args) (us:List IQ) (vs:List V) (Q:VK) (E:XK),Room k A->Ax P w K mg base A outer s H->PB s fd args (ps.zip us)->Vals vs us->sp vs H Q E →
  codeAny (model P w) A (.call (.ref f) args) (CR CX outer P w H s Q E) s
section
variable {X:Cx}{pins:List (Addr×Obj)}{σ:St}{H:Hp}{s s':IR}
theorem Inv.IC (I:Inv X pins σ H s):Ax X.prog X.w X.K X.mg X.base X.A X.stack s H:=
 ⟨I.ok.frames,I.ok.mod,I.bs,JW I.ok.bsz I.sz,I.stack,I.HR,I.hok,I.bare⟩
theorem Inv.after {Q:VK}{u:IQ}(I:Inv X pins σ H s)(h:CE X.stack X.prog X.w H s Q u s'):EP X pins σ Q u s':=by
 obtain⟨v,H',os,bare,un,hok,r,q⟩:=h;obtain⟨hh,g,d,t,os'⟩:=s';obtain rfl:os'=s.os:=os;exact⟨v,H',I.call (h':=hh) (g':=g) (d':=d) (t':=t) (ch:=[]) un hok bare (λb z=>absurd z (by simp)),r,q⟩
end
def FR (sp:Sp)(dvs:List V)(E:XK)(t:TA):TE:=λσ H Q=>t σ H λvs H1=>sp (vs++dvs) H1 Q E
def Binds (K:II)(fd:KM)(ps:List Str)(ds:List IQ):Prop:=
 ∀(s:IR) (us:List IQ),K.In s.heap->(us++ds).length=ps.length->PB s fd ⟨us,[]⟩ (ps.zip (us++ds))
theorem Binds.all {K:II}{fd:KM}{ps:List Str}(h:∀us:List IQ,us.length=ps.length->Qe fd ⟨us,[]⟩=pure (ps.zip us)):Binds K fd ps []:=λs us _ hl=>by
 rw[J7]at hl ⊢;exact .of_eq (h us hl)
def uV (CX:AB)(X:Cx)(E:XK):Prop:=∀(pins:List (Addr×Obj)) (σ:St) (H:Hp) (s:IR) (e:IQ) (s':IR),Inv X pins σ H s->CX X.stack H s E e s'->X.xe e s'
section
variable {X:Cx}{CX:AB}{k:Nat}{f C:Addr}{fd:KM}{ps:List Str}{sp:Sp}{dvs:List V}{ds:List IQ}{E:XK}{x m:Str}{p pos apos:Pos}{e o:Expr}{es:List Expr}{ta:TE}{t:TA}
theorem Dp {pins:List (Addr×Obj)}{σ:St}{H:Hp}{s:IR}{Q:VK}{us:List IQ}{vs:List V}(F:qU X.prog X.w X.K X.mg X.base CX k f fd ps sp)(hr:Room k X.A)(hb:Binds X.K fd ps ds)(hd:Vals dvs ds)(hx:uV CX X E)
  (I:Inv X pins σ H s) (r:Vals vs us) (h:sp (vs++dvs) H Q E):wpAny (model X.prog X.w) X.A (call (.ref f) us) (EP X pins σ Q) X.xe s:=by
 have r2:Vals (vs++dvs) (us++ds):=r.append hd
 have hl:(us++ds).length=ps.length:=by rw[<-r2.length];exact F.len _ _ _ _ h
 refine wpAny_call (MG (F.run X.A X.stack s H ⟨us,[]⟩ (us++ds) (vs++dvs) Q E hr I.IC (hb s us I.kIn hl) r2 h) λr s' hq=> ?_)
 cases r with
 | error e=>exact hx pins σ H s e s' I hq
 | ok fl=>
  cases fl with
  | ret u=>exact I.after hq
  | next=>exact LH hq
  | brk=>exact LH hq
  | cont=>exact LH hq
theorem vt (F:qU X.prog X.w X.K X.mg X.base CX k f fd ps sp)(hr:Room k X.A)(hg:Gl X x)(hm:X.mg x=some (.ref f))(hk:Mx X.K (.ref f)=true)(hb:Binds X.K fd ps ds)(hd:Vals dvs ds)(hx:uV CX X E)
  (ha:PA X (e::es) t) (hdb:autoParam ((x == ("__debug__" : Str))=false) s_) (he:Jj (e::es) X.env=(false,eval e X.env)::Jj es X.env:=by rfl) (hpl:(backTo pos (Jj es X.env)).any (·.1)=false:=by rfl) :
  PE X (.Call (.Name x p) (e::es) [] pos) (FR sp dvs E t):=by
 intro pins s σ H Q I h;refine JV (lL I hg hm ?_ hdb)
 refine OQ (h₀:=X.base) I.ok.mod.kin hk (cq (ha pos pins s σ H _ I h) λus s1 ⟨vs,H1,I1,r,q⟩=>⟨I1.kIn,?_⟩) he hpl
 exact Dp F hr hb hd hx I1 r q
end
structure d9 (N P:List Str)(sc:L1):Prop where
 kind:sc.kind= .function
 co:sc.isCoroutine=false
 gen:sc.isGenerator=false
 nd:N.Nodup
 pre:N.take P.length=P
 par:∀x∈P,sc.names.lookup x=some .local\/sc.names.lookup x=some .cell
 nofree:∀y∈sc.names,y.2≠ .free
theorem oV {kindOf:Str->Option LK}{x:Str}:∀{binds:List (Str×IQ)} {m:Str->Option IQ},(∀v,(x,v)∉binds)->bindL kindOf binds m x=m x
 | [],_,_=>rfl
 | (n,v)::r,m,h=>by
  unfold bindL;rw[oV λw hw=>h w (IJ _ hw)]
  split
  ·have:x≠n:=by rintro rfl;exact h v IL
   simp[this]
  ·rfl
theorem oY {kindOf:Str->Option LK}{x:Str}:∀{binds:List (Str×IQ)} {m:Str->Option IQ},(∀v,(x,v)∉binds)->bindC kindOf binds m x=m x
 | [],_,_=>rfl
 | (n,v)::r,m,h=>by
  unfold bindC;rw[oY λw hw=>h w (IJ _ hw)]
  split
  ·rfl
  ·have:x≠n:=by rintro rfl;exact h v IL
   simp[this]
theorem oX {kindOf:Str->Option LK}{x:Str}{v:IQ}:∀{P:List Str} {vs:List IQ} {i:Nat} {m:Str->Option IQ},P.Nodup->P[i]? =some x->vs[i]? =some v->kindOf x=some .local →
  bindL kindOf (P.zip vs) m x=some v
 | [],_,_,_,_,h,_,_=>by simp at h
 | _::_,[],_,_,_,_,h,_=>by simp at h
 | p::P,w::vs,0,m,nd,h1,h2,hk=>by
  simp at h1 h2;subst h1;subst h2
  show bindL kindOf ((p,w)::P.zip vs) m p=_
  unfold bindL;rw[oV λv hv=>(Jq.mp nd).1 (MR hv).1,if_pos hk]
  simp
 | p::P,w::vs,i+1,m,nd,h1,h2,hk=>by
  show bindL kindOf ((p,w)::P.zip vs) m x=_
  unfold bindL;exact oX (i:=i) (Jq.mp nd).2 (by simpa using h1) (by simpa using h2) hk
theorem oZ {kindOf:Str->Option LK}{x:Str}{v:IQ}:∀{P:List Str} {vs:List IQ} {i:Nat} {m:Str->Option IQ},P.Nodup->P[i]? =some x->vs[i]? =some v->kindOf x≠some .local →
  bindC kindOf (P.zip vs) m x=some v
 | [],_,_,_,_,h,_,_=>by simp at h
 | _::_,[],_,_,_,_,h,_=>by simp at h
 | p::P,w::vs,0,m,nd,h1,h2,hk=>by
  simp at h1 h2;subst h1;subst h2
  show bindC kindOf ((p,w)::P.zip vs) m p=_
  unfold bindC;rw[oY λv hv=>(Jq.mp nd).1 (MR hv).1,if_neg hk]
  simp
 | p::P,w::vs,i+1,m,nd,h1,h2,hk=>by
  show bindC kindOf ((p,w)::P.zip vs) m x=_
  unfold bindC;exact oZ (i:=i) (Jq.mp nd).2 (by simpa using h1) (by simpa using h2) hk
def start (N:List Str)(vs:List V):St:=vs.map some++Jr (N.length - vs.length) none
def km (CX:AB)(P:Jp)(w:J2)(K:II)(mg:Str->Option IQ)(base:Heap)(N:List Str)(qual:Str)(scope:L1)(f:Addr)(cd:IQ)(A:JO)(outer:List Env)(s:IR)(H:Hp)(E:XK):Cx where
 prog:=P
 w:=w
 K:=K
 mg:=mg
 base:=base
 A:=A.deeper (envOfC qual scope s.heap.objs.size f cd)
 N:=N
 s₀:=s
 H₀:=H
 env:=envOfC qual scope s.heap.objs.size f cd
 outer:=outer
 stack:=envOfC qual scope s.heap.objs.size f cd::outer
 ex:=[]
 calm:=true
 fn:=λ_=>true
 pn:=[]
 xe:=λe s'=>wpAny (model P w) (A.deeper (envOfC qual scope s.heap.objs.size f cd)) (leaving (envOfC qual scope s.heap.objs.size f cd) e) (λ_ s''=>CX outer H s E e s'') (λe' s''=>CX outer H s E e' s'') s'
theorem tN {sc:L1}{n:Nat}{x:Str}(h:sc.names.lookup x=some .cell):∃c,(Lw n sc.names []).lookup x=some c:=by
 have q:=Mo sc.names n [] (.inl h);exact Lh.mp q
theorem oJ {CX:AB}{P:Jp}{w:J2}{K:II}{mg:Str->Option IQ}{base:Heap}{N ps:List Str}{qual:Str}{scope:L1}{f:Addr}{cd:IQ}{A:JO}{outer:List Env}{s s1:IR}{H:Hp}{E:XK}{us:List IQ}{vs:List V}
  (S:d9 N ps scope) (hd:A.handled=none) (e0:Ax P w K mg base A outer s H) (hl:vs.length=ps.length) (r:Vals vs us)
  (x:InCallC s s.heap.objs.size (bindL (envOfC qual scope s.heap.objs.size f cd).kindOf (ps.zip us) λ_=>none) (Lw (s.heap.objs.size+1) scope.names []) (bindC (envOfC qual scope s.heap.objs.size f cd).kindOf (ps.zip us) λ_=>none) s1) :
  Inv (km CX P w K mg base N qual scope f cd A outer s H E) [] (start N vs) H s1:=by
 have hpl:ps.length<=N.length:=by have:=congrArg J4 S.pre;rw[KN]at this;omega
 obtain⟨h1,tk,rfl,hk⟩:=x.done
 have noA:∀b:Addr,b∉(km CX P w K mg base N qual scope f cd A outer s H E).ex:=λb z=>absurd (show b∈([]:List Addr)from z) (by simp)
 refine⟨⟨e0.mod,S.kind,rfl,rfl,Jc _,λy z c h1 h2=> ?_,λy hy=> ?_,λy c _ h=> ?_,λ_=>hd,Around.frames_deeper e0.frames,.inr ⟨rfl,rfl⟩,λb z=>absurd z (noA b),e0.bs,e0.bsz,λb _ _=>noA b,λb z=>absurd z (noA b),e0.funs,e0.frf⟩,
  rfl,e0.bare,Un.kept hk,⟨_,x.toInCall.ns,λi y v h1 h2 h3=> ?_⟩,λy c h=>⟨_,x.cell y c h⟩,e0.hok.fresh (Jc _),λy c h=> ?_,λp hp=>absurd (show p∈([]:List (Addr×Obj))from hp) (by simp),e0.hok.kept hk,?_⟩
 ·exact name_of_addr x.apart (KY h1) (KY h2)
 ·have hy:scope.names.lookup y=some .cell\/scope.names.lookup y=some .free:=hy
  rcases hy with hy | hy
  ·exact tN hy
  ·exact absurd rfl (S.nofree _ (KY hy))
 ·exact L8 (x.above y c (KY h))
 ·have hi:i<vs.length:=by
   unfold start at h2
   by_cases hi:i<vs.length
   ·exact hi
   ·rw[K3 (by simpa using hi)]at h2
    rw[Mg]at h2
    split at h2 <;> cases h2
  have ha:vs[i]? =some v:=by
   unfold start at h2;rw[Lb (by simpa using hi),Jm]at h2
   cases e:vs[i]? with
   | none=>rw[e]at h2;cases h2
   | some a=>rw[e]at h2;cases h2;rfl
  obtain⟨u,hu,rv⟩:=r.get ha
  have hp:ps[i]? =some y:=by
   rw[<-S.pre,List.getElem?_take_of_lt (by omega)];exact h1
  have ndP:ps.Nodup:=by rw[<-S.pre];exact S.nd.sublist (Pp _ _)
  refine⟨u,rv,?_⟩
  rcases S.par y (JT hp)with k | k
  ·exact .inl ⟨k,oX ndP hp hu k⟩
  ·obtain⟨c,e⟩:=tN (n:=s.heap.objs.size+1) k
   refine .inr ⟨.inl k,c,e,?_⟩
   have q:=x.cell y c e;rw[oZ ndP hp hu (by show scope.names.lookup y≠_;rw[k];decide)]at q
   exact q
 ·exact e0.hok.fresh (L8 (x.above y c (KY h)))
 ·unfold start
  show _=N.length
  rw[IX,IP,List.length_replicate];omega
theorem G0 {CX:AB}{P:Jp}{w:J2}{K:II}{mg:Str->Option IQ}{base:Heap}{k:Nat}{f:Addr}{name qual:Str}{params:Om}{body:List Stmt}{scope:L1}{dV kV doc pm cdv ct oc:IQ}{an od:Option Addr}
  {osl:Array (Option IQ)} {N ps:List Str} {sp:Sp} (lk:K.lookup f=some ⟨oc,od,.func (L4 name qual params body scope dV kV doc pm an cdv ct),osl⟩) (hcd:OD K cdv qual=true) (S:d9 N ps scope)
  (len:∀vs H Q E,sp vs H Q E->vs.length=ps.length)
  (hbody:∀(A:JO) (outer:List Env) (s:IR) (H:Hp) (vs:List V) (Q:VK) (E:XK),Room k (A.deeper (envOfC qual scope s.heap.objs.size f cdv))->sp vs H Q E →
   ∃t,PSs (km CX P w K mg base N qual scope f cdv A outer s H E) body t/\t { nx:=λ_ H'=>Q .non H',rt:=Q } (start N vs) H) :
  qU P w K mg base CX (k+1) f (L4 name qual params body scope dV kV doc pm an cdv ct) ps sp:=by
 refine⟨len,λA outer s H args us vs Q E hr e0 hb r hsp=> ?_⟩
 have hl:=len _ _ _ _ hsp
 have KX:K.In s.heap:=e0.mod.kin.keeps λb o e=>(e0.bs b o e).1
 have lim:s.heap.NoLimit:=e0.mod.nolimit.keeps λb o e=>(e0.bs b o e).1
 have hkind:∀y∈ps.zip us,scope.names.lookup y.1=some .local\/(scope.names.lookup y.1=some .cell/\((Lw (s.heap.objs.size+1) scope.names []).lookup y.1).isSome=true):=λ⟨n,v⟩ hy=>by
  rcases S.par n (MR hy).1 with q | q
  ·exact .inl q
  ·exact .inr ⟨q,Mo _ _ _ (.inl q)⟩
 refine Oo hr.depth (KX _ _ lk) rfl S.co S.gen rfl (OR KX hcd) (hb _ _ _ _ ?_)
 refine M9 S.kind hkind λenv he s1 x=> ?_
 subst he;refine⟨lim.keeps x.toInCall.keep,codeAny_func ?_⟩
 obtain⟨t,ht,hq⟩:=hbody A outer s H vs Q E (hr.deeper _) hsp
 have I:Inv (km CX P w K mg base N qual scope f cdv A outer s H E) [] (start N vs) H s1:=oJ S hr.hd e0 hl r x;refine LL (ht [] s1 (start N vs) H _ I hq) (λfl s' hs=> ?_) λe s' hs=>hs
 have fin:∀{σ':St} {H':Hp} {v:V} {u:IQ},Inv (km CX P w K mg base N qual scope f cdv A outer s H E) [] σ' H' s'->RelV v u->Q v H'->CE outer P w H s Q u s':=
  λ{σ' H' v u} J rv q=>⟨v,H',J.os,J.bare,J.base,J.hok,rv,q⟩
 cases fl with
 | ret u=>
  obtain⟨v,σ',H',J,rv,q⟩:=hs
  exact fin J rv q
 | next=>
  obtain⟨σ',H',J,q⟩:=hs
  exact fin (v:=V.non) (u:=JK) J rfl q
 | brk=>
  obtain⟨_,_,_,q⟩:=hs
  exact LH q
 | cont=>
  obtain⟨_,_,_,q⟩:=hs;exact LH q
end L2
namespace HT
open PySem PyProof.Rows
section
variable {prog:Jp}{w:J2}{A:JO}{E:IQ->IR->Prop}{s:IR}
theorem cat_tup {t b:Addr}{vs ws:List IQ}{Q:IQ->IR->Prop}(ht:QK s.heap t vs.toArray)(hb:QK s.heap b ws.toArray)(hv:vs≠ [])
  (h1:ws= []->Q (.ref t) s) (h2:ws≠ []->Q (.ref s.heap.objs.size) { s with heap:=s.heap.push { cls:=.type "tuple",data:=.seq (vs++ws).toArray } })
  (hsz:vs.length+ws.length<=sizeLine):wpAny (model prog w) A (KL .Add (.ref t) (.ref b)) Q E s:=by
 obtain⟨⟨cls,dd,data,sl⟩,ho,hc,n,hd⟩:=id ht;obtain⟨⟨cls2,dd2,data2,sl2⟩,ho2,hc2,n2,hd2⟩:=id hb;simp only at hc hd hc2 hd2;subst hc hd hc2 hd2
 have e:vs.toArray++ws.toArray=(vs++ws).toArray:=by simp
 by_cases hw:ws= []
 ·exact PU ⟨_,ho,rfl⟩ ⟨_,ho2,rfl⟩ NU Pb Mp Mc (L5 _ _)
   (tuple_addW1 t b vs.toArray ws.toArray n n2 dd dd2 sl sl2 (by simpa using hv) (by simp[hw])) ⟨ho,ho2,h1 hw⟩
 ·refine PU ⟨_,ho,rfl⟩ ⟨_,ho2,rfl⟩ NU Pb Mp Mc (L5 _ _)
   (tuple_addW2 t b vs.toArray ws.toArray n n2 dd dd2 sl sl2 (by simpa using hv) (by simpa using hw) (by rw[Je,Je];exact hsz)) ⟨ho,ho2,?_⟩
  rw[e];exact h2 hw
def sIx (n d:Nat):Option Int->Nat
 | none=>d
 | some v=>if v<0 then(v+(n:Int)).toNat else min v.toNat n
theorem sIx_none (n d:Nat):sIx n d none=d:=rfl
theorem sIx_nat (n d k:Nat):sIx n d (some (k:Int))=min k n:=by
 show(if (k:Int)<0 then((k:Int)+(n:Int)).toNat else min (k:Int).toNat n)=min k n
 rw[if_neg (by omega),JD]
theorem Dn (n d:Nat)(hd:d<=n)(o:Option Int):sIx n d o<=n:=by
 cases o with
 | none=>exact hd
 | some v=>
  show(if v<0 then(v+(n:Int)).toNat else min v.toNat n)<=n
  by_cases hv:v<0
  ·rw[if_pos hv];omega
  ·rw[if_neg hv];exact Nat.min_le_right _ _
theorem v7 (v:Int)(n d:Nat):(if v<0 then max (v+(n:Int)) 0 else min v (n:Int))=((sIx n d (some v):Nat):Int):=by
 show(if v<0 then max (v+(n:Int)) 0 else min v (n:Int))=(((if v<0 then(v+(n:Int)).toNat else min v.toNat n):Nat):Int)
 by_cases hv:v<0
 ·simp only[if_pos hv];omega
 ·simp only[if_neg hv];omega
theorem uU (lo hi:Option Int)(n:Nat):LV lo hi 1 (n:Int)=(((sIx n 0 lo:Nat):Int),((sIx n n hi:Nat):Int)):=by
 have h1:¬ ((1:Int)<0):=by omega
 unfold LV;simp only[h1,if_false];refine Prod.ext ?_ ?_
 ·cases lo with
  | none=>rfl
  | some v=>exact v7 v n 0
 ·cases hi with
  | none=>rfl
  | some v=>exact v7 v n n
theorem ur (i j:Nat):La (i:Int) (j:Int) 1=j - i:=by
 unfold La
 have h1:(1:Int) > 0:=by omega
 simp only[h1,if_true,Int.ediv_one]
 split <;> omega
theorem l7 {v:IQ}{o:Option Int}{Q:Option Int->IR->Prop}(p:Pc v o)(h:Q o s):wpAny (model prog w) A (Qc v) Q E s:=by
 cases p with
 | none=>exact slicePart_none h
 | int i t=>exact slicePart_int h
theorem gC {sl:Addr}{vl vu:IQ}{lo hi:Option Int}{n:Nat}{Q:Int×Int×Nat->IR->Prop}(hs:s.heap.IsSliceOf sl vl vu .none)(pl:Pc vl lo)(pu:Pc vu hi)
  (h:Q (((sIx n 0 lo:Nat):Int),1,sIx n n hi - sIx n 0 lo) s):wpAny (model prog w) A (M0 (.ref sl) (pure (n:Int))) Q E s:=by
 obtain⟨os,hos,hcs,hds⟩:=id hs;unfold M0 Builtin.Slice.sliceFields;refine IH (IH (Ka hos hds (x:=vl) rfl (IH (Ka hos hds (x:=vu) rfl (IH (Ka hos hds (x:=.none) rfl (IS ?_)))))))
 refine IH (slicePart_none ?_)
 show wpAny _ _ (if ((1:Int) == 0)=true then _ else _) _ _ s
 rw[if_neg (by decide)]
 refine IH (l7 pl (IH (l7 pu (IH (IS ?_)))))
 show wpAny _ _ (match LV lo hi 1 (n:Int)with | (lo,hi)=>pure (lo,(1:Int),La lo hi 1)) _ _ s
 rw[uU lo hi n]
 show wpAny _ _ (pure (((sIx n 0 lo:Nat):Int),(1:Int),La ((sIx n 0 lo:Nat):Int) ((sIx n n hi:Nat):Int) 1)) _ _ s
 rw[ur];exact IS h
theorem yC (xs:Array IQ)(i k:Nat):((JA k).filterMap λ(m:Nat)=>xs[((i:Int)+(m:Int)*1).toNat]?).toArray=((xs.toList.drop i).take k).toArray:=by
 have e:(λ(m:Nat)=>xs[((i:Int)+(m:Int)*1).toNat]?)=λm=>xs[i+m]?:=by
  funext m
  have:((i:Int)+(m:Int)*1).toNat=i+m:=by omega
  rw[this]
 rw[e]
 have:=pick_run xs i k;rw[List.filterMap_map]at this
 have e2:((λx=>xs[x]?)∘λx=>i+x)=λm=>xs[i+m]?:=rfl
 rw[e2]at this;rw[this]
theorem getItem_tuple_cut {t sl:Addr}{items:Array IQ}{vl vu:IQ}{lo hi:Option Int}{Q:IQ->IR->Prop}(ht:QK s.heap t items)(hs:s.heap.IsSliceOf sl vl vu .none)(pl:Pc vl lo)(pu:Pc vu hi)
  (hw:¬ (sIx items.size 0 lo=0/\sIx items.size items.size hi=items.size))
  (h:Q (.ref s.heap.objs.size) { s with heap:=s.heap.push { cls:=.type "tuple",data:=.seq ((items.toList.drop (sIx items.size 0 lo)).take (sIx items.size items.size hi - sIx items.size 0 lo)).toArray } })
  (hsz:items.size<=sizeLine):wpAny (model prog w) A (getItem (.ref t) (.ref sl)) Q E s:=by
 have htake:sizeOk (.seq ((items.toList.drop (sIx items.size 0 lo)).take (sIx items.size items.size hi - sIx items.size 0 lo)).toArray):=by
  show((items.toList.drop (sIx items.size 0 lo)).take (sIx items.size items.size hi - sIx items.size 0 lo)).toArray.size<=sizeLine
  rw[Je,KN,KO,Jt];omega
 have hj:sIx items.size items.size hi<=items.size:=Dn _ _ (Jc _) hi;obtain⟨os,hos,hcs,hds⟩:=id hs
 have hTs:s.TypeIs (.ref sl) "slice":=⟨os,hos,hcs⟩;unfold getItem
 try with_reducible refine Kj ?_
 first | refine IH (IS ?_) | skip
 refine IH (PC ht.typeIs (by decide) ?_)
 refine IH (JH (name:=Jb "__getitem__") ht.typeIs JU
  (J1 JU ht.typeIs OM ?_ (Pd _ _)))
 show wpAny _ _ (M4 (.ref t) >>= _) _ _ s
 refine IH (Pe ht ?_)
 refine IH (Mb hTs ?_)
 rw[if_pos (by decide)]
 refine IH (gC hs pl pu ?_)
 have hno:¬ ((((sIx items.size 0 lo:Nat):Int) == 0&&(1:Int) == 1&&(sIx items.size items.size hi - sIx items.size 0 lo) == items.size)=true):=by
  intro q;rw[IT,IT]at q
  have q1:((sIx items.size 0 lo:Nat):Int)=0:=eq_of_beq q.1.1
  have q2:sIx items.size items.size hi - sIx items.size 0 lo=items.size:=eq_of_beq q.2;exact hw ⟨by omega,by omega⟩
 show wpAny _ _ (if (((sIx items.size 0 lo:Nat):Int) == 0&&(1:Int) == 1&&(sIx items.size items.size hi - sIx items.size 0 lo) == items.size)=true then _ else _) _ _ s
 rw[if_neg hno,yC]
 first
  | exact IH (m:=KI _) (J3 (IS ⟨_,rfl,IS h⟩) htake)
  | exact IH (m:=KI _) (J3 (IH (IS (IS ⟨_,rfl,IS h⟩))) htake)
  | exact IH (IH (m:=KI _) (J3 (IS (IS ⟨_,rfl,IS h⟩)) htake))
  | exact IH (IH (m:=KI _) (J3 (IS ⟨_,rfl,IS h⟩) htake))
end
end HT
namespace L2
open PySem PySem.Spec PyProof.Rows
abbrev TO:=St->Hp->(Option Int->Hp->Prop)->Prop
def PO (X:Cx)(e:Option Expr)(t:TO):Prop:=
 ∀(pins:List (Addr×Obj)) (s:IR) (σ:St) (H:Hp) (Q:Option Int->Hp->Prop),Inv X pins σ H s->t σ H Q →
  wpAny (model X.prog X.w) X.A (evalPart e X.env) (λu s'=> ∃o H',Inv X pins σ H' s'/\Pc u o/\Q o H') X.xe s
def AS:TO:=λ_ H Q=>Q none H
def FJ (t:TE):TO:=λσ H Q=>t σ H λx H1=> ∃i,x= .int i/\Q (some i) H1
theorem uI {ns:List Int}:∀{us:List IQ},Vals (ns.map V.int) us->MK us ns:=by
 induction ns with
 | nil=>intro us r;rw[Oa]at r;cases r;exact .nil
 | cons n ns ih=>
  intro us r;rw[IM]at r
  cases r with
  | cons r1 r2=>
   obtain⟨t,e⟩:=r1;subst e;exact .cons n t (ih r2)
section
variable {X:Cx}{e:Expr}{te:TE}{lo hi:Option Expr}{tl th:TO}{pos p2:Pos}
theorem Bx:PO X none AS:=by
 intro pins s σ H Q I h;rw[evalPart_none];exact IS ⟨none,H,I,.none,h⟩
theorem Bw (h:PE X e te):PO X (some e) (FJ te):=by
 intro pins s σ H Q I hw;rw[evalPart_some];refine cq (h pins s σ H _ I hw) λu s1 hh_=> ?_
 obtain⟨x,H1,I1,r1,q1⟩:=hh_;obtain⟨i,rfl,q⟩:=q1;obtain⟨t,rfl⟩:=r1;exact⟨some i,H1,I1,.int i t,q⟩
def SlR (X:Cx)(r:V->Option Int->Option Int->Hp->VK->Prop):Prop:=
 ∀(pins:List (Addr×Obj)) (s:IR) (σ:St) (H:Hp) (x:V) (v vl vu:IQ) (lo hi:Option Int) (sl:Addr) (Q:VK),Inv X pins σ H s->RelV x v->s.heap.IsSliceOf sl vl vu .none->Pc vl lo->Pc vu hi->r x lo hi H Q →
  ∃T id,NB (.type T) "__getitem__" =pure (some (.builtin id))/\s.TypeIs v T/\wpAny (model X.prog X.w) X.A (getItem v (.ref sl)) (EP X pins σ Q) X.xe s
theorem SlR.or {r r':V->Option Int->Option Int->Hp->VK->Prop}(h:SlR X r)(h':SlR X r'):SlR X (λx lo hi H Q=>r x lo hi H Q\/r' x lo hi H Q):=by
 intro pins s σ H x v vl vu lo hi sl Q I rx hs pl pu q;rcases q with q | q
 ·exact h pins s σ H x v vl vu lo hi sl Q I rx hs pl pu q
 ·exact h' pins s σ H x v vl vu lo hi sl Q I rx hs pl pu q
def tSl (r:V->Option Int->Option Int->Hp->VK->Prop)(te:TE)(tl th:TO):TE:=λσ H Q=>te σ H λx H1=>tl σ H1 λl H2=>th σ H2 λu H3=>r x l u H3 Q
theorem yF {r:V->Option Int->Option Int->Hp->VK->Prop}(hr:SlR X r)(he:PE X e te)(hl:PO X lo tl)(hu:PO X hi th):PE X (.Subscript e (.Slice lo hi none p2) pos) (tSl r te tl th):=by
 intro pins s σ H Q I h;refine Subscript_ (cq (he pins s σ H _ I h) λv s1 hh_=> ?_)
 obtain⟨x,H1,I1,r1,q1⟩:=hh_;refine wpAny_Slice (cq (hl pins s1 σ H1 _ I1 q1) λvl s2 ⟨l,H2,I2,pl,q2⟩=>cq (hu pins s2 σ H2 _ I2 q2) λvu s3 hh_=> ?_)
 obtain⟨u,H3,I3,pu,q3⟩:=hh_;rw[evalPart_none];refine IS ?_
 have I4:Inv X pins σ H3 { s3 with heap:=s3.heap.push { cls:=.type "slice",data:=.fields #[vl,vu,.none] } }:=I3.kept (t':=s3.toks) λb ob q=>IK _ q
 obtain⟨T,id,hT,ht,hg⟩:=hr pins { s3 with heap:=s3.heap.push { cls:=.type "slice",data:=.fields #[vl,vu,.none] } } σ H3 x v vl vu l u s3.heap.objs.size Q I4 r1 (Heap.IsSliceOf.new ..) pl pu q3
 show wpAny (model X.prog X.w) X.A (Pf e (.Slice lo hi none p2) v (.ref s3.heap.objs.size)) (EP X pins σ Q) X.xe { s3 with heap:=s3.heap.push { cls:=.type "slice",data:=.fields #[vl,vu,.none] } }
 exact tail_any (ops:=[.ref s3.heap.objs.size,v]) ht hT hg (by with_unfolding_all rfl)
def tM (xs:List V)(lo hi:Option Int):List V:=(xs.drop (HT.sIx xs.length 0 lo)).take (HT.sIx xs.length xs.length hi - HT.sIx xs.length 0 lo)
theorem lr (xs:List V)(lo hi:Option Int):(tM xs lo hi).length<=xs.length:=by
 unfold tM;rw[KN,KO];omega
def rSlT (K:II):V->Option Int->Option Int->Hp->VK->Prop:=λx lo hi H Q=> ∃a xs,x= .ref a/\SqT K H a xs ∧
 ¬(HT.sIx xs.length 0 lo=0/\HT.sIx xs.length xs.length hi=xs.length)/\∀p,H p=none->Q (.ref p) (upd H p (.tup (tM xs lo hi)))
theorem sl_tup:SlR X (rSlT X.K):=by
 intro pins s σ H x v vl vu lo hi sl Q I rx hs pl pu h;obtain⟨a,xs,rfl,hx,hw,q⟩:=h;cases rx;obtain⟨its,r,ht,hz⟩:=I.tuple hx
 have hlen:its.toArray.size=xs.length:=by rw[Je];exact r.length.symm
 refine⟨"tuple",_,JU.lookup,ht.typeIs,?_⟩
 refine HT.getItem_tuple_cut ht hs pl pu (by rw[hlen];exact hw) ?_ (by rw[hlen];exact hz)
 rw[hlen];refine⟨.ref s.heap.objs.size,_,I.laid (t':=s.toks) (o:=.tup (tM xs lo hi)) (λb ob q=>IK _ q) (Jc _) ?_,rfl,q _ (I.hok.fresh (Jc _))⟩
 exact⟨JW (lr xs lo hi) hz,_,(r.drop (HT.sIx xs.length 0 lo)).take (HT.sIx xs.length xs.length hi - HT.sIx xs.length 0 lo),Qk _ _⟩
def F2 (K:II):R2:=λx y H Q=> ∃a b xs ys,x= .ref a/\y= .ref b/\SqT K H a xs/\SqT K H b ys/\xs≠ []/\xs.length+ys.length<=sizeLine ∧
 (ys= []->Q (.ref a) H)/\(ys≠ []->∀p,H p=none->Q (.ref p) (upd H p (.tup (xs++ys))))
theorem Vals.AC {xs:List V}{us:List IQ}(r:Vals xs us):us= [] ↔xs= []:=by
 cases r with
 | nil=>simp
 | cons _ _=>simp
theorem BL:o6 X (KL .Add) (F2 X.K):=by
 intro pins s σ H x y v u Q I rx ry h;obtain⟨a,b,xs,ys,rfl,rfl,ha,hb,hx,hz,q1,q2⟩:=h;cases rx;cases ry;obtain⟨its,r1,p1,_⟩:=I.tuple ha;obtain⟨its2,r2,p2,_⟩:=I.tuple hb;refine HT.cat_tup p1 p2 (λz=>hx (r1.AC.mp z)) (λz=>⟨.ref a,H,I,rfl,q1 (r2.AC.mp z)⟩) (λz=> ?_) (by rw[<-r1.length,<-r2.length];exact hz)
 refine⟨.ref s.heap.objs.size,_,I.laid (t':=s.toks) (o:=.tup (xs++ys)) (λb ob q=>IK _ q) (Jc _) ?_,rfl,q2 (λw=>z (r2.AC.mpr w)) _ (I.hok.fresh (Jc _))⟩
 exact⟨by rw[IX];exact hz,_,r1.append r2,Qk _ _⟩
end
def ixN (n:Nat)(i:Int):Option Nat:=if 0<=i then(if i<n then some i.toNat else none)else if -(n:Int)<=i then some (i+n).toNat else none
def atI {α:Type}(xs:List α)(i:Int):Option α:=(ixN xs.length i).bind λj=>xs[j]?
theorem B1 {n:Nat}{i:Int}{j:Nat}(h:ixN n i=some j):seqIndex? i n=some j/\j<n/\-(n:Int)<=i/\i<n:=by
 unfold ixN at h
 by_cases h0:0<=i
 ·rw[if_pos h0]at h
  by_cases h1:i<n
  ·rw[if_pos h1]at h
   have e:i.toNat=j:=JB h;exact⟨by rw[seqIndex_of h0 h1,e],by omega,by omega,h1⟩
  ·rw[if_neg h1]at h;cases h
 ·rw[if_neg h0]at h
  by_cases h1 : -(n:Int)<=i
  ·rw[if_pos h1]at h
   have e:(i+n).toNat=j:=JB h;exact⟨by rw[seqIndex_neg (by omega) h1,e],by omega,h1,by omega⟩
  ·rw[if_neg h1]at h;cases h
theorem qR {α:Type}{xs:List α}{i:Int}{v:α}(h:atI xs i=some v):∃j,seqIndex? i xs.length=some j/\xs[j]? =some v/\j<xs.length/\-(xs.length:Int)<=i/\i<xs.length:=by
 unfold atI at h
 cases e:ixN xs.length i with
 | none=>rw[e]at h;cases h
 | some j=>
  rw[e]at h;obtain⟨h1,h2,h3,h4⟩:=B1 e;exact⟨j,h1,h,h2,h3,h4⟩
def wc (b:Expr):Prop:=∀o i,ON b false o i=operate [o,i] (getItem o i)
def IxR (X:Cx)(r:R2):Prop:=
 ∀(value slice:Expr) (pins:List (Addr×Obj)) (s:IR) (σ:St) (H:Hp) (x y:V) (v u:IQ) (Q:VK),Inv X pins σ H s->RelV x v->RelV y u->r x y H Q →
  ON slice false v u=operate [v,u] (getItem v u)->wpAny (model X.prog X.w) X.A (Pf value slice v u) (EP X pins σ Q) X.xe s
def MtR (X:Cx)(id:String)(r:V->List V->Hp->VK->Prop):Prop:=
 ∀(pins:List (Addr×Obj)) (s:IR) (σ:St) (H:Hp) (x:V) (xs:List V) (v:IQ) (us:List IQ) (Q:VK),Inv X pins σ H s->RelV x v->Vals xs us->r x xs H Q →
  wpAny (model X.prog X.w) X.A (call (.builtin id) (v::us)) (EP X pins σ Q) X.xe s
section
variable {X:Cx}{a b:Expr}{ta tb:TE}{pos:Pos}
theorem IxR.or {r r':R2}(h:IxR X r)(h':IxR X r'):IxR X (λx y H Q=>r x y H Q\/r' x y H Q):=by
 intro value slice pins s σ H x y v u Q I rx ry q hs;rcases q with q | q
 ·exact h value slice pins s σ H x y v u Q I rx ry q hs
 ·exact h' value slice pins s σ H x y v u Q I rx ry q hs
def F1 (K:II):R2:=λx y H Q=> ∃p xs i v,x= .ref p/\y= .int i/\SqL K H p xs/\atI xs i=some v/\Q v H
def FZ (K:II):R2:=λx y H Q=> ∃p xs i v,x= .ref p/\y= .int i/\SqT K H p xs/\atI xs i=some v/\Q v H
def F0:R2:=λx y H Q=> ∃z i c,x= .str z/\y= .int i/\z.length<=sizeLine/\atI z.cps.toList i=some c/\Q (.str ⟨#[c]⟩) H
theorem ix_list:IxR X (F1 X.K):=by
 intro value slice pins s σ H x y v u Q I rx ry h hs;obtain⟨p,xs,i,z,rfl,rfl,hq,he,q⟩:=h;cases rx;obtain⟨t,rfl⟩:=ry;obtain⟨its,r,pl,hz⟩:=I.list hq;obtain⟨j,h1,h2,h3,h4,h5⟩:=qR he;obtain⟨w,ew,rw'⟩:=r.get h2
 have hl:=r.length
 have hn:=mJ
 have fin:EP X pins σ Q w s:=⟨z,H,I,rw',q⟩
 by_cases h0:0<=i
 ·have hj:i.toNat=j:=by
   rw[seqIndex_of h0 h5]at h1;exact JB h1
  exact item_listR pl.isList h0 (by omega) (by rw[hj];simpa using ew) fin hs
 ·have hj:(i+(its.toArray.size:Int)).toNat=j:=by
   rw[seqIndex_neg (by omega) h4]at h1
   rw[Je,<-hl];exact JB h1
  exact N1 (x:=w) pl.isList.typeIs slot_list_getitem.lookup
   (wpAny_getItem_list_neg (Q:=λr s'=>r=w/\EP X pins σ Q r s') pl.isList (by omega) (by rw[Je] <;> omega) (by omega) (by rw[hj];simpa using ew) ⟨rfl,fin⟩) hs
theorem ix_tup:IxR X (FZ X.K):=by
 intro value slice pins s σ H x y v u Q I rx ry h hs;obtain⟨p,xs,i,z,rfl,rfl,hq,he,q⟩:=h;cases rx;obtain⟨t,rfl⟩:=ry;obtain⟨its,r,pl,hz⟩:=I.tuple hq;obtain⟨j,h1,h2,h3,h4,h5⟩:=qR he;obtain⟨w,ew,rw'⟩:=r.get h2
 have hl:=r.length
 have hn:=mJ
 have fin:EP X pins σ Q w s:=⟨z,H,I,rw',q⟩
 exact N1 (x:=w) pl.typeIs slot_tuple_getitem.lookup
  (getItem_tuple (j:=j) (Q:=λr s'=>r=w/\EP X pins σ Q r s') pl (by omega) (by omega) (by rw[Je,<-hl];exact h1) (by simpa using ew) ⟨rfl,fin⟩) hs
theorem EO:IxR X F0:=by
 intro value slice pins s σ H x y v u Q I rx ry h hs;obtain⟨z,i,c,rfl,rfl,hz,he,q⟩:=h;obtain⟨t,rfl⟩:=rx;obtain⟨t',rfl⟩:=ry;obtain⟨j,h1,h2,h3,h4,h5⟩:=qR he
 have hl:z.cps.toList.length=z.length:=by simp[Str.length]
 rw[hl]at h1 h4 h5
 have hn:=mJ
 exact tail_any (typeIs_str s z t) slot_str_getitem.lookup (getItem_str (c:=c) (by
  have e1:decide (i< -(2 ^ 63:Int))=false:=decide_eq_false (by omega)
  have e2:decide (i ≥ 2 ^ 63)=false:=decide_eq_false (by omega)
  rw[e1,e2,Bool.or_false]) (by rw[h1];simpa using h2) ⟨.str ⟨#[c]⟩,H,I.tok _,⟨_,rfl⟩,q⟩) hs
def rIx (K:II):R2:=λx y H Q=>F1 K x y H Q\/FZ K x y H Q\/F0 x y H Q
theorem ER:IxR X (rIx X.K):=ix_list.or (ix_tup.or EO)
theorem pE (lo hi:Option Int)(n:Nat):(Mv lo hi none n).1=((HT.sIx n 0 lo:Nat):Int)/\(Mv lo hi none n).2.1=((HT.sIx n n hi:Nat):Int)/\(Mv lo hi none n).2.2=1:=by
 refine⟨?_,?_,rfl⟩
 ·cases lo with
  | none=>simp[Mv,HT.sIx]
  | some i=>
   simp only[Mv,HT.sIx,NP,show(1:Int) > 0 by decide,if_true]
   by_cases h:i<0
   ·simp only[h,if_true] <;> omega
   ·simp only[h,if_false] <;> omega
 ·cases hi with
  | none=>simp[Mv,HT.sIx]
  | some i=>
   simp only[Mv,HT.sIx,NP,show(1:Int) > 0 by decide,if_true]
   by_cases h:i<0
   ·simp only[h,if_true] <;> omega
   ·simp only[h,if_false] <;> omega
theorem nL (its:List IQ)(lo hi:Option Int):slicePick its.toArray lo hi none=((its.drop (HT.sIx its.length 0 lo)).take (HT.sIx its.length its.length hi - HT.sIx its.length 0 lo)).toArray:=by
 obtain⟨h1,h2,h3⟩:=pE lo hi its.toArray.size;unfold slicePick;rw[h1,h2,h3];simp only[sliceRange_one,pick_run,Je] <;> rfl
def rSlL (K:II):V->Option Int->Option Int->Hp->VK->Prop:=λx lo hi H Q=> ∃a xs,x= .ref a/\SqL K H a xs/\∀p,H p=none->Q (.ref p) (upd H p (.lst (tM xs lo hi)))
theorem A0:SlR X (rSlL X.K):=by
 intro pins s σ H x v vl vu lo hi sl Q I rx hs pl pu h;obtain⟨a,xs,rfl,hx,q⟩:=h;cases rx;obtain⟨its,r,ht,hz⟩:=I.list hx
 have hlen:=r.length;refine⟨"list",_,slot_list_getitem.lookup,ht.isList.typeIs,?_⟩
 refine wpAny_getItem_list_slice ht.isList hs pl pu .none (by simp) ?_ (by rw[Je] <;> omega)
 rw[nL,<-hlen];refine⟨.ref s.heap.objs.size,_,I.laid (t':=s.toks) (o:=.lst (tM xs lo hi)) (λb ob q=>IK _ q) (Jc _) ?_,rfl,q _ (I.hok.fresh (Jc _))⟩
 exact⟨JW (lr xs lo hi) hz,_,0,(r.drop (HT.sIx xs.length 0 lo)).take (HT.sIx xs.length xs.length hi - HT.sIx xs.length 0 lo),IZ _ rfl⟩
theorem call_len_seq:CallR X (.builtin "len") (λxs H Q=> ∃p ys,xs= [.ref p]/\(SqL X.K H p ys\/SqT X.K H p ys)/\Q (.int ys.length) H):=by
 intro pins s σ H xs us Q I r h;obtain⟨p,ys,rfl,hq,q⟩:=h;obtain⟨u,rfl,rx⟩:=iq r;cases rx
 have hn:=mJ;rcases hq with hq | hq
 ·obtain⟨its,r',pl,hz⟩:=I.list hq
  have hlen:=r'.length;exact Calls.call_len_list pl.isList (by simp only[Je] <;> omega) ⟨.int ys.length,H,I.tok _,⟨s.toks+1,by rw[Je,hlen]⟩,q⟩
 ·obtain⟨its,r',pl,hz⟩:=I.tuple hq
  have hlen:=r'.length;exact len_tuple pl (by simp only[Je] <;> omega) ⟨.int ys.length,H,I.tok _,⟨s.toks+1,by rw[Je,hlen]⟩,q⟩
theorem qM:CallR X (.builtin "len") (λxs H Q=> ∃z,xs= [.str z]/\z.length<=sizeLine/\Q (.int z.length) H):=by
 intro pins s σ H xs us Q I r h;obtain⟨z,rfl,hz,q⟩:=h;obtain⟨u,rfl,t,rfl⟩:=iq r
 have hn:=mJ;exact len_str (by omega) ⟨.int z.length,H,I.tok _,⟨_,rfl⟩,q⟩
theorem CallR.or {f:IQ}{r r':List V->Hp->VK->Prop}(h:CallR X f r)(h':CallR X f r'):CallR X f (λxs H Q=>r xs H Q\/r' xs H Q):=by
 intro pins s σ H xs us Q I rs q;rcases q with q | q
 ·exact h pins s σ H xs us Q I rs q
 ·exact h' pins s σ H xs us Q I rs q
theorem n4:CallR X (.type "tuple") (λxs H Q=> ∃p ys,xs= [.ref p]/\((SqL X.K H p ys/\∀l,H l=none->Q (.ref l) (upd H l (.tup ys)))\/(SqT X.K H p ys/\Q (.ref p) H))):=by
 intro pins s σ H xs us Q I r h;obtain⟨p,ys,rfl,h⟩:=h;obtain⟨u,rfl,rx⟩:=iq r;cases rx;rcases h with⟨hq,q⟩ | ⟨hq,q⟩
 ·obtain⟨its,r',pl,hz⟩:=I.list hq
  have hlen:=r'.length;refine call_tuple_list pl.isList (λh' kp=> ?_) (by simp only[Je] <;> omega)
  have I1:Inv X pins σ H { s with heap:=h' }:=I.kept (t':=s.toks) kp
  have I2:Inv X pins σ (upd H h'.objs.size (.tup ys)) { s with heap:=h'.push { cls:=.type "tuple",data:=.seq its.toArray } }:=
   I1.laid (t':=s.toks) (λb o e=>IK _ e) (Jc _) (show ObjOk X.prog X.w _ _ _ (.tup ys)from⟨hz,its,r',Qk _ _⟩)
  exact⟨.ref h'.objs.size,_,I2,rfl,q _ (I1.hok.fresh (Jc _))⟩
 ·obtain⟨its,r',pl,hz⟩:=I.tuple hq
  exact call_tuple_same pl ⟨.ref p,H,I,rfl,q⟩
def tyV (K:II)(T:String)(x:V)(H:Hp):Prop:=match x with
 | .str _=>T= "str"
 | .int _=>T= "int"
 | .ref p=>(T= "list"/\∃xs,SqL K H p xs)\/(T= "tuple"/\∃o,K.lookup p=some o/\o.cls= .type "tuple"/\o.dict=none) ∨
   (T= "dict"/\((∃kvs,H p=some (.dK kvs))\/∃kvs,H p=some (.dT kvs)))\/(T= "set"/\∃S n,H p=some (.set S n))
 | _=>False
theorem xX {pins:List (Addr×Obj)}{σ:St}{H:Hp}{s:IR}{T:String}{x:V}{v:IQ}(I:Inv X pins σ H s)(r:RelV x v)(ty:tyV X.K T x H) :
  s.TypeIs v T/\∀a,v= .ref a->∃ob,s.heap.get? a=some ob/\ob.dict=none:=by
 cases x with
 | str z=>
  obtain⟨t,rfl⟩:=r;cases (show T= "str" from ty)
  exact⟨typeIs_str s z t,λ_ e=>nomatch e⟩
 | int i=>
  obtain⟨t,rfl⟩:=r;cases (show T= "int" from ty)
  exact⟨Ox s i t,λ_ e=>nomatch e⟩
 | ref p=>
  cases r;rcases ty with⟨rfl,xs,hq⟩ | ⟨rfl,o,hk,hc,hd⟩ | ⟨rfl,hk⟩ | ⟨rfl,S,n,hk⟩
  ·obtain⟨its,_,pl,_⟩:=I.list hq
   refine⟨pl.isList.typeIs,λa e=> ?_⟩
   cases e;obtain⟨o,n,e,c,hd,_⟩:=pl;exact⟨o,e,hd⟩
  ·refine⟨⟨o,I.kIn p o hk,hc⟩,λa e=> ?_⟩
   cases e;exact⟨o,I.kIn _ o hk,hd⟩
  ·have z:∃o,s.heap.get? p=some o/\o.ExactDict:=by
    rcases hk with⟨kvs,hk⟩ | ⟨kvs,hk⟩
    ·obtain⟨_,_,_,_,o,_,_,e,ex,_⟩:=I.hok p _ hk
     exact⟨o,e,ex⟩
    ·obtain⟨_,_,_,_,o,_,_,e,ex,_⟩:=I.hok p _ hk
     exact⟨o,e,ex⟩
   obtain⟨o,e,ex⟩:=z;refine⟨⟨o,e,ex.1⟩,λa e2=> ?_⟩
   cases e2;exact⟨o,e,ex.2.1⟩
  ·obtain⟨o,_,_,_,e,ex,_⟩:=I.hok p _ hk
   refine⟨⟨o,e,ex.1⟩,λa e2=> ?_⟩
   cases e2
   exact⟨o,e,ex.2.1⟩
 | _=>exact LH ty
def tBM (K:II)(T:String)(r:V->List V->Hp->VK->Prop)(to:TE)(t:TA):TE:=λσ H Q=>to σ H λx H1=>tyV K T x H1/\t σ H1 λxs H2=>r x xs H2 Q
variable {o e:Expr}{es:List Expr}{to:TE}{t:TA}{name:Str}{apos cpos:Pos}{T id:String}{r:V->List V->Hp->VK->Prop}
theorem CL (pa:PlainAttrs T)(slot:Slot T name id)(hty:typeOf (.builtin id)=pure (.type "method_descriptor"))(hm:MtR X id r)(ho:PE X o to)(ha:PA X (e::es) t)
  (hbase:KG o name X.env (eval o X.env)=eval o X.env:=by rfl)
  (hfew:((backTo cpos (Jj (e::es) X.env)).all (λx=> !x.1)&&(backToKw cpos (Qz [] X.env)).all (λx=>x.1.isSome)
   &&decide ((e::es).length+([]:List QB).length+(if ([]:List QB).isEmpty then 0 else 1)<30))=true:=by rfl)
  (hline:(apos.endLine == cpos.line)=true:=by rfl) (hs:Jj (e::es) X.env=(false,eval e X.env)::Jj es X.env:=by rfl) (hplain:(backTo cpos (Jj es X.env)).any (·.1)=false:=by rfl) :
  PE X (.Call (.Attribute o name apos) (e::es) [] cpos) (tBM X.K T r to t):=by
 intro pins s σ H Q I h;refine N3 hbase hfew hline rfl (cq (ho pins s σ H _ I h) λv s1 hh_=> ?_)
 obtain⟨x,H1,I1,r1,ty,q1⟩:=hh_;obtain⟨h1,h2⟩:=xX I1 r1 ty;refine⟨T,id,pa,slot,hty,h1,h2,?_⟩
 have hA:=ha cpos pins s1 σ H1 _ I1 q1;rw[hs]at hA ⊢;refine Mq (by show(false||(backTo cpos (Jj es X.env)).any (·.1))=false;rw[hplain] <;> rfl) (LR ?_)
 exact cq hA λus s2 ⟨vs,H2,I2,r2,q2⟩=>hm pins s2 σ H2 x vs v us Q I2 r1 r2 q2
end
def MtM (X:Cx)(id:String)(r:V->List V->Hp->VK->Prop):Prop:=
 ∀(pins:List (Addr×Obj)) (s:IR) (σ:St) (H:Hp) (x:V) (xs:List V) (v:IQ) (us:List IQ) (Q:VK),Inv X pins σ H s->RelV x v->Vals xs us->r x xs H Q →
  wpAny (model X.prog X.w) X.A (call (.builtin id) (v::us)) (EP X pins σ Q) X.xe s
theorem Vals.one:∀{x:V} {us:List IQ},Vals [x] us->∃u,us= [u]/\RelV x u
 | _,_,.cons r .nil=>⟨_,rfl,r⟩
theorem Vals.rep {xs:List V}{us:List IQ}(h:Vals xs us):∀k:Nat,Vals (Jr k xs).flatten (Jr k us).flatten
 | 0=> .nil
 | k+1=>by
  rw[Ky,Ky,Li,Li];exact Vals.append h (Vals.rep h k)
theorem foldl_rep (its:List IQ):∀(k:Nat) (acc:List IQ),
  Nr (λx1 x2=>x1++x2) acc.toArray (Jr k its.toArray)=(acc++(Jr k its).flatten).toArray
 | 0,acc=>by simp
 | k+1,acc=>by
  have e:acc.toArray++its.toArray=(acc++its).toArray:=by simp
  have e2:(acc++its)++(Jr k its).flatten=acc++(Jr (k+1) its).flatten:=by
   rw[Ky,Li,JE]
  rw[<-e2,<-foldl_rep its k (acc++its),<-e,Ky,Ob]
section
variable {X:Cx}{pins:List (Addr×Obj)}{σ:St}{H:Hp}{s:IR}{l b:Addr}{xs ys zs:List V}
theorem Inv.Ic {its its':List IQ}{n:Nat}{f:Array IQ->Array IQ}{t':Nat}(I:Inv X pins σ H s)(hH:H l=some (.lst xs))
  (e:s.heap.get? l=some { cls:=.type "list",data:=.seq its.toArray n }) (hf:f its.toArray=its'.toArray) (hv:Vals ys its') (hz:ys.length<=sizeLine) :
  Inv X pins σ (upd H l (.lst ys)) { s with heap:=s.heap.update l (Obj.mapSeq f),toks:=t' }:=by
 have q:=PySem.IsL.update e f;rw[hf]at q;refine I.write (x:=l) (e:=l) (by rw[hH];exact trivial) (.inl rfl) (λb' u hb hu=>(Heap.get?_update_other s.heap (Obj.mapSeq f) (N8 hb)).trans hu) ⟨_,q⟩ ?_
 exact⟨hz,its',_,hv,q⟩
theorem Inv.Iq {its:List IQ}{t':Nat}(I:Inv X pins σ H s)(hv:Vals ys its)(hz:ys.length<=sizeLine) :
  Inv X pins σ (upd H s.heap.objs.size (.lst ys)) { s with heap:=s.heap.push { cls:=.type "list",data:=.seq its.toArray },toks:=t' }:=
 I.laid (λ_ _ q=>IK _ q) (Jc _) ⟨hz,its,0,hv,IZ _ rfl⟩
theorem Inv.fresh (I:Inv X pins σ H s):H s.heap.objs.size=none:=I.hok.fresh (Jc _)
theorem Inv.HP (I:Inv X pins σ H s)(hH:H l=some (.lst xs)):xs.length<=sizeLine/\∃(its:List IQ) (n:Nat),Vals xs its/\xs.length=its.length/\s.heap.get? l=some { cls:=.type "list",data:=.seq its.toArray n }:=by
 obtain⟨z,its,n,r,e⟩:=I.hok l _ hH;exact⟨z,its,n,r,r.length,e⟩
theorem sk {n:Nat}(h:n<=sizeLine):Ld n=false:=by
 unfold Ld;exact decide_eq_false (by omega)
end
section
variable {X:Cx}
def A8:V->List V->Hp->VK->Prop:=λx vs H Q=> ∃l xs y,x= .ref l/\vs= [y]/\H l=some (.lst xs)/\xs.length<sizeLine/\Q .non (upd H l (.lst (xs++ [y])))
theorem oA:MtM X "list.append" A8:=by
 intro pins s σ H x vs v us Q I rx rv h;obtain⟨l,xs,y,rfl,rfl,hH,hz,q⟩:=h;cases rx;obtain⟨u,rfl,ru⟩:=rv.one;obtain⟨z,its,n,r,hl,e⟩:=I.HP hH;refine MP F.slot_list_append ⟨_,e,rfl⟩ F.entry_list_append (F.args_list_append_2 _ _) (PySem.list_append l its.toArray n u (by rw[Je];omega)) ⟨e,?_⟩
 refine⟨.non,_,I.Ic (its':=its++ [u]) hH e (by simp) (r.append (.cons ru .nil)) ?_,rfl,q⟩
 rw[IX,Kk];omega
def A7:V->List V->Hp->VK->Prop:=λx vs H Q=> ∃l b xs zs,x= .ref l/\vs= [.ref b]/\H l=some (.lst xs)/\H b=some (.lst zs)/\xs.length+zs.length<=sizeLine/\Q .non (upd H l (.lst (xs++zs)))
theorem wW:MtM X "list.extend" A7:=by
 intro pins s σ H x vs v us Q I rx rv h;obtain⟨l,b,xs,zs,rfl,rfl,hH,hB,hz,q⟩:=h;cases rx;obtain⟨u,rfl,ru⟩:=rv.one;cases ru;obtain⟨z,its,n,r,hl,e⟩:=I.HP hH;obtain⟨z2,its2,n2,r2,hl2,e2⟩:=I.HP hB
 have hsz:its.toArray.size+its2.toArray.size<=sizeLine:=by rw[Je,Je];omega
 have hlong:¬ (!its.toArray.isEmpty&&Ld (its.toArray.size+its2.toArray.size))=true:=by
  rw[sk hsz,OE];exact Jo
 refine MP F.slot_list_extend ⟨_,e,rfl⟩ F.entry_list_extend (F.args_list_extend_2 _ _)
  (AutoSeq1.list_extend_list_list_0 l its.toArray n b its2.toArray n2 hlong (by rw[Je];omega) (by omega)) ⟨e,e2,?_⟩
 refine⟨.non,_,I.Ic (its':=its++its2) hH e (by simp) (r.append r2) ?_,rfl,q⟩
 rw[IX];omega
def rCat:R2:=λx y H Q=> ∃l b xs zs,x= .ref l/\y= .ref b/\H l=some (.lst xs)/\H b=some (.lst zs)/\xs.length+zs.length<=sizeLine/\∀p,H p=none->Q (.ref p) (upd H p (.lst (xs++zs)))
theorem El:o6 X (KL .Add) rCat:=by
 intro pins s σ H x y v u Q I rx ry h;obtain⟨l,b,xs,zs,rfl,rfl,hH,hB,hz,q⟩:=h;cases rx;cases ry;obtain⟨z,its,n,r,hl,e⟩:=I.HP hH;obtain⟨z2,its2,n2,r2,hl2,e2⟩:=I.HP hB;refine PySem.P.add_list e e2 ?_ (by rw[Je,Je];omega)
 have ea:its.toArray++its2.toArray=(its++its2).toArray:=by simp
 rw[ea];exact⟨.ref _,_,I.Iq (t':=s.toks) (r.append r2) (by rw[IX];omega),rfl,q _ I.fresh⟩
def rRep:R2:=λx y H Q=> ∃l k xs,x= .ref l/\y= .int k/\H l=some (.lst xs)/\-(2 ^ 63)<=k/\k<2 ^ 63/\xs.length*k.toNat<=sizeLine ∧
 ∀p,H p=none->Q (.ref p) (upd H p (.lst (Jr k.toNat xs).flatten))
theorem len_rep {α:Type}(xs:List α)(k:Nat):(Jr k xs).flatten.length=k*xs.length:=by
 induction k with
 | zero=>simp
 | succ k ih=>rw[Ky,Li,IX,ih,Nat.succ_mul,PJ]
theorem Eh:o6 X (KL .Mult) rRep:=by
 intro pins s σ H x y v u Q I rx ry h;obtain⟨l,k,xs,rfl,rfl,hH,h1,h2,hz,q⟩:=h;cases rx;obtain⟨t,rfl⟩:=ry;obtain⟨z,its,n,r,hl,e⟩:=I.HP hH
 have hlen:its.toArray.size*k.toNat<=sizeLine:=by rw[Je,<-hl];exact hz
 have hcap:¬ its.toArray.size*k.toNat > (2 ^ 63 - 1) / 8:=by
  have:(sizeLine:Nat)<=(2 ^ 63 - 1) / 8:=by decide
  omega
 have hfit:¬ (!Builtin.List.listFitsIndex k)=true:=by
  rw[fitsIndex_both h1 h2];exact Jo
 have hlong:¬ Ld (its.toArray.size*k.toNat)=true:=by
  rw[sk hlen];exact Jo
 have hnew:Nr (λx1 x2=>x1++x2) #[] (Jr (if its.toArray.isEmpty=true then 0 else k.toNat) its.toArray)=(Jr k.toNat its).flatten.toArray:=by
  have f0:∀m:Nat,Nr (λx1 x2=>x1++x2) #[] (Jr m its.toArray)=(Jr m its).flatten.toArray:=λm=>by
   have:=foldl_rep its m [];rw[Kp]at this;exact this
  rw[f0]
  cases its with
  | nil=>simp
  | cons a r'=>rw[if_neg (by simp)]
 refine Ni (T:="list") (U:="int") (by decide) ⟨_,e,rfl⟩ (λs'=>Ox s' k t) noFill_list_mul Ql MS repeat_list PX.lookup
  (MP MS (Ox s k t) PY (Pq _ _) (int___rmul___int_list k t l its.toArray n)
   ⟨e,rfl,⟨_,e,rfl⟩,MP F.slot_list_mul ⟨_,e,rfl⟩ F.entry_list_mul (F.args_list_mul_2 _ _) (OU l its.toArray n k t hfit hcap hlong) ⟨e,?_⟩⟩)
 rw[hnew];exact⟨.ref _,_,I.Iq (t':=s.toks) (r.rep k.toNat) (by rw[len_rep,PK];exact hz),rfl,q _ I.fresh⟩
end
end L2
namespace Att
open PySem PySem.W PySem.Calls PyProof.Rows
theorem lE {P:Params}{h:Heap}:∀(ns:List Int) (vs:List IQ),WellAll P h vs (ns.map WData.int)->MK vs ns:=by
 intro ns
 induction ns with
 | nil=>
  intro vs w;rw[Oa]at w;cases w
  exact .nil
 | cons n ns ih=>
  intro vs w;rw[IM]at w
  cases w with
  | cons a b=>
   cases a;exact .cons _ _ (ih _ b)
theorem wJ {l:OpenLaw}{n:Nat}(hn:l.most=some n){P:Params}{h:Heap}{args:List WData}{vals:List IQ}
  (hpre:l.row.toRowW.claim.pre args=true) (hwl:WellAll P h vals args) :
  ∃a vs ns,vals= [Jg a]/\args= [WData.list (ns.map WData.int)]/\h.get? a=some { cls:=.type "list",data:=.seq vs.toArray }/\MK vs ns/\ns.length<=n:=by
 have hsh:WShape.hasAll [] args [.list .int] =true:=(pre_splitW hpre).1
 have hc:l.pre.holds [] { args:=args }=true:=(pre_splitW hpre).2;obtain⟨d,r,rfl,h1,h2⟩:=hasAllW_cons hsh;obtain rfl:=hasAllW_nil h2;obtain⟨xs,rfl,h3⟩:=hasW_list h1;obtain⟨ns,rfl⟩:=items_int h3
 have hlen:ns.length<=n:=by
  unfold OpenLaw.pre at hc
  have h4:(WTm.not (.lt (.lit (.int (n:Int))) (.len (.arg 0)))).holds [] { args:=[.list (ns.map .int)] }=true:=by
   have h4:=(holds_andW hc).1;rw[hn]at h4;exact h4
  have h5:=condW_of h4 (w_not (w_lt w_lit (w_len_list (w_arg rfl))));rw[IP]at h5;refine Nat.le_of_not_lt λq=> ?_
  have q':(n:Int)<((ns.length:Nat):Int):=by omega
  first
   | (rw[decide_eq_true q']at h5;exact absurd h5 (by decide))
   | (simp at h5;omega)
 cases hwl with
 | cons w1 w2=>
  cases w2
  cases w1 with
  | list ho hall=>exact⟨_,_,ns,rfl,rfl,ho,lE ns _ hall,hlen⟩
theorem wM (l:OpenLaw)(args:List WData):l.row.toRowW.claim.post args (.bool true) args=true:=
 postW_of (r:=l.row.toRowW) (X:=(true == true))
  (show WShape.has [] (.bool true) .bool=true by first | rfl | decide | simp[WShape.has,WShape.arms,WShape.armsAll])
  (show(WTm.eq .res (.lit (.bool true))).value [] { args:=args,res:=some (.bool true),after:=args }=some (.bool (true == true))from w_eq_bool (w_res rfl) w_lit) rfl
theorem attach_call {l:OpenLaw}{n:Nat}{q:Jp}{loose:List Str}{XP:(Str->Option IQ)->Heap->Prop}{YP:J2->Heap->Prop}{d:DefRec}
  (hn:l.most=some n) (hdf:d.params.defaults= [])
  (call:∀(w:J2) (s₀ s₁:IR) (mg mb:Str->Option IQ) (fa:Addr) (o:Obj) (pm cd doc:IQ) (a:Addr) (vs:List IQ) (ns:List Int),
   Ground q loose [] XP w s₀ mg mb s₁.heap->YP w s₁.heap →
   s₁.heap.get? fa=some o->o.data= .func (docDef d.name d.params d.body d.scope pm cd doc)->s₁.heap.CodeRec cd d.name->mg d.name=some (.ref fa) →
   s₁.heap.get? a=some { cls:=.type "list",data:=.seq vs.toArray }->MK vs ns->ns.length<=n->s₁.gens= #[] →
   codeAny (model l.prog w) callerA (.call (.ref fa) ⟨[.ref a],[]⟩) (λr s'=>r= .ok (.ret (.bool true))/\OldK s₁.heap s'.heap/\s'.os=s₁.os/\NM s'.gens) s₁) :
  WalkO q loose XP YP l.row.toRowW d [] (λf vs=>PySem.call f vs):=by
 intro w s₀ s₁ mg mb G Y fa o pm cd doc dV kV ho hd hcd hD hmg hg args vals as hpre hlay hrd hwl hlo;obtain rfl:dV= .none:=Dflts.none hD hdf;obtain rfl:kV= .none:=Dflts.noKw hD;obtain⟨a,vs,ns,rfl,rfl,hobj,hints,hlen⟩:=wJ hn hpre hwl;refine enter_call (MG (call w s₀ s₁ mg mb fa o pm cd doc a vs ns G Y ho (fd_plain hd) hcd hmg hobj hints hlen hg) λr s' hq=> ?_)
 obtain⟨rfl,h2,h3,h4⟩:=hq;exact⟨.inl ⟨.bool true,.bool true,[],rfl,λ_=>rfl,.bool true,wM l _,λ_=>⟨Pm,λ_ hm=>(nomatch hm)⟩⟩,h2,h3,h4⟩
end Att
namespace L2
open PySem PySem.Spec PyProof.Rows
theorem n5:∀{vs:List IQ} {ns:List Int},MK vs ns->Vals (ns.map V.int) vs
 | _,_,.nil=> .nil
 | _,_,.cons n t h=> .cons ⟨t,rfl⟩ (n5 h)
def Fu (H:Hp):Prop:=∀b,H b=none\/∃o xs,H b=some (.frz o (.lst xs))
theorem zj {P:Jp}{w:J2}{K:II}{mg mb:Str->Option IQ}{CX:AB}{k:Nat}{fa a:Addr}{fd:KM}{x:Str}{sp:Sp}{s₁:IR}{vs:List IQ}{ns:List Int}
  (KX:K.In s₁.heap) (hns:s₁.heap.Ns JF mg) (hb:s₁.heap.Ns NA mb) (hbb:∀x:Str,x≠ "__name__"->mb x=Jw x) (hlim:s₁.heap.NoLimit) (hg:s₁.gens= #[])
  (ha:s₁.heap.get? a=some { cls:=.type "list",data:=.seq vs.toArray }) (hi:MK vs ns) (hl:ns.length<=sizeLine) (hr:Room k callerA)
  (F:∀base:Heap,K.In base->base.Ns JF mg->qU P w K mg base CX k fa fd [x] sp) (hbind:∀(s:IR) (u:IQ),PB s fd ⟨[u],[]⟩ [(x,u)])
  (hsp:∀H:Hp,Fu H->SqL K H a (ns.map V.int)->sp [.ref a] H (λv _=>v= .bl true) λ_ _ _=>False)
  (hCX:∀H e s',CX [] H s₁ (λ_ _ _=>False) e s'->False) :
  codeAny (model P w) callerA (.call (.ref fa) ⟨[.ref a],[]⟩) (λr s'=>r= .ok (.ret (.bool true))/\OldK s₁.heap s'.heap/\s'.os=s₁.os/\NM s'.gens) s₁:=by
 have rv:=n5 hi
 have lenV:=hi.length
 -- from an abstract heap in which nothing but the script may be tracked
 have core:∀H:Hp,Fu H->SqL K H a (ns.map V.int)->HOk P w H s₁.heap->(∀b,H b≠none->b=a)->(H a≠none->K.lookup a=none) →
   codeAny (model P w) callerA (.call (.ref fa) ⟨[.ref a],[]⟩) (λr s'=>r= .ok (.ret (.bool true))/\OldK s₁.heap s'.heap/\s'.os=s₁.os/\NM s'.gens) s₁:=by
  intro H hO hS hok hA hK
  have base_of:∀{b:Addr} {o:Obj},s₁.heap.get? b=some o->H b=none->(qC s₁.heap H).get? b=some o:=λe n=>zK e n
  have noA:∀{b:Addr} {o:Obj} {es:Array ME} {ep:Nat},s₁.heap.get? b=some o->o.data= .dict es ep->H b=none:=λ{b o es ep} e d=>by
   cases q:H b with
   | none=>rfl
   | some u=>
    have e':b=a:=hA b (by rw[q];simp)
    subst e';rw[ha]at e;cases e
    have d':Data.seq vs.toArray _=Data.dict es ep:=d;cases d'
  have nsK:∀{b:Addr} {m:Str->Option IQ},s₁.heap.Ns b m->(qC s₁.heap H).Ns b m:=λ{b m} ⟨o,es,ep,e,d,r⟩=>⟨o,es,ep,base_of e (noA e d),d,r⟩
  have hKb:K.In (qC s₁.heap H):=λb o e=>base_of (KX b o e) (by
   cases q:H b with
   | none=>rfl
   | some u=>
    have e':b=a:=hA b (by rw[q];simp)
    subst e';rw[hK (by rw[q];simp)]at e;cases e)
  have hM:Mod K mg (qC s₁.heap H):=⟨hKb,nsK hns,⟨mb,nsK hb,hbb⟩,let ⟨mc,h1,h2⟩:=hlim;⟨mc,nsK h1,h2⟩⟩
  have e0:Ax P w K mg (qC s₁.heap H) callerA [] s₁ H:=⟨rfl,hM,λb o e=>BN e,L9 (xi _ _),trivial,λb hb=>absurd (show b∈([]:List Addr)from hb) (by simp),hok,.of_eq hg⟩
  refine MG ((F _ hKb (nsK hns)).run callerA [] s₁ H ⟨[.ref a],[]⟩ [.ref a] [.ref a] _ _ hr e0 (hbind s₁ (.ref a)) (.cons rfl .nil) (hsp H hO hS)) λr s' h=> ?_
  cases r with
  | error e=>exact(hCX H e s' h).elim
  | ok fl=>
   cases fl with
   | next=>exact LH h
   | brk=>exact LH h
   | cont=>exact LH h
   | ret u=>
    obtain⟨v,H',os,bare,un,hok',r',q⟩:=h
    have q':v= .bl true:=q;subst q';obtain rfl:u=Kf true:=r';refine⟨rfl,OldK.of_keep λb o e=> ?_,os,bare⟩
    cases q:H b with
    | none=>exact un.keep b o e q (by intro z;exact absurd (show b∈([]:List Addr)from z) (by simp)) (by simp)
    | some u=>
     rcases hO b with z | ⟨ob,xs,z⟩
     ·rw[q]at z;cases z
     ·have z2:=un.frzs b ob _ z
      obtain⟨e1,_⟩:=hok b _ z;obtain⟨e2,_⟩:=hok' b _ z2;rw[e]at e1;cases e1;exact e2
 cases hk:K.lookup a with
 | some o=>
  -- the script is one of the module's own objects
  have e:=KX a o hk;rw[ha]at e;cases e
  refine core (λ_=>none) (λ_=> .inl rfl) (.inr ⟨_,vs.toArray,_,hk,rfl,rfl,rfl,by rw[Je,lenV];exact hl,by simpa using rv⟩) (λb u z=>by have z':(none:Option HO)=some u:=z;cases z') (λb z=>absurd rfl z) λz=>absurd rfl z
 | none=>
  refine core (λb=>if b=a then some (.frz { cls:=.type "list",data:=.seq vs.toArray } (.lst (ns.map V.int)))else none) (λb=> ?_) (.inl (.inr ⟨{ cls:=.type "list",data:=.seq vs.toArray },if_pos rfl⟩)) (λb u z=> ?_) (λb z=> ?_) λ_=>hk
  ·by_cases hb:b=a
   ·exact .inr ⟨_,_,if_pos hb⟩
   ·exact .inl (if_neg hb)
  ·by_cases hb:b=a
   ·have z':=(if_pos hb).symm.trans z
    cases z';subst hb;exact⟨ha,by rw[IP];exact hl,vs,_,rv,ha⟩
   ·have z':=(if_neg hb).symm.trans z
    cases z'
  ·by_cases hb:b=a
   ·exact hb
   ·exact absurd (if_neg hb) z
abbrev CX0:AB:=λ_ _ _ _ _ _=>False
abbrev E0:XK:=λ_ _ _=>False
theorem CM {X:Cx}:uV CX0 X E0:=λ_ _ _ _ _ _ _ h=>h.elim
structure Fun (K:II)(x qual:Str)(st:Stmt)(f:Addr)(fd:KM):Prop where
 ex:∃(oc:IQ) (od:Option Addr) (kV doc pm:IQ) (an:Option Addr) (cdv ct:IQ) (osl:Array (Option IQ)),
  fd=L4 x qual (fD st) (cE st) (aB st) .none kV doc pm an cdv ct/\K.lookup f=some ⟨oc,od,.func fd,osl⟩/\OD K cdv qual=true
 kp:Mx K (.ref f)=true
section
variable {P:Jp}{w:J2}{K:II}{mg:Str->Option IQ}{base:Heap}
theorem Fun.ok {x qual:Str}{st:Stmt}{f:Addr}{fd:KM}{N ps:List Str}{k:Nat}{sp:Sp}(F:Fun K x qual st f fd)(S:d9 N ps (aB st))(len:∀vs H Q E,sp vs H Q E->vs.length=ps.length)
  (hbody:∀(cdv:IQ) (A:JO) (outer:List Env) (s:IR) (H:Hp) (vs:List V) (Q:VK) (E:XK),Room k (A.deeper (envOfC qual (aB st) s.heap.objs.size f cdv))->sp vs H Q E →
   ∃t,PSs (km CX0 P w K mg base N qual (aB st) f cdv A outer s H E).nox (cE st) t/\t { nx:=λ_ H'=>Q .non H',rt:=Q } (start N vs) H):qU P w K mg base CX0 (k+1) f fd ps sp:=by
 obtain⟨oc,od,kV,doc,pm,an,cdv,ct,osl,rfl,lk,hcd⟩:=F.ex;refine G0 lk hcd S len λA outer s H vs Q E hr hsp=> ?_
 obtain⟨t,h,q⟩:=hbody cdv A outer s H vs Q E hr hsp;exact⟨t,h.nox,q⟩
theorem Fun.binds {x qual:Str}{st:Stmt}{f:Addr}{fd:KM}{ps:List Str}(F:Fun K x qual st f fd)
  (h:∀(kV doc pm:IQ) (an:Option Addr) (cdv ct:IQ) (us:List IQ),us.length=ps.length->Qe (L4 x qual (fD st) (cE st) (aB st) .none kV doc pm an cdv ct) ⟨us,[]⟩=pure (ps.zip us)):Binds K fd ps []:=by
 obtain⟨oc,od,kV,doc,pm,an,cdv,ct,osl,rfl,lk,hcd⟩:=F.ex;exact .all (h kV doc pm an cdv ct)
theorem EX {x qual:Str}{st:Stmt}{f:Addr}{oc:IQ}{od an:Option Addr}{osl:Array (Option IQ)}{kV doc pm cdv ct:IQ}(l:K.lookup f=some ⟨oc,od,.func (L4 x qual (fD st) (cE st) (aB st) .none kV doc pm an cdv ct),osl⟩)
  (c:OD K cdv qual=true) (k:Mx K (.ref f)=true):Fun K x qual st f (L4 x qual (fD st) (cE st) (aB st) .none kV doc pm an cdv ct):=⟨⟨oc,od,kV,doc,pm,an,cdv,ct,osl,rfl,l,c⟩,k⟩
end
section
variable {X:Cx}
theorem pv (i:Nat){x:Str}{pos:Pos}(hN:X.N[i]? =some x:=by rfl)(hv:autoParam (tW X.env.scope x) u_)(hd:autoParam ((x == ("__debug__" : Str))=false) s_)
  (hcd:autoParam ((x == ("__classdict__" : Str))=false) s_):PE X (.Name x pos) (rz i):=jC hN hv hd hcd
end
theorem iteF {A B:Prop}(h:B):if false=true then A else B:=by
 rw[if_neg Jo];exact h
theorem iteT {A B:Prop}(h:A):if true=true then A else B:=by
 rw[if_pos rfl];exact h
def Same (H H':Hp):Prop:=∀b o,H b=some o->H' b=some o
theorem Same.refl (H:Hp):Same H H:=λ_ _ h=>h
theorem Same.trans {H H1 H2:Hp}(a:Same H H1)(b:Same H1 H2):Same H H2:=λc o h=>b c o (a c o h)
theorem jN {env:Env}:∀(names:List (Str×LK)) (acc:List (Str×Addr)),
  (∀x,(x,JN)∈names->∃c,env.cells.lookup x=some c) →
  (∀x c,acc.lookup x=some c->env.cells.lookup x=some c) →
  ∃cl,(forIn (m:=Sem) names acc (λx cs=>(if (x.2 == JN)=true then do let a <-cellOf env x.1;pure (Lz ((x.1,a)::cs))else pure (Lz cs))))=pure cl ∧
   (∀x c,cl.lookup x=some c->env.cells.lookup x=some c) ∧
   (∀x,(x,JN)∈names->∃c,cl.lookup x=some c)/\(∀x c,acc.lookup x=some c->∃c',cl.lookup x=some c')
 | [],acc,_,h=>⟨acc,rfl,h,λx hx=>by simp at hx,λx c e=>⟨c,e⟩⟩
 | (n,k)::r,acc,hf,h=>by
  by_cases hk:k=JN
  ·subst hk
   obtain⟨c,hc⟩:=hf n (by simp)
   have h':∀x c',((n,c)::acc).lookup x=some c'->env.cells.lookup x=some c':=λx c' e=>by
    rw[Kb]at e
    cases q:x == n with
    | true=>
     rw[q]at e
     have e2:c=c':=JB e
     have e3:x=n:=by simpa using q
     rw[<-e2,e3];exact hc
    | false=>rw[q]at e;exact h x c' e
   obtain⟨cl,e1,e2,e3,e4⟩:=jN r ((n,c)::acc) (λx hx=>hf x (IJ _ hx)) h'
   refine⟨cl,?_,e2,λx hx=> ?_,λx c' e=> ?_⟩
   ·rw[Mh]
    simp only[beq_self_eq_true,if_true,cellOf,hc,pure_bind];exact e1
   ·rcases IW.mp hx with z | z
    ·have z1:x=n:=by injection z
     subst z1;exact e4 x c (by simp[Kb])
    ·exact e3 x z
   ·cases q:x == n with
    | true=>exact e4 x c (by simp[Kb,q])
    | false=>exact e4 x c' (by simp[Kb,q,e])
  ·have hb:(k == JN)=false:=by simpa using hk
   obtain⟨cl,e1,e2,e3,e4⟩:=jN r acc (λx hx=>hf x (IJ _ hx)) h
   refine⟨cl,?_,e2,λx hx=> ?_,e4⟩
   ·rw[Mh]
    simp only[hb,KJ,if_false,pure_bind];exact e1
   ·rcases IW.mp hx with z | z
    ·have z1:JN=k:=by injection z
     exact absurd z1.symm hk
    ·exact e3 x z
theorem uP {env:Env}{scope:L1}(hf:∀x,(x,JN)∈scope.names->∃c,env.cells.lookup x=some c) :
  ∃cl,closureFor scope env=pure cl/\(∀x c,cl.lookup x=some c->env.cells.lookup x=some c)/\(∀x,(x,JN)∈scope.names->∃c,cl.lookup x=some c):=by
 obtain⟨cl,e1,e2,e3,_⟩:=jN scope.names [] hf (λx c e=>by simp at e)
 refine⟨cl,?_,e2,e3⟩
 unfold closureFor;refine Eq.trans ?_ (congrArg (λz=>z >>= pure) e1|>.trans (by simp))
 rfl
theorem qL {pr:Jp}{wd:J2}{Ar:JO}{Rz:Qy->IR->Prop}{s0:IR}{el tg it0:Expr}{cs:List Expr}{sc:L1}{ps:Pos}{itv av:IQ}{ev:Env}(W:Nat->IR->Prop)
  (go:∀k st,W k st->wpAny (model pr wd) Ar (pyNext itv) (λr s1=>match r with
   | none=>Rz (.ok .next) s1
   | some v=>wpAny (model pr wd) Ar (Mj tg itv v) (λ_ s2=>wpAny (model pr wd) Ar (assign tg ev v) (λ_ s3=>
     wpAny (model pr wd) Ar (forIn cs true λc b=>if b=true then do let z <-isTrue c ev (eval c ev);pure (Lz z)else pure (Lz b)) (λz s4=>
      if z=true then wpAny (model pr wd) Ar (eval el ev) (λy s5=>
       wpAny (model pr wd) Ar (call (.builtin "list.append") [av,y]) (λ_ s6=> ∃m,m<k/\W m s6) (λ_ _=>False) s5) (λ_ _=>False) s4
      else ∃m,m<k/\W m s4) (λ_ _=>False) s3) (λ_ _=>False) s2) (λ_ _=>False) s1) (λ_ _=>False) st)
  (k:Nat) (hk:W k s0):codeAny (model pr wd) Ar (.compLoop (.ListComp el [⟨tg,it0,cs,0⟩] sc ps) 0 itv av ev) Rz s0:=by
 refine codeAny_loop rfl W (λk st hw=> ?_) k hk
 show wpAny (model pr wd) Ar ((compTurn (.ListComp el [⟨tg,it0,cs,0⟩] sc ps) 0 itv av ev).onRaise (λz=>do noteFrame z ev;theTreesLotGoes z)) _ _ st
 refine wpAny_noted ?_
 rw[compTurn_list]
 have no:∀{α:Type} {t:Sem α} {Q Q':α->IR->Prop} {E':IQ->IR->Prop} {x:IR},wpAny (model pr wd) Ar t Q (λ_ _=>False) x->(∀y z,Q y z->Q' y z)->wpAny (model pr wd) Ar t Q' E' x:=λh f=>LL h f λ_ _ z=>z.elim
 refine IH (wpAny_standAt (IH (no (go k st hw) λr s1 g1=> ?_)))
 cases r with
 | none=>exact IS g1
 | some v=>
  refine IH (no g1 λ_ s2 g2=>IH (no g2 λ_ s3 g3=>IH (no g3 λz s4 g4=> ?_)))
  cases z with
  | false=>exact IS (And.intro rfl g4)
  | true=>exact IH (IH (no g4 λy s5 g5=>IH (no g5 λ_ s6 g6=>IS (IS (And.intro rfl g6)))))
def br (X:Cx)(scope:L1)(cl:List (Str×Addr))(N':List Str)(C:Addr)(s₀:IR)(H₀:Hp)(fp:List Addr):Cx:=
 { X with N:=N',s₀:=s₀,H₀:=H₀,env:=compEnvC scope cl C X.env,outer:=X.stack,stack:=X.stack,ex:=fp,fn:=λx=>scope.names.lookup x == some .cell,xe:=λ_ _=>False }
def fy (src:List (Option Nat))(σ:St):St:=src.map λo=>match o with
 | some i=>(σ[i]?).join
 | none=>none
theorem iH {env:Env}:∀{names:List (Str×LK)} {x:Str} {k:LK},
  (names.map λ(n,k)=>if (k == JN&&env.scope.kind == .function&&env.kindOf n == some .cell)then(n,Kq)else(n,k)).lookup x=some k →
  ∃k',names.lookup x=some k'/\(k=k'\/k'= .free)
 | [],_,_,h=>by simp at h
 | (n,k0)::r,x,k,h=>by
  have ih:=@iH env r x k
  have h':L3 x ((if (k0 == JN&&env.scope.kind == .function&&env.kindOf n == some .cell)=true then(n,Kq)else(n,k0))::(r.map λ(n,k)=>if (k == JN&&env.scope.kind == .function&&env.kindOf n == some .cell)then(n,Kq)else(n,k)))=some k:=h
  by_cases hc:(k0 == JN&&env.scope.kind == .function&&env.kindOf n == some .cell)=true
  ·rw[if_pos hc]at h'
   rw[Kb]at h' ⊢
   cases hx:x == n with
   | true=>
    refine⟨k0,rfl,.inr ?_⟩
    have:=KR.mp hc|>.1
    have:=KR.mp this|>.1
    simpa using this
   | false=>rw[hx]at h';exact ih h'
  ·rw[if_neg hc]at h'
   rw[Kb]at h' ⊢
   cases hx:x == n with
   | true=>rw[hx]at h';exact⟨k0,rfl,.inl (JB h').symm⟩
   | false=>rw[hx]at h';exact ih h'
theorem i5 {names:List (Str×LK)}{x:Str}{k:LK}(h:names.lookup x=some k):(x,k)∈names:=KY h
theorem ig {env:Env}:∀{names:List (Str×LK)} {x:Str},names.lookup x=some .free →
  (names.map λ(n,k)=>if (k == JN&&env.scope.kind == .function&&env.kindOf n == some .cell)then(n,Kq)else(n,k)).lookup x=some .cell ∨
  (names.map λ(n,k)=>if (k == JN&&env.scope.kind == .function&&env.kindOf n == some .cell)then(n,Kq)else(n,k)).lookup x=some .free
 | [],_,h=>by simp at h
 | (n,k0)::r,x,h=>by
  have ih:=@ig env r x
  show L3 x ((if (k0 == JN&&env.scope.kind == .function&&env.kindOf n == some .cell)=true then(n,Kq)else(n,k0))::_)=_\/L3 x ((if (k0 == JN&&env.scope.kind == .function&&env.kindOf n == some .cell)=true then(n,Kq)else(n,k0))::_)=_
  rw[Kb]at h
  by_cases hc:(k0 == JN&&env.scope.kind == .function&&env.kindOf n == some .cell)=true
  ·rw[if_pos hc]
   rw[Kb]
   cases hx:x == n with
   | true=>exact .inl rfl
   | false=>rw[hx]at h;exact ih h
  ·rw[if_neg hc]
   rw[Kb]
   cases hx:x == n with
   | true=>rw[hx]at h;exact .inr h
   | false=>rw[hx]at h;exact ih h
section
variable {X:Cx}
structure LcScope (X:Cx)(scope:L1)(N':List Str)(src:List (Option Nat)):Prop where
 kind:scope.kind= .function
 cel:∀y∈scope.names,y.2= .cell->scope.names.lookup y.1=some .cell
 loc:∀y∈scope.names,y.2= .local->scope.names.lookup y.1=some .local
 len:src.length=N'.length
 from_:∀(j i:Nat) (x:Str),src[j]? =some (some i)->N'[j]? =some x->X.N[i]? =some x/\scope.names.lookup x=some .free
 free:∀x,(x,JN)∈scope.names->X.env.kindOf x=some .cell\/X.env.kindOf x=some .free
def Df (K:II)(wi:TI)(src:List (Option Nat))(g:TG)(tc:TT)(te:TE):TE:=λσ H Q=>wi σ H λJ H1=> ∀D,H1 D=none->K.lookup D=none →
 ∃W:Nat->Nat->St->List V->Hp->Prop,(∃m,W 0 m (fy src σ) [] (upd H1 D (.lst [])))/\∀i m σ ys H,W i m σ ys H->H D=some (.lst ys) ∧
  ((J.stop i H/\Q (.ref D) H)\/(J.go i H/\ys.length<sizeLine/\∀x H',J.yld i H x H'->g x σ H' λσ2 H2=>tc σ2 H2 λb H3=>
   if b=true then te σ2 H3 λv H4=>H4 D=some (.lst ys)/\∃m',m'<m/\W (i+1) m' σ2 (ys++ [v]) (upd H4 D (.lst (ys++ [v])))else ∃m',m'<m/\W (i+1) m' σ2 ys H3))
def we (X:Cx)(ifs:List Expr)(t:TT):Prop:=
 ∀(pins:List (Addr×Obj)) (s:IR) (σ:St) (H:Hp) (Q:Bool->Hp->Prop),Inv X pins σ H s->t σ H Q →
  wpAny (model X.prog X.w) X.A (forIn ifs true λc r=>if r=true then do let ok <-isTrue c X.env (eval c X.env);pure (Lz ok)else pure (Lz r)) (TP X pins σ Q) X.xe s
def rA:TT:=λ_ H Q=>Q true H
theorem pU:we X [] rA:=λ_ _ _ H _ I h=>wpAny_tests_nil ⟨H,I,h⟩
theorem By {c:Expr}{t:TT}(h:PT X c t):we X [c] t:=λpins s σ H Q I q=>wpAny_tests_one (h pins s σ H Q I q)
theorem kY:∀(names:List (Str×LK)) (h:Heap) (acc:List (Str×Addr)),(∀x y c,acc.lookup x=some c->acc.lookup y=some c->x=y)->(∀x c,acc.lookup x=some c->c<h.objs.size) →
  (∀x c,(Lw h.objs.size names acc).lookup x=some c->acc.lookup x=some c\/(h.objs.size<=c/\(Oq h names).IsCell c none)) ∧
  (∀x y c,(Lw h.objs.size names acc).lookup x=some c->(Lw h.objs.size names acc).lookup y=some c->x=y) ∧
  (∀x,(x,Kq)∉names->(Lw h.objs.size names acc).lookup x=acc.lookup x) ∧
  (∀x,((x,Kq)∈names\/∃c,acc.lookup x=some c)->∃c,(Lw h.objs.size names acc).lookup x=some c) ∧
  (∀x c,(x,Kq)∈names->(Lw h.objs.size names acc).lookup x=some c->h.objs.size<=c)
 | [],h,acc,hi,_=>⟨λ_ _ e=> .inl e,hi,λ_ _=>rfl,λx e=>e.elim (λz=>absurd z JQ) id,λ_ _ z=>absurd z JQ⟩
 | (n,k)::r,h,acc,hi,hl=>by
  unfold Lw Oq
  by_cases hk:k= .cell
  ·subst hk
   rw[if_pos (by rfl),if_pos (by rfl)]
   have hz:(h.push { cls:=.type "cell",data:=.cell none }).objs.size=h.objs.size+1:=Kc ..
   have lk:∀x,((n,h.objs.size)::acc).lookup x=if x=n then some h.objs.size else acc.lookup x:=λx=>by
    rw[Kb]
    by_cases e:x=n
    ·rw[if_pos e,beq_iff_eq.mpr e]
    ·rw[if_neg e,beq_eq_false_iff_ne.mpr e]
   obtain⟨c1,c2,c3,c4,c5⟩:=kY r (h.push { cls:=.type "cell",data:=.cell none }) ((n,h.objs.size)::acc) (λx y c e1 e2=>by
     rw[lk]at e1 e2
     by_cases q1:x=n
     ·by_cases q2:y=n
      ·rw[q1,q2]
      ·rw[if_pos q1]at e1;rw[if_neg q2]at e2
       cases e1;exact absurd (hl _ _ e2) (Ju _)
     ·rw[if_neg q1]at e1
      by_cases q2:y=n
      ·rw[if_pos q2]at e2
       cases e2;exact absurd (hl _ _ e1) (Ju _)
      ·rw[if_neg q2]at e2;exact hi x y c e1 e2) (λx c e=>by
     rw[lk]at e;rw[hz]
     by_cases q:x=n
     ·rw[if_pos q]at e;cases e;exact K5 _
     ·rw[if_neg q]at e;exact Lj (hl x c e))
   rw[hz]at c1 c2 c3 c4 c5;refine⟨λx c e=> ?_,c2,λx hx=> ?_,λx hx=> ?_,λx c hx e=> ?_⟩
   ·rcases c1 x c e with z | z
    ·rw[lk]at z
     by_cases q:x=n
     ·rw[if_pos q]at z;cases z
      exact .inr ⟨Jc _,_,Os r _ _ _ (IZ _ rfl),rfl⟩
     ·rw[if_neg q]at z;exact .inl z
    ·exact .inr ⟨Nt z.1,z.2⟩
   ·rw[c3 x λz=>hx (IJ _ z),lk,if_neg λz=>hx (by rw[z];exact IL)]
   ·refine c4 x ?_
    rcases hx with hx | hx
    ·rcases IW.mp hx with z | z
     ·cases z
      exact .inr ⟨_,by rw[lk,if_pos rfl]⟩
     ·exact .inl z
    ·by_cases q:x=n
     ·exact .inr ⟨_,by rw[lk,if_pos q]⟩
     ·exact .inr (by rw[lk,if_neg q];exact hx)
   ·rcases IW.mp hx with z | z
    ·have q:x=n:=(Qj z).1
     rcases c1 x c e with y | y
     ·rw[lk,if_pos q]at y;cases y;exact Jc _
     ·exact Nt y.1
    ·exact Nt (c5 x c z e)
  ·have hb:¬ (k == Kq)=true:=λz=>hk (by simpa using z)
   rw[if_neg hb,if_neg hb];obtain⟨c1,c2,c3,c4,c5⟩:=kY r h acc hi hl;exact⟨c1,c2,λx hx=>c3 x λz=>hx (IJ _ z),λx hx=>c4 x (hx.imp (λz=>(IW.mp z).resolve_left λz=>hk (Qj z).2.symm) id),λx c hx=>c5 x c ((IW.mp hx).resolve_left λz=>hk (Qj z).2.symm)⟩
theorem wV {M:Model}{A:JO}{E:IQ->IR->Prop}{s:IR}{scope:L1}{globals:Addr}{cl:List (Str×Addr)}{qual:Str}{env:Env}{Q:Env->IR->Prop}
  (q:Q (newEnv scope s.heap.objs.size globals (Lw (s.heap.objs.size+1) scope.names cl) qual none .none (some env) NA) { s with heap:=Oq (s.heap.push { cls:=.type "dict",data:=.dict #[] }) scope.names }) :
  wpAny M A (newFunctionEnv scope globals cl [] qual none .none (some env)) Q E s:=by
 simp only[newFunctionEnv,OV,if_true];refine IH (wpAny_alloc (IH (wpAny_layCells _ (λname kind cells=>by cases hkc:kind == Kq <;> simp[hkc]) _ _ _ _ ?_)))
 rw[show({ s with heap:=s.heap.push { cls:=.type "dict",data:=.dict #[] } }:IR).heap.objs.size=s.heap.objs.size+1 from Kc ..]
 rw[Ng];exact IH (IS (IS q))
theorem vI {elt tg iter:Expr}{ifs:List Expr}{scope:L1}{pos fpos:Pos}{N':List Str}{src:List (Option Nat)}{wi:TI}{g:TG}{tc:TT}{te:TE}{use:Option (IQ->Sem Unit)}{Qf:IQ->IR->Prop}
  {pins:List (Addr×Obj)} {s:IR} {σ:St} {H:Hp} {Q:VK}
  (hc:X.calm=true) (S:LcScope X scope N' src) (hi:PI X tg iter wi)
  (block:∀cl C s₀ H₀ fp,PG (br X scope cl N' C s₀ H₀ fp) tg g/\we (br X scope cl N' C s₀ H₀ fp) ifs tc/\PE (br X scope cl N' C s₀ H₀ fp) elt te)
  (hs:∀x,Jy iter X.env x=pure x) (I:Inv X pins σ H s) (h:Df X.K wi src g tc te σ H Q)
  (hend:∀(D C:Addr) (H':Hp) (s':IR),(∃m,s'.heap.Ns C m)->(∀h',Lr C s'.heap h'->Inv X pins σ H' { s' with heap:=h' })->(H' C=none/\C≠X.env.locals/\X.s₀.heap.objs.size<=C/\(∀x c,X.env.cells.lookup x=some c->c≠C)/\∀p∈X.pn++pins,p.1≠C)->Q (.ref D) H' →
   compPost (model X.prog X.w) X.A X.xe use Qf (.ref D) C (.ok .next) s') :
  wpAny (model X.prog X.w) X.A (Pg (.ListComp elt [⟨tg,iter,ifs,0⟩] scope pos) scope X.env fpos (newList []) false (eval iter X.env) use) Qf X.xe s:=by
 have hcell:∀x,(x,JN)∈scope.names->∃c,X.env.cells.lookup x=some c:=λx hx=>I.ok.has x (S.free x hx)
 obtain⟨cl0,hcl,cl01,cl02⟩:=uP (env:=X.env) (scope:=scope) hcell;refine wpAny_comprehension_free (use:=use) rfl hs hcl S.kind S.loc (cq (hi pins s σ H _ I h) λv s1 h1=>cq h1 λitv s2 h2=> ?_)
 obtain⟨it,fp,tn,J,H2,e,I2,T,st2,f2,hq⟩:=h2;subst e
 -- the new list
 refine J3 ?_
 have hD:H2 s2.heap.objs.size=none:=I2.hok.fresh (Jc _)
 have hDK:X.K.lookup s2.heap.objs.size=none:=by
  cases q:X.K.lookup s2.heap.objs.size with
  | none=>rfl
  | some o=>exact absurd (Ja (I2.kIn _ o q)) (Ju _)
 obtain⟨W,⟨m0,w0⟩,turn⟩:=hq s2.heap.objs.size hD hDK
 have I3:=I2.Iq (its:=[]) (ys:=[]) (t':=s2.toks) .nil (KP _)
 generalize hs3:({ s2 with heap:=s2.heap.push { cls:=.type "list",data:=.seq ([]:List IQ).toArray },toks:=s2.toks }:IR)=s3 at I3
 generalize hH3:upd H2 s2.heap.objs.size (.lst [])=H3 at I3 w0
 have hDsz:s2.heap.objs.size<s3.heap.objs.size:=by rw[<-hs3];simp[Kc]
 have fr3:∀b∈fp,H3 b=none:=λb hb=>by
  obtain⟨o,eo,_⟩:=T.obj _ _ st2 b hb;rw[<-hH3,aF (JS (Ja eo))];exact(f2 b hb).1
 have st3:tn 0 s3.heap:=T.keep _ _ _ st2 λb hb o e=>by rw[<-hs3];exact IK _ e
 have f3:∀b∈fp,kx X pins H3 b:=λb hb=>⟨fr3 b hb,(f2 b hb).2⟩
 have D3:H3 s2.heap.objs.size=some (.lst []):=by rw[<-hH3];exact aH
 generalize s2.heap.objs.size=D at*
 clear hs3 hH3 hD hDK
 -- the block's frame
 refine wV ?_
 have old:∀b o,s3.heap.get? b=some o->(Oq (s3.heap.push { cls:=.type "dict",data:=.dict #[] }) scope.names).get? b=some o:=λb o e=>Os _ _ b o (IK _ e)
 have hns₁:(Oq (s3.heap.push { cls:=.type "dict",data:=.dict #[] }) scope.names).Ns s3.heap.objs.size (λ_=>none):=(Heap.Ns.new s3.heap (.type "dict")).keeps (Os _ _)
 have hz3:(s3.heap.push { cls:=.type "dict",data:=.dict #[] }).objs.size=s3.heap.objs.size+1:=Kc ..
 have lt0:∀x c,cl0.lookup x=some c->c<s3.heap.objs.size:=λx c e=>let ⟨_,ic⟩:=I3.cell x c (cl01 x c e);ic.lt
 obtain⟨c1,c2,c3,c4,c5⟩:=kY scope.names (s3.heap.push { cls:=.type "dict",data:=.dict #[] }) cl0 (λx y c e1 e2=>I3.ok.inj x y c (cl01 x c e1) (cl01 y c e2)) λx c e=>by rw[hz3];exact Lj (lt0 x c e)
 rw[hz3]at c1 c2 c3 c4 c5
 generalize hcl':Lw (s3.heap.objs.size+1) scope.names cl0=cl at*
 generalize hh₁:Oq (s3.heap.push { cls:=.type "dict",data:=.dict #[] }) scope.names=h₁ at*
 have below:∀b o,s3.heap.get? b=some o->b≠s3.heap.objs.size:=λb o e=>JS (Ja e)
 -- a cell of the block's: one from around,or a new one
 have cl1:∀x c,cl.lookup x=some c->X.env.cells.lookup x=some c\/(s3.heap.objs.size<c/\h₁.IsCell c none):=λx c e=>(c1 x c e).imp (cl01 x c) id
 generalize hC:s3.heap.objs.size=C at*
 have stk:∀b,b≠X.env.locals->b∉X.fs->b∉qE X.stack:=λb h1 h2 z=>(IW.mp (I3.HY b z)).elim h1 h2
 have apart:∀b∈fp,∀x c,cl.lookup x=some c->c≠b:=λb hb x c e=>by
  rcases cl1 x c e with z | z
  ·exact(f3 b hb).2.2.2.2.1 x c z
  ·obtain⟨o,eo,_⟩:=T.obj _ _ st3 b hb
   have h1:=Ja eo;rw[hC]at h1;exact MA (PL h1 z.1)
 have I4:Inv (br X scope cl N' C s3 H3 fp) pins (fy src σ) H3 { s3 with heap:=h₁ }:=by
  refine⟨⟨I3.ok.mod,S.kind,I3.ok.glob,I3.ok.blt,L9 hC,c2,λx hx=> ?_,λx c hx e=>L8 (hC▸c5 x c (i5 (beq_iff_eq.mp hx)) e),I3.ok.hd,I3.ok.frames,.inl rfl,
    λb hb=>⟨?_,λx c e=>apart b hb x c e⟩,I3.bs,JW I3.ok.bsz I3.sz,λb o e z=> ?_,λb hb=>stk b (f3 b hb).2.1 (f3 b hb).2.2.1,I3.stack,I3.HR⟩,
   rfl,I3.bare,Un.kept old,⟨_,hns₁,λj x v e1 e2 e3=> ?_⟩,λx c e=> ?_,I3.hok.fresh (L9 hC),λx c e=>(cl1 x c e).elim (I3.freeC x c) λz=>I3.hok.fresh (by rw[hC];exact L8 z.1),λp hp=> ?_,I3.hok.kept old,?_⟩
  ·have key:∀k,(relabel scope X.env).names.lookup x=some k->(k= .cell\/k= .free)->∃c,cl.lookup x=some c:=λk e hk=>by
    obtain⟨k',e',z⟩:=iH e
    have hk':k'= .cell\/k'= .free:=z.elim (λz=>z▸hk) .inr
    rcases hk' with q | q
    ·exact c4 x (.inl (q▸i5 e'))
    ·exact c4 x (.inr (cl02 x (q▸i5 e')))
   rcases hx with hx | hx
   ·exact key _ hx (.inl rfl)
   ·exact key _ hx (.inr rfl)
  ·obtain⟨o,eo,_⟩:=T.obj _ _ st3 b hb
   show b≠C
   exact below b o eo
  ·have z':b∈fp:=z
   obtain⟨_,_,_,z1,_⟩:=f3 b z';rcases z1 with z1 | z1
   ·exact I3.ok.noex b o e z1
   ·exact absurd (Ji (Ja (I3.ok.bs b o e).1) z1) (Ju _)
  ·unfold fy at e2
   rw[Jm]at e2
   cases q:src[j]? with
   | none=>rw[q]at e2;simp at e2
   | some o=>
    rw[q]at e2
    cases o with
    | none=>simp at e2
    | some i=>
     have e2':(σ[i]?).join=some v:=by simpa using e2
     have e2'':σ[i]? =some (some v):=by
      cases q2:σ[i]? with
      | none=>rw[q2]at e2';simp at e2'
      | some z=>rw[q2]at e2';simp at e2';rw[e2']
     obtain⟨hN,hfree⟩:=S.from_ j i x q e1
     have hm:=i5 hfree
     have hk:=S.free x hm;obtain⟨m,hn,hl⟩:=I3.loc
     have hv:tW X.env.scope x:=by
      rcases hk with z | z
      ·exact .inr (.inl z)
      ·exact .inr (.inr z)
     obtain⟨u,r,l⟩:=hl i x v hN e2'' hv;refine⟨u,r,.inr ⟨?_,?_⟩⟩
     ·exact ig hfree
     ·rcases l with⟨z,_⟩ | ⟨_,c,ec,ic⟩
      ·rcases hk with z' | z' <;> rw[z']at z <;> cases z
      ·obtain⟨c',ec0⟩:=cl02 x hm
       have ec':cl.lookup x=some c':=(c3 x λz=>by have:=S.cel _ z rfl;rw[hfree]at this;cases this).trans ec0
       have:=cl01 x c' ec0;rw[ec]at this;cases this;obtain⟨o,ho,hd⟩:=ic;exact⟨c,ec',o,old _ _ ho,hd⟩
  ·rcases cl1 x c e with z | z
   ·obtain⟨v,o,ho,hd⟩:=I3.cell x c z
    exact⟨v,o,old _ _ ho,hd⟩
   ·exact⟨none,z.2⟩
  ·obtain⟨e,n,ne,nf,d⟩:=I3.pin p hp
   exact⟨old _ _ e,n,below _ _ e,stk _ ne nf,d⟩
  ·show(fy src σ).length=N'.length
   unfold fy;rw[IP];exact S.len
 obtain⟨bG,bI,bE⟩:=block cl C s3 H3 fp
 have stat:∀{H':Hp},(∀b∈fp,H' b=none)->∀b∈fp,kx (br X scope cl N' C s3 H3 fp) pins H' b:=λhn b hb=>by
  obtain⟨o,eo,_⟩:=T.obj _ _ st3 b hb;exact⟨hn b hb,below b o eo,stk b (f3 b hb).2.1 (f3 b hb).2.2.1,.inl hb,apart b hb,(f3 b hb).2.2.2.2.2⟩
 have st4:tn 0 h₁:=T.keep _ _ _ st3 λb hb o e=>old b o e
 -- behind the block
 have after:∀(H':Hp) (s':IR) (σ':St),Inv (br X scope cl N' C s3 H3 fp) pins σ' H' s'->Q (.ref D) H' →
   compPost (model X.prog X.w) X.A X.xe use Qf (.ref D) C (.ok .next) s':=λH' s' σ' I' q=>by
  obtain⟨m,hn,_⟩:=id I'.loc
  have fC:X.s₀.heap.objs.size<=C:=by rw[<-hC];exact I3.sz
  have ltC:∀b o,s3.heap.get? b=some o->b<C:=λb o e=>by rw[<-hC];exact Ja e
  refine hend D C H' s' ⟨m,hn⟩ (λh' hsb=> ?_) ⟨I'.free,?_,fC,λx c e z=> ?_,λp hp z=> ?_⟩ q
  rotate_left
  ·have:=I3.lt;rw[hC]at this;exact MA this
  ·obtain⟨v,ic⟩:=I3.cell x c e
   have:=ic.lt;rw[hC,z]at this;exact Ju _ this
  ·have:=ltC _ _ (I3.pin p hp).1;rw[z]at this;exact Ju _ this
  have u:Un (qE X.stack) fp H3 H' s3.heap s'.heap:=I'.base
  have lift:∀b o,s3.heap.get? b=some o->∀o',s'.heap.get? b=some o'->h'.get? b=some o':=λb o e o' e'=>hsb.extBut b o' (below b o e) e'
  have u':Un (qE X.stack) fp H3 H' s3.heap h':=
   ⟨λb o e n hb hx=>lift b o e o (u.keep b o e n hb hx),λb o e n hb hx=>by
     obtain⟨sl,z⟩:=u.slot b o e n hb hx;exact⟨sl,lift b o e _ z⟩,u.free,λb o e hx=>by
     obtain⟨o',z⟩:=u.there b o e hx;exact⟨o',lift b o e _ z⟩,u.tups,u.frzs,u.tbls⟩
  have hCn:H' C=none:=I'.free
  have hok':HOk X.prog X.w H' h':=λb ob e=>by
   refine(I'.hok b ob e).HN (λc w' hc' q'=>(hsb.2 c ?_).trans q') (λ_ q=>q) λ_ _ q=>q
   rintro rfl
   rcases hc' with rfl | hc'
   ·rw[hCn]at e;cases e
   ·rw[hCn]at hc';cases hc'
  have I5:Inv X pins σ H' { s' with heap:=h' }:=I3.Ih (s':={ s' with heap:=h' }) (ch:=fp) I'.os u' hok' I'.bare λb hb=>⟨(f3 b hb).2.2.2.1,(f3 b hb).2.1,(f3 b hb).2.2.2.2.1,(f3 b hb).2.2.2.2.2⟩
  exact I5
 have loop:codeAny (model X.prog X.w) X.A (.compLoop (.ListComp elt [⟨tg,iter,ifs,0⟩] scope pos) 0 (.ref it) (.ref D) (compEnvC scope cl C X.env))
   (compPost (model X.prog X.w) X.A X.xe use Qf (.ref D) C) { s3 with heap:=h₁ }:=by
  refine qL (λn s'=> ∃i σ' ys H',Inv (br X scope cl N' C s3 H3 fp) pins σ' H' s'/\tn i s'.heap/\(∀b∈fp,H' b=none)/\W i n σ' ys H') ?_ m0 ⟨0,_,[],H3,I4,st4,fr3,w0⟩
  rintro n s5 ⟨i,σ5,ys,H5,I5,st5,fr5,w5⟩
  obtain⟨hDl,alt⟩:=turn i n σ5 ys H5 w5;rcases alt with⟨stop,qn⟩ | ⟨go,hlen,step⟩
  ·refine cq (T.done (br X scope cl N' C s3 H3 fp) rfl rfl rfl hc i pins s5 σ5 H5 _ I5 (stat fr5) st5 stop) λr s6 ⟨hr,I6⟩=> ?_
   subst hr;exact after H5 s6 σ5 I6 qn
  ·refine cq (T.item (br X scope cl N' C s3 H3 fp) rfl rfl rfl hc i pins s5 σ5 H5 _ I5 (stat fr5) st5 go) λr s6 ⟨u,hr,h6⟩=> ?_
   subst hr;refine cq h6 λ_ s7 hh_=> ?_
   obtain⟨x,H7,I7,r7,y7,st7,fr7⟩:=hh_
   have I7':=I7.pinned (stat fr7) (T.obj _ _ st7);refine cq (bG _ s7 σ5 H7 x u _ I7' r7 (step x H7 y7)) λ_ s8 hh_=> ?_
   obtain⟨σ8,H8,I8,q8⟩:=hh_;refine cq (bI _ s8 σ8 H8 _ I8 q8) λok s9 hh_=> ?_
   obtain⟨H9,I9,q9⟩:=hh_
   have again:∀{σx:St} {Hx:Hp} {sx:IR} {ys':List V},Inv (br X scope cl N' C s3 H3 fp) (pins++mi fp s7.heap) σx Hx sx->(∃m',m'<n/\W (i+1) m' σx ys' Hx) →
     ∃m,m<n/\∃i σ' ys H',Inv (br X scope cl N' C s3 H3 fp) pins σ' H' sx/\tn i sx.heap/\(∀b∈fp,H' b=none)/\W i m σ' ys H':=λ{σx Hx sx ys'} Ix nx=>by
    obtain⟨m',hm,wx⟩:=nx;refine⟨m',hm,i+1,σx,ys',Hx,Ix.HK,T.keep _ _ _ st7 λb hb o e=>(Ix.pin (b,o) (Jn _ (Jn _ (gO hb e)))).1,λb hb=> ?_,wx⟩
    obtain⟨o,e,d⟩:=T.obj _ _ st7 b hb;exact(Ix.pin (b,o) (Jn _ (Jn _ (gO hb e)))).2.1
   cases ok with
   | false=>
    rw[if_neg Jo]at q9 ⊢
    exact again I9 q9
   | true=>
    rw[if_pos rfl]at q9 ⊢;refine cq (bE _ s9 σ8 H9 _ I9 q9) λv s10 hh_=> ?_
    obtain⟨y,H10,I10,r10,hD10,q10⟩:=hh_;refine cq (oA _ s10 σ8 H10 (.ref D) [y] (.ref D) [v] (λ_ H'=>H'=upd H10 D (.lst (ys++ [y]))) I10 rfl (.cons r10 .nil) ⟨D,ys,y,rfl,rfl,hD10,hlen,rfl⟩) λ_ s11 hh_=> ?_
    obtain⟨_,H11,I11,_,e11⟩:=hh_;subst e11;exact again I11 q10
 exact codeAny_compStart_list loop (T.self _ 0 _ _ _ st4 loop)
theorem rZ {elt tg iter:Expr}{ifs:List Expr}{scope:L1}{pos:Pos}{N':List Str}{src:List (Option Nat)}{wi:TI}{g:TG}{tc:TT}{te:TE}
  (hc:X.calm=true) (S:LcScope X scope N' src) (hi:PI X tg iter wi)
  (block:∀cl C s₀ H₀ fp,PG (br X scope cl N' C s₀ H₀ fp) tg g/\we (br X scope cl N' C s₀ H₀ fp) ifs tc/\PE (br X scope cl N' C s₀ H₀ fp) elt te)
  (hs:autoParam (∀x,Jy iter X.env x=pure x) t_) :
  PE X (.ListComp elt [⟨tg,iter,ifs,0⟩] scope pos) (Df X.K wi src g tc te):=by
 intro pins s σ H Q I h;rw[eval_ListComp];exact vI (use:=none) hc S hi block hs I h λD C H' s' ⟨m,hn⟩ inv _ q=>⟨m,hn,λh' hsb=>⟨.ref D,H',inv h' hsb,rfl,q⟩⟩
theorem CK {elt tg iter:Expr}{ifs:List Expr}{scope:L1}{pos py spos:Pos}{N':List Str}{src:List (Option Nat)}{wi:TI}{g:TG}{tc:TT}{te:TE}{i:Nat}{y:Str}
  (hc:X.calm=true) (S:LcScope X scope N' src) (hi:PI X tg iter wi)
  (block:∀cl C s₀ H₀ fp,PG (br X scope cl N' C s₀ H₀ fp) tg g/\we (br X scope cl N' C s₀ H₀ fp) ifs tc/\PE (br X scope cl N' C s₀ H₀ fp) elt te)
  (hN:X.N.Nodup) (hiy:X.N[i]? =some y) (hy:Loc X.env.scope y) (hsw:J0 (.ListComp elt [⟨tg,iter,ifs,0⟩] scope pos) (some (.Name y py)) spos.line X.env=pure true)
  (hf:X.fn y=true\/X.env.scope.names.lookup y=some .local) (hs:autoParam (∀x,Jy iter X.env x=pure x) t_) :
  PS X (.Assign [.Name y py] (.ListComp elt [⟨tg,iter,ifs,0⟩] scope pos) spos) (x8 (Df X.K wi src g tc te) (zL i)):=by
 intro pins s σ H D I h;rw[exec_Assign_Name_used _ _ _ _ hsw];refine IH (wpAny_standAt (IH ?_))
 show wpAny (model X.prog X.w) X.A (do let _ <-Pg (.ListComp elt [⟨tg,iter,ifs,0⟩] scope pos) scope X.env _ (newList []) false (eval iter X.env) (some (assign (.Name y py) X.env))) _ _ s
 refine IH (cq (vI (use:=some (assign (.Name y py) X.env)) (Qf:=λ_ s'=>SP X pins D .next s') (Q:=λv H'=>D.nx (σ.set i (some v)) H') hc S hi block hs I h λL C H' s' ⟨m,hn⟩ inv ⟨c0,c1,c2,c3,c4⟩ q=> ?_) λ_ s' hq=>IS (IS hq))
 have I0:Inv X pins σ H' s':=inv s'.heap (Pn ..)
 show wpAny (model X.prog X.w) X.A (assign (.Name y py) X.env (.ref L)) _ _ s'
 refine Pz (n6 I0 hN hiy hy (v:=.ref L) rfl (λs2 I2 ⟨b,sb,hb⟩=> ?_) hf)
 have hbC:C≠b:=by
  rcases hb with z | z
  ·rw[z];exact c1
  ·exact λw=>c3 y b z w.symm
 refine⟨m,hn.sameBut sb hbC,λh' hsb=> ?_⟩
 exact⟨_,H',I2.turned (t':=s2.toks) (λb' o hb' e=>(hsb.2 b' hb').trans e) c0 c1 (.inr c2) c3 c4,q⟩
end
end L2
namespace Tr
open PySem PySem.Spec PyProof.Rows L2
def Fo (K:II)(c:Str):Addr:=match L6 K JF c with
 | some (some (.ref C))=>C
 | _=>0
def CT:T->Option Key
 | .int i=>some (.inl i)
 | .str x=>some (.inr x)
 | _=>none
def jJ:List T->Option (List Key)
 | [] =>some []
 | t::l=>match CT t,jJ l with
  | some k,some r=>some (k::r)
  | _,_=>none
def keyOf:T->Option (List Key)
 | .tup l=>jJ l
 | _=>none
inductive Rs (α:Type) where
 | ok (a:α) | err (c:Str) | bad
def Rs.bind {α β:Type}(x:Rs α)(f:α->Rs β):Rs β:=match x with
 | .ok a=>f a
 | .err c=> .err c
 | .bad=> .bad
instance:Monad Rs where
 pure:=Rs.ok
 bind:=Rs.bind
@[simp] theorem aG {α β:Type} (a:α) (f:α->Rs β):(Rs.ok a >>= f)=f a:=rfl
@[simp] theorem Hy {α:Type} (a:α):(pure a:Rs α)=Rs.ok a:=rfl
@[simp] theorem Hf {α β:Type} (f:α->Rs β):((Rs.bad:Rs α) >>= f)= .bad:=rfl
@[simp] theorem G2 {α β:Type} (c:Str) (f:α->Rs β):((Rs.err c:Rs α) >>= f)= .err c:=rfl
mutual
def Rep (K:II)(O:Ow)(H:Hp):T->V->Prop
 | .non,v=>v= .non
 | .bl b,v=>v= .bl b
 | .int i,v=>v= .int i
 | .str x,v=>v= .str x
 | .tup l,v=> ∃a vs,v= .ref a/\¬ O a/\H a=some (.tup vs)/\Reps K O H l vs
 | .lst l,v=> ∃a vs,v= .ref a/\¬ O a/\H a=some (.lst vs)/\Reps K O H l vs
 | .scr l,v=> ∃a,v= .ref a/\¬ O a/\SqL K H a (l.map V.int)
 | .dct ks ts,v=> ∃a kvs,v= .ref a/\¬ O a/\Rd H a (.dT kvs)/\ks.map keyOf=kvs.map (λp=>some p.1)/\Reps K O H ts (kvs.map (·.2))
 | .ob C ns ts,v=> ∃a dx fs,v= .ref a/\¬ O a/\H a=some (.ins (Fo K C) dx fs)/\fs.map (·.1)=ns/\Reps K O H ts (fs.map (·.2))
def Reps (K:II)(O:Ow)(H:Hp):List T->List V->Prop
 | [],vs=>vs= []
 | t::r,vs=> ∃v ws,vs=v::ws/\Rep K O H t v/\Reps K O H r ws
end
def SameO (P:Ow)(H H':Hp):Prop:=∀b o,H b=some o->¬ P b->H' b=some o
theorem SameO.of {P:Ow}{H H':Hp}(h:Same H H'):SameO P H H':=λb o e _=>h b o e
theorem Rd.Ig {P:Ow}{H H':Hp}{a:Addr}{u:HO}(h:SameO P H H')(n:¬ P a)(q:Rd H a u):Rd H' a u:=q.elim (λe=> .inl (h _ _ e n)) λ⟨o,e⟩=> .inr ⟨o,h _ _ e n⟩
theorem SqL.keep {K:II}{P:Ow}{H H':Hp}{a:Addr}{vs:List V}(h:SameO P H H')(n:¬ P a)(q:SqL K H a vs):SqL K H' a vs:=by
 rcases q with(q | ⟨o,q⟩) | q
 ·exact .inl (.inl (h _ _ q n))
 ·exact .inl (.inr ⟨o,h _ _ q n⟩)
 ·exact .inr q
mutual
theorem Rep.keep {K:II}{O P:Ow}{H H':Hp}(h:SameO P H H')(sub:∀a,P a->O a):∀{t:T} {v:V},Rep K O H t v->Rep K O H' t v
 | .non,_,r=>by unfold Rep at r ⊢;exact r
 | .bl _,_,r=>by unfold Rep at r ⊢;exact r
 | .int _,_,r=>by unfold Rep at r ⊢;exact r
 | .str _,_,r=>by unfold Rep at r ⊢;exact r
 | .tup l,_,r=>by
  unfold Rep at r ⊢;obtain⟨a,vs,e,n,q,z⟩:=r
  exact⟨a,vs,e,n,h _ _ q (λp=>n (sub a p)),Reps.keep h sub z⟩
 | .lst l,_,r=>by
  unfold Rep at r ⊢;obtain⟨a,vs,e,n,q,z⟩:=r
  exact⟨a,vs,e,n,h _ _ q (λp=>n (sub a p)),Reps.keep h sub z⟩
 | .scr l,_,r=>by
  unfold Rep at r ⊢;obtain⟨a,e,n,q⟩:=r
  exact⟨a,e,n,SqL.keep h (λp=>n (sub a p)) q⟩
 | .dct ks ts,_,r=>by
  unfold Rep at r ⊢;obtain⟨a,kvs,e,n,q,k,z⟩:=r
  exact⟨a,kvs,e,n,Rd.Ig h (λp=>n (sub a p)) q,k,Reps.keep h sub z⟩
 | .ob C ns ts,_,r=>by
  unfold Rep at r ⊢;obtain⟨a,dx,fs,e,n,q,k,z⟩:=r;exact⟨a,dx,fs,e,n,h _ _ q (λp=>n (sub a p)),k,Reps.keep h sub z⟩
theorem Reps.keep {K:II}{O P:Ow}{H H':Hp}(h:SameO P H H')(sub:∀a,P a->O a):∀{l:List T} {vs:List V},Reps K O H l vs->Reps K O H' l vs
 | [],_,r=>by unfold Reps at r ⊢;exact r
 | t::l,_,r=>by
  unfold Reps at r ⊢;obtain⟨v,ws,e,p,q⟩:=r;exact⟨v,ws,e,Rep.keep h sub p,Reps.keep h sub q⟩
end
mutual
theorem Rep.less {K:II}{O O':Ow}{H:Hp}(sub:∀a,O' a->O a):∀{t:T} {v:V},Rep K O H t v->Rep K O' H t v
 | .non,_,r=>by unfold Rep at r ⊢;exact r
 | .bl _,_,r=>by unfold Rep at r ⊢;exact r
 | .int _,_,r=>by unfold Rep at r ⊢;exact r
 | .str _,_,r=>by unfold Rep at r ⊢;exact r
 | .tup l,_,r=>by
  unfold Rep at r ⊢;obtain⟨a,vs,e,n,q,z⟩:=r
  exact⟨a,vs,e,λp=>n (sub a p),q,Reps.less sub z⟩
 | .lst l,_,r=>by
  unfold Rep at r ⊢;obtain⟨a,vs,e,n,q,z⟩:=r
  exact⟨a,vs,e,λp=>n (sub a p),q,Reps.less sub z⟩
 | .scr l,_,r=>by
  unfold Rep at r ⊢;obtain⟨a,e,n,z⟩:=r
  exact⟨a,e,λp=>n (sub a p),z⟩
 | .dct ks ts,_,r=>by
  unfold Rep at r ⊢;obtain⟨a,kvs,e,n,q,k,z⟩:=r
  exact⟨a,kvs,e,λp=>n (sub a p),q,k,Reps.less sub z⟩
 | .ob C ns ts,_,r=>by
  unfold Rep at r ⊢;obtain⟨a,dx,fs,e,n,q,k,z⟩:=r;exact⟨a,dx,fs,e,λp=>n (sub a p),q,k,Reps.less sub z⟩
theorem Reps.less {K:II}{O O':Ow}{H:Hp}(sub:∀a,O' a->O a):∀{l:List T} {vs:List V},Reps K O H l vs->Reps K O' H l vs
 | [],_,r=>by unfold Reps at r ⊢;exact r
 | t::l,_,r=>by
  unfold Reps at r ⊢;obtain⟨v,ws,e,p,q⟩:=r;exact⟨v,ws,e,Rep.less sub p,Reps.less sub q⟩
end
section
variable {K:II}{O:Ow}{H H':Hp}{t:T}{v:V}{l:List T}{vs:List V}
theorem Rep.same (h:Same H H')(r:Rep K O H t v):Rep K O H' t v:=Rep.keep (P:=λ_=>False) (SameO.of h) (λ_ z=>z.elim) r
theorem Reps.same (h:Same H H')(r:Reps K O H l vs):Reps K O H' l vs:=Reps.keep (P:=λ_=>False) (SameO.of h) (λ_ z=>z.elim) r
theorem Rep.Ib:Rep K O H .non .non:=by unfold Rep;rfl
theorem Rep.bl_ (b:Bool):Rep K O H (.bl b) (.bl b):=by unfold Rep;rfl
theorem Rep.Gc (i:Int):Rep K O H (.int i) (.int i):=by unfold Rep;rfl
theorem Rep.IB (x:Str):Rep K O H (.str x) (.str x):=by unfold Rep;rfl
theorem Rep.Fk:Rep K O H (.tup l) v↔ ∃a vs,v= .ref a/\¬ O a/\H a=some (.tup vs)/\Reps K O H l vs:=by unfold Rep;exact Mt
theorem Rep.Do:Rep K O H (.lst l) v↔ ∃a vs,v= .ref a/\¬ O a/\H a=some (.lst vs)/\Reps K O H l vs:=by unfold Rep;exact Mt
theorem Rep.GE {ks ts:List T}:Rep K O H (.dct ks ts) v↔ ∃a kvs,v= .ref a/\¬ O a/\Rd H a (.dT kvs)/\ks.map keyOf=kvs.map (λp=>some p.1)/\Reps K O H ts (kvs.map (·.2)):=by unfold Rep;exact Mt
theorem Rep.Ia {C:Str}{ns:List Str}{ts:List T}:Rep K O H (.ob C ns ts) v↔ ∃a dx fs,v= .ref a/\¬ O a/\H a=some (.ins (Fo K C) dx fs)/\fs.map (·.1)=ns/\Reps K O H ts (fs.map (·.2)):=by unfold Rep;exact Mt
theorem Rep.Da {i:Int}:Rep K O H (.int i) v↔v= .int i:=by unfold Rep;exact Mt
theorem Rep.FB {b:Bool}:Rep K O H (.bl b) v↔v= .bl b:=by unfold Rep;exact Mt
theorem Rep.GM {b:Str}:Rep K O H (.str b) v↔v= .str b:=by unfold Rep;exact Mt
theorem Rep.HI:Rep K O H .non v↔v= .non:=by unfold Rep;exact Mt
theorem Reps.nil_:Reps K O H [] []:=by unfold Reps;rfl
theorem Reps.FS (r:Rep K O H t v)(q:Reps K O H l vs):Reps K O H (t::l) (v::vs):=by unfold Reps;exact⟨v,vs,rfl,r,q⟩
theorem Reps.AC:Reps K O H [] vs↔vs= []:=by unfold Reps;exact Mt
theorem Reps.me:Reps K O H (t::l) vs↔ ∃v ws,vs=v::ws/\Rep K O H t v/\Reps K O H l ws:=by
 constructor
 ·intro h;unfold Reps at h;exact h
 ·intro h;unfold Reps;exact h
end
section
variable {K:II}{O:Ow}{H H':Hp}
theorem Reps.length:∀{l:List T} {vs:List V},Reps K O H l vs->l.length=vs.length
 | [],vs,r=>by rw[Reps.AC.mp r];rfl
 | t::l,vs,r=>by
  obtain⟨v,ws,rfl,_,q⟩:=Reps.me.mp r;simp[q.length]
theorem Reps.get:∀{l:List T} {vs:List V} {i:Nat} {t:T},Reps K O H l vs->l[i]? =some t->∃v,vs[i]? =some v/\Rep K O H t v
 | [],_,_,_,_,e=>by simp at e
 | t::l,vs,i,u,r,e=>by
  obtain⟨v,ws,rfl,p,q⟩:=Reps.me.mp r
  cases i with
  | zero=>simp at e;subst e;exact⟨v,rfl,p⟩
  | succ i=>
   obtain⟨z,e1,e2⟩:=q.get (i:=i) (t:=u) (by simpa using e)
   exact⟨z,by simpa using e1,e2⟩
theorem Reps.append:∀{l m:List T} {vs ws:List V},Reps K O H l vs->Reps K O H m ws->Reps K O H (l++m) (vs++ws)
 | [],_,vs,_,r,s=>by rw[Reps.AC.mp r];exact s
 | t::l,m,vs,ws,r,s=>by
  obtain⟨v,us,rfl,p,q⟩:=Reps.me.mp r;exact Reps.FS p (q.append s)
theorem Reps.take:∀{l:List T} {vs:List V} (n:Nat),Reps K O H l vs->Reps K O H (l.take n) (vs.take n)
 | _,_,0,_=>Reps.nil_
 | [],vs,n+1,r=>by rw[Reps.AC.mp r];exact Reps.nil_
 | t::l,vs,n+1,r=>by
  obtain⟨v,us,rfl,p,q⟩:=Reps.me.mp r;exact Reps.FS p (q.take n)
theorem Reps.drop:∀{l:List T} {vs:List V} (n:Nat),Reps K O H l vs->Reps K O H (l.drop n) (vs.drop n)
 | _,_,0,r=>r
 | [],vs,n+1,r=>by rw[Reps.AC.mp r];exact Reps.nil_
 | t::l,vs,n+1,r=>by
  obtain⟨v,us,rfl,p,q⟩:=Reps.me.mp r;exact q.drop n
theorem Reps.ints:∀{ns:List Int},Reps K O H (ns.map T.int) (ns.map V.int)
 | [] =>Reps.nil_
 | n::r=>Reps.FS (Rep.Gc n) Reps.ints
end
def RowsR (K:II)(O:Ow)(H:Hp):List (List T×List T)->List Addr->Prop
 | [],as=>as= []
 | r::rs,as=> ∃b bs kvs,as=b::bs/\H b=some (.dT kvs)/\r.1.map keyOf=kvs.map (λp=>some p.1)/\Reps K O H r.2 (kvs.map (·.2))/\RowsR K O H rs bs
def LsR (K:II)(O:Ow)(H:Hp):List (List T)->List Addr->Prop
 | [],as=>as= []
 | l::ls,as=> ∃b bs vs,as=b::bs/\H b=some (.lst vs)/\Reps K O H l vs/\LsR K O H ls bs
def ORep (K:II)(O M:Ow)(H:Hp):OT->V->Prop
 | .lst l,v=> ∃a vs,v= .ref a/\(∀b,M b↔b=a)/\H a=some (.lst vs)/\Reps K O H l vs
 | .dct ks ts,v=> ∃a kvs,v= .ref a/\(∀b,M b↔b=a)/\H a=some (.dT kvs)/\ks.map keyOf=kvs.map (λp=>some p.1)/\Reps K O H ts (kvs.map (·.2))
 | .dd ks rows,v=> ∃a kvs as,v= .ref a/\(∀b,M b↔b=a\/b∈as)/\a∉as/\as.Nodup/\H a=some (.dT kvs)/\ks.map keyOf=kvs.map (λp=>some p.1)/\kvs.map (·.2)=as.map V.ref/\RowsR K O H rows as
 | .ob C ns ls,v=> ∃a dx as,v= .ref a/\(∀b,M b↔b=a\/b=dx\/b∈as)/\(a∉as/\dx∉as/\dx≠a/\as.Nodup)/\H a=some (.ins (Fo K C) dx (ns.zip (as.map V.ref)))/\H dx=some (.own a)/\ns.length=as.length/\ns.Nodup/\LsR K O H ls as
inductive Sl where
 | em | va (t:T) | ow (o:OT)
abbrev En:=List Sl
def Mn.u (M:Mn):Ow:=λa=> ∃i,M i a
def isO:HO->Bool
 | .ins _ _ _=>true
 | .own _=>true
 | _=>false
def Mtb (H:Hp)(a:Addr):Prop:=(∃vs,H a=some (.lst vs))\/(∃kvs,H a=some (.dT kvs))\/∃o,H a=some o/\isO o=true
theorem Mtb.some {H:Hp}{a:Addr}(h:Mtb H a):∃o,H a=some o:=by
 rcases h with⟨_,e⟩ | ⟨_,e⟩ | ⟨_,e,_⟩ <;> exact⟨_,e⟩
theorem Mtb.at {H H':Hp}{a:Addr}(s:∀o,H a=JP o->H' a=JP o)(h:Mtb H a):Mtb H' a:=by
 rcases h with⟨vs,e⟩ | ⟨k,e⟩ | ⟨o,e,q⟩
 ·exact .inl ⟨vs,s _ e⟩
 ·exact .inr (.inl ⟨k,s _ e⟩)
 ·exact .inr (.inr ⟨o,s _ e,q⟩)
theorem Mtb.same {H H':Hp}(s:Same H H'){a:Addr}(h:Mtb H a):Mtb H' a:=h.at λo e=>s a o e
structure EnvM (K:II)(O:Ow)(M:Mn)(H:Hp)(Z:En)(σ:L2.St):Prop where
 len:Z.length=σ.length
 val:∀(i:Nat) (t:T),Z[i]? =some (.va t)->∃v,σ[i]? =some (some v)/\Rep K O H t v
 own:∀(i:Nat) (o:OT),Z[i]? =some (.ow o)->∃v,σ[i]? =some (some v)/\ORep K O (M i) H o v
 sub:∀(i:Nat) (a:Addr),M i a->O a
 dis:∀(i j:Nat) (a:Addr),M i a->M j a->i=j
 trk:∀(a:Addr),O a->Mtb H a
theorem RowsR.same {K:II}{O:Ow}{H H':Hp}(h:Same H H'):∀{rs:List (List T×List T)} {as:List Addr},RowsR K O H rs as->RowsR K O H' rs as
 | [],_,r=>r
 | _::_,_,⟨b,bs,kvs,e1,e2,e3,e4,e5⟩=>⟨b,bs,kvs,e1,h _ _ e2,e3,e4.same h,e5.same h⟩
theorem LsR.same {K:II}{O:Ow}{H H':Hp}(h:Same H H'):∀{ls:List (List T)} {as:List Addr},LsR K O H ls as->LsR K O H' ls as
 | [],_,r=>r
 | _::_,_,⟨b,bs,vs,e1,e2,e3,e4⟩=>⟨b,bs,vs,e1,h _ _ e2,e3.same h,e4.same h⟩
theorem ORep.same {K:II}{O M:Ow}{H H':Hp}(h:Same H H'){o:OT}{v:V}(r:ORep K O M H o v):ORep K O M H' o v:=by
 cases o with
 | lst l=>obtain⟨a,vs,e1,e2,e3,e4⟩:=r;exact⟨a,vs,e1,e2,h _ _ e3,e4.same h⟩
 | dct ks ts=>obtain⟨a,kvs,e1,e2,e3,e4,e5⟩:=r;exact⟨a,kvs,e1,e2,h _ _ e3,e4,e5.same h⟩
 | dd ks rows=>obtain⟨a,kvs,as,e1,e2,e3,e4,e5,e6,e7,e8⟩:=r;exact⟨a,kvs,as,e1,e2,e3,e4,h _ _ e5,e6,e7,e8.same h⟩
 | ob C ns ls=>obtain⟨a,dx,as,e1,e2,e3,e4,e5,e6,e7,e8⟩:=r;exact⟨a,dx,as,e1,e2,e3,h _ _ e4,h _ _ e5,e6,e7,e8.same h⟩
theorem EnvM.same {K:II}{O:Ow}{M:Mn}{H H':Hp}{Z:En}{σ:L2.St}(h:Same H H')(e:EnvM K O M H Z σ):EnvM K O M H' Z σ where
 len:=e.len
 val:=λi t q=>let ⟨v,e1,e2⟩:=e.val i t q;⟨v,e1,e2.same h⟩
 own:=λi o q=>let ⟨v,e1,e2⟩:=e.own i o q;⟨v,e1,e2.same h⟩
 sub:=e.sub
 dis:=e.dis
 trk:=λa q=>(e.trk a q).same h
def EnvO (K:II)(O:Ow)(H:Hp)(Z:En)(σ:L2.St):Prop:=∃M,EnvM K O M H Z σ
section
variable {K:II}{O:Ow}{H H':Hp}{Z:En}{σ:L2.St}
theorem EnvO.val (e:EnvO K O H Z σ)(i:Nat)(t:T)(q:Z[i]? =some (.va t)):∃v,σ[i]? =some (some v)/\Rep K O H t v:=e.elim λ_ e=>e.val i t q
theorem EnvO.mtb (e:EnvO K O H Z σ):∀a,O a->Mtb H a:=e.elim λ_ e=>e.trk
theorem EnvO.trk (e:EnvO K O H Z σ)(a:Addr)(z:O a):∃o,H a=some o:=(e.mtb a z).some
theorem EnvO.same (h:Same H H')(e:EnvO K O H Z σ):EnvO K O H' Z σ:=e.elim λM e=>⟨M,e.same h⟩
theorem EnvO.fresh (e:EnvO K O H Z σ){p:Addr}(h:H p=none):¬ O p:=λz=>by
 obtain⟨o,q⟩:=e.trk p z;rw[h]at q;cases q
end
def HG (h:Heap)(C e:Addr):Option Addr->Prop
 | none=> ∃oe vs,h.get? e=some oe/\oe.cls= .ref C/\oe.data= .fields vs/\vs[1]? =some .none
 | some T=>T≠e/\∃oe vs,h.get? e=some oe/\oe.cls= .ref C/\oe.data= .fields vs/\vs[1]? =some (.ref T)/\∃oT ts,h.get? T=some oT/\oT.data= .fields ts/\ts[3]? =some .none
def RzP (X:Cx)(pins:List (Addr×Obj))(P:Ow)(H:Hp)(c:Str)(ev:IQ)(s':IR):Prop:=
 ∃e T C σ' H',ev= .ref e/\X.mg c=some (.ref C)/\Inv X pins σ' H' s'/\SameO P H H'/\H' e=none/\(X.ex= []->X.s₀.heap.get? e=none)/\HG s'.heap C e T/\(∀t,T=some t->H' t=none/\(X.ex= []->X.s₀.heap.get? t=none))/\∀p∈X.pn++pins,p.1≠e/\T≠some p.1
def Nw (K:II)(H:Hp):Ow:=λa=>H a=none/\K.lookup a=none
theorem gM {K:II}{P:Ow}{H H1:Hp}(h:SameO P H H1){a:Addr}(n:Nw K H1 a):P a\/Nw K H a:=by
 by_cases hp:P a
 ·exact .inl hp
 ·refine .inr ⟨?_,n.2⟩
  cases q:H a with
  | none=>rfl
  | some o=>have:=h a o q hp;rw[n.1]at this;cases this
theorem SameO.trans {K:II}{P P1:Ow}{H H1 H2:Hp}(h:SameO P H H1)(h1:SameO P1 H1 H2)(sub:∀a,P1 a->P a\/Nw K H a):SameO P H H2:=λb o e n=>
 h1 b o (h b o e n) λz=>(sub b z).elim n λw=>by rw[w.1]at e;cases e
def XA (X:Cx)(P:Ow)(H:Hp)(c:Str):Prop:=∀pins ev s',RzP X pins P H c ev s'->X.xe ev s'
theorem XA.later {X:Cx}{P P1:Ow}{H H1:Hp}{c:Str}(h:XA X P H c)(s:SameO P H H1)(sub:∀a,P1 a->P a\/Nw X.K H a):XA X P1 H1 c:=λpins ev s' ⟨e,T,C,σ',H',a1,a2,a3,a4,a5⟩=>
 h pins ev s' ⟨e,T,C,σ',H',a1,a2,a3,s.trans a4 sub,a5⟩
abbrev uD:Ow:=λ_=>False
def Post {α:Type}(X:Cx)(H:Hp)(r:Rs α)(k:α->Hp->Prop):Prop:=match r with
 | .ok t=> ∀H',Same H H'->k t H'
 | .err c=>XA X uD H c
 | .bad=>False
theorem Post.mono {α:Type}{X:Cx}{H:Hp}{r:Rs α}{k k':α->Hp->Prop}(h:Post X H r k)(f:∀t H',Same H H'->k t H'->k' t H'):Post X H r k':=by
 cases r with
 | ok t=>exact λH' s=>f t H' s (h H' s)
 | err c=>exact h
 | bad=>exact h
theorem Post.later {α:Type}{X:Cx}{H H1:Hp}{r:Rs α}{k:α->Hp->Prop}(h:Post X H r k)(s:Same H H1):Post X H1 r k:=by
 cases r with
 | ok t=>exact λH' s'=>h H' (s.trans s')
 | err c=>exact XA.later h (SameO.of s) λ_ z=>z.elim
 | bad=>exact h
theorem Post.bind {α β:Type}{X:Cx}{H:Hp}{r:Rs α}{f:α->Rs β}{k:β->Hp->Prop}(h:Post X H (r >>= f) k):Post X H r λt H'=>Post X H' (f t) k:=by
 cases r with
 | ok t=>exact λH' s=>Post.later h s
 | err c=>exact h
 | bad=>exact h
def tP (X:Cx)(f:En->Rs T):TE:=λσ H Q=> ∃Z O,EnvO X.K O H Z σ/\Post X H (f Z) λt H'=> ∀v,Rep X.K O H' t v->Q v H'
def tPA (X:Cx)(f:En->Rs (List T)):TA:=λσ H Q=> ∃Z O,EnvO X.K O H Z σ/\Post X H (f Z) λt H'=> ∀v,Reps X.K O H' t v->Q v H'
def xK (X:Cx)(f:En->Rs Bool):TT:=λσ H Q=> ∃Z O,EnvO X.K O H Z σ/\Post X H (f Z) λb H'=>Q b H'
abbrev cy (X:Cx)(e:Expr)(f:En->Rs T):Prop:=PE X e (tP X f)
abbrev qT (X:Cx)(e:List Expr)(f:En->Rs (List T)):Prop:=PA X e (tPA X f)
abbrev tX (X:Cx)(e:Expr)(f:En->Rs Bool):Prop:=PT X e (xK X f)
theorem PE.imp {X:Cx}{e:Expr}{t t':TE}(h:PE X e t)(w:∀σ H Q,t' σ H Q->t σ H Q):PE X e t':=λpins s σ H Q I q=>h pins s σ H Q I (w σ H Q q)
theorem PA.imp {X:Cx}{e:List Expr}{t t':TA}(h:PA X e t)(w:∀σ H Q,t' σ H Q->t σ H Q):PA X e t':=λpos pins s σ H Q I q=>h pos pins s σ H Q I (w σ H Q q)
theorem PT.imp {X:Cx}{e:Expr}{t t':TT}(h:PT X e t)(w:∀σ H Q,t' σ H Q->t σ H Q):PT X e t':=λpins s σ H Q I q=>h pins s σ H Q I (w σ H Q q)
theorem PS.imp {X:Cx}{e:Stmt}{t t':TS}(h:PS X e t)(w:∀D σ H,t' D σ H->t D σ H):PS X e t':=λpins s σ H D I q=>h pins s σ H D I (w D σ H q)
theorem PSs.imp {X:Cx}{e:List Stmt}{t t':TS}(h:PSs X e t)(w:∀D σ H,t' D σ H->t D σ H):PSs X e t':=λpins s σ H D I q=>h pins s σ H D I (w D σ H q)
section
variable {X:Cx}
theorem aZ {σ:L2.St}{H:Hp}{Z:En}{O:Ow}{α:Type}{f:En->Rs T}{k:T->Rs α}{Q:α->Hp->Prop}(E:EnvO X.K O H Z σ)(h:Post X H (f Z >>= k) Q) :
  tP X f σ H λv H'=> ∃t,Rep X.K O H' t v/\Same H H'/\EnvO X.K O H' Z σ/\Post X H' (k t) Q:=
 ⟨Z,O,E,Post.mono h.bind λt H' s q v r=>⟨t,r,s,E.same s,q⟩⟩
theorem eQ {σ:L2.St}{H:Hp}{Z:En}{O:Ow}{α:Type}{f:En->Rs (List T)}{k:List T->Rs α}{Q:α->Hp->Prop}(E:EnvO X.K O H Z σ)(h:Post X H (f Z >>= k) Q) :
  tPA X f σ H λv H'=> ∃t,Reps X.K O H' t v/\Same H H'/\EnvO X.K O H' Z σ/\Post X H' (k t) Q:=
 ⟨Z,O,E,Post.mono h.bind λt H' s q v r=>⟨t,r,s,E.same s,q⟩⟩
theorem jS {σ:L2.St}{H:Hp}{Z:En}{O:Ow}{α:Type}{f:En->Rs Bool}{k:Bool->Rs α}{Q:α->Hp->Prop}(E:EnvO X.K O H Z σ)(h:Post X H (f Z >>= k) Q) :
  xK X f σ H λb H'=>Same H H'/\EnvO X.K O H' Z σ/\Post X H' (k b) Q:=
 ⟨Z,O,E,Post.mono h.bind λt H' s q=>⟨s,E.same s,q⟩⟩
noncomputable def vr (i:Nat)(Z:En):Rs T:=match Z[i]? with
 | some (.va t)=> .ok t
 | _=> .bad
def cn (t:T)(_:En):Rs T:=.ok t
theorem F8 (i:Nat){x:Str}{pos:Pos}(hN:X.N[i]? =some x:=by rfl)(hv:autoParam (tW X.env.scope x) u_)(hd:autoParam ((x == ("__debug__" : Str))=false) s_)
  (hcd:autoParam ((x == ("__classdict__" : Str))=false) s_):cy X (.Name x pos) (vr i):=PE.imp (jC hN hv hd hcd) λσ H Q hh_=>by
 obtain⟨Z,O,E,h⟩:=hh_;unfold vr at h
 split at h
 ·rename_i t e
  obtain⟨v,e1,e2⟩:=E.val i t e;exact⟨v,e1,h H (Same.refl H) v e2⟩
 ·exact h.elim
theorem Gh {i j pos}:cy X (.Constant (.int i) j pos) (cn (.int i)):=PE.imp Eb λσ H Q ⟨Z,O,E,h⟩=>h H (Same.refl H) _ (Rep.Gc i)
theorem q_bl {i j pos}:cy X (.Constant (.bool i) j pos) (cn (.bl i)):=PE.imp Gv λσ H Q ⟨Z,O,E,h⟩=>h H (Same.refl H) _ (Rep.bl_ i)
theorem Gd {j pos}:cy X (.Constant .none j pos) (cn .non):=PE.imp yG λσ H Q ⟨Z,O,E,h⟩=>h H (Same.refl H) _ Rep.Ib
theorem DP {x:Str}{i:Int}{u:IQ}{pos:Pos}(hm:X.mg x=some u)(r:RelV (.int i) u)(hg:Gl X x:=by rfl)(hd:autoParam ((x == ("__debug__" : Str))=false) s_):cy X (.Name x pos) (cn (.int i)):=
 PE.imp (BF hg hm r hd) λσ H Q ⟨Z,O,E,h⟩=>h H (Same.refl H) _ (Rep.Gc i)
def ai (_:En):Rs (List T):=.ok []
def af (f:En->Rs T)(g:En->Rs (List T))(Z:En):Rs (List T):=do
 let t <-f Z
 let r <-g Z
 .ok (t::r)
theorem DN:qT X [] ai:=PA.imp iz λσ H Q ⟨Z,O,E,h⟩=>h H (Same.refl H) _ Reps.nil_
theorem Bo {e:Expr}{es:List Expr}{f:En->Rs T}{g:En->Rs (List T)}(he:cy X e f)(hr:qT X es g)(hs:Jj (e::es) X.env=(false,eval e X.env)::Jj es X.env:=by rfl):qT X (e::es) (af f g):=by
 intro pos pins s σ H Q I h;obtain⟨Z,O,E,h⟩:=h;refine dX he hr hs pos pins s σ H Q I ?_
 obtain⟨Z1,O1,E1,h1⟩:=aZ E h;refine⟨Z1,O1,E1,Post.mono h1 λt H' s q v r=> ?_⟩
 obtain⟨t',r',s',E',q'⟩:=q v r;refine⟨Z,O,E',Post.mono q'.bind λts H2 s2 q2 vs rs=> ?_⟩
 exact q2 H2 (Same.refl H2) _ (Reps.FS (r'.same s2) rs)
end
section
variable {X:Cx}
def jt (l:List T):Rs T:=if l.length<=sizeLine then .ok (.tup l)else .bad
def ju (l:List T):Rs T:=if l.length<=sizeLine then .ok (.lst l)else .bad
def cp (f:En->Rs (List T))(Z:En):Rs T:=f Z >>= jt
def cN (f:En->Rs (List T))(Z:En):Rs T:=f Z >>= ju
theorem aS {H:Hp}{p:Addr}(h:H p=none)(o:HO):Same H (upd H p o):=λb u q=>by rw[aF (bX q h)];exact q
theorem gD {K:II}{O:Ow}{H:Hp}{p:Addr}{l:List T}{vs:List V}(h:H p=none)(n:¬ O p)(r:Reps K O H l vs):Rep K O (upd H p (.tup vs)) (.tup l) (.ref p):=
 Rep.Fk.mpr ⟨p,vs,rfl,n,aH,r.same (aS h _)⟩
theorem jW {K:II}{O:Ow}{H:Hp}{p:Addr}{l:List T}{vs:List V}(h:H p=none)(n:¬ O p)(r:Reps K O H l vs):Rep K O (upd H p (.lst vs)) (.lst l) (.ref p):=
 Rep.Do.mpr ⟨p,vs,rfl,n,aH,r.same (aS h _)⟩
theorem F9 {es:List Expr}{x1:Nat}{pos:Pos}{f:En->Rs (List T)}(h:qT X es f):cy X (.Tuple es x1 pos) (cp f):=by
 intro pins s σ H Q I ⟨Z,O,E,hq⟩;refine uv h pins s σ H Q I ?_
 obtain⟨Z1,O1,E1,h1⟩:=eQ E hq;refine⟨Z1,O1,E1,Post.mono h1 λts H1 s1 q vs r=> ?_⟩
 obtain⟨t',r',s',E',q'⟩:=q vs r;unfold jt at q'
 split at q'
 ·rename_i hz
  refine⟨by rw[<-r'.length];exact hz,λp hp=> ?_⟩
  exact q' _ (aS hp _) _ (gD hp (E'.fresh hp) r')
 ·exact q'.elim
theorem Gf {es:List Expr}{pos:Pos}{f:En->Rs (List T)}(h:qT X es f):cy X (.List es pos) (cN f):=by
 intro pins s σ H Q I ⟨Z,O,E,hq⟩;refine Ea h pins s σ H Q I ?_
 obtain⟨Z1,O1,E1,h1⟩:=eQ E hq;refine⟨Z1,O1,E1,Post.mono h1 λts H1 s1 q vs r=> ?_⟩
 obtain⟨t',r',s',E',q'⟩:=q vs r;unfold ju at q'
 split at q'
 ·rename_i hz
  refine⟨by rw[<-r'.length];exact hz,λp hp=> ?_⟩
  exact q' _ (aS hp _) _ (jW hp (E'.fresh hp) r')
 ·exact q'.elim
def OpT (X:Cx)(f:IQ->IQ->Sem IQ)(g:T->T->Rs T):Prop:=
 ∀(pins:List (Addr×Obj)) (s:IR) (σ:L2.St) (H:Hp) (O:Ow) (x y:T) (vx vy:V) (ux uy:IQ) (Q:VK),Inv X pins σ H s->(∀p,H p=none->¬ O p)->Rep X.K O H x vx->Rep X.K O H y vy->RelV vx ux->RelV vy uy →
  Post X H (g x y) (λt H'=> ∀v,Rep X.K O H' t v->Q v H')->wpAny (model X.prog X.w) X.A (f ux uy) (EP X pins σ Q) X.xe s
def o2 (g:T->T->Rs T)(fa fb:En->Rs T)(Z:En):Rs T:=do
 let x <-fa Z
 let y <-fb Z
 g x y
variable {a b c:Expr}{fa fb fc:En->Rs T}{pos:Pos}
theorem Gk {op:Operator}{g:T->T->Rs T}(ho:OpT X (KL op) g)(ha:cy X a fa)(hb:cy X b fb):cy X (.BinOp a op b pos) (o2 g fa fb):=by
 intro pins s σ H Q I ⟨Z,O,E,hq⟩
 have h1:=aZ E hq;refine wpAny_BinOp (cq (ha pins s σ H _ I h1) λv s1 hh_=> ?_)
 obtain⟨x,H1,I1,r1,t,rt,s',E',q1⟩:=hh_
 have h2:=aZ (f:=fb) E' q1;refine cq (hb pins s1 σ H1 _ I1 h2) λu s2 hh_=> ?_
 obtain⟨y,H2,I2,r2,t2,rt2,s'',E'',q2⟩:=hh_;exact ho pins s2 σ H2 O t t2 x y v u Q I2 (λp=>E''.fresh) (rt.same s'') rt2 r1 r2 q2
theorem Gj {op:CmpOp}{g:T->T->Rs T}(ho:OpT X (J6 op) g)(ha:cy X a fa)(hb:cy X b fb)(hm:NN op b=false:=by rfl):cy X (.Compare a [op] [b] pos) (o2 g fa fb):=by
 intro pins s σ H Q I ⟨Z,O,E,hq⟩
 have h1:=aZ E hq;refine wpAny_Compare1 (cq (ha pins s σ H _ I h1) λv s1 ⟨x,H1,I1,r1,t,rt,s',E',q1⟩=> ?_) hm
 have h2:=aZ (f:=fb) E' q1;refine cq (hb pins s1 σ H1 _ I1 h2) λu s2 hh_=> ?_
 obtain⟨y,H2,I2,r2,t2,rt2,s'',E'',q2⟩:=hh_;exact ho pins s2 σ H2 O t t2 x y v u Q I2 (λp=>E''.fresh) (rt.same s'') rt2 r1 r2 q2
theorem OpT.of {f:IQ->IQ->Sem IQ}{r:R2}(h:o6 X f r){g:T->T->Rs T}
  (w:∀(H:Hp) (O:Ow) (x y:T) (vx vy:V) (Q:VK),(∀p,H p=none->¬ O p)->Rep X.K O H x vx->Rep X.K O H y vy->Post X H (g x y) (λt H'=> ∀v,Rep X.K O H' t v->Q v H')->r vx vy H Q):OpT X f g:=
 λpins s σ H O x y vx vy ux uy Q I hf rx ry r1 r2 hp=>h pins s σ H vx vy ux uy Q I r1 r2 (w H O x y vx vy Q hf rx ry hp)
def fw:T->T->Rs T
 | .int i,.int j=> .ok (.int (i - j))
 | _,_=> .bad
theorem fI:OpT X (KL .Sub) fw:=OpT.of Ef λH O x y vx vy Q hf rx ry hp=>by
 unfold fw at hp
 split at hp
 ·exact⟨_,_,Rep.Da.mp rx,Rep.Da.mp ry,hp H (Same.refl H) _ (Rep.Gc _)⟩
 ·exact hp.elim
def kc:T->T->Rs T
 | .int i,.int j=>if 0<j/\j<1073741824 then .ok (.int (i / j))else .bad
 | _,_=> .bad
def j4:T->T->Rs T
 | .int i,.int j=>if 0<j then .ok (.int (i % j))else .bad
 | _,_=> .bad
theorem lK:OpT X (KL .FloorDiv) kc:=OpT.of BK λH O x y vx vy Q hf rx ry hp=>by
 unfold kc at hp
 split at hp
 ·split at hp
  ·rename_i h
   exact⟨_,_,Rep.Da.mp rx,Rep.Da.mp ry,h,hp H (Same.refl H) _ (Rep.Gc _)⟩
  ·exact hp.elim
 ·exact hp.elim
theorem jE:OpT X (KL .Mod) j4:=OpT.of Ej λH O x y vx vy Q hf rx ry hp=>by
 unfold j4 at hp
 split at hp
 ·split at hp
  ·rename_i h
   exact⟨_,_,Rep.Da.mp rx,Rep.Da.mp ry,h,hp H (Same.refl H) _ (Rep.Gc _)⟩
  ·exact hp.elim
 ·exact hp.elim
theorem yO:o6 X (KL .Add) (λx y H Q=> ∃a b ys,x= .ref a/\y= .ref b/\SqT X.K H a []/\SqT X.K H b ys/\Q (.ref b) H):=by
 intro pins s σ H x y v u Q I rx ry h;obtain⟨a,b,ys,rfl,rfl,ha,hb,q⟩:=h;cases rx;cases ry;obtain⟨its,r1,p1,_⟩:=I.tuple ha;obtain⟨its2,r2,p2,_⟩:=I.tuple hb;obtain⟨⟨cls,dd,data,sl⟩,ho,hc,n,hd⟩:=id p1;obtain⟨⟨cls2,dd2,data2,sl2⟩,ho2,hc2,n2,hd2⟩:=id p2;simp only at hc hd hc2 hd2;subst hc hd hc2 hd2
 have e:its= []:=by cases r1;rfl
 subst e;exact HT_concat0 ho ho2 ⟨.ref b,H,I,rfl,q⟩
where
 HT_concat0 {prog:Jp} {w:J2} {A:JO} {E:IQ->IR->Prop} {s:IR} {t b:Addr} {ws:Array IQ} {n n2:Nat} {dd dd2:Option Addr} {sl sl2:Array (Option IQ)} {Q:IQ->IR->Prop}
   (ho:s.heap.get? t=some { cls:=.type "tuple",dict:=dd,data:=.seq (([]:List IQ).toArray) n,slots:=sl }) (ho2:s.heap.get? b=some { cls:=.type "tuple",dict:=dd2,data:=.seq ws n2,slots:=sl2 }) (h:Q (.ref b) s) :
   wpAny (model prog w) A (KL .Add (.ref t) (.ref b)) Q E s:=
  PU ⟨_,ho,rfl⟩ ⟨_,ho2,rfl⟩ NU Pb Mp Mc (L5 _ _)
   (tuple_addW0 t b _ _ n n2 dd dd2 sl sl2 (by simp)) ⟨ho,ho2,h⟩
def aK:T->T->Rs T
 | .int i,.int j=> .ok (.int (i+j))
 | .str i,.str j=>if i.length+j.length<=sizeLine then .ok (.str (i++j))else .bad
 | .tup l,.tup m=>jt (l++m)
 | .lst l,.lst m=>ju (l++m)
 | _,_=> .bad
theorem aL:OpT X (KL .Add) aK:=by
 intro pins s σ H O x y vx vy ux uy Q I hf rx ry r1 r2 hp;unfold aK at hp
 split at hp
 ·exact Em pins s σ H vx vy ux uy Q I r1 r2 ⟨_,_,Rep.Da.mp rx,Rep.Da.mp ry,hp H (Same.refl H) _ (Rep.Gc _)⟩
 ·split at hp
  ·rename_i h
   exact uw pins s σ H vx vy ux uy Q I r1 r2 ⟨_,_,Rep.GM.mp rx,Rep.GM.mp ry,h,hp H (Same.refl H) _ (Rep.IB _)⟩
  ·exact hp.elim
 ·rename_i l m
  unfold jt at hp
  split at hp
  ·rename_i h
   obtain⟨a,vs,e1,n1,q1,z1⟩:=Rep.Fk.mp rx;obtain⟨b,ws,e2,n2,q2,z2⟩:=Rep.Fk.mp ry
   have hl1:=z1.length
   have hl2:=z2.length;rw[IX]at h
   cases vs with
   | nil=>
    have e:l= []:=by cases l with
     | nil=>rfl
     | cons _ _=>simp at hl1
    subst e
    exact yO pins s σ H vx vy ux uy Q I r1 r2 ⟨a,b,ws,e1,e2,SqT.of q1,SqT.of q2,hp H (Same.refl H) _ (Rep.Fk.mpr ⟨b,ws,rfl,n2,q2,z2⟩)⟩
   | cons v0 vr=>
    refine BL pins s σ H vx vy ux uy Q I r1 r2 ⟨a,b,v0::vr,ws,e1,e2,SqT.of q1,SqT.of q2,by simp,by omega,λhw=> ?_,λ_ p hpn=> ?_⟩
    ·subst hw
     have e:m= []:=by cases m with
      | nil=>rfl
      | cons _ _=>simp at hl2
     subst e;rw[J7]at hp;exact hp H (Same.refl H) _ (Rep.Fk.mpr ⟨a,_,rfl,n1,q1,z1⟩)
    ·exact hp _ (aS hpn _) _ (gD hpn (hf p hpn) (z1.append z2))
  ·exact hp.elim
 ·rename_i l m
  unfold ju at hp
  split at hp
  ·rename_i h
   obtain⟨a,vs,e1,n1,q1,z1⟩:=Rep.Do.mp rx;obtain⟨b,ws,e2,n2,q2,z2⟩:=Rep.Do.mp ry
   have hl1:=z1.length
   have hl2:=z2.length;rw[IX]at h;exact El pins s σ H vx vy ux uy Q I r1 r2 ⟨a,b,vs,ws,e1,e2,q1,q2,by omega,λp hpn=>hp _ (aS hpn _) _ (jW hpn (hf p hpn) (z1.append z2))⟩
  ·exact hp.elim
 ·exact hp.elim
def uE:T->T->Rs T
 | .int i,.int j=>if (-(2 ^ 64)<i/\i<2 ^ 64)\/(-(2 ^ 64)<j/\j<2 ^ 64)then .ok (.int (i*j))else .bad
 | .lst l,.int k=>if -(2 ^ 63)<=k/\k<2 ^ 63/\l.length*k.toNat<=sizeLine then .ok (.lst (Jr k.toNat l).flatten)else .bad
 | _,_=> .bad
theorem Reps.rep {K:II}{O:Ow}{H:Hp}{l:List T}{vs:List V}(h:Reps K O H l vs):∀k:Nat,Reps K O H (Jr k l).flatten (Jr k vs).flatten
 | 0=>Reps.nil_
 | k+1=>by rw[Ky,Ky,Li,Li];exact h.append (h.rep k)
theorem Ee:OpT X (KL .Mult) uE:=by
 intro pins s σ H O x y vx vy ux uy Q I hf rx ry r1 r2 hp;unfold uE at hp
 split at hp
 ·split at hp
  ·rename_i h
   exact Ei pins s σ H vx vy ux uy Q I r1 r2 ⟨_,_,Rep.Da.mp rx,Rep.Da.mp ry,h,hp H (Same.refl H) _ (Rep.Gc _)⟩
  ·exact hp.elim
 ·split at hp
  ·rename_i l k h
   obtain⟨a,vs,e1,n1,q1,z1⟩:=Rep.Do.mp rx
   have hl1:=z1.length;exact Eh pins s σ H vx vy ux uy Q I r1 r2 ⟨a,k,vs,e1,Rep.Da.mp ry,q1,h.1,h.2.1,by rw[<-hl1];exact h.2.2,λp hpn=>hp _ (aS hpn _) _ (jW hpn (hf p hpn) (z1.rep _))⟩
  ·exact hp.elim
 ·exact hp.elim
def qi:T->Rs T
 | .int i=> .ok (.int (-i))
 | _=> .bad
def o1 (g:T->Rs T)(fa:En->Rs T)(Z:En):Rs T:=fa Z >>= g
theorem Ge (ha:cy X a fa):cy X (.UnaryOp .USub a pos) (o1 qi fa):=by
 intro pins s σ H Q I ⟨Z,O,E,hq⟩;refine Gs C9 ha pins s σ H Q I ?_
 obtain⟨Z1,O1,E1,h1⟩:=aZ E hq;refine⟨Z1,O1,E1,Post.mono h1 λts H1 s1 q vs r=> ?_⟩
 obtain⟨t',r',s',E',q'⟩:=q vs r;unfold qi at q'
 split at q'
 ·exact⟨_,Rep.Da.mp r',q' H1 (Same.refl H1) _ (Rep.Gc _)⟩
 ·exact q'.elim
def uO (p:Int->Int->Bool):T->T->Rs T
 | .int i,.int j=> .ok (.bl (p i j))
 | _,_=> .bad
theorem pY {op:CmpOp}{p:Int->Int->Bool}(h:o6 X (J6 op) (CJ λi j=> .bl (p i j))):OpT X (J6 op) (uO p):=OpT.of h λH O x y vx vy Q hf rx ry hp=>by
 unfold uO at hp
 split at hp
 ·exact⟨_,_,Rep.Da.mp rx,Rep.Da.mp ry,hp H (Same.refl H) _ (Rep.bl_ _)⟩
 ·exact hp.elim
abbrev qr:=uO λi j=>decide (i<j)
abbrev Fz:=uO λi j=>decide (i<=j)
abbrev HC:=uO λi j=>decide (j<i)
theorem k9:OpT X (J6 .Lt) qr:=pY Gy
theorem se:OpT X (J6 .LtE) Fz:=pY Gz
theorem Gx:OpT X (J6 .Gt) HC:=pY GA
def T.isN:T->Bool
 | .non=>true
 | _=>false
theorem Rep.isN {K:II}{O:Ow}{H:Hp}{t:T}{v:V}(r:Rep K O H t v):decide (v= .non)=t.isN:=by
 cases t with
 | non=>rw[Rep.HI.mp r];rfl
 | bl _=>rw[Rep.FB.mp r];rfl
 | int _=>rw[Rep.Da.mp r];rfl
 | str _=>rw[Rep.GM.mp r];rfl
 | tup _=>obtain⟨a,vs,e,_⟩:=Rep.Fk.mp r;rw[e];rfl
 | lst _=>obtain⟨a,vs,e,_⟩:=Rep.Do.mp r;rw[e];rfl
 | scr _=>unfold Rep at r;obtain⟨a,e,_⟩:=r;rw[e];rfl
 | dct _ _=>obtain⟨a,_,e,_⟩:=Rep.GE.mp r;rw[e];rfl
 | ob _ _ _=>obtain⟨a,_,_,e,_⟩:=Rep.Ia.mp r;rw[e];rfl
def jK:T->T->Rs T
 | x,.non=> .ok (.bl x.isN)
 | _,_=> .bad
def da:T->T->Rs T
 | x,.non=> .ok (.bl (!x.isN))
 | _,_=> .bad
theorem om:OpT X (J6 .Is) jK:=OpT.of Ek λH O x y vx vy Q hf rx ry hp=>by
 unfold jK at hp
 split at hp
 ·exact⟨Rep.HI.mp ry,hp H (Same.refl H) _ (by rw[rx.isN];exact Rep.bl_ _)⟩
 ·exact hp.elim
theorem dy:OpT X (J6 .IsNot) da:=OpT.of BJ λH O x y vx vy Q hf rx ry hp=>by
 unfold da at hp
 split at hp
 ·exact⟨Rep.HI.mp ry,hp H (Same.refl H) _ (by rw[rx.isN];exact Rep.bl_ _)⟩
 ·exact hp.elim
end
end Tr
namespace Tr
open PySem PySem.Spec PyProof.Rows L2
open PySem.SeqAt
mutual
def ReV (s:IR):T->IQ->Prop
 | .non,u=>u= .none
 | .bl b,u=>u= .bool b
 | .int i,u=> ∃t,u= .int i t
 | .str x,u=> ∃t,u= .str x t
 | .tup l,u=> ∃a its,u= .ref a/\s.heap.IsTuple a (PM its)/\ReVs s l its
 | .lst l,u=> ∃a its,u= .ref a/\s.heap.IsList a (PM its)/\ReVs s l its
 | .scr l,u=> ∃a its,u= .ref a/\s.heap.IsList a (PM its)/\MK its l
 | .dct _ _,_=>False
 | .ob _ _ _,_=>False
def ReVs (s:IR):List T->List IQ->Prop
 | [],us=>us= []
 | t::r,us=> ∃u ws,us=u::ws/\ReV s t u/\ReVs s r ws
end
theorem ReVs.AC {s:IR}{us:List IQ}:ReVs s [] us↔us= []:=by unfold ReVs;exact Mt
theorem ReVs.me {s:IR}{t:T}{l:List T}{us:List IQ}:ReVs s (t::l) us↔ ∃u ws,us=u::ws/\ReV s t u/\ReVs s l ws:=by
 constructor
 ·intro h;unfold ReVs at h;exact h
 ·intro h;unfold ReVs;exact h
theorem ReVs.length {s:IR}:∀{l:List T} {us:List IQ},ReVs s l us->l.length=us.length
 | [],us,r=>by rw[ReVs.AC.mp r];rfl
 | t::l,us,r=>by
  obtain⟨v,ws,rfl,_,q⟩:=ReVs.me.mp r;simp[q.length]
theorem ReVs.get {s:IR}:∀{l:List T} {us:List IQ} {i:Nat} {t:T},ReVs s l us->l[i]? =some t->∃v,us[i]? =some v/\ReV s t v
 | [],_,_,_,_,e=>by simp at e
 | t::l,vs,i,u,r,e=>by
  obtain⟨v,ws,rfl,p,q⟩:=ReVs.me.mp r
  cases i with
  | zero=>simp at e;subst e;exact⟨v,rfl,p⟩
  | succ i=>
   obtain⟨z,e1,e2⟩:=q.get (i:=i) (t:=u) (by simpa using e)
   exact⟨z,by simpa using e1,e2⟩
mutual
def T.nd:T->Bool
 | .dct _ _=>false
 | .ob _ _ _=>false
 | .tup l=>nds l
 | .lst l=>nds l
 | _=>true
def nds:List T->Bool
 | [] =>true
 | t::l=>t.nd&&nds l
end
theorem sH {t:T}{l:List T}(h:nds (t::l)=true):t.nd=true/\nds l=true:=by unfold nds at h;exact KR.mp h
theorem yY:∀{l:List T},(∀t∈l,t.nd=true)->nds l=true
 | [],_=>rfl
 | t::l,h=>by unfold nds;rw[h t IL,yY λu hu=>h u (IJ _ hu)];rfl
section
variable {X:Cx}{pins:List (Addr×Obj)}{σ:L2.St}{H:Hp}{s:IR}{O:Ow}
mutual
theorem Rep.val (I:Inv X pins σ H s):∀{t:T} {v:V} {u:IQ},t.nd=true->Rep X.K O H t v->RelV v u->ReV s t u
 | .non,v,u,hn,r,q=>by cases Rep.HI.mp r;unfold ReV;exact q
 | .bl b,v,u,hn,r,q=>by cases Rep.FB.mp r;unfold ReV;exact q
 | .int b,v,u,hn,r,q=>by cases Rep.Da.mp r;unfold ReV;exact q
 | .str b,v,u,hn,r,q=>by cases Rep.GM.mp r;unfold ReV;exact q
 | .tup l,v,u,hn,r,q=>by
  obtain⟨a,vs,rfl,_,z,w⟩:=Rep.Fk.mp r;cases q;obtain⟨its,rv,p,_⟩:=I.tuple (SqT.of z);unfold ReV
  exact⟨a,its,rfl,p,Reps.val I (by unfold T.nd at hn;exact hn) w rv⟩
 | .lst l,v,u,hn,r,q=>by
  obtain⟨a,vs,rfl,_,z,w⟩:=Rep.Do.mp r;cases q;obtain⟨its,rv,p,_⟩:=I.list (SqL.of z);unfold ReV
  exact⟨a,its,rfl,p.isList,Reps.val I (by unfold T.nd at hn;exact hn) w rv⟩
 | .scr l,v,u,hn,r,q=>by
  unfold Rep at r;obtain⟨a,rfl,_,z⟩:=r;cases q;obtain⟨its,rv,p,_⟩:=I.list z;unfold ReV
  exact⟨a,its,rfl,p.isList,uI rv⟩
 | .dct _ _,v,u,hn,r,q=>by cases hn
 | .ob _ _ _,v,u,hn,r,q=>by cases hn
theorem Reps.val (I:Inv X pins σ H s):∀{l:List T} {vs:List V} {us:List IQ},nds l=true->Reps X.K O H l vs->Vals vs us->ReVs s l us
 | [],vs,us,hn,r,q=>by
  cases Reps.AC.mp r;cases q
  exact ReVs.AC.mpr rfl
 | t::l,vs,us,hn,r,q=>by
  obtain⟨v,ws,rfl,p,z⟩:=Reps.me.mp r
  cases q with
  | cons q1 q2=>exact ReVs.me.mpr ⟨_,_,rfl,Rep.val I (sH hn).1 p q1,Reps.val I (sH hn).2 z q2⟩
end
end
mutual
def T.dep:T->Nat
 | .tup l=>deps l+1
 | .lst l=>deps l+1
 | .scr _=>1
 | _=>0
def deps:List T->Nat
 | [] =>0
 | t::l=>max t.dep (deps l)
end
def Cm (i:Int):T->Bool
 | .int j=>i == j
 | .bl b=>i == (if b then 1 else 0)
 | _=>false
def jy:List Int->List T->Bool
 | [],[] =>true
 | i::r,t::l=>Cm i t&&jy r l
 | _,_=>false
mutual
def aV:T->T->Bool
 | .non,.non=>true
 | .bl a,.bl b=>a == b
 | .bl a,.int b=>(if a then 1 else 0) == b
 | .int a,.bl b=>a == (if b then 1 else 0)
 | .int a,.int b=>a == b
 | .str a,.str b=>a == b
 | .tup l,.tup m=>beqTs l m
 | .lst l,.lst m=>beqTs l m
 | .lst l,.scr m=>beqTs l (m.map .int)
 | .scr l,.lst m=>jy l m
 | .scr l,.scr m=>l == m
 | _,_=>false
def beqTs:List T->List T->Bool
 | [],[] =>true
 | t::l,u::m=>aV t u&&beqTs l m
 | _,_=>false
end
theorem nt (n:Nat)(e:Nat->Bool):(JA (n+1)).all e=(e 0&&(JA n).all λj=>e (j+1)):=by
 rw[List.range_succ_eq_map,List.all_cons,List.all_map];rfl
theorem kZ:∀(l m:List T) (e:Nat->Bool),(∀(j:Nat) t u,l[j]? =some t->m[j]? =some u->e j=aV t u) →
  beqTs l m=((JA (min l.length m.length)).all e&&l.length == m.length)
 | [],[],_,_=>by simp[beqTs]
 | [],_::_,_,_=>by simp[beqTs]
 | _::_,[],_,_=>by simp[beqTs]
 | t::l,u::m,e,h=>by
  have ih:=kZ l m (λj=>e (j+1)) λj t' u' h1 h2=>h (j+1) t' u' (by simpa using h1) (by simpa using h2)
  rw[beqTs,ih]
  have h0:=h 0 t u rfl rfl;simp only[IV];rw[Nat.succ_min_succ,nt,h0,Bool.and_assoc]
  congr 2
  simp
theorem o4:∀{l m:List T},l.length≠m.length->beqTs l m=false
 | [],[],h=>absurd rfl h
 | [],_::_,_=>by simp[beqTs]
 | _::_,[],_=>by simp[beqTs]
 | t::l,u::m,h=>by
  rw[beqTs,o4 (l:=l) (m:=m) (by intro z;exact h (by simp[z]))]
  simp
theorem iP:∀{l:List T} {i:Nat} {t:T},l[i]? =some t->t.dep<=deps l
 | [],_,_,e=>by simp at e
 | t::l,0,u,e=>by simp at e;subst e;unfold deps;exact Nat.le_max_left _ _
 | t::l,i+1,u,e=>by
  have:=iP (l:=l) (i:=i) (t:=u) (by simpa using e)
  unfold deps;exact JW this (Nat.le_max_right _ _)
theorem iK {s:IR}{a:Addr}{x y:List IQ}(h:s.heap.IsTuple a x.toArray)(h':s.heap.IsTuple a y.toArray):x=y:=by
 obtain⟨o,e,_,n,d⟩:=h;obtain⟨o',e',_,n',d'⟩:=h';rw[e]at e';cases e';rw[d]at d';injection d' with d1 _
 simpa using congrArg N9 d1
theorem cM {s:IR}{a:Addr}{x y:List IQ}(h:s.heap.IsList a x.toArray)(h':s.heap.IsList a y.toArray):x=y:=by
 obtain⟨o,e,_,n,d⟩:=h;obtain⟨o',e',_,n',d'⟩:=h';rw[e]at e';cases e';rw[d]at d';injection d' with d1 _
 simpa using congrArg N9 d1
theorem xC {s:IR}{i:Int}{t:T}{k:Tok}(r:ReV s t (.int i k)):Cm i t=true:=by
 cases t with
 | non=>unfold ReV at r;cases r
 | bl b=>unfold ReV at r;cases r
 | int j=>unfold ReV at r;obtain⟨t,e⟩:=r;injection e with e1 _;subst e1;simp[Cm]
 | str x=>unfold ReV at r;obtain⟨t,e⟩:=r;cases e
 | tup l=>unfold ReV at r;obtain⟨a,its,e,_⟩:=r;cases e
 | lst l=>unfold ReV at r;obtain⟨a,its,e,_⟩:=r;cases e
 | scr l=>unfold ReV at r;obtain⟨a,its,e,_⟩:=r;cases e
 | dct _ _=>unfold ReV at r;exact r.elim
 | ob _ _ _=>unfold ReV at r;exact r.elim
theorem ng {s:IR}:∀{ns:List Int} {us:List IQ} {l:List T},MK us ns->ReVs s l us->jy ns l=true
 | [],us,l,h,r=>by
  cases h
  cases l with
  | nil=>rfl
  | cons t l=>obtain⟨_,_,e,_⟩:=ReVs.me.mp r;cases e
 | n::ns,us,l,h,r=>by
  cases h with
  | cons a b hh=>
   cases l with
   | nil=>have:=ReVs.AC.mp r;cases this
   | cons t l=>
    obtain⟨u,ws,e,p,q⟩:=ReVs.me.mp r;injection e with e1 e2
    subst e1 e2;rw[jy,xC p,ng hh q];rfl
theorem dN {s:IR}:∀{us:List IQ} {ns:List Int},MK us ns->ReVs s (ns.map T.int) us
 | _,_,.nil=>ReVs.AC.mpr rfl
 | _,_,.cons n t h=>ReVs.me.mpr ⟨_,_,rfl,by unfold ReV;exact⟨_,rfl⟩,dN h⟩
theorem iM:∀{us:List IQ} {ns ms:List Int},MK us ns->MK us ms->ns=ms
 | _,_,_,.nil,.nil=>rfl
 | _,_,_,.cons n t h,.cons _ _ h'=>by rw[iM h h']
mutual
theorem ReV.refl {s:IR}:∀{t u:T} {v:IQ},ReV s t v->ReV s u v->aV t u=true
 | .non,u,v,r,q=>by
  unfold ReV at r;subst r
  cases u <;> (unfold ReV at q) <;> first | rfl | (cases q;done) | (obtain⟨_,e⟩:=q;cases e;done) | (obtain⟨_,_,e,_⟩:=q;cases e;done)
 | .bl b,u,v,r,q=>by
  unfold ReV at r;subst r
  cases u <;> (unfold ReV at q) <;> first | (cases q;done) | (cases q;simp[aV];done) | (obtain⟨_,e⟩:=q;cases e;done) | (obtain⟨_,_,e,_⟩:=q;cases e;done)
 | .int b,u,v,r,q=>by
  unfold ReV at r;obtain⟨k,rfl⟩:=r
  cases u <;> (unfold ReV at q) <;> first | (cases q;done) | (obtain⟨_,e⟩:=q;cases e;simp[aV];done) | (obtain⟨_,e⟩:=q;cases e;done) | (obtain⟨_,_,e,_⟩:=q;cases e;done)
 | .str b,u,v,r,q=>by
  unfold ReV at r;obtain⟨k,rfl⟩:=r
  cases u <;> (unfold ReV at q) <;> first | (cases q;done) | (obtain⟨_,e⟩:=q;cases e;simp[aV];done) | (obtain⟨_,e⟩:=q;cases e;done) | (obtain⟨_,_,e,_⟩:=q;cases e;done)
 | .tup l,u,v,r,q=>by
  unfold ReV at r;obtain⟨a,its,rfl,h1,h2⟩:=r
  cases u with
  | non=>unfold ReV at q;cases q
  | dct _ _=>unfold ReV at q;exact q.elim
  | ob _ _ _=>unfold ReV at q;exact q.elim
  | bl _=>unfold ReV at q;cases q
  | int _=>unfold ReV at q;obtain⟨_,e⟩:=q;cases e
  | str _=>unfold ReV at q;obtain⟨_,e⟩:=q;cases e
  | tup m=>
   unfold ReV at q;obtain⟨a',its',e,h1',h2'⟩:=q;injection e with e;subst e
   have:=iK h1 h1';subst this;unfold aV
   exact ReVs.refl h2 h2'
  | lst m=>unfold ReV at q;obtain⟨a',its',e,h1',h2'⟩:=q;injection e with e;subst e;exact absurd rfl (ne_of_list_tuple h1' h1)
  | scr m=>unfold ReV at q;obtain⟨a',its',e,h1',h2'⟩:=q;injection e with e;subst e;exact absurd rfl (ne_of_list_tuple h1' h1)
 | .lst l,u,v,r,q=>by
  unfold ReV at r;obtain⟨a,its,rfl,h1,h2⟩:=r
  cases u with
  | non=>unfold ReV at q;cases q
  | dct _ _=>unfold ReV at q;exact q.elim
  | ob _ _ _=>unfold ReV at q;exact q.elim
  | bl _=>unfold ReV at q;cases q
  | int _=>unfold ReV at q;obtain⟨_,e⟩:=q;cases e
  | str _=>unfold ReV at q;obtain⟨_,e⟩:=q;cases e
  | lst m=>
   unfold ReV at q;obtain⟨a',its',e,h1',h2'⟩:=q;injection e with e;subst e
   have:=cM h1 h1';subst this;unfold aV
   exact ReVs.refl h2 h2'
  | tup m=>unfold ReV at q;obtain⟨a',its',e,h1',h2'⟩:=q;injection e with e;subst e;exact absurd rfl (ne_of_list_tuple h1 h1')
  | scr m=>
   unfold ReV at q;obtain⟨a',its',e,h1',h2'⟩:=q;injection e with e;subst e
   have:=cM h1 h1';subst this;unfold aV
   exact ReVs.refl h2 (dN h2')
 | .scr l,u,v,r,q=>by
  unfold ReV at r;obtain⟨a,its,rfl,h1,h2⟩:=r
  cases u with
  | non=>unfold ReV at q;cases q
  | dct _ _=>unfold ReV at q;exact q.elim
  | ob _ _ _=>unfold ReV at q;exact q.elim
  | bl _=>unfold ReV at q;cases q
  | int _=>unfold ReV at q;obtain⟨_,e⟩:=q;cases e
  | str _=>unfold ReV at q;obtain⟨_,e⟩:=q;cases e
  | lst m=>
   unfold ReV at q;obtain⟨a',its',e,h1',h2'⟩:=q;injection e with e;subst e
   have:=cM h1 h1';subst this;unfold aV
   exact ng h2 h2'
  | tup m=>unfold ReV at q;obtain⟨a',its',e,h1',h2'⟩:=q;injection e with e;subst e;exact absurd rfl (ne_of_list_tuple h1 h1')
  | scr m=>
   unfold ReV at q;obtain⟨a',its',e,h1',h2'⟩:=q;injection e with e;subst e
   have:=cM h1 h1';subst this;unfold aV
   have:=iM h2 h2'
   simp[this]
 | .dct _ _,u,v,r,q=>by unfold ReV at r;exact r.elim
 | .ob _ _ _,u,v,r,q=>by unfold ReV at r;exact r.elim
theorem ReVs.refl {s:IR}:∀{l m:List T} {us:List IQ},ReVs s l us->ReVs s m us->beqTs l m=true
 | [],m,us,r,q=>by
  cases ReVs.AC.mp r
  cases m with
  | nil=>simp[beqTs]
  | cons _ _=>obtain⟨_,_,e,_⟩:=ReVs.me.mp q;cases e
 | t::l,m,us,r,q=>by
  obtain⟨v,ws,rfl,p,z⟩:=ReVs.me.mp r
  cases m with
  | nil=>cases ReVs.AC.mp q
  | cons u m=>
   obtain⟨v',ws',e,p',z'⟩:=ReVs.me.mp q;injection e with e1 e2
   subst e1 e2;rw[beqTs,ReV.refl p p',ReVs.refl z z'];rfl
end
theorem m9:∀(l:List Int) (m:List T),jy l m=beqTs (l.map T.int) m
 | [],[] =>by simp[jy,beqTs]
 | [],_::_=>by simp[jy,beqTs]
 | _::_,[] =>by simp[jy,beqTs]
 | i::l,t::m=>by
  rw[jy,IM,beqTs,m9 l m]
  congr 1
  cases t <;> simp[Cm,aV]
theorem pH:∀(l m:List Int),(l == m)=beqTs (l.map T.int) (m.map T.int)
 | [],[] =>by simp[beqTs]
 | [],_::_=>by simp[beqTs]
 | _::_,[] =>by simp[beqTs]
 | i::l,t::m=>by
  rw[IM,IM,beqTs,<-pH l m];simp[aV]
theorem fE:∀(l:List Int),deps (l.map T.int)=0
 | [] =>rfl
 | i::l=>by rw[IM,deps,fE l];simp[T.dep]
def iZ:T->T->Prop
 | .tup _,.tup _=>False
 | .lst _,.lst _=>False
 | .lst _,.scr _=>False
 | .scr _,.lst _=>False
 | .scr _,.scr _=>False
 | _,_=>True
theorem tF (A:JO)(s:IR)(x y:T)(u v:IQ)(hn:iZ x y)(hu:A.units<cLine)(rx:ReV s x u)(ry:ReV s y v):EqAt A s u v (aV x y)/\RcAt A s u v (aV x y)/\RcNeAt A s u v (!aV x y):=by
 match x,y,hn,rx,ry with
 | .dct _ _,_,_,rx,_=>exact(by unfold ReV at rx;exact rx:False).elim
 | .ob _ _ _,_,_,rx,_=>exact(by unfold ReV at rx;exact rx:False).elim
 | _,.dct _ _,_,_,ry=>exact(by unfold ReV at ry;exact ry:False).elim
 | _,.ob _ _ _,_,_,ry=>exact(by unfold ReV at ry;exact ry:False).elim
 | .non,.non,hn,rx,ry=>
  obtain rfl:u=JK:=by unfold ReV at rx;exact rx
  obtain rfl:v=JK:=by unfold ReV at ry;exact ry
  exact⟨EqAt.same _,RcAt.none_none ,RcNeAt.none_none ⟩
 | .non,.bl b2,hn,rx,ry=>
  obtain rfl:u=JK:=by unfold ReV at rx;exact rx
  obtain rfl:v=Kf b2:=by unfold ReV at ry;exact ry
  exact⟨EqAt.none_bool b2,RcAt.none_bool b2,RcNeAt.none_bool b2⟩
 | .non,.int i2,hn,rx,ry=>
  obtain rfl:u=JK:=by unfold ReV at rx;exact rx
  obtain⟨k2,rfl⟩:∃k,v=Kw i2 k:=by unfold ReV at ry;exact ry
  exact⟨EqAt.none_int i2 k2,RcAt.none_int i2 k2,RcNeAt.none_int i2 k2⟩
 | .non,.str x2,hn,rx,ry=>
  obtain rfl:u=JK:=by unfold ReV at rx;exact rx
  obtain⟨k2,rfl⟩:∃k,v=KH x2 k:=by unfold ReV at ry;exact ry
  exact⟨EqAt.none_str x2 k2,RcAt.none_str x2 k2,RcNeAt.none_str x2 k2⟩
 | .non,.tup l2,hn,rx,ry=>
  obtain rfl:u=JK:=by unfold ReV at rx;exact rx
  unfold ReV at ry;obtain⟨a2,us2,rfl,h2,q2⟩:=ry
  exact⟨EqAt.none_tuple h2 hu,RcAt.none_tuple h2 hu,RcNeAt.none_tuple h2 hu⟩
 | .non,.lst l2,hn,rx,ry=>
  obtain rfl:u=JK:=by unfold ReV at rx;exact rx
  unfold ReV at ry;obtain⟨a2,us2,rfl,h2,q2⟩:=ry
  exact⟨EqAt.none_list h2 hu,RcAt.none_list h2 hu,RcNeAt.none_list h2 hu⟩
 | .non,.scr l2,hn,rx,ry=>
  obtain rfl:u=JK:=by unfold ReV at rx;exact rx
  unfold ReV at ry;obtain⟨a2,us2,rfl,h2,q2⟩:=ry
  exact⟨EqAt.none_list h2 hu,RcAt.none_list h2 hu,RcNeAt.none_list h2 hu⟩
 | .bl b1,.non,hn,rx,ry=>
  obtain rfl:u=Kf b1:=by unfold ReV at rx;exact rx
  obtain rfl:v=JK:=by unfold ReV at ry;exact ry
  exact⟨EqAt.bool_none b1,RcAt.bool_none b1,RcNeAt.bool_none b1⟩
 | .bl b1,.bl b2,hn,rx,ry=>
  obtain rfl:u=Kf b1:=by unfold ReV at rx;exact rx
  obtain rfl:v=Kf b2:=by unfold ReV at ry;exact ry
  exact⟨EqAt.bool_bool b1 b2,RcAt.bool_bool b1 b2,RcNeAt.bool_bool b1 b2⟩
 | .bl b1,.int i2,hn,rx,ry=>
  obtain rfl:u=Kf b1:=by unfold ReV at rx;exact rx
  obtain⟨k2,rfl⟩:∃k,v=Kw i2 k:=by unfold ReV at ry;exact ry
  exact⟨EqAt.bool_int b1 i2 k2,RcAt.bool_int b1 i2 k2,RcNeAt.bool_int b1 i2 k2⟩
 | .bl b1,.str x2,hn,rx,ry=>
  obtain rfl:u=Kf b1:=by unfold ReV at rx;exact rx
  obtain⟨k2,rfl⟩:∃k,v=KH x2 k:=by unfold ReV at ry;exact ry
  exact⟨EqAt.bool_str b1 x2 k2,RcAt.bool_str b1 x2 k2,RcNeAt.bool_str b1 x2 k2⟩
 | .bl b1,.tup l2,hn,rx,ry=>
  obtain rfl:u=Kf b1:=by unfold ReV at rx;exact rx
  unfold ReV at ry;obtain⟨a2,us2,rfl,h2,q2⟩:=ry
  exact⟨EqAt.bool_tuple b1 h2 hu,RcAt.bool_tuple b1 h2 hu,RcNeAt.bool_tuple b1 h2 hu⟩
 | .bl b1,.lst l2,hn,rx,ry=>
  obtain rfl:u=Kf b1:=by unfold ReV at rx;exact rx
  unfold ReV at ry;obtain⟨a2,us2,rfl,h2,q2⟩:=ry
  exact⟨EqAt.bool_list b1 h2 hu,RcAt.bool_list b1 h2 hu,RcNeAt.bool_list b1 h2 hu⟩
 | .bl b1,.scr l2,hn,rx,ry=>
  obtain rfl:u=Kf b1:=by unfold ReV at rx;exact rx
  unfold ReV at ry;obtain⟨a2,us2,rfl,h2,q2⟩:=ry
  exact⟨EqAt.bool_list b1 h2 hu,RcAt.bool_list b1 h2 hu,RcNeAt.bool_list b1 h2 hu⟩
 | .int i1,.non,hn,rx,ry=>
  obtain⟨k1,rfl⟩:∃k,u=Kw i1 k:=by unfold ReV at rx;exact rx
  obtain rfl:v=JK:=by unfold ReV at ry;exact ry
  exact⟨EqAt.int_none i1 k1,RcAt.int_none i1 k1,RcNeAt.int_none i1 k1⟩
 | .int i1,.bl b2,hn,rx,ry=>
  obtain⟨k1,rfl⟩:∃k,u=Kw i1 k:=by unfold ReV at rx;exact rx
  obtain rfl:v=Kf b2:=by unfold ReV at ry;exact ry
  exact⟨EqAt.int_bool i1 k1 b2,RcAt.int_bool i1 k1 b2,RcNeAt.int_bool i1 k1 b2⟩
 | .int i1,.int i2,hn,rx,ry=>
  obtain⟨k1,rfl⟩:∃k,u=Kw i1 k:=by unfold ReV at rx;exact rx
  obtain⟨k2,rfl⟩:∃k,v=Kw i2 k:=by unfold ReV at ry;exact ry
  exact⟨EqAt.int_int i1 k1 i2 k2,RcAt.int_int i1 k1 i2 k2,RcNeAt.int_int i1 k1 i2 k2⟩
 | .int i1,.str x2,hn,rx,ry=>
  obtain⟨k1,rfl⟩:∃k,u=Kw i1 k:=by unfold ReV at rx;exact rx
  obtain⟨k2,rfl⟩:∃k,v=KH x2 k:=by unfold ReV at ry;exact ry
  exact⟨EqAt.int_str i1 k1 x2 k2,RcAt.int_str i1 k1 x2 k2,RcNeAt.int_str i1 k1 x2 k2⟩
 | .int i1,.tup l2,hn,rx,ry=>
  obtain⟨k1,rfl⟩:∃k,u=Kw i1 k:=by unfold ReV at rx;exact rx
  unfold ReV at ry;obtain⟨a2,us2,rfl,h2,q2⟩:=ry
  exact⟨EqAt.int_tuple i1 k1 h2 hu,RcAt.int_tuple i1 k1 h2 hu,RcNeAt.int_tuple i1 k1 h2 hu⟩
 | .int i1,.lst l2,hn,rx,ry=>
  obtain⟨k1,rfl⟩:∃k,u=Kw i1 k:=by unfold ReV at rx;exact rx
  unfold ReV at ry;obtain⟨a2,us2,rfl,h2,q2⟩:=ry
  exact⟨EqAt.int_list i1 k1 h2 hu,RcAt.int_list i1 k1 h2 hu,RcNeAt.int_list i1 k1 h2 hu⟩
 | .int i1,.scr l2,hn,rx,ry=>
  obtain⟨k1,rfl⟩:∃k,u=Kw i1 k:=by unfold ReV at rx;exact rx
  unfold ReV at ry;obtain⟨a2,us2,rfl,h2,q2⟩:=ry
  exact⟨EqAt.int_list i1 k1 h2 hu,RcAt.int_list i1 k1 h2 hu,RcNeAt.int_list i1 k1 h2 hu⟩
 | .str x1,.non,hn,rx,ry=>
  obtain⟨k1,rfl⟩:∃k,u=KH x1 k:=by unfold ReV at rx;exact rx
  obtain rfl:v=JK:=by unfold ReV at ry;exact ry
  exact⟨EqAt.str_none x1 k1,RcAt.str_none x1 k1,RcNeAt.str_none x1 k1⟩
 | .str x1,.bl b2,hn,rx,ry=>
  obtain⟨k1,rfl⟩:∃k,u=KH x1 k:=by unfold ReV at rx;exact rx
  obtain rfl:v=Kf b2:=by unfold ReV at ry;exact ry
  exact⟨EqAt.str_bool x1 k1 b2,RcAt.str_bool x1 k1 b2,RcNeAt.str_bool x1 k1 b2⟩
 | .str x1,.int i2,hn,rx,ry=>
  obtain⟨k1,rfl⟩:∃k,u=KH x1 k:=by unfold ReV at rx;exact rx
  obtain⟨k2,rfl⟩:∃k,v=Kw i2 k:=by unfold ReV at ry;exact ry
  exact⟨EqAt.str_int x1 k1 i2 k2,RcAt.str_int x1 k1 i2 k2,RcNeAt.str_int x1 k1 i2 k2⟩
 | .str x1,.str x2,hn,rx,ry=>
  obtain⟨k1,rfl⟩:∃k,u=KH x1 k:=by unfold ReV at rx;exact rx
  obtain⟨k2,rfl⟩:∃k,v=KH x2 k:=by unfold ReV at ry;exact ry
  exact⟨EqAt.str_str x1 k1 x2 k2,RcAt.str_str x1 k1 x2 k2,RcNeAt.str_str x1 k1 x2 k2⟩
 | .str x1,.tup l2,hn,rx,ry=>
  obtain⟨k1,rfl⟩:∃k,u=KH x1 k:=by unfold ReV at rx;exact rx
  unfold ReV at ry;obtain⟨a2,us2,rfl,h2,q2⟩:=ry
  exact⟨EqAt.str_tuple x1 k1 h2 hu,RcAt.str_tuple x1 k1 h2 hu,RcNeAt.str_tuple x1 k1 h2 hu⟩
 | .str x1,.lst l2,hn,rx,ry=>
  obtain⟨k1,rfl⟩:∃k,u=KH x1 k:=by unfold ReV at rx;exact rx
  unfold ReV at ry;obtain⟨a2,us2,rfl,h2,q2⟩:=ry
  exact⟨EqAt.str_list x1 k1 h2 hu,RcAt.str_list x1 k1 h2 hu,RcNeAt.str_list x1 k1 h2 hu⟩
 | .str x1,.scr l2,hn,rx,ry=>
  obtain⟨k1,rfl⟩:∃k,u=KH x1 k:=by unfold ReV at rx;exact rx
  unfold ReV at ry;obtain⟨a2,us2,rfl,h2,q2⟩:=ry
  exact⟨EqAt.str_list x1 k1 h2 hu,RcAt.str_list x1 k1 h2 hu,RcNeAt.str_list x1 k1 h2 hu⟩
 | .tup l1,.non,hn,rx,ry=>
  unfold ReV at rx;obtain⟨a1,us1,rfl,h1,q1⟩:=rx;obtain rfl:v=JK:=by unfold ReV at ry;exact ry
  exact⟨EqAt.tuple_none h1 hu,RcAt.tuple_none h1 hu,RcNeAt.tuple_none h1 hu⟩
 | .tup l1,.bl b2,hn,rx,ry=>
  unfold ReV at rx;obtain⟨a1,us1,rfl,h1,q1⟩:=rx;obtain rfl:v=Kf b2:=by unfold ReV at ry;exact ry
  exact⟨EqAt.tuple_bool b2 h1 hu,RcAt.tuple_bool b2 h1 hu,RcNeAt.tuple_bool b2 h1 hu⟩
 | .tup l1,.int i2,hn,rx,ry=>
  unfold ReV at rx;obtain⟨a1,us1,rfl,h1,q1⟩:=rx;obtain⟨k2,rfl⟩:∃k,v=Kw i2 k:=by unfold ReV at ry;exact ry
  exact⟨EqAt.tuple_int i2 k2 h1 hu,RcAt.tuple_int i2 k2 h1 hu,RcNeAt.tuple_int i2 k2 h1 hu⟩
 | .tup l1,.str x2,hn,rx,ry=>
  unfold ReV at rx;obtain⟨a1,us1,rfl,h1,q1⟩:=rx;obtain⟨k2,rfl⟩:∃k,v=KH x2 k:=by unfold ReV at ry;exact ry
  exact⟨EqAt.tuple_str x2 k2 h1 hu,RcAt.tuple_str x2 k2 h1 hu,RcNeAt.tuple_str x2 k2 h1 hu⟩
 | .tup _,.tup _,hn,_,_=>exact hn.elim
 | .tup l1,.lst l2,hn,rx,ry=>
  unfold ReV at rx;obtain⟨a1,us1,rfl,h1,q1⟩:=rx;unfold ReV at ry;obtain⟨a2,us2,rfl,h2,q2⟩:=ry
  exact⟨EqAt.tuple_list h1 h2 hu,RcAt.tuple_list h1 h2 hu,RcNeAt.tuple_list h1 h2 hu⟩
 | .tup l1,.scr l2,hn,rx,ry=>
  unfold ReV at rx;obtain⟨a1,us1,rfl,h1,q1⟩:=rx;unfold ReV at ry;obtain⟨a2,us2,rfl,h2,q2⟩:=ry
  exact⟨EqAt.tuple_list h1 h2 hu,RcAt.tuple_list h1 h2 hu,RcNeAt.tuple_list h1 h2 hu⟩
 | .lst l1,.non,hn,rx,ry=>
  unfold ReV at rx;obtain⟨a1,us1,rfl,h1,q1⟩:=rx;obtain rfl:v=JK:=by unfold ReV at ry;exact ry
  exact⟨EqAt.list_none h1 hu,RcAt.list_none h1 hu,RcNeAt.list_none h1 hu⟩
 | .lst l1,.bl b2,hn,rx,ry=>
  unfold ReV at rx;obtain⟨a1,us1,rfl,h1,q1⟩:=rx;obtain rfl:v=Kf b2:=by unfold ReV at ry;exact ry
  exact⟨EqAt.list_bool b2 h1 hu,RcAt.list_bool b2 h1 hu,RcNeAt.list_bool b2 h1 hu⟩
 | .lst l1,.int i2,hn,rx,ry=>
  unfold ReV at rx;obtain⟨a1,us1,rfl,h1,q1⟩:=rx;obtain⟨k2,rfl⟩:∃k,v=Kw i2 k:=by unfold ReV at ry;exact ry
  exact⟨EqAt.list_int i2 k2 h1 hu,RcAt.list_int i2 k2 h1 hu,RcNeAt.list_int i2 k2 h1 hu⟩
 | .lst l1,.str x2,hn,rx,ry=>
  unfold ReV at rx;obtain⟨a1,us1,rfl,h1,q1⟩:=rx;obtain⟨k2,rfl⟩:∃k,v=KH x2 k:=by unfold ReV at ry;exact ry
  exact⟨EqAt.list_str x2 k2 h1 hu,RcAt.list_str x2 k2 h1 hu,RcNeAt.list_str x2 k2 h1 hu⟩
 | .lst l1,.tup l2,hn,rx,ry=>
  unfold ReV at rx;obtain⟨a1,us1,rfl,h1,q1⟩:=rx;unfold ReV at ry;obtain⟨a2,us2,rfl,h2,q2⟩:=ry
  exact⟨EqAt.list_tuple h1 h2 hu,RcAt.list_tuple h1 h2 hu,RcNeAt.list_tuple h1 h2 hu⟩
 | .lst _,.lst _,hn,_,_=>exact hn.elim
 | .lst _,.scr _,hn,_,_=>exact hn.elim
 | .scr l1,.non,hn,rx,ry=>
  unfold ReV at rx;obtain⟨a1,us1,rfl,h1,q1⟩:=rx;obtain rfl:v=JK:=by unfold ReV at ry;exact ry
  exact⟨EqAt.list_none h1 hu,RcAt.list_none h1 hu,RcNeAt.list_none h1 hu⟩
 | .scr l1,.bl b2,hn,rx,ry=>
  unfold ReV at rx;obtain⟨a1,us1,rfl,h1,q1⟩:=rx;obtain rfl:v=Kf b2:=by unfold ReV at ry;exact ry
  exact⟨EqAt.list_bool b2 h1 hu,RcAt.list_bool b2 h1 hu,RcNeAt.list_bool b2 h1 hu⟩
 | .scr l1,.int i2,hn,rx,ry=>
  unfold ReV at rx;obtain⟨a1,us1,rfl,h1,q1⟩:=rx;obtain⟨k2,rfl⟩:∃k,v=Kw i2 k:=by unfold ReV at ry;exact ry
  exact⟨EqAt.list_int i2 k2 h1 hu,RcAt.list_int i2 k2 h1 hu,RcNeAt.list_int i2 k2 h1 hu⟩
 | .scr l1,.str x2,hn,rx,ry=>
  unfold ReV at rx;obtain⟨a1,us1,rfl,h1,q1⟩:=rx;obtain⟨k2,rfl⟩:∃k,v=KH x2 k:=by unfold ReV at ry;exact ry
  exact⟨EqAt.list_str x2 k2 h1 hu,RcAt.list_str x2 k2 h1 hu,RcNeAt.list_str x2 k2 h1 hu⟩
 | .scr l1,.tup l2,hn,rx,ry=>
  unfold ReV at rx;obtain⟨a1,us1,rfl,h1,q1⟩:=rx;unfold ReV at ry;obtain⟨a2,us2,rfl,h2,q2⟩:=ry
  exact⟨EqAt.list_tuple h1 h2 hu,RcAt.list_tuple h1 h2 hu,RcNeAt.list_tuple h1 h2 hu⟩
 | .scr _,.lst _,hn,_,_=>exact hn.elim
 | .scr _,.scr _,hn,_,_=>exact hn.elim
theorem B7:∀(n:Nat) (A:JO) (s:IR) (x y:T) (u v:IQ),(x.dep<=n\/y.dep<=n)->A.units+n<cLine->ReV s x u->ReV s y v->EqAt A s u v (aV x y)/\RcAt A s u v (aV x y)/\RcNeAt A s u v (!aV x y):=by
 intro n
 induction n with
 | zero=>
  intro A s x y u v hd hu rx ry
  exact tF A s x y u v (by cases x <;> cases y <;> simp_all [iZ,T.dep]) (by omega) rx ry
 | succ n ih=>
  intro A s x y u v hd hu rx ry
  have hin:A.in1.units+n<cLine:=by show A.units+1+n<cLine;omega
  have items:∀(l m:List T) (us vs:List IQ),(deps l<=n\/deps m<=n)->ReVs s l us->ReVs s m vs->∃e:Nat->Bool,(∀j (h1:j<us.toArray.size) (h2:j<vs.toArray.size),EqAt A.in1 s us.toArray[j] vs.toArray[j] (e j)) ∧
    (∀(j:Nat) t u,l[j]? =some t->m[j]? =some u->e j=aV t u):=λl m us vs hd r1 r2=>by
   refine⟨λj=>aV (l.getD j .non) (m.getD j .non),λj h1 h2=> ?_,λj t u e1 e2=>by simp[List.getD,e1,e2]⟩
   have l1:=r1.length
   have l2:=r2.length
   have h1':j<l.length:=by rw[l1];simpa using h1
   have h2':j<m.length:=by rw[l2];simpa using h2
   have e1:l[j]? =some l[j]:=by simp
   have e2:m[j]? =some m[j]:=by simp
   obtain⟨u1,z1,w1⟩:=r1.get e1;obtain⟨u2,z2,w2⟩:=r2.get e2
   have q1:us.toArray[j] =u1:=by
    have:us[j]? =some us.toArray[j]:=by simp
    rw[z1]at this;exact(JB this).symm
   have q2:vs.toArray[j] =u2:=by
    have:vs[j]? =some vs.toArray[j]:=by simp
    rw[z2]at this;exact(JB this).symm
   rw[q1,q2]
   have g1:l.getD j .non=l[j]:=by simp[List.getD,e1]
   have g2:m.getD j .non=m[j]:=by simp[List.getD,e2]
   show EqAt A.in1 s u1 u2 (aV (l.getD j .non) (m.getD j .non))
   rw[g1,g2];refine(ih A.in1 s l[j] m[j] u1 u2 ?_ hin w1 w2).1
   rcases hd with hd | hd
   ·exact .inl (JW (iP e1) hd)
   ·exact .inr (JW (iP e2) hd)
  have lists:∀(l m:List T) (a b:Addr) (us vs:List IQ),(deps l<=n\/deps m<=n)->ReVs s l us->ReVs s m vs->s.heap.IsList a us.toArray->s.heap.IsList b vs.toArray →
    EqAt A s (.ref a) (.ref b) (beqTs l m)/\RcAt A s (.ref a) (.ref b) (beqTs l m)/\RcNeAt A s (.ref a) (.ref b) (!beqTs l m):=λl m a b us vs hd r1 r2 h1 h2=>by
   have l1:=r1.length
   have l2:=r2.length
   have key:RcAt A s (.ref a) (.ref b) (beqTs l m)/\RcNeAt A s (.ref a) (.ref b) (!beqTs l m):=by
    by_cases hl:l.length=m.length
    ·obtain⟨e,he,hb⟩:=items l m us vs hd r1 r2
     have q:=kZ l m e hb
     have q2:beqTs l m=(JA us.toArray.size).all e:=by
      rw[q,hl,Nat.min_self];simp[l2.symm,hl.symm,l1]
     rw[q2]
     have hsz:us.toArray.size=vs.toArray.size:=by simp;omega
     exact⟨RcAt.lists h1 h2 hsz (by omega) he,RcNeAt.lists h1 h2 hsz (by omega) he⟩
    ·rw[o4 hl]
     have hsz:(us.toArray.size != vs.toArray.size)=true:=by simp;omega
     exact⟨RcAt.lists_lengths h1 h2 hsz (by omega),RcNeAt.lists_lengths h1 h2 hsz (by omega)⟩
   refine⟨?_,key⟩
   by_cases hab:a=b
   ·subst hab
    have:=cM h1 h2;subst this;rw[ReVs.refl r1 r2];exact EqAt.same _
   ·exact EqAt.of_refs hab key.1
  cases x with
  | tup l=>
   cases y with
   | tup m=>
    unfold ReV at rx ry;obtain⟨a,us,rfl,h1,r1⟩:=rx;obtain⟨b,vs,rfl,h2,r2⟩:=ry
    have hd':deps l<=n\/deps m<=n:=by
     simp only[T.dep]at hd;omega
    have l1:=r1.length
    have l2:=r2.length;obtain⟨e,he,hb⟩:=items l m us vs hd' r1 r2
    have q:=kZ l m e hb
    have q2:beqTs l m=((JA (min us.toArray.size vs.toArray.size)).all e&&us.toArray.size == vs.toArray.size):=by
     rw[q];simp[l1,l2]
    have key:RcAt A s (.ref a) (.ref b) (beqTs l m)/\RcNeAt A s (.ref a) (.ref b) (!beqTs l m):=by
     rw[q2];exact⟨RcAt.tuples h1 h2 (by omega) he,RcNeAt.tuples h1 h2 (by omega) he⟩
    unfold aV;refine⟨?_,key⟩
    by_cases hab:a=b
    ·subst hab
     have:=iK h1 h2;subst this;rw[ReVs.refl r1 r2];exact EqAt.same _
    ·exact EqAt.of_refs hab key.1
   | _=>exact tF A s _ _ u v (by simp[iZ]) (by omega) rx ry
  | lst l=>
   cases y with
   | lst m=>
    unfold ReV at rx ry;obtain⟨a,us,rfl,h1,r1⟩:=rx;obtain⟨b,vs,rfl,h2,r2⟩:=ry;unfold aV
    exact lists l m a b us vs (by simp only[T.dep]at hd;omega) r1 r2 h1 h2
   | scr m=>
    unfold ReV at rx ry;obtain⟨a,us,rfl,h1,r1⟩:=rx;obtain⟨b,vs,rfl,h2,r2⟩:=ry;unfold aV
    exact lists l (m.map T.int) a b us vs (by rw[fE];omega) r1 (dN r2) h1 h2
   | _=>exact tF A s _ _ u v (by simp[iZ]) (by omega) rx ry
  | scr l=>
   cases y with
   | lst m=>
    unfold ReV at rx ry;obtain⟨a,us,rfl,h1,r1⟩:=rx;obtain⟨b,vs,rfl,h2,r2⟩:=ry;unfold aV;rw[m9]
    exact lists (l.map T.int) m a b us vs (by rw[fE];omega) (dN r1) r2 h1 h2
   | scr m=>
    unfold ReV at rx ry;obtain⟨a,us,rfl,h1,r1⟩:=rx;obtain⟨b,vs,rfl,h2,r2⟩:=ry;unfold aV;rw[pH]
    exact lists (l.map T.int) (m.map T.int) a b us vs (by rw[fE];omega) (dN r1) (dN r2) h1 h2
   | _=>exact tF A s _ _ u v (by simp[iZ]) (by omega) rx ry
  | _=>exact tF A s _ _ u v (by simp[iZ]) (by omega) rx ry
mutual
def T.nf:T->T
 | .tup l=> .tup (nfs l)
 | .lst l=> .lst (nfs l)
 | .scr l=> .lst (l.map .int)
 | .non=> .non
 | .bl b=> .bl b
 | .int b=> .int b
 | .str b=> .str b
 | .dct a b=> .dct a b
 | .ob a b c=> .ob a b c
def nfs:List T->List T
 | [] => []
 | t::l=>t.nf::nfs l
end
theorem sG:∀(l:List Int),nfs (l.map T.int)=l.map T.int
 | [] =>rfl
 | i::l=>by rw[IM,nfs,sG l];simp[T.nf]
mutual
theorem ku:∀(t x:T),aV t.nf x=aV t x
 | .non,x=>by simp[T.nf]
 | .bl _,x=>by simp[T.nf]
 | .int _,x=>by simp[T.nf]
 | .str _,x=>by simp[T.nf]
 | .tup l,x=>by cases x <;> simp[T.nf,aV,beqTs_nf l]
 | .lst l,x=>by cases x <;> simp[T.nf,aV,beqTs_nf l]
 | .scr l,x=>by cases x <;> simp[T.nf,aV,m9,pH]
 | .dct _ _,x=>by simp[T.nf]
 | .ob _ _ _,x=>by simp[T.nf]
theorem beqTs_nf:∀(l m:List T),beqTs (nfs l) m=beqTs l m
 | [],m=>by simp[nfs]
 | t::l,m=>by cases m <;> simp[nfs,beqTs,ku t,beqTs_nf l]
end
theorem EU {s:IR}{t:T}{i:Int}{k:Tok}(r:ReV s t (.int i k)):t.nf= .int i:=by
 cases t with
 | non=>unfold ReV at r;cases r
 | bl b=>unfold ReV at r;cases r
 | int j=>unfold ReV at r;obtain⟨t,e⟩:=r;injection e with e1 _;subst e1;rfl
 | str x=>unfold ReV at r;obtain⟨t,e⟩:=r;cases e
 | tup l=>unfold ReV at r;obtain⟨a,its,e,_⟩:=r;cases e
 | lst l=>unfold ReV at r;obtain⟨a,its,e,_⟩:=r;cases e
 | scr l=>unfold ReV at r;obtain⟨a,its,e,_⟩:=r;cases e
 | dct _ _=>unfold ReV at r;exact r.elim
 | ob _ _ _=>unfold ReV at r;exact r.elim
theorem vO {s:IR}:∀{l:List T} {us:List IQ} {ns:List Int},ReVs s l us->MK us ns->nfs l=ns.map T.int
 | [],us,ns,r,h=>by cases ReVs.AC.mp r;cases h;rfl
 | t::l,us,ns,r,h=>by
  obtain⟨u,ws,rfl,p,q⟩:=ReVs.me.mp r
  cases h with
  | cons a b hh=>rw[nfs,EU p,vO q hh];rfl
mutual
theorem ReV.nf {s:IR}:∀{t u:T} {v:IQ},ReV s t v->ReV s u v->t.nf=u.nf
 | .non,u,v,r,q=>by
  unfold ReV at r;subst r
  cases u <;> (unfold ReV at q) <;> first | rfl | (cases q;done) | (obtain⟨_,e⟩:=q;cases e;done) | (obtain⟨_,_,e,_⟩:=q;cases e;done)
 | .bl b,u,v,r,q=>by
  unfold ReV at r;subst r
  cases u <;> (unfold ReV at q) <;> first | (cases q;done) | (cases q;rfl) | (obtain⟨_,e⟩:=q;cases e;done) | (obtain⟨_,_,e,_⟩:=q;cases e;done)
 | .int b,u,v,r,q=>by
  unfold ReV at r;obtain⟨k,rfl⟩:=r
  cases u <;> (unfold ReV at q) <;> first | (cases q;done) | (obtain⟨_,e⟩:=q;cases e;done) | (obtain⟨_,e⟩:=q;cases e;rfl) | (obtain⟨_,_,e,_⟩:=q;cases e;done)
 | .str b,u,v,r,q=>by
  unfold ReV at r;obtain⟨k,rfl⟩:=r
  cases u <;> (unfold ReV at q) <;> first | (cases q;done) | (obtain⟨_,e⟩:=q;cases e;done) | (obtain⟨_,e⟩:=q;cases e;rfl) | (obtain⟨_,_,e,_⟩:=q;cases e;done)
 | .tup l,u,v,r,q=>by
  unfold ReV at r;obtain⟨a,its,rfl,h1,h2⟩:=r
  cases u with
  | non=>unfold ReV at q;cases q
  | dct _ _=>unfold ReV at q;exact q.elim
  | ob _ _ _=>unfold ReV at q;exact q.elim
  | bl _=>unfold ReV at q;cases q
  | int _=>unfold ReV at q;obtain⟨_,e⟩:=q;cases e
  | str _=>unfold ReV at q;obtain⟨_,e⟩:=q;cases e
  | tup m=>
   unfold ReV at q;obtain⟨a',its',e,h1',h2'⟩:=q;injection e with e;subst e
   have:=iK h1 h1';subst this;unfold T.nf
   rw[ReVs.nf h2 h2']
  | lst m=>unfold ReV at q;obtain⟨a',its',e,h1',h2'⟩:=q;injection e with e;subst e;exact absurd rfl (ne_of_list_tuple h1' h1)
  | scr m=>unfold ReV at q;obtain⟨a',its',e,h1',h2'⟩:=q;injection e with e;subst e;exact absurd rfl (ne_of_list_tuple h1' h1)
 | .lst l,u,v,r,q=>by
  unfold ReV at r;obtain⟨a,its,rfl,h1,h2⟩:=r
  cases u with
  | non=>unfold ReV at q;cases q
  | dct _ _=>unfold ReV at q;exact q.elim
  | ob _ _ _=>unfold ReV at q;exact q.elim
  | bl _=>unfold ReV at q;cases q
  | int _=>unfold ReV at q;obtain⟨_,e⟩:=q;cases e
  | str _=>unfold ReV at q;obtain⟨_,e⟩:=q;cases e
  | lst m=>
   unfold ReV at q;obtain⟨a',its',e,h1',h2'⟩:=q;injection e with e;subst e
   have:=cM h1 h1';subst this;unfold T.nf
   rw[ReVs.nf h2 h2']
  | tup m=>unfold ReV at q;obtain⟨a',its',e,h1',h2'⟩:=q;injection e with e;subst e;exact absurd rfl (ne_of_list_tuple h1 h1')
  | scr m=>
   unfold ReV at q;obtain⟨a',its',e,h1',h2'⟩:=q;injection e with e;subst e
   have:=cM h1 h1';subst this;unfold T.nf
   rw[ReVs.nf h2 (dN h2'),sG]
 | .scr l,u,v,r,q=>by
  unfold ReV at r;obtain⟨a,its,rfl,h1,h2⟩:=r
  cases u with
  | non=>unfold ReV at q;cases q
  | dct _ _=>unfold ReV at q;exact q.elim
  | ob _ _ _=>unfold ReV at q;exact q.elim
  | bl _=>unfold ReV at q;cases q
  | int _=>unfold ReV at q;obtain⟨_,e⟩:=q;cases e
  | str _=>unfold ReV at q;obtain⟨_,e⟩:=q;cases e
  | lst m=>
   unfold ReV at q;obtain⟨a',its',e,h1',h2'⟩:=q;injection e with e;subst e
   have:=cM h1 h1';subst this
   have z:=vO h2' h2;unfold T.nf
   rw[z]
  | tup m=>unfold ReV at q;obtain⟨a',its',e,h1',h2'⟩:=q;injection e with e;subst e;exact absurd rfl (ne_of_list_tuple h1 h1')
  | scr m=>
   unfold ReV at q;obtain⟨a',its',e,h1',h2'⟩:=q;injection e with e;subst e
   have:=cM h1 h1';subst this
   rw[iM h2 h2']
 | .dct _ _,u,v,r,q=>by unfold ReV at r;exact r.elim
 | .ob _ _ _,u,v,r,q=>by unfold ReV at r;exact r.elim
theorem ReVs.nf {s:IR}:∀{l m:List T} {us:List IQ},ReVs s l us->ReVs s m us->nfs l=nfs m
 | [],m,us,r,q=>by
  cases ReVs.AC.mp r
  cases m with
  | nil=>rfl
  | cons _ _=>obtain⟨_,_,e,_⟩:=ReVs.me.mp q;cases e
 | t::l,m,us,r,q=>by
  obtain⟨v,ws,rfl,p,z⟩:=ReVs.me.mp r
  cases m with
  | nil=>cases ReVs.AC.mp q
  | cons u m=>
   obtain⟨v',ws',e,p',z'⟩:=ReVs.me.mp q;injection e with e1 e2
   subst e1 e2;rw[nfs,nfs,ReV.nf p p',ReVs.nf z z']
end
section
variable {X:Cx}{a b c:Expr}{fa fb fc:En->Rs T}{pos:Pos}
def gm (x y:T):Bool:=(decide (x.dep<=60)||decide (y.dep<=60))&&(x.nd&&y.nd)
def kC (x y:T):Rs T:=if gm x y=true then .ok (.bl (aV x y))else .bad
def lb (x y:T):Rs T:=if gm x y=true then .ok (.bl (!aV x y))else .bad
theorem fQ {x y:T}(h:x.dep<=60)(hx:x.nd=true)(hy:y.nd=true):gm x y=true:=by unfold gm;rw[decide_eq_true h,hx,hy];rfl
theorem mW {x y:T}(h:y.dep<=60)(hx:x.nd=true)(hy:y.nd=true):gm x y=true:=by unfold gm;rw[decide_eq_true h,hx,hy,Bool.or_true];rfl
theorem jc {x y:T}(h:gm x y=true):x.nd=true/\y.nd=true:=by
 unfold gm at h;exact KR.mp (KR.mp h).2
theorem oN {x y:T}(h:gm x y=true):x.dep<=60\/y.dep<=60:=by
 unfold gm at h
 replace h:=(KR.mp h).1
 rcases Bool.or_eq_true_iff.mp h with h | h
 ·exact .inl (of_decide_eq_true h)
 ·exact .inr (of_decide_eq_true h)
theorem la (hu:X.A.units+60<cLine):OpT X (J6 .Eq) kC:=by
 intro pins s σ H O x y vx vy ux uy Q I hf rx ry r1 r2 hp;unfold kC at hp
 split at hp
 ·rename_i h
  have z:=B7 60 X.A s x y ux uy (oN h) hu (Rep.val I (jc h).1 rx r1) (Rep.val I (jc h).2 ry r2);exact z.2.1 _ _ _ _ ⟨.bl _,H,I,rfl,hp H (Same.refl H) _ (Rep.bl_ _)⟩
 ·exact hp.elim
theorem mj (hu:X.A.units+60<cLine):OpT X (J6 .NotEq) lb:=by
 intro pins s σ H O x y vx vy ux uy Q I hf rx ry r1 r2 hp;unfold lb at hp
 split at hp
 ·rename_i h
  have z:=B7 60 X.A s x y ux uy (oN h) hu (Rep.val I (jc h).1 rx r1) (Rep.val I (jc h).2 ry r2);exact z.2.2 _ _ _ _ ⟨.bl _,H,I,rfl,hp H (Same.refl H) _ (Rep.bl_ _)⟩
 ·exact hp.elim
def T.items:T->Option (List T)
 | .tup l=>some l
 | .lst l=>some l
 | .scr l=>some (l.map T.int)
 | _=>none
def o5 (x:T)(l:List T):Bool:=l.any λy=>aV y x
def FC (x y:T):Rs T:=match y.items with
 | some l=>if (x.dep<=60\/deps l<=60)/\x.nd=true/\y.nd=true then .ok (.bl (o5 x l))else .bad
 | none=> .bad
theorem BU {A:JO}{s:IR}{x:T}{ux:IQ}(rx:ReV s x ux)(hu:A.units+60<cLine){l:List T}{us:List IQ}(hd:x.dep<=60\/deps l<=60)(r:ReVs s l us) :
  ∃e:IQ->Bool,(∀y∈us,EqAt A s y ux (e y))/\us.any e=o5 x l:=by
 classical
 have ex:∀y∈us,∃t∈l,ReV s t y:=λy hy=>by
  obtain⟨i,hi,rfl⟩:=J8 hy
  have hl:=r.length
  have e1:l[i]? =some l[i]:=by simp
  obtain⟨u,q1,q2⟩:=r.get e1
  have:us[i]? =some us[i]:=by simp
  rw[this]at q1;cases q1;exact⟨l[i],Ku _,q2⟩
 let e:IQ->Bool:=λy=>decide (∃t∈l,ReV s t y/\aV t x=true)
 have dep:∀t∈l,t.dep<=60\/x.dep<=60:=λt ht=>by
  rcases hd with h | h
  ·exact .inr h
  ·obtain⟨i,hi,rfl⟩:=J8 ht
   exact .inl (JW (iP (i:=i) (by simp)) h)
 have uniq:∀y t t',ReV s t y->ReV s t' y->aV t x=aV t' x:=λy t t' z z'=>by
  rw[<-ku t,<-ku t',ReV.nf z z']
 have agree:∀y t,t∈l->ReV s t y->e y=aV t x:=λy t h z=>by
  show decide (∃t∈l,ReV s t y/\aV t x=true)=aV t x
  cases q:aV t x with
  | true=>exact decide_eq_true ⟨t,h,z,q⟩
  | false=>
   refine decide_eq_false ?_
   rintro ⟨t',h',z',q'⟩
   rw[<-uniq y t t' z z',q]at q';cases q'
 refine⟨e,λy hy=> ?_,?_⟩
 ·obtain⟨t,h,z⟩:=ex y hy
  rw[agree y t h z];exact(B7 60 A s t x y ux (dep t h) hu z rx).1
 ·have go:∀(l':List T) (us':List IQ),(∀t∈l',t∈l)->ReVs s l' us'->us'.any e=l'.any λy=>aV y x:=by
   intro l'
   induction l' with
   | nil=>intro us' _ r';rw[ReVs.AC.mp r'];rfl
   | cons t l' ih=>
    intro us' sub r';obtain⟨u,ws,rfl,p,q⟩:=ReVs.me.mp r';rw[Lu,Lu,ih ws (λt ht=>sub t (IJ _ ht)) q,agree u t (sub t IL) p]
  exact go l us (λ_ h=>h) r
theorem xf {s:IR}{y:T}{u:IQ}{l:List T}(r:ReV s y u)(h:y.items=some l):∃a us,u= .ref a/\ReVs s l us/\(s.heap.IsTuple a us.toArray\/s.heap.IsList a us.toArray):=by
 cases y with
 | tup m=>cases h;unfold ReV at r;obtain⟨a,us,e,h1,h2⟩:=r;exact⟨a,us,e,h2,.inl h1⟩
 | lst m=>cases h;unfold ReV at r;obtain⟨a,us,e,h1,h2⟩:=r;exact⟨a,us,e,h2,.inr h1⟩
 | scr m=>cases h;unfold ReV at r;obtain⟨a,us,e,h1,h2⟩:=r;exact⟨a,us,e,dN h2,.inr h1⟩
 | _=>cases h
theorem Gw (hu:X.A.units+61<cLine):OpT X (J6 .In) FC:=by
 intro pins s σ H O x y vx vy ux uy Q I hf rx ry r1 r2 hp;unfold FC at hp
 split at hp
 ·rename_i l hl
  split at hp
  ·rename_i hd3
   obtain⟨hd,hnx,hny⟩:=hd3;obtain⟨a,us,rfl,rs,hh⟩:=xf (Rep.val I hny ry r2) hl;obtain⟨e,he,ha⟩:=BU (A:=X.A.in1) (Rep.val I hnx rx r1) (by show X.A.units+1+60<cLine;omega) hd rs
   have q:=hp H (Same.refl H) _ (Rep.bl_ (o5 x l))
   have he':∀y,y∈us.toArray->EqAt X.A.in1 s y ux (e y):=λy hy=>he y (by simpa using hy)
   have ha':us.toArray.any e=o5 x l:=by simpa using ha
   rcases hh with hh | hh
   ·exact in_tupleAt e hh he' (by rw[ha'];exact⟨.bl _,H,I,rfl,q⟩)
   ·exact in_listAt e hh he' (by rw[ha'];exact⟨.bl _,H,I,rfl,q⟩)
  ·exact hp.elim
 ·exact hp.elim
def ch (g g':T->T->Rs T)(fa fb fc:En->Rs T)(Z:En):Rs T:=do
 let x <-fa Z
 let y <-fb Z
 let z <-g x y
 match z with
 | .bl true=>do
  let w <-fc Z
  g' y w
 | .bl false=> .ok (.bl false)
 | _=> .bad
theorem Bq {op op':CmpOp}{g g':T->T->Rs T}(ho:OpT X (J6 op) g)(ho':OpT X (J6 op') g')(ha:cy X a fa)(hb:cy X b fb)(hc:cy X c fc)
  (hm:autoParam (lastMarks [op,op'] [b,c] =false) v_):cy X (.Compare a [op,op'] [b,c] pos) (ch g g' fa fb fc):=by
 intro pins s σ H Q I ⟨Z,O,E,hq⟩
 have h1:=aZ E hq;refine Compare_chain (cq (ha pins s σ H _ I h1) λv s1 ⟨x,H1,I1,r1,t,rt,s',E',q1⟩=>chain_link ?_) hm
 have h2:=aZ (f:=fb) E' q1;refine cq (hb pins s1 σ H1 _ I1 h2) λu s2 hh_=> ?_
 obtain⟨y,H2,I2,r2,t2,rt2,s'',E'',q2⟩:=hh_
 refine cq (ho pins s2 σ H2 O t t2 x y v u (λv' H'=> ∃t',Rep X.K O H' t' v'/\Same H2 H'/\Post X H' (match t' with
  | .bl true=>fc Z >>= λw=>g' t2 w
  | .bl false=> .ok (.bl false)
  | _=> .bad) (λt H'=> ∀v,Rep X.K O H' t v->Q v H')) I2 (λp=>E''.fresh) (rt.same s'') rt2 r1 r2 (Post.mono q2.bind λt' H' s3 q v rv=>⟨t',rv,s3,q⟩)) λd s3 ⟨z,H3,I3,r3,t3,rt3,sm3,q3⟩=> ?_
 have E3:=E''.same sm3
 split at q3
 ·cases Rep.FB.mp rt3
  cases r3;refine KA (ite_tt (chain_last ?_))
  have h4:=aZ (f:=fc) E3 q3;refine cq (hc pins s3 σ H3 _ I3 h4) λw' s4 ⟨z',H4,I4,r4,t4,rt4,s4',E4,q4⟩=> ?_
  exact ho' pins s4 σ H4 O t2 t4 y z' u w' Q I4 (λp=>E4.fresh) ((rt2.same sm3).same s4') rt4 r2 r4 q4
 ·cases Rep.FB.mp rt3
  cases r3;refine KA (ite_ff ⟨.bl false,H3,I3,rfl,q3 H3 (Same.refl H3) _ (Rep.bl_ false)⟩)
 ·exact q3.elim
def tb (f:En->Rs T)(Z:En):Rs Bool:=do
 let x <-f Z
 match x with
 | .bl k=> .ok k
 | _=> .bad
def bt (f:En->Rs Bool)(Z:En):Rs T:=do
 let k <-f Z
 .ok (.bl k)
theorem Dw {e:Expr}{f:En->Rs T}(h:cy X e f)(he:autoParam (∀whole,isTrue e X.env whole=(do let v <-whole;standAt e.pos;holding [v] (truthy v))) t_):tX X e (tb f):=by
 intro pins s σ H Q I ⟨Z,O,E,hq⟩;refine DX h he pins s σ H Q I ?_
 obtain⟨Z1,O1,E1,h1⟩:=aZ E hq;refine⟨Z1,O1,E1,Post.mono h1 λts H1 s1 q vs r=> ?_⟩
 obtain⟨t',r',s',E',q'⟩:=q vs r
 split at q'
 ·exact⟨_,Rep.FB.mp r',q' H1 (Same.refl H1)⟩
 ·exact q'.elim
theorem Dy {op:CmpOp}{g:T->T->Rs T}(ho:OpT X (J6 op) g)(ha:cy X a fa)(hb:cy X b fb)(hm:NN op b=false:=by rfl):tX X (.Compare a [op] [b] pos) (tb (o2 g fa fb)):=by
 intro pins s σ H Q I ⟨Z,O,E,hq⟩
 have hq':Post X H (o2 g fa fb Z) λt H'=> ∀v,Rep X.K O H' t v->∃k,v= .bl k/\Q k H':=Post.mono hq.bind λt H' s' q v r=>by
  split at q
  ·exact⟨_,Rep.FB.mp r,q H' (Same.refl H')⟩
  ·exact q.elim
 have h1:=aZ E hq';refine wpAny_isTrue_Compare1 (cq (ha pins s σ H _ I h1) λv s1 ⟨x,H1,I1,r1,t,rt,s',E',q1⟩=> ?_) hm
 have h2:=aZ (f:=fb) E' q1;refine cq (hb pins s1 σ H1 _ I1 h2) λu s2 hh_=> ?_
 obtain⟨y,H2,I2,r2,t2,rt2,s'',E'',q2⟩:=hh_;refine cq (ho pins s2 σ H2 O t t2 x y v u _ I2 (λp=>E''.fresh) (rt.same s'') rt2 r1 r2 q2) λd s3 hh_=> ?_
 obtain⟨z,H3,I3,r3,k,e,q3⟩:=hh_;subst e;cases r3;exact KA ⟨H3,I3,q3⟩
def tQ (f g:En->Rs Bool)(Z:En):Rs Bool:=do
 let k <-f Z
 if k then g Z else .ok false
def oo (f g:En->Rs Bool)(Z:En):Rs Bool:=do
 let k <-f Z
 if k then .ok true else g Z
def dS (f:En->Rs Bool)(Z:En):Rs Bool:=do
 let k <-f Z
 .ok (!k)
variable {f g:En->Rs Bool}{rest:List Expr}
abbrev C2 (X:Cx)(e:Expr)(f:En->Rs Bool):Prop:=PW X e (xK X f)
theorem A9 (ha:tX X a f):C2 X (.BoolOp .And [a] pos) f:=Bs ha
theorem Du (ha:tX X a f):C2 X (.BoolOp .Or [a] pos) f:=DU ha
theorem Dv (ha:tX X a f)(hb:C2 X (.BoolOp .And (b::rest) pos) g):C2 X (.BoolOp .And (a::b::rest) pos) (tQ f g):=by
 intro wh pins s σ H Q I ⟨Z,O,E,hq⟩;refine DV ha hb wh pins s σ H Q I ?_
 obtain⟨Z1,O1,E1,h1⟩:=jS E hq;refine⟨Z1,O1,E1,Post.mono h1 λk H1 s1 q=> ?_⟩
 obtain⟨s',E',q'⟩:=q
 cases k with
 | true=>rw[if_pos rfl];exact⟨Z,O,E',by simpa using q'⟩
 | false=>rw[if_neg Jo];exact q' H1 (Same.refl H1)
theorem F3 (ha:tX X a f)(hb:C2 X (.BoolOp .Or (b::rest) pos) g):C2 X (.BoolOp .Or (a::b::rest) pos) (oo f g):=by
 intro wh pins s σ H Q I ⟨Z,O,E,hq⟩;refine Gn ha hb wh pins s σ H Q I ?_
 obtain⟨Z1,O1,E1,h1⟩:=jS E hq;refine⟨Z1,O1,E1,Post.mono h1 λk H1 s1 q=> ?_⟩
 obtain⟨s',E',q'⟩:=q
 cases k with
 | true=>rw[if_pos rfl];exact q' H1 (Same.refl H1)
 | false=>rw[if_neg Jo];exact⟨Z,O,E',by simpa using q'⟩
theorem qt_w {e:Expr}(h:C2 X e f):tX X e f:=h.pt
theorem Dx (ha:tX X a f):tX X (.UnaryOp .Not a pos) (dS f):=by
 intro pins s σ H Q I ⟨Z,O,E,hq⟩;refine DY ha pins s σ H Q I ?_
 obtain⟨Z1,O1,E1,h1⟩:=jS E hq;exact⟨Z1,O1,E1,Post.mono h1 λk H1 s1 ⟨s',E',q'⟩=>q' H1 (Same.refl H1)⟩
def cP (f g:En->Rs T)(Z:En):Rs T:=do
 let x <-f Z
 match x with
 | .bl true=>g Z
 | .bl false=> .ok (.bl false)
 | _=> .bad
def BI (f g:En->Rs T)(Z:En):Rs T:=do
 let x <-f Z
 match x with
 | .bl true=> .ok (.bl true)
 | .bl false=>g Z
 | _=> .bad
def BP:T->Rs T
 | .bl k=> .ok (.bl (!k))
 | _=> .bad
theorem Ga {op}(h:cy X a fa):cy X (.BoolOp op [a] pos) fa:=D8 h
theorem Gm (ha:cy X a fa)(hb:cy X (.BoolOp .And (b::rest) pos) fb):cy X (.BoolOp .And (a::b::rest) pos) (cP fa fb):=by
 intro pins s σ H Q I ⟨Z,O,E,hq⟩;refine Ed ha hb pins s σ H Q I ?_
 obtain⟨Z1,O1,E1,h1⟩:=aZ E hq;refine⟨Z1,O1,E1,Post.mono h1 λts H1 s1 q vs r=> ?_⟩
 obtain⟨t',r',s',E',q'⟩:=q vs r
 split at q'
 ·exact⟨true,Rep.FB.mp r',by rw[if_pos rfl];exact⟨Z,O,E',q'⟩⟩
 ·exact⟨false,Rep.FB.mp r',by rw[if_neg Jo];exact q' H1 (Same.refl H1) _ (Rep.bl_ false)⟩
 ·exact q'.elim
theorem q_or (ha:cy X a fa)(hb:cy X (.BoolOp .Or (b::rest) pos) fb):cy X (.BoolOp .Or (a::b::rest) pos) (BI fa fb):=by
 intro pins s σ H Q I ⟨Z,O,E,hq⟩;refine Gu ha hb pins s σ H Q I ?_
 obtain⟨Z1,O1,E1,h1⟩:=aZ E hq;refine⟨Z1,O1,E1,Post.mono h1 λts H1 s1 q vs r=> ?_⟩
 obtain⟨t',r',s',E',q'⟩:=q vs r
 split at q'
 ·exact⟨true,Rep.FB.mp r',by rw[if_pos rfl];exact q' H1 (Same.refl H1) _ (Rep.bl_ true)⟩
 ·exact⟨false,Rep.FB.mp r',by rw[if_neg Jo];exact⟨Z,O,E',q'⟩⟩
 ·exact q'.elim
theorem Gb (ha:cy X a fa):cy X (.UnaryOp .Not a pos) (o1 BP fa):=by
 intro pins s σ H Q I ⟨Z,O,E,hq⟩;refine D9 ha pins s σ H Q I ?_
 obtain⟨Z1,O1,E1,h1⟩:=aZ E hq;refine⟨Z1,O1,E1,Post.mono h1 λts H1 s1 q vs r=> ?_⟩
 obtain⟨t',r',s',E',q'⟩:=q vs r;unfold BP at q'
 split at q'
 ·exact⟨_,Rep.FB.mp r',q' H1 (Same.refl H1) _ (Rep.bl_ _)⟩
 ·exact q'.elim
def oK (f:En->Rs Bool)(fa fb:En->Rs T)(Z:En):Rs T:=do
 let k <-f Z
 if k then fa Z else fb Z
theorem q_if (hc:tX X c f)(ha:cy X a fa)(hb:cy X b fb):cy X (.IfExp c a b pos) (oK f fa fb):=by
 intro pins s σ H Q I ⟨Z,O,E,hq⟩;refine yH hc ha hb pins s σ H Q I ?_
 obtain⟨Z1,O1,E1,h1⟩:=jS E hq;refine⟨Z1,O1,E1,Post.mono h1 λk H1 s1 q=> ?_⟩
 obtain⟨s',E',q'⟩:=q
 cases k with
 | true=>rw[if_pos rfl];exact⟨Z,O,E',by simpa using q'⟩
 | false=>rw[if_neg Jo];exact⟨Z,O,E',by simpa using q'⟩
end
end Tr
namespace HT
open PySem PyProof.Rows
section
variable {prog:Jp}{w:J2}{A:JO}{E:IQ->IR->Prop}{s:IR}
theorem jm {t:Addr}{items:Array IQ}{Q:Bool->IR->Prop}(ht:QK s.heap t items)(h:Q true s):wpAny (model prog w) A (M5 (.ref t)) Q E s:=by
 unfold M5;refine IH (Mb ht.typeIs (IS ?_))
 exact h
theorem getItem_tuple_whole {t sl:Addr}{items:Array IQ}{vl vu:IQ}{lo hi:Option Int}{Q:IQ->IR->Prop}(ht:QK s.heap t items)(hs:s.heap.IsSliceOf sl vl vu .none)(pl:Pc vl lo)(pu:Pc vu hi)
  (hw:sIx items.size 0 lo=0/\sIx items.size items.size hi=items.size) (h:Q (.ref t) s):wpAny (model prog w) A (getItem (.ref t) (.ref sl)) Q E s:=by
 obtain⟨os,hos,hcs,hds⟩:=id hs
 have hTs:s.TypeIs (.ref sl) "slice":=⟨os,hos,hcs⟩;unfold getItem
 try with_reducible refine Kj ?_
 first | refine IH (IS ?_) | skip
 refine IH (PC ht.typeIs (by decide) ?_)
 refine IH (JH (name:=Jb "__getitem__") ht.typeIs JU
  (J1 JU ht.typeIs OM ?_ (Pd _ _)))
 show wpAny _ _ (M4 (.ref t) >>= _) _ _ s
 refine IH (Pe ht ?_)
 refine IH (Mb hTs ?_)
 rw[if_pos (by decide)]
 refine IH (gC hs pl pu ?_)
 have hyes:(((sIx items.size 0 lo:Nat):Int) == 0&&(1:Int) == 1&&(sIx items.size items.size hi - sIx items.size 0 lo) == items.size)=true:=by
  rw[hw.1,hw.2];simp
 show wpAny _ _ (if (((sIx items.size 0 lo:Nat):Int) == 0&&(1:Int) == 1&&(sIx items.size items.size hi - sIx items.size 0 lo) == items.size)=true then _ else _) _ _ s
 rw[if_pos hyes]
 first
  | refine IH (jm ht ?_)
  | refine jm ht ?_
 try rw[if_pos rfl]
 first
  | exact IH (NC (IS ⟨_,rfl,IS h⟩))
  | exact IH (NC (IH (IS (IS ⟨_,rfl,IS h⟩))))
end
end HT
namespace Tr
open PySem PySem.Spec PyProof.Rows L2
section
variable {X:Cx}{a b c:Expr}{fa fb fc:En->Rs T}{pos:Pos}
theorem Reps.atI {K:II}{O:Ow}{H:Hp}{l:List T}{vs:List V}{i:Int}{t:T}(r:Reps K O H l vs)(e:L2.atI l i=some t):∃v,L2.atI vs i=some v/\Rep K O H t v:=by
 unfold L2.atI at e ⊢;rw[r.length]at e
 cases q:ixN vs.length i with
 | none=>rw[q]at e;cases e
 | some j=>
  rw[q]at e;obtain⟨v,e1,e2⟩:=r.get (i:=j) (t:=t) e;exact⟨v,e1,e2⟩
def aP (x y:T):Rs T:=match x.items,y with
 | some l,.int i=>match L2.atI l i with
  | some t=> .ok t
  | none=> .bad
 | _,_=> .bad
theorem q_ix (ha:cy X a fa)(hb:cy X b fb)(hs:autoParam (wc b) w_):cy X (.Subscript a b pos) (o2 aP fa fb):=by
 intro pins s σ H Q I ⟨Z,O,E,hq⟩
 have h1:=aZ E hq;refine Subscript_ (cq (ha pins s σ H _ I h1) λv s1 hh_=> ?_)
 obtain⟨x,H1,I1,r1,t,rt,s',E',q1⟩:=hh_
 have h2:=aZ (f:=fb) E' q1;refine cq (hb pins s1 σ H1 _ I1 h2) λu s2 hh_=> ?_
 obtain⟨y,H2,I2,r2,t2,rt2,s'',E'',q2⟩:=hh_
 have rt':=rt.same s'';unfold aP at q2
 split at q2
 ·rename_i l i hl
  split at q2
  ·rename_i z hz
   have hy:=Rep.Da.mp rt2;refine ER a b pins s2 σ H2 x y v u Q I2 r1 r2 ?_ (hs _ _)
   cases t with
   | tup m=>
    cases hl;obtain⟨p,vs,e,n,q,rr⟩:=Rep.Fk.mp rt';obtain⟨w,ew,rw'⟩:=rr.atI hz
    exact .inr (.inl ⟨p,vs,i,w,e,hy,SqT.of q,ew,q2 H2 (Same.refl H2) _ rw'⟩)
   | lst m=>
    cases hl;obtain⟨p,vs,e,n,q,rr⟩:=Rep.Do.mp rt';obtain⟨w,ew,rw'⟩:=rr.atI hz
    exact .inl ⟨p,vs,i,w,e,hy,SqL.of q,ew,q2 H2 (Same.refl H2) _ rw'⟩
   | scr m=>
    cases hl;unfold Rep at rt';obtain⟨p,e,n,q⟩:=rt';obtain⟨w,ew,rw'⟩:=(Reps.ints (K:=X.K) (O:=O) (H:=H2) (ns:=m)).atI hz
    exact .inl ⟨p,_,i,w,e,hy,q,ew,q2 H2 (Same.refl H2) _ rw'⟩
   | _=>cases hl
  ·exact q2.elim
 ·exact q2.elim
def m3 (l:List T)(lo hi:Option Int):List T:=(l.drop (HT.sIx l.length 0 lo)).take (HT.sIx l.length l.length hi - HT.sIx l.length 0 lo)
theorem Reps.cut {K:II}{O:Ow}{H:Hp}{l:List T}{vs:List V}(r:Reps K O H l vs)(lo hi:Option Int):Reps K O H (m3 l lo hi) (tM vs lo hi):=by
 unfold m3 tM;rw[r.length];exact(r.drop _).take _
theorem xu {l:List T}{lo hi:Option Int}(h:HT.sIx l.length 0 lo=0/\HT.sIx l.length l.length hi=l.length):m3 l lo hi=l:=by
 unfold m3;rw[h.1,h.2];simp
theorem sl_tup_whole:SlR X (λx lo hi H Q=> ∃a xs,x= .ref a/\SqT X.K H a xs/\(HT.sIx xs.length 0 lo=0/\HT.sIx xs.length xs.length hi=xs.length)/\Q (.ref a) H):=by
 intro pins s σ H x v vl vu lo hi sl Q I rx hs pl pu h;obtain⟨a,xs,rfl,hx,hw,q⟩:=h;cases rx;obtain⟨its,r,ht,hz⟩:=I.tuple hx
 have hlen:its.toArray.size=xs.length:=by rw[Je];exact r.length.symm
 refine⟨"tuple",_,JU.lookup,ht.typeIs,?_⟩
 exact HT.getItem_tuple_whole ht hs pl pu (by rw[hlen];exact hw) ⟨.ref a,H,I,rfl,q⟩
def pN (_:En):Rs (Option Int):=.ok none
def pS (f:En->Rs T)(Z:En):Rs (Option Int):=do
 let x <-f Z
 match x with
 | .int i=> .ok (some i)
 | _=> .bad
def tPO (X:Cx)(f:En->Rs (Option Int)):TO:=λσ H Q=> ∃Z O,EnvO X.K O H Z σ/\Post X H (f Z) λb H'=>Q b H'
abbrev Hl (X:Cx)(e:Option Expr)(f:En->Rs (Option Int)):Prop:=PO X e (tPO X f)
theorem Bg:Hl X none pN:=by
 intro pins s σ H Q I ⟨Z,O,E,hq⟩;exact Bx pins s σ H Q I (hq H (Same.refl H))
theorem Bf (ha:cy X a fa):Hl X (some a) (pS fa):=by
 intro pins s σ H Q I ⟨Z,O,E,hq⟩;refine Bw ha pins s σ H Q I ?_
 obtain⟨Z1,O1,E1,h1⟩:=aZ E hq;refine⟨Z1,O1,E1,Post.mono h1 λts H1 s1 q vs r=> ?_⟩
 obtain⟨t',r',s',E',q'⟩:=q vs r
 split at q'
 ·exact⟨_,Rep.Da.mp r',q' H1 (Same.refl H1)⟩
 ·exact q'.elim
def slT (x:T)(lo hi:Option Int):Rs T:=match x with
 | .tup l=> .ok (.tup (m3 l lo hi))
 | .lst l=> .ok (.lst (m3 l lo hi))
 | _=> .bad
def sl (fe:En->Rs T)(fl fu:En->Rs (Option Int))(Z:En):Rs T:=do
 let x <-fe Z
 let l <-fl Z
 let u <-fu Z
 slT x l u
theorem rB {σ:L2.St}{H:Hp}{Z:En}{O:Ow}{α:Type}{f:En->Rs (Option Int)}{k:Option Int->Rs α}{Q:α->Hp->Prop}(E:EnvO X.K O H Z σ)(h:Post X H (f Z >>= k) Q) :
  tPO X f σ H λb H'=>Same H H'/\EnvO X.K O H' Z σ/\Post X H' (k b) Q:=
 ⟨Z,O,E,Post.mono h.bind λt H' s q=>⟨s,E.same s,q⟩⟩
theorem Bp {lo hi:Option Expr}{p2:Pos}{fl fu:En->Rs (Option Int)}(ha:cy X a fa)(hl:Hl X lo fl)(hu:Hl X hi fu):cy X (.Subscript a (.Slice lo hi none p2) pos) (sl fa fl fu):=by
 intro pins s σ H Q I ⟨Z,O,E,hq⟩;refine yF (sl_tup.or (sl_tup_whole.or A0)) ha hl hu pins s σ H Q I ?_
 obtain⟨Z1,O1,E1,h1⟩:=aZ E hq;refine⟨Z1,O1,E1,Post.mono h1 λts H1 s1 q vs r=> ?_⟩
 obtain⟨t',r',s',E',q'⟩:=q vs r;obtain⟨Z2,O2,E2,h2⟩:=rB E' q';refine⟨Z2,O2,E2,Post.mono h2 λo1 H2 s2 q=> ?_⟩
 obtain⟨s2',E2',q2⟩:=q;obtain⟨Z3,O3,E3,h3⟩:=rB E2' q2;refine⟨Z3,O3,E3,Post.mono h3 λo2 H3 s3 q=> ?_⟩
 obtain⟨s3',E3',q3⟩:=q
 have rt:=(r'.same s2').same s3';unfold slT at q3
 split at q3
 ·rename_i l
  obtain⟨p,ws,e,n,q,rr⟩:=Rep.Fk.mp rt
  have hlen:=rr.length
  by_cases hw:HT.sIx ws.length 0 o1=0/\HT.sIx ws.length ws.length o2=ws.length
  ·refine .inr (.inl ⟨p,ws,e,SqT.of q,hw,?_⟩)
   rw[<-hlen]at hw;refine q3 H3 (Same.refl H3) _ ?_
   rw[xu hw];exact Rep.Fk.mpr ⟨p,ws,rfl,n,q,rr⟩
  ·exact .inl ⟨p,ws,e,SqT.of q,hw,λp' hp=>q3 _ (aS hp _) _ (gD hp (E3'.fresh hp) (rr.cut o1 o2))⟩
 ·rename_i l
  obtain⟨p,ws,e,n,q,rr⟩:=Rep.Do.mp rt;exact .inr (.inr ⟨p,ws,e,SqL.of q,λp' hp=>q3 _ (aS hp _) _ (jW hp (E3'.fresh hp) (rr.cut o1 o2))⟩)
 ·exact q3.elim
def CallT (X:Cx)(f:IQ)(g:List T->Rs T):Prop:=
 ∀(pins:List (Addr×Obj)) (s:IR) (σ:L2.St) (H:Hp) (O:Ow) (ts:List T) (vs:List V) (us:List IQ) (Q:VK),Inv X pins σ H s->(∀p,H p=none->¬ O p)->Reps X.K O H ts vs->Vals vs us →
  Post X H (g ts) (λt H'=> ∀v,Rep X.K O H' t v->Q v H')->wpAny (model X.prog X.w) X.A (call f us) (EP X pins σ Q) X.xe s
theorem CallT.of {f:IQ}{r:List V->Hp->VK->Prop}(h:CallR X f r){g:List T->Rs T}
  (w:∀(H:Hp) (O:Ow) (ts:List T) (vs:List V) (Q:VK),(∀p,H p=none->¬ O p)->Reps X.K O H ts vs->Post X H (g ts) (λt H'=> ∀v,Rep X.K O H' t v->Q v H')->r vs H Q):CallT X f g:=
 λpins s σ H O ts vs us Q I hf rs rv hp=>h pins s σ H vs us Q I rv (w H O ts vs Q hf rs hp)
def cl (g:List T->Rs T)(fs:En->Rs (List T))(Z:En):Rs T:=fs Z >>= g
variable {e:Expr}{es:List Expr}{fs:En->Rs (List T)}{x:Str}{p:Pos}{id:String}{g:List T->Rs T}
theorem Br (hc:CallT X (.builtin id) g)(hm:X.mg x=none)(hv:Jw x=some (.builtin id))(ha:qT X (e::es) fs)(hg:Gl X x:=by rfl)(hn:autoParam (x≠ "__name__") s_)(hdb:autoParam ((x == ("__debug__" : Str))=false) s_)
  (he:Jj (e::es) X.env=(false,eval e X.env)::Jj es X.env:=by rfl) (hpl:(backTo pos (Jj es X.env)).any (·.1)=false:=by rfl):cy X (.Call (.Name x p) (e::es) [] pos) (cl g fs):=by
 intro pins s σ H Q I ⟨Z,O,E,hq⟩;refine JV (fo I hg hm hv ?_ hn hdb)
 have h1:=eQ E hq;exact Lq (cq (ha pos pins s σ H _ I h1) λus s1 ⟨vs,H1,I1,r1,ts,rs,s',E',q1⟩=>hc pins s1 σ H1 O ts vs us Q I1 (λp=>E'.fresh) rs r1 q1) he hpl
theorem yw {Ty:String}(hc:CallT X (.type Ty) g)(hm:X.mg x=none)(hv:Jw x=some (.type Ty))(ha:qT X (e::es) fs)(hg:Gl X x:=by rfl)(hn:autoParam (x≠ "__name__") s_)(hdb:autoParam ((x == ("__debug__" : Str))=false) s_)
  (he:Jj (e::es) X.env=(false,eval e X.env)::Jj es X.env:=by rfl) (hpl:(backTo pos (Jj es X.env)).any (·.1)=false:=by rfl):cy X (.Call (.Name x p) (e::es) [] pos) (cl g fs):=by
 intro pins s σ H Q I ⟨Z,O,E,hq⟩;refine JV (fo I hg hm hv ?_ hn hdb)
 have h1:=eQ E hq;exact JL (cq (ha pos pins s σ H _ I h1) λus s1 ⟨vs,H1,I1,r1,ts,rs,s',E',q1⟩=>hc pins s1 σ H1 O ts vs us Q I1 (λp=>E'.fresh) rs r1 q1) he hpl
theorem Reps.one {K:II}{O:Ow}{H:Hp}{t:T}{vs:List V}(r:Reps K O H [t] vs):∃v,vs= [v]/\Rep K O H t v:=by
 obtain⟨v,ws,rfl,p,q⟩:=Reps.me.mp r;cases Reps.AC.mp q;exact⟨v,rfl,p⟩
theorem Rep.sq {K:II}{O:Ow}{H:Hp}{t:T}{v:V}{l:List T}(r:Rep K O H t v)(h:t.items=some l):∃a vs,v= .ref a/\¬ O a/\Reps K O H l vs/\(SqL K H a vs\/SqT K H a vs):=by
 cases t with
 | tup m=>cases h;obtain⟨a,vs,e,n,q,z⟩:=Rep.Fk.mp r;exact⟨a,vs,e,n,z,.inr (SqT.of q)⟩
 | lst m=>cases h;obtain⟨a,vs,e,n,q,z⟩:=Rep.Do.mp r;exact⟨a,vs,e,n,z,.inl (SqL.of q)⟩
 | scr m=>cases h;unfold Rep at r;obtain⟨a,e,n,q⟩:=r;exact⟨a,_,e,n,Reps.ints,.inl q⟩
 | _=>cases h
def cV:List T->Rs T
 | [.str x] =>if x.length<=sizeLine then .ok (.int x.length)else .bad
 | [x] =>match x.items with
  | some l=> .ok (.int l.length)
  | none=> .bad
 | _=> .bad
theorem cO:CallT X (.builtin "len") cV:=CallT.of (call_len_seq.or qM) λH O ts vs Q hf rs hp=>by
 unfold cV at hp
 split at hp
 ·obtain⟨v,rfl,r⟩:=rs.one
  split at hp
  ·rename_i h
   exact .inr ⟨_,by rw[Rep.GM.mp r],h,hp H (Same.refl H) _ (Rep.Gc _)⟩
  ·exact hp.elim
 ·obtain⟨v,rfl,r⟩:=rs.one
  split at hp
  ·rename_i l hl
   obtain⟨a,vs,rfl,n,z,q⟩:=r.sq hl;exact .inl ⟨a,vs,rfl,q,hp H (Same.refl H) _ (by rw[<-z.length];exact Rep.Gc _)⟩
  ·exact hp.elim
 ·exact hp.elim
def gL:List T->Rs T
 | [.tup l] => .ok (.tup l)
 | [.lst l] => .ok (.tup l)
 | _=> .bad
theorem kn:CallT X (.type "tuple") gL:=CallT.of n4 λH O ts vs Q hf rs hp=>by
 unfold gL at hp
 split at hp
 ·obtain⟨v,rfl,r⟩:=rs.one
  obtain⟨a,ws,rfl,n,q,z⟩:=Rep.Fk.mp r;exact⟨a,ws,rfl,.inr ⟨SqT.of q,hp H (Same.refl H) _ (Rep.Fk.mpr ⟨a,ws,rfl,n,q,z⟩)⟩⟩
 ·obtain⟨v,rfl,r⟩:=rs.one
  obtain⟨a,ws,rfl,n,q,z⟩:=Rep.Do.mp r;exact⟨a,ws,rfl,.inl ⟨SqL.of q,λl hl=>hp _ (aS hl _) _ (gD hl (hf l hl) z)⟩⟩
 ·exact hp.elim
def zH:List T->Rs T
 | [.int i] => .ok (.int i)
 | [.bl k] => .ok (.int (if k then 1 else 0))
 | _=> .bad
theorem Fm:CallT X (.type "int") zH:=CallT.of xA λH O ts vs Q hf rs hp=>by
 unfold zH at hp
 split at hp
 ·obtain⟨v,rfl,r⟩:=rs.one
  exact .inl ⟨_,by rw[Rep.Da.mp r],hp H (Same.refl H) _ (Rep.Gc _)⟩
 ·obtain⟨v,rfl,r⟩:=rs.one
  exact .inr ⟨_,by rw[Rep.FB.mp r],hp H (Same.refl H) _ (Rep.Gc _)⟩
 ·exact hp.elim
def m8:List T->Option (List Bool)
 | [] =>some []
 | .bl k::r=>(m8 r).map (k:: ·)
 | _=>none
def nu:List T->Rs T
 | [.lst l] =>match m8 l with
  | some ks=> .ok (.bl (ks.all λk=>k))
  | none=> .bad
 | _=> .bad
theorem m7 {K:II}{O:Ow}{H:Hp}:∀{l:List T} {ks:List Bool} {vs:List V} {us:List IQ},m8 l=some ks->Reps K O H l vs->Vals vs us->us=ks.map Kf
 | [],ks,vs,us,e,r,v=>by cases e;cases Reps.AC.mp r;cases v;rfl
 | t::l,ks,vs,us,e,r,v=>by
  obtain⟨w,ws,rfl,p,q⟩:=Reps.me.mp r
  cases t with
  | bl k=>
   unfold m8 at e
   cases z:m8 l with
   | none=>rw[z]at e;cases e
   | some ks'=>
    rw[z]at e;cases e
    cases v with
    | cons v1 v2=>
     cases Rep.FB.mp p;cases v1
     rw[m7 z q v2];rfl
  | _=>cases e
theorem m4 (hc:X.calm=true):CallT X (.builtin "all") nu:=by
 intro pins s σ H O ts vs us Q I hf rs rv hp;unfold nu at hp
 split at hp
 ·obtain⟨v,rfl,r⟩:=rs.one
  split at hp
  ·rename_i ks hk
   obtain⟨a,ws,rfl,n,q,z⟩:=Rep.Do.mp r;obtain⟨u,rfl,ru⟩:=iq rv;cases ru;obtain⟨its,r',pl,hz⟩:=I.list (SqL.of q)
   have hits:=m7 hk z r';refine call_all_walk (LM pl.isList ?_)
   have hne:a≠s.heap.objs.size:=λe=>by
    obtain⟨o,ho,_⟩:=pl.isList;rw[e]at ho;exact absurd (Ja ho) (Ju _)
   refine⟨s.heap.objs.size,_,_,_,_,_,λi=>(ks[i]?).getD true,rfl,Walks.list (A:=X.A.in1) (I.ok.hd hc) s.heap.objs.size a hne its.toArray,⟨⟨_,IZ _ rfl,rfl,rfl⟩,?_⟩,?_,?_⟩
   ·obtain⟨o,ho,hh⟩:=pl.isList
    exact⟨o,IK _ ho,hh⟩
   ·intro i v s' Q' E' hP hQ'
    subst hits
    dsimp only at hQ'
    have hP':(ks.map Kf)[i]? =some v:=by simpa using hP
    rw[Jm]at hP'
    cases e:ks[i]? with
    | none=>rw[e]at hP';cases hP'
    | some k=>
     rw[e]at hP' hQ';cases hP';exact KA hQ'
   ·intro h' tk hk'
    have hlen:its.toArray.size=ks.length:=by rw[hits];simp
    have e:((JA its.toArray.size).all λi=>(ks[i]?).getD true)=(ks.all λk=>k):=by
     rw[hlen];rw[Bool.eq_iff_iff,Jf,Jf]
     constructor
     ·intro h x hx
      obtain⟨i,hi,rfl⟩:=J8 hx
      have:=h i (JJ.mpr hi)
      simpa [hi]using this
     ·intro h i hi
      have hi':=JJ.mp hi
      have:=h ks[i] (Ku hi')
      simpa [hi']using this
    rw[e]
    have I1:Inv X pins σ H { s with heap:=s.heap.push { cls:=.type "list_iterator",data:=.fields #[.ref a,.int 0 0] } }:=I.kept (t':=s.toks) λb o e=>IK _ e
    have I2:Inv X pins σ H { s with heap:=h',toks:=tk }:=by
     have:=I1.turned (h':=h') (t':=tk) (it:=s.heap.objs.size) (λb o hb e=>hk' b o (by simpa using hb) e) (I.hok.fresh (Jc _))
      (MA I.lt) (.inr I.sz) (λx c e z=> ?_) (λp hp z=> ?_)
     ·exact this
     ·obtain⟨v,q⟩:=I.cell x c e
      exact absurd (Ji q.lt (L9 z.symm)) (Ju _)
     ·exact absurd (Ji (Ja (I.pin p hp).1) (L9 z.symm)) (Ju _)
    exact⟨.bl _,H,I2,rfl,hp H (Same.refl H) _ (Rep.bl_ _)⟩
  ·exact hp.elim
 ·exact hp.elim
end
def T.ty:T->Option String
 | .non=>some "NoneType"
 | .bl _=>some "bool"
 | .int _=>some "int"
 | .str _=>some "str"
 | .tup _=>some "tuple"
 | .lst _=>some "list"
 | .scr _=>none
 | .dct _ _=>none
 | .ob _ _ _=>none
def tD (i b t l s:Bool)(Ty:String):Option Bool:=match Ty with
 | "int" =>some i | "bool" =>some b | "tuple" =>some t | "list" =>some l | "str" =>some s
 | _=>none
def vN (n Ty:String):Option Bool:=match n with
 | "NoneType" =>tD false false false false false Ty
 | "bool" =>tD true true false false false Ty
 | "int" =>tD true false false false false Ty
 | "str" =>tD false false false false true Ty
 | "tuple" =>tD false false true false false Ty
 | "list" =>tD false false false true false Ty
 | _=>none
theorem xh (K:II){n Ty:String}{b:Bool}(h:vN n Ty=some b):PySem.W.kitOne K (.type n) (.type Ty)=some b:=by
 unfold vN at h
 split at h <;> first | (cases h;done) | (unfold tD at h;split at h <;> first | (cases h;done) | (cases h;kernel_rfl))
def zF (Ty:String)(t:T):Rs T:=match t.ty with
 | some n=>match vN n Ty with
  | some b=> .ok (.bl b)
  | none=> .bad
 | none=> .bad
theorem Rep.IG {K:II}{O:Ow}{H:Hp}{t:T}{v:V}{n:String}(r:Rep K O H t v)(h:t.ty=some n):k7 K H v (.type n):=by
 cases t with
 | non=>cases h;cases Rep.HI.mp r;exact .non
 | bl b=>cases h;cases Rep.FB.mp r;exact .bl b
 | int b=>cases h;cases Rep.Da.mp r;exact .int b
 | str b=>cases h;cases Rep.GM.mp r;exact .str b
 | tup l=>cases h;obtain⟨a,vs,rfl,_,q,_⟩:=Rep.Fk.mp r;exact .tup q
 | lst l=>cases h;obtain⟨a,vs,rfl,_,q,_⟩:=Rep.Do.mp r;exact .lst q
 | scr l=>cases h
 | dct _ _=>cases h
 | ob _ _ _=>cases h
section
variable {X:Cx}{a b c e:Expr}{es:List Expr}{fa fb fc:En->Rs T}{fs:En->Rs (List T)}{pos p p2:Pos}{x:Str}
theorem lH:Jw "isinstance" =some (.builtin "isinstance"):=by decide+kernel
theorem Gg {tn:Str}{Ty:String}(hm:X.mg "isinstance" =none)(hmt:X.mg tn=none)(hv:Jw tn=some (.type Ty))(ha:cy X a fa)(hg:Gl X "isinstance":=by rfl)(hgt:Gl X tn:=by rfl)
  (hn:autoParam (tn≠ "__name__") s_) (hd:autoParam ((tn == ("__debug__" : Str))=false) s_)
  (he:Jj [a,.Name tn p2] X.env=(false,eval a X.env)::Jj [.Name tn p2] X.env:=by rfl) (hpl:(backTo pos (Jj [.Name tn p2] X.env)).any (·.1)=false:=by rfl)
  (hs:Jj [.Name tn p2] X.env=(false,eval (.Name tn p2) X.env)::Jj [] X.env:=by rfl) :
  cy X (.Call (.Name "isinstance" p) [a,.Name tn p2] [] pos) (o1 (zF Ty) fa):=by
 intro pins s σ H Q I ⟨Z,O,E,hq⟩;refine JV (fo I hg hm lH ?_ (by decide) (by decide))
 have hA:PA X [a,.Name tn p2] (jT (tP X fa) (jT (tC (.ty Ty)) x6)):=dX ha (dX (BG (v:=.ty Ty) hgt hmt hv rfl hn hd) iz hs) he;obtain⟨Z1,O1,E1,h1⟩:=aZ E hq;refine Lq (cq (hA pos pins s σ H (λvs H'=> ∃v t,vs= [v,.ty Ty]/\Rep X.K O H' t v/\Post X H' (zF Ty t) (λt H'=> ∀v,Rep X.K O H' t v->Q v H')) I ?_) λus s1 ⟨vs,H1,I1,r1,v,t,e1,rt,q⟩=> ?_) he hpl
 ·refine⟨Z1,O1,E1,Post.mono h1 λts H1 s1 q vs r=> ?_⟩
  obtain⟨t',r',s',E',q'⟩:=q vs r;exact⟨vs,t',rfl,r',q'⟩
 ·subst e1
  obtain⟨u,w',rfl,ru,rw'⟩:=xT r1;cases rw';unfold zF at q
  split at q
  ·rename_i n hn'
   split at q
   ·rename_i bb hb
    exact xg I1 ru (rt.IG hn') (xh _ hb) λtk=>⟨.bl bb,H1,I1.tok _,rfl,q H1 (Same.refl H1) _ (Rep.bl_ _)⟩
   ·exact q.elim
  ·exact q.elim
def spP (K:II)(n:Nat)(g:List T->Rs T):Sp:=λvs H Q _=> ∃ts O,Reps K O H ts vs/\(∀a,O a->Mtb H a)/\ts.length=n ∧
 match g ts with
 | .ok t=> ∀v H',Same H H'->Rep K O H' t v->Q v H'
 | _=>False
def RzC (P:Jp)(w:J2)(mg:Str->Option IQ)(outer:List Env)(H:Hp)(s:IR)(c:Str)(ev:IQ)(s':IR):Prop:=
 ∃e T C H',ev= .ref e/\mg c=some (.ref C)/\s'.os=s.os/\NM s'.gens/\Un (qE outer) [] H H' s.heap s'.heap/\HOk P w H' s'.heap/\Same H H'/\H' e=none/\s.heap.get? e=none/\HG s'.heap C e (some T)/\H' T=none/\s.heap.get? T=none
def FnX (P:Jp)(w:J2)(K:II)(mg:Str->Option IQ)(base:Heap)(k:Nat)(f:Addr)(fd:KM)(ps:List Str)(n:Nat)(g:List T->Rs T):Prop:=
 ∀(A:JO) (outer:List Env) (s:IR) (H:Hp) (args:Args) (us:List IQ) (vs:List V) (O:Ow) (ts:List T) (c:Str) (R:Qy->IR->Prop),Room k A->Ax P w K mg base A outer s H->PB s fd args (ps.zip us)->Vals vs us →
  Reps K O H ts vs->(∀a,O a->Mtb H a)->ts.length=n->g ts= .err c->(∀ev s',RzC P w mg outer H s c ev s'->R (.error ev) s')->codeAny (model P w) A (.call (.ref f) args) R s
structure Fv (P:Jp)(w:J2)(K:II)(mg:Str->Option IQ)(base:Heap)(k:Nat)(f:Addr)(fd:KM)(ps:List Str)(n:Nat)(g:List T->Rs T):Prop where
 h:qU P w K mg base CX0 k f fd ps (spP K n g)
 x:FnX P w K mg base k f fd ps n g
theorem yQ {P:Jp}{w:J2}{H:Hp}{h:Heap}{a:Addr}{o:HO}(x:ObjOk P w H h a o):∃u,h.get? a=some u:=by
 cases o with
 | lst xs=>obtain⟨_,_,_,_,e⟩:=x;exact⟨_,e⟩
 | tup xs=>obtain⟨_,_,_,ob,e,_⟩:=x;exact⟨_,e⟩
 | dK kvs=>obtain⟨_,_,_,_,o,_,_,e,_⟩:=x;exact⟨_,e⟩
 | dT kvs=>obtain⟨_,_,_,_,o,_,_,e,_⟩:=x;exact⟨_,e⟩
 | set S n=>obtain⟨o,_,_,_,e,_⟩:=x;exact⟨_,e⟩
 | ins C dx fs=>obtain⟨_,_,_,e,_⟩:=x;exact⟨_,e⟩
 | own y=>obtain⟨_,e⟩:=x;exact⟨_,e⟩
 | xd fs=>obtain⟨_,⟨_,_,_,e,_⟩,_⟩:=x;exact⟨_,e⟩
 | rng lo hi=>obtain⟨_,_,_,e⟩:=x;exact⟨_,e⟩
 | frz ob u=>obtain⟨e,_⟩:=x;exact⟨_,e⟩
 | tbl ps=>exact⟨_,(show h.get? a=some _ from x)⟩
 | met f y=>exact⟨_,(show h.get? a=some _ from x)⟩
 | ext φ=>obtain⟨_,⟨_,e⟩,_⟩:=x;exact⟨_,e⟩
theorem sA {X:Cx}{pins:List (Addr×Obj)}{σ:L2.St}{H:Hp}{s:IR}(I:Inv X pins σ H s){e:Addr}(n:s.heap.get? e=none):H e=none:=by
 cases z:H e with
 | none=>rfl
 | some o=>
  obtain⟨o',ho'⟩:=yQ (I.hok e o z);rw[n]at ho';cases ho'
theorem qg {X:Cx}{pins:List (Addr×Obj)}{σ:L2.St}{H:Hp}{s:IR}(I:Inv X pins σ H s)(hex:X.ex= []){e:Addr}(n:s.heap.get? e=none):X.s₀.heap.get? e=none:=by
 cases z:X.s₀.heap.get? e with
 | none=>rfl
 | some o=>
  obtain⟨o',ho'⟩:=I.base.there e o z (by rw[hex];simp)
  rw[n]at ho';cases ho'
theorem DT {n k:Nat}{f:Addr}{fd:KM}{ps:List Str}{g:List T->Rs T}(F:Fv X.prog X.w X.K X.mg X.base k f fd ps n g)(hr:Room k X.A)(hm:X.mg x=some (.ref f))(hk:Mx X.K (.ref f)=true)(hb:Binds X.K fd ps [])(hps:ps.length=n)
  (hl:∀Z ts,fs Z= .ok ts->ts.length=n) (ha:qT X (e::es) fs) (hg:Gl X x:=by rfl) (hdb:autoParam ((x == ("__debug__" : Str))=false) s_) (he:Jj (e::es) X.env=(false,eval e X.env)::Jj es X.env:=by rfl) (hpl:(backTo pos (Jj es X.env)).any (·.1)=false:=by rfl) :
  cy X (.Call (.Name x p) (e::es) [] pos) (cl g fs):=by
 intro pins s σ H Q I ⟨Z,O,E,hq⟩
 have hq':Post X H (fs Z >>= g) λt H'=> ∀v,Rep X.K O H' t v->Q v H':=hq
 cases q:fs Z with
 | bad=>rw[q]at hq';exact hq'.elim
 | err c=>
  rw[q]at hq';refine vt (E:=E0) F.h hr hg hm hk hb .nil CM ha hdb he hpl pins s σ H Q I ⟨Z,O,E,?_⟩
  rw[q]
  exact hq'
 | ok ts=>
  rw[q]at hq'
  have hq2:Post X H (g ts) λt H'=> ∀v,Rep X.K O H' t v->Q v H':=hq'
  cases q2:g ts with
  | bad=>rw[q2]at hq2;exact hq2.elim
  | ok t=>
   rw[q2]at hq2;refine vt (E:=E0) F.h hr hg hm hk hb .nil CM ha hdb he hpl pins s σ H Q I ⟨Z,O,E,?_⟩
   rw[q];intro H1 s1 vs rs;rw[J7];refine⟨ts,O,rs,(E.same s1).mtb,hl Z ts q,?_⟩
   rw[q2]
   exact λv H' s2 r=>hq2 H' (s1.trans s2) v r
  | err c=>
   rw[q2]at hq2;refine JV (lL I hg hm ?_ hdb)
   refine OQ (h₀:=X.base) I.ok.mod.kin hk (cq (ha pos pins s σ H (λvs H'=>Same H H'/\Reps X.K O H' ts vs) I ⟨Z,O,E,?_⟩) (λus s1 ⟨vs,H1,I1,r,sm,rs⟩=>⟨I1.kIn,?_⟩)) he hpl
   ·rw[q];exact λH' sm vs rs=>⟨sm,rs⟩
   ·have hlen:us.length=ps.length:=by rw[<-r.length,<-rs.length,hl Z ts q,hps]
    have hb':=hb s1 us I1.kIn (by rw[J7];exact hlen)
    rw[J7]at hb';refine wpAny_call (MG (F.x X.A X.stack s1 H1 ⟨us,[]⟩ us vs O ts c (λr s'=>match r with | .error ev=>X.xe ev s' | _=>False) hr I1.IC hb' r rs (E.same sm).mtb (hl Z ts q) q2 λev s' w=> ?_) λr s' hq=> ?_)
    ·obtain⟨ea,T,C,H',rfl,hmc,ho,hbare,hun,hok,sm2,hea,heo,fl,hT,hTo⟩:=w
     have I2:Inv X pins σ H' s':=I1.Ih ho hun hok hbare (λb z=>absurd z (by simp))
     exact hq2 pins _ _ ⟨ea,some T,C,σ,H',rfl,hmc,I2,λb o q _=>sm2 b o (sm b o q),hea,λhex=>qg I1 hex heo,fl,(λt zt=>by cases zt;exact⟨hT,λhex=>qg I1 hex hTo⟩),λpp hpp=>⟨λzz=>(by have:=(I1.pin pp hpp).1;rw[zz,heo]at this;cases this),λzz=>(by cases zz;have:=(I1.pin pp hpp).1;rw[hTo]at this;cases this)⟩⟩
    ·cases r with
     | error ev=>exact hq
     | ok fl=>exact hq.elim
def wG (X:Cx)(g:T->En->Rs En):TG:=λv σ H Q=> ∃Z O M t,EnvM X.K O M H Z σ/\Rep X.K O H t v/\match g t Z with
 | .ok Z'=> ∀σ',EnvM X.K O M H Z' σ'->Q σ' H
 | _=>False
abbrev Aq (X:Cx)(tg:Expr)(g:T->En->Rs En):Prop:=PG X tg (wG X g)
def tPGs (X:Cx)(g:List T->En->Rs En):Ct:=λvs σ H Q=> ∃Z O M ts,EnvM X.K O M H Z σ/\Reps X.K O H ts vs/\match g ts Z with
 | .ok Z'=> ∀σ',EnvM X.K O M H Z' σ'->Q σ' H
 | _=>False
abbrev As (X:Cx)(tg:List Expr)(g:List T->En->Rs En):Prop:=PGs X tg (tPGs X g)
theorem PG.imp {X:Cx}{e:Expr}{t t':TG}(h:PG X e t)(w:∀v σ H Q,t' v σ H Q->t v σ H Q):PG X e t':=λpins s σ H v u Q I r q=>h pins s σ H v u Q I r (w v σ H Q q)
theorem PGs.imp {X:Cx}{e:List Expr}{t t':Ct}(h:PGs X e t)(w:∀v σ H Q,t' v σ H Q->t v σ H Q):PGs X e t':=λpins s σ H v u Q I r q=>h pins s σ H v u Q I r (w v σ H Q q)
def gN (i:Nat)(t:T)(Z:En):Rs En:=if i<Z.length then .ok (Z.set i (.va t))else .bad
theorem EnvM.set {K:II}{O:Ow}{M:Mn}{H:Hp}{Z:En}{σ:L2.St}{i:Nat}{t:T}{v:V}(E:EnvM K O M H Z σ)(hi:i<Z.length)(r:Rep K O H t v):EnvM K O M H (Z.set i (.va t)) (σ.set i (some v)) where
 len:=by rw[J9,J9];exact E.len
 val:=λj u e=>by
  by_cases hj:i=j
  ·subst hj
   rw[Jl hi]at e
   cases e;exact⟨v,Jl (by rw[<-E.len];exact hi),r⟩
  ·rw[Js hj]at e
   obtain⟨w,e1,e2⟩:=E.val j u e;exact⟨w,by rw[Js hj];exact e1,e2⟩
 own:=λj o e=>by
  by_cases hj:i=j
  ·subst hj
   rw[Jl hi]at e
   cases e
  ·rw[Js hj]at e
   obtain⟨w,e1,e2⟩:=E.own j o e;exact⟨w,by rw[Js hj];exact e1,e2⟩
 sub:=E.sub
 dis:=E.dis
 trk:=E.trk
theorem Bm (i:Nat)(hN:X.N.Nodup)(hi:X.N[i]? =some x:=by rfl)(hx:autoParam (Loc X.env.scope x) x_)(hf:autoParam (X.fn x=true\/X.env.scope.names.lookup x=some .local) r_):Aq X (.Name x pos) (gN i):=
 PG.imp (BD hN hi hx hf) λv σ H Q hh_=>by
  obtain⟨Z,O,M,t,E,r,h⟩:=hh_;unfold gN at h
  split at h
  ·rename_i Z' e
   split at e
   ·rename_i hl
    cases e;exact h _ (E.set hl r)
   ·cases e
  ·exact h.elim
def vP (ts:List T)(Z:En):Rs En:=match ts with
 | [] => .ok Z
 | _=> .bad
def kR (g:T->En->Rs En)(gs:List T->En->Rs En)(ts:List T)(Z:En):Rs En:=match ts with
 | t::r=>do
  let Z1 <-g t Z
  gs r Z1
 | [] => .bad
theorem Bk:As X [] vP:=PGs.imp BC λvs σ H Q hh_=>by
 obtain⟨Z,O,M,ts,E,r,h⟩:=hh_;unfold vP at h
 cases ts with
 | nil=>exact⟨Reps.AC.mp r,h σ E⟩
 | cons _ _=>exact h.elim
theorem yu {g:T->En->Rs En}{gs:List T->En->Rs En}(h1:Aq X e g)(h2:As X es gs)
  (hs:(KB (e::es) X.env).map (·.2)=assign e X.env::(KB es X.env).map (·.2):=by rfl):As X (e::es) (kR g gs):=
 PGs.imp (yE h1 h2 hs) λvs σ H Q hh_=>by
  obtain⟨Z,O,M,ts,E,r,h⟩:=hh_
  cases ts with
  | nil=>exact h.elim
  | cons t ts=>
   obtain⟨v,ws,rfl,p,q⟩:=Reps.me.mp r;refine⟨v,ws,rfl,Z,O,M,t,E,p,?_⟩
   unfold kR at h
   cases e1:g t Z with
   | bad=>simp[e1]at h
   | err c=>simp[e1]at h
   | ok Z1=>
    intro σ1 E1;refine⟨Z1,O,M,ts,E1,q,?_⟩
    simp only[e1,aG]at h
    cases e2:gs ts Z1 with
    | bad=>simp[e2]at h
    | err c=>simp[e2]at h
    | ok Z2=>
     simp only[e2]at h;exact λσ2 E2=>h σ2 E2
def gT (n:Nat)(gs:List T->En->Rs En)(t:T)(Z:En):Rs En:=match t with
 | .tup l=>if l.length=n then gs l Z else .bad
 | _=> .bad
theorem DM {k n:Nat}{gs:List T->En->Rs En}(hc:X.calm=true)(h:As X es gs)(hn:(KB es X.env).length=n:=by rfl)(hst:(KB es X.env).findIdx? (·.1)=none:=by rfl):Aq X (.Tuple es k pos) (gT n gs):=
 PG.imp (D6 hc h hn hst) λv σ H Q hh_=>by
  obtain⟨Z,O,M,t,E,r,h⟩:=hh_;unfold gT at h
  cases t with
  | tup l=>
   obtain⟨a,vs,rfl,n',q,z⟩:=Rep.Fk.mp r
   by_cases hl:l.length=n
   ·simp only[if_pos hl]at h
    exact⟨a,vs,rfl,SqT.of q,by rw[<-z.length];exact hl,Z,O,M,l,E,z,h⟩
   ·simp only[if_neg hl]at h
  | _=>exact h.elim
theorem SqL.nn {K:II}{H:Hp}{a:Addr}{vs:List V}(q:SqL K H a vs):¬ Nw K H a:=λ⟨h1,h2⟩=>by
 rcases q with(q | ⟨o,q⟩) | ⟨o,_,_,q,_⟩
 ·rw[h1]at q;cases q
 ·rw[h1]at q;cases q
 ·rw[h2]at q;cases q
mutual
theorem Rep.more {K:II}{O O':Ow}{H:Hp}(sub:∀a,O' a->O a\/Nw K H a):∀{t:T} {v:V},Rep K O H t v->Rep K O' H t v
 | .non,_,r=>by unfold Rep at r ⊢;exact r
 | .bl _,_,r=>by unfold Rep at r ⊢;exact r
 | .int _,_,r=>by unfold Rep at r ⊢;exact r
 | .str _,_,r=>by unfold Rep at r ⊢;exact r
 | .tup l,_,r=>by
  unfold Rep at r ⊢;obtain⟨a,vs,e,n,q,z⟩:=r
  exact⟨a,vs,e,λp=>(sub a p).elim n λw=>(by rw[w.1]at q;cases q),q,Reps.more sub z⟩
 | .lst l,_,r=>by
  unfold Rep at r ⊢;obtain⟨a,vs,e,n,q,z⟩:=r
  exact⟨a,vs,e,λp=>(sub a p).elim n λw=>(by rw[w.1]at q;cases q),q,Reps.more sub z⟩
 | .scr l,_,r=>by
  unfold Rep at r ⊢;obtain⟨a,e,n,q⟩:=r
  exact⟨a,e,λp=>(sub a p).elim n λw=>Tr.SqL.nn q w,q⟩
 | .dct ks ts,_,r=>by
  unfold Rep at r ⊢;obtain⟨a,kvs,e,n,q,k,z⟩:=r
  exact⟨a,kvs,e,λp=>(sub a p).elim n λw=>(by rcases q with q | ⟨_,q⟩ <;> rw[w.1]at q <;> cases q),q,k,Reps.more sub z⟩
 | .ob C ns ts,_,r=>by
  unfold Rep at r ⊢;obtain⟨a,dx,fs,e,n,q,k,z⟩:=r;exact⟨a,dx,fs,e,λp=>(sub a p).elim n λw=>(by rw[w.1]at q;cases q),q,k,Reps.more sub z⟩
theorem Reps.more {K:II}{O O':Ow}{H:Hp}(sub:∀a,O' a->O a\/Nw K H a):∀{l:List T} {vs:List V},Reps K O H l vs->Reps K O' H l vs
 | [],_,r=>by unfold Reps at r ⊢;exact r
 | t::l,_,r=>by
  unfold Reps at r ⊢;obtain⟨v,ws,e,p,q⟩:=r;exact⟨v,ws,e,Rep.more sub p,Reps.more sub q⟩
end
theorem Rep.move {K:II}{O O' P:Ow}{H H':Hp}{t:T}{v:V}(hP:∀a,P a->O a\/Nw K H a)(hO:∀a,O' a->O a\/Nw K H a)(h:SameO P H H')(r:Rep K O H t v):Rep K O' H' t v:=
 Rep.less (O:=λa=>O' a\/P a) (λ_ z=> .inl z) (Rep.keep h (λ_ z=> .inr z) (Rep.more (λa z=>z.elim (hO a) (hP a)) r))
theorem Reps.move {K:II}{O O' P:Ow}{H H':Hp}{t:List T}{v:List V}(hP:∀a,P a->O a\/Nw K H a)(hO:∀a,O' a->O a\/Nw K H a)(h:SameO P H H')(r:Reps K O H t v):Reps K O' H' t v:=
 Reps.less (O:=λa=>O' a\/P a) (λ_ z=> .inl z) (Reps.keep h (λ_ z=> .inr z) (Reps.more (λa z=>z.elim (hO a) (hP a)) r))
def Hn (K:II)(O:Ow)(H:Hp)(ts:List T)(J:It):Prop:=∀(P O':Ow),(∀a,P a->O a\/Nw K H a)->(∀a,O' a->O a\/Nw K H a)->∀(i:Nat) (Hc:Hp),SameO P H Hc->(∀a,O' a->∃o,Hc a=some o) →
 (ts.length<=i->J.stop i Hc)/\(∀t,ts[i]? =some t->J.go i Hc/\∀x Hc',J.yld i Hc x Hc'->Same Hc Hc'/\Rep K O' Hc' t x)
def Hv (X:Cx)(f:En->Rs (List T)):TI:=λσ H R=> ∃Z O,EnvO X.K O H Z σ/\Post X H (f Z) λts H'=> ∀J,Hn X.K O H' ts J->R J H'
abbrev Ap (X:Cx)(tg iter:Expr)(f:En->Rs (List T)):Prop:=PI X tg iter (Hv X f)
theorem PI.imp {tg iter:Expr}{t t':TI}(h:PI X tg iter t)(w:∀σ H R,t' σ H R->t σ H R):PI X tg iter t':=λpins s σ H R I q=>h pins s σ H R I (w σ H R q)
def iL (f:En->Rs T)(Z:En):Rs (List T):=do
 let x <-f Z
 match x with
 | .lst l=> .ok l
 | _=> .bad
def iT (f:En->Rs T)(Z:En):Rs (List T):=do
 let x <-f Z
 match x with
 | .tup l=> .ok l
 | _=> .bad
theorem vm {tg:Expr}(ha:cy X a fa):Ap X tg a (iL fa):=PI.imp (BA ha) λσ H R hh_=>by
 obtain⟨Z,O,E,h⟩:=hh_;obtain⟨Z1,O1,E1,h1⟩:=aZ E h;refine⟨Z1,O1,E1,Post.mono h1 λts H1 s1 q vs r=> ?_⟩
 obtain⟨t',r',s',E',q'⟩:=q vs r
 split at q'
 ·rename_i l
  obtain⟨a,ws,rfl,n,q,z⟩:=Rep.Do.mp r';refine⟨a,rfl,⟨ws,SqL.of q⟩,q' H1 (Same.refl H1) _ λP O' hP hO i Hc hs ht=> ?_⟩
  have hnP:¬ P a:=λz=>(hP a z).elim n λw=>by rw[w.1]at q;cases q
  refine⟨λhi=>⟨ws,SqL.of (hs _ _ q hnP),by rw[<-z.length];exact hi⟩,λt ht'=> ?_⟩
  obtain⟨v,e1,e2⟩:=z.get ht';refine⟨⟨ws,v,SqL.of (hs _ _ q hnP),e1⟩,λx Hc' y=> ?_⟩
  obtain⟨e,y⟩:=y;subst e
  have:=y ws (SqL.of (hs _ _ q hnP));rw[e1]at this;cases this;exact⟨Same.refl _,e2.move hP hO hs⟩
 ·exact q'.elim
theorem DK {tg:Expr}(ha:cy X a fa):Ap X tg a (iT fa):=PI.imp (D5 ha) λσ H R hh_=>by
 obtain⟨Z,O,E,h⟩:=hh_;obtain⟨Z1,O1,E1,h1⟩:=aZ E h;refine⟨Z1,O1,E1,Post.mono h1 λts H1 s1 q vs r=> ?_⟩
 obtain⟨t',r',s',E',q'⟩:=q vs r
 split at q'
 ·rename_i l
  obtain⟨a,ws,rfl,n,q,z⟩:=Rep.Fk.mp r';refine⟨a,rfl,⟨ws,SqT.of q⟩,q' H1 (Same.refl H1) _ λP O' hP hO i Hc hs ht=> ?_⟩
  have hnP:¬ P a:=λz=>(hP a z).elim n λw=>by rw[w.1]at q;cases q
  refine⟨λhi=>⟨ws,SqT.of (hs _ _ q hnP),by rw[<-z.length];exact hi⟩,λt ht'=> ?_⟩
  obtain⟨v,e1,e2⟩:=z.get ht';refine⟨⟨ws,v,SqT.of (hs _ _ q hnP),e1⟩,λx Hc' y=> ?_⟩
  obtain⟨e,y⟩:=y;subst e
  have:=y ws (SqT.of (hs _ _ q hnP));rw[e1]at this;cases this;exact⟨Same.refl _,e2.move hP hO hs⟩
 ·exact q'.elim
def rng (lo hi:Int):List T:=(JA (hi - lo).toNat).map λ(k:Nat)=>T.int (lo+(k:Int))
def Az (i:Int):Bool:=decide (-(2 ^ 62)<=i)&&decide (i<2 ^ 62)
def iR (f:En->Rs (List T))(Z:En):Rs (List T):=do
 let x <-f Z
 match x with
 | [.int j] =>if Az j then .ok (rng 0 j)else .bad
 | [.int i,.int j] =>if Az i&&Az j then .ok (rng i j)else .bad
 | _=> .bad
theorem qB {i:Int}(h:Az i=true) : -(2 ^ 62)<=i/\i<2 ^ 62:=by
 unfold Az at h;rw[IT]at h;exact⟨of_decide_eq_true h.1,of_decide_eq_true h.2⟩
theorem vM {K:II}{O:Ow}{H:Hp}(lo hi:Int):Hn K O H (rng lo hi) (Itr lo (hi - lo).toNat):=λP O' hP hO i Hc hs ht=>by
 refine⟨λh=> ?_,λt h=> ?_⟩
 ·show(hi - lo).toNat<=i
  unfold rng at h;rw[IP,Kz]at h;exact h
 ·unfold rng at h
  rw[Jm]at h
  by_cases hi':i<(hi - lo).toNat
  ·rw[OI hi']at h
   cases h;refine⟨hi',λx Hc' y=> ?_⟩
   obtain⟨e,y⟩:=y;subst e y;exact⟨Same.refl _,Rep.Gc _⟩
  ·rw[LA (by simpa using hi')]at h
   cases h
theorem wK {tg:Expr}(hm:X.mg "range" =none)(ha:qT X [a] fs)(hg:Gl X "range":=by rfl)(hs:Jj [a] X.env= [(false,eval a X.env)]:=by rfl):Ap X tg (.Call (.Name "range" p) [a] [] pos) (iR fs):=by
 intro pins s σ H R I ⟨Z,O,E,h⟩
 have h1:=eQ E h;refine Call_ (fo I hg hm boot_range (JL (cq (ha pos pins s σ H _ I h1) λus s1 ⟨vs,H1,I1,r1,ts,rs,s',E',q1⟩=> ?_) hs rfl))
 split at q1
 ·obtain⟨v,rfl,r⟩:=rs.one
  split at q1
  ·rename_i j hj
   obtain⟨b1,b2⟩:=qB hj;cases Rep.Da.mp r
   cases r1 with
   | cons r rr=>
    cases rr;obtain⟨t,rfl⟩:=r;exact call_range_1 (rW I1 (by omega) (by omega) b1 b2 (q1 H1 (Same.refl H1) _ (vM 0 j)))
  ·exact q1.elim
 ·obtain⟨v,ws,rfl,p1,q⟩:=Reps.me.mp rs
  obtain⟨v2,rfl,r⟩:=q.one
  split at q1
  ·rename_i i j hj
   rw[IT]at hj;obtain⟨b1,b2⟩:=qB hj.1;obtain⟨b3,b4⟩:=qB hj.2;cases Rep.Da.mp p1;cases Rep.Da.mp r
   cases r1 with
   | cons r rr=>
    cases rr with
    | cons r' rr=>
     cases rr;obtain⟨t,rfl⟩:=r;obtain⟨t',rfl⟩:=r';exact call_range_2 (rW I1 b1 b2 b3 b4 (q1 H1 (Same.refl H1) _ (vM i j)))
  ·exact q1.elim
 ·exact q1.elim
end
section
variable {X:Cx}{a b c e:Expr}{es:List Expr}{fa fb fc:En->Rs T}{fs:En->Rs (List T)}{pos p p2:Pos}{x:Str}
def bH (src:List (Option Nat))(Z:En):En:=src.map λo=>match o with
 | some i=>match Z[i]? with
  | some (.va t)=> .va t
  | _=> .em
 | none=> .em
def dt (tgt:T->En->Rs En)(fc:En->Rs Bool)(fe:En->Rs T):List T->En->Rs (List T)
 | [],_=> .ok []
 | t::r,Z=>do
  let Z1 <-tgt t Z
  let k <-fc Z1
  if k then do
   let y <-fe Z1
   let ys <-dt tgt fc fe r Z1
   .ok (y::ys)
  else dt tgt fc fe r Z1
def dQ (fi:En->Rs (List T))(src:List (Option Nat))(tgt:T->En->Rs En)(fc:En->Rs Bool)(fe:En->Rs T)(Z:En):Rs T:=do
 let ts <-fi Z
 if ts.length<=sizeLine then match dt tgt fc fe ts (bH src Z)with
  | .ok ys=> .ok (.lst ys)
  | _=> .bad
 else .bad
def bT (_:En):Rs Bool:=.ok true
def tP0 (K:II)(f:En->Rs T):TE:=λσ H Q=> ∃Z O,EnvO K O H Z σ/\match f Z with
 | .ok t=> ∀H',Same H H'->∀v,Rep K O H' t v->Q v H'
 | _=>False
def tPT0 (K:II)(f:En->Rs Bool):TT:=λσ H Q=> ∃Z O,EnvO K O H Z σ/\match f Z with
 | .ok t=> ∀H',Same H H'->Q t H'
 | _=>False
theorem tP0.up {f:En->Rs T}{σ:L2.St}{H:Hp}{Q:VK}(h:tP0 X.K f σ H Q):tP X f σ H Q:=by
 obtain⟨Z,O,E,h⟩:=h;refine⟨Z,O,E,?_⟩
 cases q:f Z with
 | ok t=>rw[q]at h;exact h
 | err c=>rw[q]at h;exact h.elim
 | bad=>rw[q]at h;exact h.elim
theorem tPT0.up {f:En->Rs Bool}{σ:L2.St}{H:Hp}{Q:Bool->Hp->Prop}(h:tPT0 X.K f σ H Q):xK X f σ H Q:=by
 obtain⟨Z,O,E,h⟩:=h;refine⟨Z,O,E,?_⟩
 cases q:f Z with
 | ok t=>rw[q]at h;exact h
 | err c=>rw[q]at h;exact h.elim
 | bad=>rw[q]at h;exact h.elim
theorem Bi:we X [] (xK X bT):=λpins s σ H Q I ⟨Z,O,E,h⟩=>pU pins s σ H Q I (h H (Same.refl H))
theorem Bh {f:En->Rs Bool}(h:tX X c f):we X [c] (xK X f):=By h
abbrev noM:Mn:=λ_ _=>False
theorem w8 {src:List (Option Nat)}{Z:En}{j:Nat}{o:OT}(e:(bH src Z)[j]? =some (.ow o)):False:=by
 unfold bH at e;rw[Jm]at e
 cases q:src[j]? with
 | none=>rw[q]at e;cases e
 | some o'=>
  rw[q]at e
  cases o' with
  | none=>cases e
  | some i=>
   have e':(match Z[i]? with | some (Sl.va t)=>Sl.va t | _=>Sl.em)=Sl.ow o:=JB e
   split at e' <;> cases e'
theorem sV {K:II}{O:Ow}{H:Hp}{Z:En}{σ:L2.St}(E:EnvO K O H Z σ)(src:List (Option Nat)):EnvM K O noM H (bH src Z) (fy src σ) where
 len:=by unfold bH fy;rw[IP,IP]
 val:=λj t e=>by
  unfold bH at e;unfold fy;rw[Jm]at e ⊢
  cases q:src[j]? with
  | none=>rw[q]at e;cases e
  | some o=>
   rw[q]at e
   cases o with
   | none=>cases e
   | some i=>
    have e':(match Z[i]? with | some (Sl.va t)=>Sl.va t | _=>Sl.em)=Sl.va t:=JB e
    cases q2:Z[i]? with
    | none=>rw[q2]at e';cases e'
    | some z=>
     rw[q2]at e'
     cases z with
     | em=>cases e'
     | ow l=>cases e'
     | va t'=>
      cases e';obtain⟨v,e1,e2⟩:=E.val i _ q2;exact⟨v,by simp[e1],e2⟩
 own:=λj o e=>(w8 e).elim
 sub:=λ_ _ z=>z.elim
 dis:=λ_ _ _ z=>z.elim
 trk:=E.mtb
theorem ORep.no {K:II}{O:Ow}{H:Hp}{o:OT}{v:V}(r:ORep K O uD H o v):False:=by
 cases o with
 | lst l=>obtain⟨a,_,_,e,_⟩:=r;exact(e a).mpr rfl
 | dct ks ts=>obtain⟨a,_,_,e,_⟩:=r;exact(e a).mpr rfl
 | dd ks rows=>obtain⟨a,_,_,_,e,_⟩:=r;exact(e a).mpr (.inl rfl)
 | ob C ns ls=>obtain⟨a,_,_,_,e,_⟩:=r;exact(e a).mpr (.inl rfl)
theorem EnvM.move {K:II}{O O' P:Ow}{H H':Hp}{Z:En}{σ:L2.St}(E:EnvM K O noM H Z σ)(hP:∀a,P a->O a\/Nw K H a)(hO:∀a,O' a->O a\/Nw K H a)(h:SameO P H H')(trk:∀a,O' a->Mtb H' a):EnvM K O' noM H' Z σ where
 len:=E.len
 val:=λi t e=>let ⟨v,e1,e2⟩:=E.val i t e;⟨v,e1,e2.move hP hO h⟩
 own:=λi o e=>let ⟨_,_,r⟩:=E.own i o e;r.no.elim
 sub:=λ_ _ z=>z.elim
 dis:=λ_ _ _ z=>z.elim
 trk:=trk
def FA (fi:En->Rs (List T))(src:List (Option Nat))(tgt:T->En->Rs En)(fc:En->Rs Bool)(fe:En->Rs T)(Z:En):Rs (List T):=fi Z >>= λts=>if ts.length<=sizeLine then(match dt tgt fc fe ts (bH src Z)with | .ok ys=>Rs.ok ys | _=> .bad)else .bad
theorem zi {src:List (Option Nat)}{fi:En->Rs (List T)}{tgt:T->En->Rs En}{fc:En->Rs Bool}{fe:En->Rs T}{Z:En}:dQ fi src tgt fc fe Z=FA fi src tgt fc fe Z >>= λl=> .ok (.lst l):=by
 unfold dQ FA
 cases fi Z with
 | bad=>rfl
 | err c=>rfl
 | ok ts=>
  rw[aG,aG]
  by_cases hz:ts.length<=sizeLine
  ·rw[if_pos hz,if_pos hz]
   cases dt tgt fc fe ts (bH src Z) <;> rfl
  ·rw[if_neg hz,if_neg hz];rfl
theorem zh {src:List (Option Nat)}{fi:En->Rs (List T)}{tgt:T->En->Rs En}{fc:En->Rs Bool}{fe:En->Rs T}{σ:L2.St}{H:Hp}{Q:VK}{Z:En}{O:Ow}(E:EnvO X.K O H Z σ)
  (hq1:Post X H (FA fi src tgt fc fe Z) λall H1=> ∀D ys H',Nw X.K H1 D->Same H1 H'->H' D=some (.lst ys)->Reps X.K (λa=>O a\/a=D) H' all ys->Q (.ref D) H'):Df X.K (Hv X fi) src (wG X tgt) (tPT0 X.K fc) (tP0 X.K fe) σ H Q:=by
 unfold FA at hq1;refine⟨Z,O,E,Post.mono hq1.bind λts H1 s1 q1 J hJ D hD hK=> ?_⟩
 have E1:=E.same s1
 by_cases hz:ts.length<=sizeLine
 ·rw[if_pos hz]at q1
  cases hall:dt tgt fc fe ts (bH src Z)with
  | bad=>rw[hall]at q1;exact q1.elim
  | err c=>rw[hall]at q1;exact q1.elim
  | ok all=>
   rw[hall]at q1
   have q2:∀D ys H',Nw X.K H1 D->Same H1 H'->H' D=some (.lst ys)->Reps X.K (λa=>O a\/a=D) H' all ys->Q (.ref D) H':=q1 H1 (Same.refl H1)
   have nD:Nw X.K H1 D:=⟨hD,hK⟩
   let O':Ow:=λa=>O a\/a=D
   have subO:∀a,O' a->O a\/Nw X.K H1 a:=λa z=>z.elim .inl λw=> .inr (w▸nD)
   -- the walk's word
   refine⟨λi m σ' ys H'=>m=ts.length - i/\i<=ts.length/\ys.length<=i/\H' D=some (.lst ys)/\SameO (λa=>a=D) (upd H1 D (.lst [])) H' ∧
    ∃Z' yts zs,EnvM X.K O' noM H' Z' σ'/\Reps X.K O' H' yts ys/\dt tgt fc fe (ts.drop i) Z'= .ok zs/\yts++zs=all,⟨ts.length,?_⟩,?_⟩
   ·have sN:Same H1 (upd H1 D (.lst [])):=aS hD _
    refine⟨by omega,KP _,Jc _,aH,λb o e _=>e,bH src Z,[],all,?_,Reps.nil_,by simpa using hall,rfl⟩
    have E2:EnvM X.K O noM H1 (bH src Z) (fy src σ):=sV E1 src
    exact E2.move (P:=λa=>a=D) (λa z=> .inr (z▸nD)) subO (λb o e _=>sN b o e) λa z=>by
     rcases z with z | z
     ·exact(E1.mtb a z).same sN
     ·rw[z];exact .inl ⟨_,aH⟩
   ·rintro i m σ' ys H' ⟨rfl,hi',hyl,hDl,hsm,Z',yts,zs,E',ry,hl,hyz⟩
    refine⟨hDl,?_⟩
    have sm1:SameO (λa=>a=D) H1 H':=λb o e nb=>hsm b o (by rw[aF nb];exact e) nb
    have it:=hJ (λa=>a=D) O' (λa z=> .inr (z▸nD)) subO i H' sm1 (λa z=>(E'.trk a z).some)
    by_cases hlt:i<ts.length
    ·refine .inr ?_
     have hti:ts[i]? =some ts[i]:=by simp
     obtain⟨go,yl⟩:=it.2 ts[i] hti;refine⟨go,by omega,λxx Hc y=> ?_⟩
     obtain⟨sc,rx⟩:=yl xx Hc y
     have Ec:=E'.same sc;rw[Ki hlt]at hl;unfold dt at hl;refine⟨Z',O',noM,ts[i],Ec,rx,?_⟩
     cases e1:tgt ts[i] Z' with
     | bad=>rw[e1]at hl;cases hl
     | err cc=>rw[e1]at hl;cases hl
     | ok Z1=>
      rw[e1,aG]at hl;intro σ1 Eg;refine⟨Z1,O',⟨noM,Eg⟩,?_⟩
      cases e2:fc Z1 with
      | bad=>rw[e2]at hl;cases hl
      | err cc=>rw[e2]at hl;cases hl
      | ok k=>
       rw[e2,aG]at hl;intro H3 s3
       have E3:=Eg.same s3
       have tot:Same H' H3:=sc.trans s3
       have D3:H3 D=some (.lst ys):=tot _ _ hDl
       have sm3:SameO (λa=>a=D) (upd H1 D (.lst [])) H3:=λb o e nb=>tot _ _ (hsm b o e nb)
       cases k with
       | false=>
        refine L2.iteF ?_
        have hl':dt tgt fc fe (ts.drop (i+1)) Z1= .ok zs:=by simpa using hl
        exact⟨ts.length - (i+1),by omega,rfl,hlt,by omega,D3,sm3,Z1,yts,zs,E3,ry.same tot,hl',hyz⟩
       | true=>
        refine L2.iteT ?_
        have hl':(fe Z1 >>= λy=>dt tgt fc fe (ts.drop (i+1)) Z1 >>= λys=>Rs.ok (y::ys))= .ok zs:=by simpa using hl
        refine⟨Z1,O',⟨noM,E3⟩,?_⟩
        cases e3:fe Z1 with
        | bad=>rw[e3]at hl';cases hl'
        | err cc=>rw[e3]at hl';cases hl'
        | ok yt=>
         rw[e3,aG]at hl'
         cases e4:dt tgt fc fe (ts.drop (i+1)) Z1 with
         | bad=>rw[e4]at hl';cases hl'
         | err cc=>rw[e4]at hl';cases hl'
         | ok zs'=>
          rw[e4,aG]at hl'
          have hzs:yt::zs'=zs:=by injection hl'
          intro H4 s4 v rv
          have D4:H4 D=some (.lst ys):=s4 _ _ D3
          have E4:=E3.same s4
          have tot4:Same H' H4:=tot.trans s4
          have smD:SameO (λa=>a=D) H4 (upd H4 D (.lst (ys++ [v]))):=λb o e nb=>by rw[aF nb];exact e
          have inO:∀a,a=D->O' a\/Nw X.K H4 a:=λa z=> .inl (.inr z)
          refine⟨D4,ts.length - (i+1),by omega,rfl,hlt,?_,aH,λb o e nb=>smD b o (s4 _ _ (sm3 b o e nb)) nb,Z1,yts++ [yt],zs',?_,?_,e4,?_⟩
          ·rw[IX,Kk];omega
          ·exact E4.move inO (λa z=> .inl z) smD λaa z=>by
            by_cases hz:aa=D
            ·rw[hz];exact .inl ⟨_,aH⟩
            ·unfold Mtb;rw[aF hz];exact E4.trk aa z
          ·have r1:Reps X.K O' H4 (yts++ [yt]) (ys++ [v]):=(ry.same tot4).append (Reps.FS rv Reps.nil_)
           exact r1.move inO (λa z=> .inl z) smD
          ·rw[JE,List.singleton_append,hzs];exact hyz
    ·refine .inl ⟨it.1 (by omega),?_⟩
     have hi2:i=ts.length:=by omega
     subst hi2;rw[PZ]at hl
     have hzs:zs= []:=by unfold dt at hl;injection hl with hl;exact hl.symm
     subst hzs;rw[J7]at hyz;subst hyz
     have sF:Same H1 H':=λb o e=>sm1 b o e λz=>by rw[z,hD]at e;cases e
     exact q2 D ys H' nD sF hDl ry
 ·rw[if_neg hz]at q1
  exact q1.elim
theorem qy {src:List (Option Nat)}{fi:En->Rs (List T)}{tgt:T->En->Rs En}{fc:En->Rs Bool}{fe:En->Rs T}{σ:L2.St}{H:Hp}{Q:VK}(h0:tP X (dQ fi src tgt fc fe) σ H Q):Df X.K (Hv X fi) src (wG X tgt) (tPT0 X.K fc) (tP0 X.K fe) σ H Q:=by
 obtain⟨Z,O,E,hq⟩:=h0;refine zh E ?_
 have e:dQ fi src tgt fc fe Z=FA fi src tgt fc fe Z >>= λl=> .ok (.lst l):=zi
 rw[e]at hq
 cases q:FA fi src tgt fc fe Z with
 | bad=>rw[q]at hq;exact hq.elim
 | err c=>rw[q]at hq;exact hq
 | ok l=>
  rw[q,aG]at hq;intro H1 s1 D ys H' nD sD eD rD;exact hq H' (s1.trans sD) _ (Rep.Do.mpr ⟨D,ys,rfl,λz=>(E.same s1).fresh nD.1 z,eD,rD.less λa z=> .inl z⟩)
theorem q_lc {elt tg iter:Expr}{ifs:List Expr}{scope:L1}{N':List Str}{src:List (Option Nat)}{fi:En->Rs (List T)}{tgt:T->En->Rs En}{fc:En->Rs Bool}{fe:En->Rs T}
  (hc:X.calm=true) (S:LcScope X scope N' src) (hi:Ap X tg iter fi)
  (block:∀cl C s₀ H₀ fp,Aq (br X scope cl N' C s₀ H₀ fp) tg tgt/\we (br X scope cl N' C s₀ H₀ fp) ifs (xK (br X scope cl N' C s₀ H₀ fp) fc)/\cy (br X scope cl N' C s₀ H₀ fp) elt fe)
  (hs:autoParam (∀x,Jy iter X.env x=pure x) t_) :
  cy X (.ListComp elt [⟨tg,iter,ifs,0⟩] scope pos) (dQ fi src tgt fc fe):=by
 have hPG:∀cl C s₀ H₀ fp,PG (br X scope cl N' C s₀ H₀ fp) tg (wG X tgt):=λcl C s₀ H₀ fp=>(block cl C s₀ H₀ fp).1
 have hPI:∀cl C s₀ H₀ fp,we (br X scope cl N' C s₀ H₀ fp) ifs (tPT0 X.K fc):=λcl C s₀ H₀ fp pins s σ H Q I h=>(block cl C s₀ H₀ fp).2.1 pins s σ H Q I (tPT0.up (X:=br X scope cl N' C s₀ H₀ fp) h)
 have hPE:∀cl C s₀ H₀ fp,PE (br X scope cl N' C s₀ H₀ fp) elt (tP0 X.K fe):=λcl C s₀ H₀ fp pins s σ H Q I h=>(block cl C s₀ H₀ fp).2.2 pins s σ H Q I (tP0.up (X:=br X scope cl N' C s₀ H₀ fp) h)
 exact PE.imp (rZ (g:=wG X tgt) (tc:=tPT0 X.K fc) (te:=tP0 X.K fe) hc S hi (λcl C s₀ H₀ fp=>⟨hPG cl C s₀ H₀ fp,hPI cl C s₀ H₀ fp,hPE cl C s₀ H₀ fp⟩) hs) λσ H Q h=>qy h
inductive Fl where
 | nx (Z:En) | rt (t:T) | bk (Z:En) | ct (Z:En)
def OO (B:Ow)(M:Mn):Ow:=λa=>B a\/M.u a
structure Ev (K:II)(B:Ow)(M:Mn)(H:Hp)(Z:En)(σ:L2.St):Prop where
 env:EnvM K (OO B M) M H Z σ
 mine:∀a,M.u a->¬ B a
theorem Ev.same {K:II}{B:Ow}{M:Mn}{H H':Hp}{Z:En}{σ:L2.St}(h:Same H H')(e:Ev K B M H Z σ):Ev K B M H' Z σ:=⟨e.env.same h,e.mine⟩
theorem Ev.o {K:II}{B:Ow}{M:Mn}{H:Hp}{Z:En}{σ:L2.St}(e:Ev K B M H Z σ):EnvO K (OO B M) H Z σ:=⟨M,e.env⟩
def PostF (X:Cx)(B P:Ow)(H:Hp)(r:Rs Fl)(D:qX):Prop:=match r with
 | .ok (.nx Z')=> ∀σ' H' M',SameO P H H'->Ev X.K B M' H' Z' σ'->(∀a,M'.u a->P a\/Nw X.K H a)->D.nx σ' H'
 | .ok (.rt t)=> ∀v H',SameO P H H'->Rep X.K B H' t v->D.rt v H'
 | .ok (.bk Z')=> ∀σ' H' M',SameO P H H'->Ev X.K B M' H' Z' σ'->(∀a,M'.u a->P a\/Nw X.K H a)->D.bk σ' H'
 | .ok (.ct Z')=> ∀σ' H' M',SameO P H H'->Ev X.K B M' H' Z' σ'->(∀a,M'.u a->P a\/Nw X.K H a)->D.ct σ' H'
 | .err c=>XA X P H c
 | .bad=>False
def Hu (X:Cx)(F:En->Rs Fl):TS:=λD σ H=> ∃Z B M,Ev X.K B M H Z σ/\PostF X B M.u H (F Z) D
abbrev ny (X:Cx)(s:Stmt)(F:En->Rs Fl):Prop:=PS X s (Hu X F)
abbrev lI (X:Cx)(s:List Stmt)(F:En->Rs Fl):Prop:=PSs X s (Hu X F)
theorem PostF.later {B P P1:Ow}{H H1:Hp}{r:Rs Fl}{D:qX}(h:PostF X B P H r D)(s:SameO P H H1)(sub:∀a,P1 a->P a\/Nw X.K H a):PostF X B P1 H1 r D:=by
 have back:∀a,P1 a\/Nw X.K H1 a->P a\/Nw X.K H a:=λa z=>z.elim (sub a) (gM s)
 cases r with
 | bad=>exact h
 | err c=>exact XA.later h s sub
 | ok f=>
  cases f with
  | nx Z'=>exact λσ' H' M' s' E' o'=>h σ' H' M' (s.trans s' sub) E' λa z=>back a (o' a z)
  | rt t=>exact λv H' s' r=>h v H' (s.trans s' sub) r
  | bk Z'=>exact λσ' H' M' s' E' o'=>h σ' H' M' (s.trans s' sub) E' λa z=>back a (o' a z)
  | ct Z'=>exact λσ' H' M' s' E' o'=>h σ' H' M' (s.trans s' sub) E' λa z=>back a (o' a z)
theorem PostF.xa {B P:Ow}{H:Hp}{c:Str}{D:qX}(h:PostF X B P H (.err c) D):XA X uD H c:=XA.later (P:=P) h (λ_ _ e _=>e) λ_ z=>z.elim
def sN (Z:En):Rs Fl:=.ok (.nx Z)
def ay (F G:En->Rs Fl)(Z:En):Rs Fl:=do
 let f <-F Z
 match f with
 | .nx Z'=>G Z'
 | f=> .ok f
theorem DD:lI X [] sN:=PSs.imp Bu λD σ H ⟨Z,B,M,E,h⟩=>h σ H M (λ_ _ e _=>e) E λa z=> .inl z
theorem Be {st:Stmt}{rest:List Stmt}{F G:En->Rs Fl}(h1:ny X st F)(h2:lI X rest G):lI X (st::rest) (ay F G):=PSs.imp (yy h1 h2) λD σ H hh_=>by
 obtain⟨Z,B,M,E,h⟩:=hh_;refine⟨Z,B,M,E,?_⟩
 unfold ay at h
 cases q:F Z with
 | bad=>rw[q]at h;exact h.elim
 | err c=>rw[q]at h;exact h
 | ok f=>
  rw[q,aG]at h
  cases f with
  | nx Z'=>exact λσ' H' M' s' E' o'=>⟨Z',B,M',E',h.later s' o'⟩
  | rt t=>exact h
  | bk Z'=>exact h
  | ct Z'=>exact h
theorem DB {st:Stmt}{F:En->Rs Fl}(h:ny X st F):lI X [st] F:=Bt h
def aR (f:En->Rs T)(Z:En):Rs Fl:=do
 let t <-f Z
 .ok (.rt t)
theorem Dz (ha:cy X a fa):ny X (.Return (some a) pos) (aR fa):=PS.imp (DZ ha) λD σ H hh_=>by
 obtain⟨Z,B,M,E,h⟩:=hh_;refine⟨Z,OO B M,E.o,?_⟩
 unfold aR at h
 cases q:fa Z with
 | bad=>rw[q]at h;exact h.elim
 | err c=>rw[q]at h;exact PostF.xa h
 | ok t=>
  rw[q,aG]at h;exact λH' s v r=>h v H' (SameO.of s) (r.less λ_ z=> .inl z)
def eR (f:En->Rs Bool)(F G:En->Rs Fl)(Z:En):Rs Fl:=do
 let k <-f Z
 if k then F Z else G Z
theorem F6 {f:En->Rs Bool}{A B:List Stmt}{F G:En->Rs Fl}(hc:tX X c f)(ha:lI X A F)(hb:lI X B G):ny X (.If c A B pos) (eR f F G):=PS.imp (Gp hc ha hb) λD σ H hh_=>by
 obtain⟨Z,B,M,E,h⟩:=hh_;refine⟨Z,OO B M,E.o,?_⟩
 unfold eR at h
 cases q:f Z with
 | bad=>rw[q]at h;exact h.elim
 | err c=>rw[q]at h;exact PostF.xa h
 | ok k=>
  rw[q,aG]at h;intro H' s
  have E':Ev X.K B M H' Z σ:=E.same s
  cases k with
  | true=>refine L2.iteT ?_;exact⟨Z,B,M,E',PostF.later (by simpa using h) (SameO.of s) λa z=> .inl z⟩
  | false=>refine L2.iteF ?_;exact⟨Z,B,M,E',PostF.later (by simpa using h) (SameO.of s) λa z=> .inl z⟩
def cg (f:En->Rs T)(g:T->En->Rs En)(Z:En):Rs Fl:=do
 let t <-f Z
 match g t Z with
 | .ok Z'=> .ok (.nx Z')
 | _=> .bad
theorem yi {B:Ow}{M:Mn}{Z:En}{σ:L2.St}{H:Hp}{D:qX}{g:T->En->Rs En}{f:En->Rs T}(E:Ev X.K B M H Z σ)(h:PostF X B M.u H (cg f g Z) D):x8 (tP X f) (wG X g) D σ H:=by
 refine⟨Z,OO B M,E.o,?_⟩
 unfold cg at h
 cases q:f Z with
 | bad=>rw[q]at h;exact h.elim
 | err c=>rw[q]at h;exact PostF.xa h
 | ok t=>
  rw[q,aG]at h;intro H' s v r;refine⟨Z,OO B M,M,t,E.env.same s,r,?_⟩
  cases q2:g t Z with
  | bad=>rw[q2]at h;exact h.elim
  | err c=>rw[q2]at h;exact h.elim
  | ok Z'=>
   rw[q2]at h;exact λσ' E'=>h σ' H' M (SameO.of s) ⟨E',E.mine⟩ λa z=> .inl z
theorem AR {f:En->Rs T}{σ:L2.St}{H:Hp}{Q Q':VK}(h:tP X f σ H Q)(w:∀v H',Q v H'->Q' v H'):tP X f σ H Q':=by
 obtain⟨Z,O,E,q⟩:=h;exact⟨Z,O,E,Post.mono q λt H' _ z v r=>w v H' (z v r)⟩
theorem F5 {elt tg iter:Expr}{ifs:List Expr}{scope:L1}{spos py:Pos}{N':List Str}{src:List (Option Nat)}{fi:En->Rs (List T)}{tgt:T->En->Rs En}{fc:En->Rs Bool}{fe:En->Rs T}(i:Nat){y:Str}
  (hc:X.calm=true) (S:LcScope X scope N' src) (hi:Ap X tg iter fi)
  (block:∀cl C s₀ H₀ fp,Aq (br X scope cl N' C s₀ H₀ fp) tg tgt/\we (br X scope cl N' C s₀ H₀ fp) ifs (xK (br X scope cl N' C s₀ H₀ fp) fc)/\cy (br X scope cl N' C s₀ H₀ fp) elt fe)
  (hN:X.N.Nodup) (hiy:X.N[i]? =some y:=by rfl) (hy:autoParam (Loc X.env.scope y) x_) (hsw:J0 (.ListComp elt [⟨tg,iter,ifs,0⟩] scope pos) (some (.Name y py)) spos.line X.env=pure true:=by rfl)
  (hf:autoParam (X.fn y=true\/X.env.scope.names.lookup y=some .local) r_) (hs:autoParam (∀x,Jy iter X.env x=pure x) t_) :
  ny X (.Assign [.Name y py] (.ListComp elt [⟨tg,iter,ifs,0⟩] scope pos) spos) (cg (dQ fi src tgt fc fe) (gN i)):=by
 have hPG:∀cl C s₀ H₀ fp,PG (br X scope cl N' C s₀ H₀ fp) tg (wG X tgt):=λcl C s₀ H₀ fp=>(block cl C s₀ H₀ fp).1
 have hPI:∀cl C s₀ H₀ fp,we (br X scope cl N' C s₀ H₀ fp) ifs (tPT0 X.K fc):=λcl C s₀ H₀ fp pins s σ H Q I h=>(block cl C s₀ H₀ fp).2.1 pins s σ H Q I (tPT0.up (X:=br X scope cl N' C s₀ H₀ fp) h)
 have hPE:∀cl C s₀ H₀ fp,PE (br X scope cl N' C s₀ H₀ fp) elt (tP0 X.K fe):=λcl C s₀ H₀ fp pins s σ H Q I h=>(block cl C s₀ H₀ fp).2.2 pins s σ H Q I (tP0.up (X:=br X scope cl N' C s₀ H₀ fp) h)
 refine PS.imp (CK (g:=wG X tgt) (tc:=tPT0 X.K fc) (te:=tP0 X.K fe) (i:=i) hc S hi (λcl C s₀ H₀ fp=>⟨hPG cl C s₀ H₀ fp,hPI cl C s₀ H₀ fp,hPE cl C s₀ H₀ fp⟩) hN hiy hy hsw hf hs) λD σ H ⟨Z,B,M,E,h⟩=>qy (AR (yi E h) λv H' z=> ?_)
 obtain⟨Z',O,M',t,E',r,q⟩:=z;unfold gN at q
 split at q
 ·rename_i Z2 e
  split at e
  ·rename_i hl
   cases e;exact q _ (E'.set hl r)
  ·cases e
 ·exact q.elim
theorem DI {tg:Expr}{g:T->En->Rs En}(ha:cy X a fa)(hg:Aq X tg g)(hs:O8 [tg] a pos.line X.env=pure false:=by rfl)(hw:O9 [tg] a X.env=pure none:=by rfl)
  (h1:(KB [tg] X.env).map (·.2)= [assign tg X.env]:=by rfl):ny X (.Assign [tg] a pos) (cg fa g):=PS.imp (D1 ha hg hs hw h1) λD σ H ⟨Z,B,M,E,h⟩=>yi E h
def uo (f:En->Rs T)(Z:En):Rs Fl:=do
 let _ <-f Z
 .ok (.nx Z)
theorem Bd (ha:cy X a fa)(hs:J0 a none pos.line X.env=pure false:=by rfl):ny X (.Expr a pos) (uo fa):=PS.imp (pT ha hs) λD σ H hh_=>by
 obtain⟨Z,B,M,E,h⟩:=hh_;refine⟨Z,OO B M,E.o,?_⟩
 unfold uo at h
 cases q:fa Z with
 | bad=>rw[q]at h;exact h.elim
 | err c=>rw[q]at h;exact PostF.xa h
 | ok t=>
  rw[q,aG]at h;exact λH' s v r=>h σ H' M (SameO.of s) (E.same s) λa z=> .inl z
def bp (g:T->En->Rs En)(F:En->Rs Fl):List T->En->Rs Fl
 | [],Z=> .ok (.nx Z)
 | t::r,Z=>do
  let Z1 <-g t Z
  let f <-F Z1
  match f with
  | .nx Z2=>bp g F r Z2
  | .ct Z2=>bp g F r Z2
  | .bk Z2=> .ok (.nx Z2)
  | .rt t=> .ok (.rt t)
def eU (fi:En->Rs (List T))(g:T->En->Rs En)(F:En->Rs Fl)(Z:En):Rs Fl:=do
 let ts <-fi Z
 match bp g F ts Z with
 | .ok f=> .ok f
 | _=> .bad
theorem kK {α:Type}{t:Sem α}{Q:α->IR->Prop}{s:IR}{E:IQ->IR->Prop}{P:Jp}{w:J2}{A:JO}(h:wpAny (model P w) A t Q (λ_ _=>False) s):wpAny (model P w) A t Q E s:=LL h (λ_ _ q=>q) λ_ _ z=>z.elim
theorem Bv {tg iter:Expr}{body:List Stmt}{wi:TI}{g:TG}{tb:TS}{pos:Pos}(hc:X.calm=true)(hi:PI X tg iter wi)(hg:PG X.nox tg g)(hb:PSs X.nox body tb)
  (hs:autoParam (∀x,Jy iter X.env x=pure x) t_):PS X (.For tg iter body [] pos) (tFor wi g tb):=by
 intro pins s σ H D I h;refine wpAny_For (cq (hi pins s σ H _ I h) λv s1 h1=>cq h1 λitv s2 h2=> ?_) hs
 obtain⟨it,fp,tn,J,H2,e,I2,T,st2,f2,W,⟨m0,w0⟩,turn⟩:=h2;subst e
 have stat:∀{H':Hp},(∀b∈fp,H' b=none)->∀b∈fp,kx X pins H' b:=λhn b hb=>⟨hn b hb,(f2 b hb).2⟩
 refine codeAny_forLoop_any (λn s'=> ∃i σ' H',Inv X pins σ' H' s'/\tn i s'.heap/\(∀b∈fp,H' b=none)/\W i n σ' H') ?_ m0 ⟨0,σ,H2,I2,st2,λb hb=>(f2 b hb).1,w0⟩
 rintro n s3 ⟨i,σ3,H3,I3,st3,fr3,w3⟩
 rcases turn i n σ3 H3 w3 with⟨stop,qn⟩ | ⟨go,N,hN,step⟩
 ·refine kK (cq (T.done X.nox rfl rfl rfl hc i pins s3 σ3 H3 _ (I3.FM _) (stat fr3) st3 stop) λr s4 ⟨hr,I4⟩=> ?_)
  subst hr;exact MW ⟨σ3,H3,I4.FM _,qn⟩
 ·refine kK (cq (T.item X.nox rfl rfl rfl hc i pins s3 σ3 H3 _ (I3.FM _) (stat fr3) st3 go) λr s4 ⟨u,hr,h4⟩=> ?_)
  subst hr;refine kK (cq h4 λ_ s5 hh_=> ?_)
  obtain⟨x,H5,I5,r5,y5,st5,fr5⟩:=hh_
  have I5':=Inv.pinned (X:=X.nox) I5 (stat fr5) (T.obj _ _ st5);refine kK (cq (hg _ s5 σ3 H5 x u _ I5' r5 (step x H5 y5)) λ_ s6 hh_=> ?_)
  obtain⟨σ6,H6,I6,q6⟩:=hh_;refine kK (cq (hb _ s6 σ6 H6 _ I6 q6) λf s7 q7=> ?_)
  have again:∀{σ7:L2.St} {H7:Hp},Inv X.nox (pins++mi fp s5.heap) σ7 H7 s7->N σ7 H7->∃m,m<n/\∃i σ' H',Inv X pins σ' H' s7/\tn i s7.heap/\(∀b∈fp,H' b=none)/\W i m σ' H':=λ{σ7 H7} I7 n7=>by
   obtain⟨m',hm,w7⟩:=hN σ7 H7 n7;refine⟨m',hm,i+1,σ7,H7,(Inv.HK (X:=X.nox) I7).FM _,T.keep _ _ _ st5 λb hb o e=>(I7.pin (b,o) (Jn _ (Jn _ (gO hb e)))).1,λb hb=> ?_,w7⟩
   obtain⟨o,e,d⟩:=T.obj _ _ st5 b hb;exact(I7.pin (b,o) (Jn _ (Jn _ (gO hb e)))).2.1
  cases f with
  | next=>obtain⟨σ7,H7,I7,n7⟩:=q7;exact again I7 n7
  | cont=>obtain⟨σ7,H7,I7,n7⟩:=q7;exact again I7 n7
  | brk=>obtain⟨σ7,H7,I7,q7⟩:=q7;exact⟨σ7,H7,(Inv.HK (X:=X.nox) I7).FM _,q7⟩
  | ret v=>obtain⟨x7,σ7,H7,I7,r7,q7⟩:=q7;exact⟨x7,σ7,H7,(Inv.HK (X:=X.nox) I7).FM _,r7,q7⟩
theorem DF {tg iter:Expr}{body:List Stmt}{fi:En->Rs (List T)}{g:T->En->Rs En}{F:En->Rs Fl}(hc:X.calm=true)(hi:Ap X tg iter fi)(hg:Aq X.nox tg g)(hb:lI X.nox body F)
  (hs:autoParam (∀x,Jy iter X.env x=pure x) t_):ny X (.For tg iter body [] pos) (eU fi g F):=PS.imp (Bv hc hi hg hb hs) λD σ H hh_=>by
 obtain⟨Z,B,M,E,h⟩:=hh_;refine⟨Z,OO B M,E.o,?_⟩
 unfold eU at h
 cases q:fi Z with
 | bad=>rw[q]at h;exact h.elim
 | err c=>rw[q]at h;exact PostF.xa h
 | ok ts=>
  rw[q,aG]at h
  cases qq:bp g F ts Z with
  | bad=>rw[qq]at h;exact h.elim
  | err c=>rw[qq]at h;exact h.elim
  | ok fin=>
  rw[qq]at h;intro H1 s1 J hJ
  have E1:Ev X.K B M H1 Z σ:=E.same s1
  have h1:PostF X B M.u H1 (.ok fin) D:=PostF.later h (SameO.of s1) λa z=> .inl z
  refine⟨λi m σ' H'=>m=ts.length - i/\i<=ts.length/\SameO M.u H1 H'/\∃Z' M',Ev X.K B M' H' Z' σ'/\(∀a,M'.u a->M.u a\/Nw X.K H1 a)/\bp g F (ts.drop i) Z'= .ok fin,
   ⟨ts.length,by omega,KP _,λ_ _ e _=>e,Z,M,E1,λa z=> .inl z,by simpa using qq⟩,?_⟩
  rintro i m σ' H' ⟨rfl,hi',sm,Z',M',E',ow,hl⟩
  have it:=hJ M.u (OO B M') (λa z=> .inl (.inr z)) (λa z=>z.elim (λw=> .inl (.inl w)) λw=>(ow a w).elim (λy=> .inl (.inr y)) .inr) i H' sm (λa z=>(E'.env.trk a z).some)
  by_cases hlt:i<ts.length
  ·have hti:ts[i]? =some ts[i]:=by simp
   obtain⟨go,yl⟩:=it.2 ts[i] hti;rw[Ki hlt]at hl;unfold bp at hl;refine .inr ⟨go,λσ2 H2=> ∃m',m'<ts.length - i/\(m'=ts.length - (i+1)/\i+1<=ts.length/\SameO M.u H1 H2/\∃Z2 M2,Ev X.K B M2 H2 Z2 σ2/\(∀a,M2.u a->M.u a\/Nw X.K H1 a)/\bp g F (ts.drop (i+1)) Z2= .ok fin),λσ2 H2 z=>z,λx Hc y=> ?_⟩
   obtain⟨sc,rx⟩:=yl x Hc y;refine⟨Z',OO B M',M',ts[i],E'.env.same sc,rx,?_⟩
   cases e1:g ts[i] Z' with
   | bad=>rw[e1]at hl;cases hl
   | err cc=>rw[e1]at hl;cases hl
   | ok Z1=>
    rw[e1,aG]at hl;intro σ1 Eg
    have E2:Ev X.K B M' Hc Z1 σ1:=⟨Eg,E'.mine⟩;refine⟨Z1,B,M',E2,?_⟩
    have smc:SameO M.u H1 Hc:=λb o e n=>sc _ _ (sm b o e n)
    have onward:∀{σ3:L2.St} {H3:Hp} {Z3:En} {M3:Mn},SameO M'.u Hc H3->Ev X.K B M3 H3 Z3 σ3->(∀a,M3.u a->M'.u a\/Nw X.K Hc a)->bp g F (ts.drop (i+1)) Z3= .ok fin →
      ∃m',m'<ts.length - i/\(m'=ts.length - (i+1)/\i+1<=ts.length/\SameO M.u H1 H3/\∃Z2 M2,Ev X.K B M2 H3 Z2 σ3/\(∀a,M2.u a->M.u a\/Nw X.K H1 a)/\bp g F (ts.drop (i+1)) Z2= .ok fin):=
     λ{σ3 H3 Z3 M3} s3 E3 o3 p3=>⟨_,by omega,rfl,hlt,smc.trans s3 ow,Z3,M3,E3,λa z=>(o3 a z).elim (ow a) (gM smc),p3⟩
    cases e2:F Z1 with
    | bad=>rw[e2]at hl;cases hl
    | err cc=>rw[e2]at hl;cases hl
    | ok f=>
     rw[e2,aG]at hl
     cases f with
     | nx Z2=>exact λσ3 H3 M3 s3 E3 o3=>onward s3 E3 o3 hl
     | ct Z2=>exact λσ3 H3 M3 s3 E3 o3=>onward s3 E3 o3 hl
     | bk Z2=>
      cases hl
      exact λσ3 H3 M3 s3 E3 o3=>h1 σ3 H3 M3 (smc.trans s3 ow) E3 λa z=>(o3 a z).elim (ow a) (gM smc)
     | rt t=>
      cases hl;exact λv H3 s3 r=>h1 v H3 (smc.trans s3 ow) r
  ·refine .inl ⟨it.1 (by omega),?_⟩
   have hi2:i=ts.length:=by omega
   subst hi2;rw[PZ]at hl;cases hl;exact h1 σ' H' M' sm E' ow
def bM (c:En->Rs Bool)(F:En->Rs Fl):Nat->En->Rs Fl
 | 0,_=> .bad
 | n+1,Z=>match c Z with
  | .ok false=> .ok (.nx Z)
  | .ok true=>match F Z with
   | .ok (.nx Z')=>bM c F n Z'
   | .ok (.ct Z')=>bM c F n Z'
   | .ok (.bk Z')=> .ok (.nx Z')
   | .ok (.rt t)=> .ok (.rt t)
   | _=> .bad
  | _=> .bad
theorem yo {c:Expr}{body:List Stmt}{fc:En->Rs Bool}{F:En->Rs Fl}(n:Nat)(hc:tX X.nox c fc)(hb:lI X.nox body F):ny X (.While c body [] pos) (bM fc F n):=by
 have base:PS X.nox (.While c body [] pos) (ub (xK X.nox fc) (Hu X.nox F)):=yz PassesOwn.never hc hb;intro pins s σ H D I ⟨Z,B,M,E,h⟩
 cases qq:bM fc F n Z with
 | bad=>rw[qq]at h;exact h.elim
 | err c=>
  exfalso
  have:∀n Z,bM fc F n Z≠ .err c:=by
   intro n
   induction n with
   | zero=>intro Z z;cases z
   | succ n ih=>
    intro Z z;unfold bM at z
    split at z
    ·cases z
    ·split at z <;> first | exact ih _ z | cases z
    ·cases z
  exact this n Z qq
 | ok fin=>
  rw[qq]at h
  have goal:ub (xK X.nox fc) (Hu X.nox F) D σ H:=by
   refine⟨λm σ' H'=>SameO M.u H H'/\∃Z' M',Ev X.K B M' H' Z' σ'/\(∀a,M'.u a->M.u a\/Nw X.K H a)/\bM fc F m Z'= .ok fin,⟨n,λ_ _ e _=>e,Z,M,E,λa z=> .inl z,qq⟩,?_⟩
   rintro m σ' H' ⟨sm,Z',M',E',ow,hl⟩
   cases m with
   | zero=>cases hl
   | succ m=>
    refine⟨Z',OO B M',E'.o,?_⟩
    unfold bM at hl
    cases e1:fc Z' with
    | bad=>rw[e1]at hl;cases hl
    | err cc=>rw[e1]at hl;cases hl
    | ok k=>
     rw[e1]at hl;intro H2 s2
     have E2:Ev X.K B M' H2 Z' σ':=E'.same s2
     have sm2:SameO M.u H H2:=λb o e n=>s2 _ _ (sm b o e n)
     cases k with
     | false=>
      cases hl;refine L2.iteF ?_
      exact h σ' H2 M' sm2 E2 ow
     | true=>
      refine L2.iteT ?_
      refine⟨λσ3 H3=>SameO M.u H H3/\∃Z3 M3,Ev X.K B M3 H3 Z3 σ3/\(∀a,M3.u a->M.u a\/Nw X.K H a)/\bM fc F m Z3= .ok fin,λσ3 H3 z=>⟨m,K5 m,z⟩,Z',B,M',E2,?_⟩
      have hl':(match F Z' with | .ok (.nx Z')=>bM fc F m Z' | .ok (.ct Z')=>bM fc F m Z' | .ok (.bk Z')=> .ok (.nx Z') | .ok (.rt t)=> .ok (.rt t) | _=> .bad)= .ok fin:=hl
      cases e2:F Z' with
      | bad=>rw[e2]at hl';cases hl'
      | err cc=>rw[e2]at hl';cases hl'
      | ok f=>
       rw[e2]at hl'
       cases f with
       | nx Z2=>exact λσ3 H3 M3 s3 E3 o3=>⟨sm2.trans s3 ow,Z2,M3,E3,λa z=>(o3 a z).elim (ow a) (gM sm2),hl'⟩
       | ct Z2=>exact λσ3 H3 M3 s3 E3 o3=>⟨sm2.trans s3 ow,Z2,M3,E3,λa z=>(o3 a z).elim (ow a) (gM sm2),hl'⟩
       | bk Z2=>
        cases hl'
        exact λσ3 H3 M3 s3 E3 o3=>h σ3 H3 M3 (sm2.trans s3 ow) E3 λa z=>(o3 a z).elim (ow a) (gM sm2)
       | rt t=>
        cases hl';exact λv H3 s3 r=>h v H3 (sm2.trans s3 ow) r
  refine kK (cq (base pins s σ H D (I.FM _) goal) λf s' q=> ?_)
  cases f with
  | next=>obtain⟨σ7,H7,I7,n7⟩:=q;exact⟨σ7,H7,I7.FM _,n7⟩
  | cont=>obtain⟨σ7,H7,I7,n7⟩:=q;exact⟨σ7,H7,I7.FM _,n7⟩
  | brk=>obtain⟨σ7,H7,I7,n7⟩:=q;exact⟨σ7,H7,I7.FM _,n7⟩
  | ret v=>obtain⟨x7,σ7,H7,I7,r7,q7⟩:=q;exact⟨x7,σ7,H7,I7.FM _,r7,q7⟩
def FX (Z:En):Rs Fl:=.ok (.ct Z)
end
def d7 (F:En->Rs Fl)(Z:En):Rs T:=do
 let f <-F Z
 match f with
 | .nx _=> .ok .non
 | .rt t=> .ok t
 | _=> .bad
def bD (n:Nat)(ts:List T):En:=ts.map Sl.va++Jr (n - ts.length) Sl.em
theorem wH {n:Nat}{ts:List T}{i:Nat}{o:OT}(e:(bD n ts)[i]? =some (.ow o)):False:=by
 unfold bD at e
 by_cases hi:i<ts.length
 ·rw[Lb (by simpa using hi),Jm,IU hi]at e
  cases e
 ·rw[K3 (by simpa using hi),Mg]at e
  split at e <;> cases e
theorem n9 {K:II}{O:Ow}{H:Hp}{N:List Str}{ts:List T}{vs:List V}(r:Reps K O H ts vs)(hl:ts.length<=N.length)(trk:∀a,O a->Mtb H a):Ev K O noM H (bD N.length ts) (start N vs):=by
 have hlen:=r.length
 have sub:∀a,OO O noM a->O a:=λa z=>z.elim id λ⟨_,w⟩=>w.elim
 refine⟨⟨by unfold bD L2.start;simp;omega,λi t e=> ?_,λi o e=>(wH e).elim,λ_ _ z=>z.elim,λ_ _ _ z=>z.elim,λa z=>trk a (sub a z)⟩,λa ⟨_,z⟩=>z.elim⟩
 unfold bD at e;unfold L2.start
 by_cases hi:i<ts.length
 ·rw[Lb (by simpa using hi),Jm,IU hi]at e
  have e':ts[i] =t:=by injection e with e;injection e
  obtain⟨v,e1,e2⟩:=r.get (i:=i) (t:=t) (by rw[<-e'];simp)
  refine⟨v,?_,e2.less sub⟩
  rw[Lb (by simp;omega),Jm,e1];rfl
 ·rw[K3 (by simpa using hi),Mg]at e
  split at e <;> cases e
section
variable {P:Jp}{w:J2}{K:II}{mg:Str->Option IQ}{base:Heap}
theorem GZ {x qual:Str}{st:Stmt}{f:Addr}{fd:KM}{N ps:List Str}{k n:Nat}{g:List T->Rs T}(Fn:L2.Fun K x qual st f fd)(S:d9 N ps (aB st))(hn:ps.length=n)
  (hbody:∀(cdv:IQ) (A:JO) (outer:List Env) (s:IR) (H:Hp) (E:XK),Room k (A.deeper (envOfC qual (aB st) s.heap.objs.size f cdv)) →
   ∃F,lI (km CX0 P w K mg base N qual (aB st) f cdv A outer s H E).nox (cE st) F/\∀ts,ts.length=n->∀t,g ts= .ok t->d7 F (bD N.length ts)= .ok t):qU P w K mg base CX0 (k+1) f fd ps (spP K n g):=by
 have hpl:ps.length<=N.length:=by have:=congrArg J4 S.pre;rw[KN]at this;omega
 refine Fn.ok S (λvs H Q E h=> ?_) (λcdv A outer s H vs Q E hr h=> ?_)
 ·obtain⟨ts,O,r,_,hl,_⟩:=h
  rw[<-r.length,hl,hn]
 ·obtain⟨ts,O,r,trk,hl,h⟩:=h
  obtain⟨F,hF,hv⟩:=hbody cdv A outer s H E hr;refine⟨_,hF,bD N.length ts,O,noM,n9 r (by omega) trk,?_⟩
  have no:∀a,¬noM.u a:=λa ⟨_,z⟩=>z
  cases q:g ts with
  | bad=>rw[q]at h;exact h.elim
  | err c=>rw[q]at h;exact h.elim
  | ok t=>
   rw[q]at h
   have hb:=hv ts hl t q;unfold d7 at hb
   cases q2:F (bD N.length ts)with
   | bad=>rw[q2]at hb;cases hb
   | err c=>rw[q2]at hb;cases hb
   | ok fl=>
    rw[q2,aG]at hb
    have sameOf:∀H',SameO noM.u H H'->Same H H':=λH' s b o e=>s b o e (no b)
    cases fl with
    | nx Z'=>cases hb;exact λσ' H' M' s' E' o'=>h .non H' (sameOf H' s') Rep.Ib
    | rt t'=>cases hb;exact λv H' s' r'=>h v H' (sameOf H' s') r'
    | bk Z'=>cases hb
    | ct Z'=>cases hb
end
end Tr
namespace Enu
open PySem
open AutoSeq1 (wpAny_loadPart')
section
variable {prog:Jp}{w:J2}{A:JO}{E:IQ->IR->Prop}{s:IR}
theorem tupNext {it tt:Addr}{k:Nat}{its:Array IQ}{x:IQ}{Q:IQ->IR->Prop}(hi:s.heap.IsTupleIter it tt k)(ht:s.heap.IsTuple tt its)(hx:its[k]? =some x)
  (hQ:∀h',h'.IsTupleIter it tt (k+1)->Lr it s.heap h'->Q x { s with heap:=h' }):wpAny (model prog w) A (JI (.ref it)) Q E s:=by
 obtain⟨ob,g1,g2,g3⟩:=id hi;obtain⟨ot,k1,_,m,k3⟩:=ht;unfold JI;refine IH (JH (name:=Jb "__next__") hi.typeIs K4 (J1 K4 hi.typeIs MT ?_ (MO _)))
 show wpAny (model prog w) _ (field (.ref it) 0 >>= _) _ _ s
 refine IH (Ka g1 g3 (x:=.ref tt) rfl ?_)
 show wpAny (model prog w) _ (if (Jg tt == JK)=true then _ else _) _ _ s
 rw[if_neg (show ¬((Jg tt == JK)=true)by exact Jo)]
 show wpAny (model prog w) _ (field (.ref it) 1 >>= _) _ _ s
 refine IH (Ka g1 g3 (x:=.int k 0) rfl ?_)
 show wpAny (model prog w) _ (seqItems? (.ref tt) >>= _) _ _ s
 refine IH (Ko k1 k3 ?_)
 simp only[hx,JD];refine IH (Nj g1 g3 (by simp) (IS ⟨x,rfl,IS (hQ _ ?_ (Kx ..))⟩))
 refine⟨_,LB _ g1 (Oc (Mi g3 _)),(Pr ..).trans g2,?_⟩
 rw[Mi g3];simp[rawInt]
theorem tupStop {it tt:Addr}{k:Nat}{its:Array IQ}{Q:IQ->IR->Prop}(hh:A.handled=none)(hi:s.heap.IsTupleIter it tt k)(ht:s.heap.IsTuple tt its)(hx:its[k]? =none)
  (hE:∀h' e,Qm it s.heap h'->(∃o,h'.get? e=some o/\o.cls= .type "StopIteration")->E (.ref e) { s with heap:=h' }):wpAny (model prog w) A (JI (.ref it)) Q E s:=by
 obtain⟨ob,g1,g2,g3⟩:=id hi;obtain⟨ot,k1,_,m,k3⟩:=ht;unfold JI;refine IH (JH (name:=Jb "__next__") hi.typeIs K4 (J1 K4 hi.typeIs MT ?_ (MO _)))
 show wpAny (model prog w) _ (field (.ref it) 0 >>= _) _ _ s
 refine IH (Ka g1 g3 (x:=.ref tt) rfl ?_)
 show wpAny (model prog w) _ (if (Jg tt == JK)=true then _ else _) _ _ s
 rw[if_neg (show ¬((Jg tt == JK)=true)by exact Jo)]
 show wpAny (model prog w) _ (field (.ref it) 1 >>= _) _ _ s
 refine IH (Ka g1 g3 (x:=.int k 0) rfl ?_)
 show wpAny (model prog w) _ (seqItems? (.ref tt) >>= _) _ _ s
 refine IH (Ko k1 k3 ?_)
 simp only[hx,JD];refine IH (NC (IH (Nj g1 g3 (by simp) ?_)))
 show wpAny (model prog w) _ (newExc (.type "StopIteration") [] >>= _) _ _ _
 refine IH ?_
 simp only[newTuple,newExc];refine IH (J3 ?_ (by size_fits))
 refine IH (m:=Nk _ _) (QC (a:=JK) (by first | (simp only[Nk];rfl) | rfl) ?_)
 refine J3 ?_ (by size_fits)
 simp only[raiseNew];refine IH (wpAny_handled ?_)
 first | rw[hh] | rw[show A.in1.handled=none from hh]
 refine IH (IS (wpAny_throw ?_))
 refine hE _ _ (((Kx ..).extBut.push _).push _) ⟨_,IZ _ rfl,rfl⟩
end
theorem tupDraws {prog:Jp}{w:J2}{A:JO}(hh:A.handled=none)(it tt:Addr)(hne:tt≠it)(its:Array IQ) :
  Draws prog w A it [it,tt] its.size (λi v=>its[i]? =some v) (λi h=>h.IsTupleIter it tt i/\h.IsTuple tt its) where
 live:=λ_ _ st=>by obtain⟨o,ho,_⟩:=st.1;exact⟨o,ho⟩
 frame:=λ_ _ _ st hk=>by
  obtain⟨⟨o,e,r⟩,⟨o',e',r'⟩⟩:=st;exact⟨⟨o,hk it (by simp) o e,r⟩,⟨o',hk tt (by simp) o' e',r'⟩⟩
 item:=λi s Q E hi st hQ=>by
  refine tupNext st.1 st.2 (x:=its[i]) (by simp[hi]) λh' hit' hs'=> ?_
  obtain⟨o',e',r'⟩:=st.2;exact hQ _ h' s.toks (by simp[hi]) ⟨hit',⟨o',(hs'.2 tt hne).trans e',r'⟩⟩ hs'
 done:=λs Q E st hE=>tupStop hh st.1 st.2 (by simp) hE
theorem newT (l:Addr)(items:Array IQ)(n:Nat)(dct:Option Addr)(sl:Array (Option IQ)) :
  Meets (Builtin.«enumerate.__new__» ⟨[.type "enumerate",.ref l],[]⟩) (λ_ R s=>s.heap.get? l=some { cls:=.type "tuple",dict:=dct,data:=.seq items n,slots:=sl } ∧
   R (.ok (.ret (.ref (s.heap.push { cls:=.type "tuple_iterator",data:=.fields #[.ref l,.int 0 0] }).objs.size)))
    { s with heap:=(s.heap.push { cls:=.type "tuple_iterator",data:=.fields #[.ref l,.int 0 0] }).push { cls:=.type "enumerate",data:=.fields #[.none,.bool false,.ref s.heap.objs.size,rawInt 0,.none,.none] } }):=
 .of_wp λprog w A R s h=>by
  obtain⟨hp,g,d,tk,os⟩:=s;obtain⟨hl,h⟩:=h
  have hsub:=sub_enumerate
  have hT:Heap.IsTuple (Qn ⟨hp,g,d,tk,os⟩) l items:=⟨_,hl,rfl,n,rfl⟩
  wp_walk using Lp hl
  refine wpAny_stack_any λst=>IS ?_
  split
  ·rename_i c _ _ _ _ _
   cases (c == L7 "enumerate")
   ·wp_walk using Lp hl,K8 hT
    exact⟨_,rfl,h⟩
   ·wp_walk using Lp hl,K8 hT
    exact⟨_,rfl,h⟩
  ·wp_walk using Lp hl,K8 hT
   exact⟨_,rfl,h⟩
theorem callT {prog:Jp}{w:J2}{A:JO}{E:IQ->IR->Prop}{s:IR}{l:Addr}{items:Array IQ}{Q:IQ->IR->Prop}(hL:s.heap.IsTuple l items)
  (h:∀h',IsEnum h' (s.heap.objs.size+1) s.heap.objs.size 0 .none->h'.IsTupleIter s.heap.objs.size l 0->h'.objs.size=s.heap.objs.size+2 →
   (∀b o,s.heap.get? b=some o->h'.get? b=some o)->Q (.ref (s.heap.objs.size+1)) { s with heap:=h' }):wpAny (model prog w) A (call (.type "enumerate") [.ref l]) Q E s:=by
 obtain⟨⟨cc,dc,dd,ss⟩,hl,hc,n,hd⟩:=hL
 replace hc:cc= .type "tuple":=hc
 replace hd:dd= .seq items n:=hd
 subst hc hd;refine callType_new F.called_enumerate (by decide) (F.typeCall_enumerate_1 _) (F.newCall_enumerate_1 _) (λobj=>F.args_object_init_2 obj _) F.entry_enumerate_new (newT l items n dc ss) ⟨hl,?_⟩
 have hz:(s.heap.push { cls:=.type "tuple_iterator",data:=.fields #[.ref l,.int 0 0] }).objs.size=s.heap.objs.size+1:=Kc ..
 show _/\_
 rw[hz]
 have he:IsEnum ((s.heap.push { cls:=.type "tuple_iterator",data:=.fields #[.ref l,.int 0 0] }).push
   { cls:=.type "enumerate",data:=.fields #[.none,.bool false,.ref s.heap.objs.size,rawInt 0,.none,.none] }) (s.heap.objs.size+1) s.heap.objs.size 0 .none:=by
  have q:=IZ (s.heap.push { cls:=.type "tuple_iterator",data:=.fields #[.ref l,.int 0 0] })
   (o:={ cls:=.type "enumerate",data:=.fields #[.none,.bool false,.ref s.heap.objs.size,rawInt 0,.none,.none] }) rfl
  rw[hz]at q;exact q
 refine⟨⟨_,he,rfl⟩,h _ he ⟨_,IK _ (IZ _ rfl),rfl,rfl⟩ (by rw[Kc,hz]) λb o x=>IK _ (IK _ x)⟩
end Enu
namespace L2
open PySem PySem.Spec PyProof.Rows
section
variable {X:Cx}{pins:List (Addr×Obj)}{σ:L2.St}{H:Hp}{s:IR}{h':Heap}
theorem Inv.Ie {t':Nat}{fp:List Addr}{Tp:Addr}{xs:List V}(I:Inv X pins σ H s)(hf:∀b∈fp,kx X pins H b)(k:∀b o,b∉fp->s.heap.get? b=some o->h'.get? b=some o)
  (ht:∀b∈fp,∃o,h'.get? b=some o) (hT:s.heap.objs.size<=Tp) (new:ObjOk X.prog X.w (upd H Tp (.tup xs)) h' Tp (.tup xs)):Inv X pins σ (upd H Tp (.tup xs)) { s with heap:=h',toks:=t' }:=by
 have hn:H Tp=none:=I.hok.fresh hT
 have lb:∀b o,s.heap.get? b=some o->b≠Tp:=λb o e=>JS (Ji (Ja e) hT)
 have nf:∀b u,H b=some u->b∉fp:=λb u e z=>by rw[(hf b z).1]at e;cases e
 refine I.step (g':=s.gens) (d':=s.drawn) (ch:=fp) (λb hb=>⟨(hf b hb).2.2.2.1,(hf b hb).2.1,(hf b hb).2.2.2.2.1,(hf b hb).2.2.2.2.2⟩) (λb o _ _ hc e _=>k b o hc e) (λb o _ _ hc e _=>⟨o.slots,k b o hc e⟩)
  (λb o _ e n=>by rw[aF (lb b o e)];exact n) (λb o hc e=>⟨o,k b o hc e⟩) (λb ys e=>by rw[aF (bX e hn)];exact e) (λb o u e=>by rw[aF (bX e hn)];exact e)
  (λb ps e=>⟨#[],by rw[aF (bX e hn),e];simp⟩) (λm hm=> ?_) (λb u e=> ?_) I.bare
 ·obtain⟨o,es,ep,ho,r⟩:=hm
  exact⟨o,es,ep,k _ o (λz=>(hf _ z).2.1 rfl) ho,r⟩
 ·by_cases hb:b=Tp
  ·subst hb;rw[aH]at e;cases e;exact new
  ·rw[aF hb]at e
   refine(I.hok b u e).HN (λc v hc q=>k c v ?_ q) (λc q=>by rw[aF (bX q hn)];exact q) λc ys q=>by rw[aF (bX q hn)];exact q
   rcases hc with z | z
   ·rw[z];exact nf b u e
   ·exact nf c _ z
theorem Inv.HH {t':Nat}{fp:List Addr}(I:Inv X pins σ H s)(hf:∀b∈fp,kx X pins H b)(k:∀b o,b∉fp->s.heap.get? b=some o->h'.get? b=some o):Inv X pins σ H { s with heap:=h',toks:=t' }:=by
 have nf:∀b u,H b=some u->b∉fp:=λb u e z=>by rw[(hf b z).1]at e;cases e
 refine I.step (g':=s.gens) (d':=s.drawn) (ch:=fp) (λb hb=>⟨(hf b hb).2.2.2.1,(hf b hb).2.1,(hf b hb).2.2.2.2.1,(hf b hb).2.2.2.2.2⟩) (λb o _ _ hc e _=>k b o hc e) (λb o _ _ hc e _=>⟨o.slots,k b o hc e⟩)
  (λb o _ e n=>n) (λb o hc e=>⟨o,k b o hc e⟩) (λb ys e=>e) (λb o u e=>e)
  (λb ps e=>⟨#[],by rw[e];simp⟩) (λm hm=> ?_) (λb u e=> ?_) I.bare
 ·obtain⟨o,es,ep,ho,r⟩:=hm
  exact⟨o,es,ep,k _ o (λz=>(hf _ z).2.1 rfl) ho,r⟩
 ·refine(I.hok b u e).HN (λc v hc q=>k c v ?_ q) (λc q=>q) λc ys q=>q
  rcases hc with z | z
  ·rw[z];exact nf b u e
  ·exact nf c _ z
end
def AA (K:II)(H:Hp)(a:Addr)(tt:Bool)(xs:List V):Prop:=if tt then SqT K H a xs else SqL K H a xs
def HE (K:II)(a:Addr)(tt:Bool):It:=
 ⟨λi H=> ∃xs x,AA K H a tt xs/\xs[i]? =some x,λi H x H'=> ∃p v,x= .ref p/\H p=none/\H'=upd H p (.tup [.int (i:Nat),v])/\∀xs,AA K H a tt xs->xs[i]? =some v,λi H=> ∃xs,AA K H a tt xs/\xs.length<=i⟩
def itAt (tt:Bool)(h:Heap)(it a:Addr)(i:Nat):Prop:=if tt then h.IsTupleIter it a i else h.IsListIter it a i
theorem itAt.obj {tt:Bool}{h:Heap}{it a:Addr}{i:Nat}(st:itAt tt h it a i):∃o,h.get? it=some o/\∀v,o.data≠ .cell v:=by
 cases tt with
 | true=>obtain⟨o,e,c,d⟩:=(show h.IsTupleIter it a i from st);exact⟨o,e,λv z=>by rw[d]at z;cases z⟩
 | false=>obtain⟨o,e,c,d⟩:=(show h.IsListIter it a i from st);exact⟨o,e,λv z=>by rw[d]at z;cases z⟩
theorem itAt.keep {tt:Bool}{h h':Heap}{it a:Addr}{i:Nat}(st:itAt tt h it a i)(k:∀o,h.get? it=some o->h'.get? it=some o):itAt tt h' it a i:=by
 cases tt with
 | true=>obtain⟨o,e,r⟩:=(show h.IsTupleIter it a i from st);exact(show h'.IsTupleIter it a i from⟨o,k o e,r⟩)
 | false=>obtain⟨o,e,r⟩:=(show h.IsListIter it a i from st);exact(show h'.IsListIter it a i from⟨o,k o e,r⟩)
theorem wA {P:Jp}{w:J2}{K:II}{elts:List Expr}{kk:Nat}{pos:Pos}(tt:Bool)(a e it:Addr)(hei:e≠it) :
  xE P w K (.Tuple elts kk pos) (HE K a tt) [e,it] e (λi h=>(∃old,IsEnum h e it i old)/\itAt tt h it a i) where
 mem:=by simp
 obj:=λi h st b hb=>by
  obtain⟨⟨old,he⟩,hi⟩:=st;rcases IW.mp hb with rfl | hb
  ·exact⟨_,he,λv z=>by have z':Data.fields _=Data.cell v:=z;cases z'⟩
  ·rw[IY.mp hb];exact hi.obj
 keep:=λi h h' st k=>by
  obtain⟨⟨old,he⟩,hi⟩:=st;exact⟨⟨old,k e (by simp) _ he⟩,hi.keep λo q=>k it (by simp) o q⟩
 item:=by
  intro X hP hw hK hc i pins s σ H E I hf st hg;subst hP hw hK;obtain⟨xs,x,hq,hx⟩:=hg;obtain⟨⟨old,he⟩,hi⟩:=st
  -- by what is walked
  have key:∀(its:List IQ),Vals xs its->(∀ys,AA X.K H a tt ys->ys=xs)->∀(fp0:List Addr) (St:Nat->Heap->Prop),Draws X.prog X.w X.A.in1 it fp0 its.toArray.size (λi v=>its.toArray[i]? =some v) St->e∉fp0->it∈fp0->St i s.heap →
    (∀h',St (i+1) h'->itAt tt h' it a (i+1)) →
    wpAny (model X.prog X.w) X.A (pyNext (.ref e)) (λr s1=> ∃u,r=some u/\wpAny (model X.prog X.w) X.A (Mj (.Tuple elts kk pos) (.ref e) u) (λ_ s2=> ∃x' H',Inv X pins σ H' s2/\RelV x' u/\(HE X.K a tt).yld i H x' H' ∧
     ((∃old,IsEnum s2.heap e it (i+1:Nat) old)/\itAt tt s2.heap it a (i+1))/\∀b∈ [e,it],H' b=none) E s1) E s:=by
   intro its rv uniq fp0 St D hef hif hst hnext;obtain⟨u,hu,ru⟩:=rv.get hx
   have hlt:i<its.toArray.size:=by
    have:=(Jd.mp hu).1
    simpa using this
   have W:=WalksT.enumerateD D e hei hef hif;refine W.item i s _ _ hlt ⟨⟨old,he⟩,hst⟩ λTp vals h1 tk hPt hTsz hTup hMid hk=>⟨.ref Tp,rfl,?_⟩
   refine W.go elts kk pos i Tp { s with heap:=h1,toks:=tk } _ _ hMid λh2 hst2 hk2=> ?_
   obtain⟨t,x',hPx,hvals⟩:=hPt;subst hvals
   have hxe:x'=u:=by
    have h1':its.toArray[i]? =some x':=hPx
    have h2':its.toArray[i]? =some u:=by simpa using hu
    rw[h1']at h2';exact JB h2'
   subst hxe
   have hTw:=W.apart i Tp h1 hMid;obtain⟨oT,eT,rT⟩:=hTup
   have eT2:h2.get? Tp=some oT:=hk2 Tp oT hTw eT
   have kAll:∀b o,b∉ [e,it]->s.heap.get? b=some o->h2.get? b=some o:=λb o hb q=>hk2 b o hb (hk b o hb q)
   obtain⟨⟨old2,he2⟩,hs2⟩:=hst2
   have hit2:=hnext h2 hs2
   have there:∀b∈ [e,it],∃o,h2.get? b=some o:=λb hb=>by
    rcases IW.mp hb with rfl | hb
    ·exact⟨_,he2⟩
    ·rw[IY.mp hb];obtain⟨o,q,_⟩:=hit2.obj;exact⟨o,q⟩
   have hn:H Tp=none:=I.hok.fresh hTsz
   have new:ObjOk X.prog X.w (upd H Tp (.tup [.int (i:Nat),x])) h2 Tp (.tup [.int (i:Nat),x]):=
    ⟨by show 2<=sizeLine;decide,[.int (i:Nat) t,x'],.cons ⟨t,rfl⟩ (.cons ru .nil),⟨oT,eT2,rT⟩⟩
   have I2:=I.Ie (t':=tk) hf kAll there hTsz new;refine⟨.ref Tp,_,I2,rfl,⟨Tp,x,rfl,hn,rfl,λys hy=>by rw[uniq ys hy];exact hx⟩,⟨⟨old2,he2⟩,hit2⟩,λb hb=> ?_⟩
   have hbT:b≠Tp:=λz=>by
    obtain⟨o,q⟩:∃o,s.heap.get? b=some o:=by
     rcases IW.mp hb with rfl | hb
     ·exact⟨_,he⟩
     ·rw[IY.mp hb];obtain⟨o,q,_⟩:=hi.obj;exact⟨o,q⟩
    exact absurd (Ji (Ja q) hTsz) (by rw[z];exact Ju _)
   rw[aF hbT];exact(hf b hb).1
  have hne:∀b∈ [e,it],a≠b:=λb hb z=>by
   have hb':=(hf b hb).1;rw[<-z]at hb'
   have hbs:=hf b hb
   cases tt with
   | true=>
    have hq':SqT X.K H a xs:=hq;rcases hq' with(q | ⟨o,q⟩) | ⟨o,its,n,q,_⟩
    ·rw[hb']at q;cases q
    ·rw[hb']at q;cases q
    ·rcases hbs.2.2.2.1 with z1 | z1
     ·exact I.ok.noex a o (I.ok.mod.kin a o q) (z▸z1)
     ·exact absurd (Ji (Ja (I.ok.bs a o (I.ok.mod.kin a o q)).1) (z▸z1)) (Ju _)
   | false=>
    have hq':SqL X.K H a xs:=hq;rcases hq' with(q | ⟨o,q⟩) | ⟨o,its,n,q,_⟩
    ·rw[hb']at q;cases q
    ·rw[hb']at q;cases q
    ·rcases hbs.2.2.2.1 with z1 | z1
     ·exact I.ok.noex a o (I.ok.mod.kin a o q) (z▸z1)
     ·exact absurd (Ji (Ja (I.ok.bs a o (I.ok.mod.kin a o q)).1) (z▸z1)) (Ju _)
  have hea:e≠a:=λz=>hne e (by simp) z.symm
  have hia:it≠a:=λz=>hne it (by simp) z.symm
  cases tt with
  | true=>
   have hq':SqT X.K H a xs:=hq;obtain⟨its,rv,p,hz⟩:=I.tuple hq'
   exact key its rv (λys hy=>I.HQ hy hq') _ _ (Enu.tupDraws (A:=X.A.in1) (I.ok.hd hc) it a (N8 hia) its.toArray) (by simp[hei,hea]) (by simp) ⟨hi,p⟩ λh' z=>z.1
  | false=>
   have hq':SqL X.K H a xs:=hq;obtain⟨its,rv,p,hz⟩:=I.list hq';exact key its rv (λys hy=>I.HS hy hq') _ _ (Draws.list (A:=X.A.in1) (I.ok.hd hc) it a (N8 hia) its.toArray) (by simp[hei,hea]) (by simp) ⟨hi,p.isList⟩ λh' z=>z.1
 done:=by
  intro X hP hw hK hc i pins s σ H E I hf st hg;subst hP hw hK;obtain⟨xs,hq,hx⟩:=hg;obtain⟨⟨old,he⟩,hi⟩:=st
  have fin:∀h',Qm it s.heap h'->(none:Option IQ)=none/\Inv X pins σ H { s with heap:=h' }:=λh' eb=>⟨rfl,I.HH (t':=s.toks) hf λb o hb q=>eb b o (λz=>hb (by simp[z])) q⟩
  cases tt with
  | true=>
   have hq':SqT X.K H a xs:=hq;obtain⟨its,rv,p,hz⟩:=I.tuple hq'
   have hl:=rv.length
   have hnone:its.toArray[i]? =none:=by simp;omega
   have hT:s.TypeIs (.ref e) "enumerate":=⟨_,he,rfl⟩;unfold pyNext;refine IH (Mk (JH (name:=Jb "__next__") hT Oe (J1 Oe hT F.entry_enumerate_next ?_ (F.args_enumerate_next_1 _))))
   show wpAny (model X.prog X.w) _ (field (.ref e) 2 >>= _) _ _ _
   refine IH (Ka he rfl (x:=.ref it) rfl ?_)
   refine IH (Enu.tupStop (I.ok.hd hc) hi p hnone λh' x he' hx'=> ?_)
   obtain⟨o,ho,hcl⟩:=hx'
   exact IH (NV (T:="StopIteration") (b:=true) ⟨o,ho,hcl⟩ OF (IS (fin h' he')))
  | false=>
   have hq':SqL X.K H a xs:=hq;obtain⟨its,rv,p,hz⟩:=I.list hq'
   have hl:=rv.length
   have hnone:its.toArray[i]? =none:=by simp;omega
   exact wpAny_pyNext_enum_end (I.ok.hd hc) he hi p.isList hnone fin
 self:=λ_ _ _ _ _ st h=>by
  obtain⟨⟨old,he⟩,_⟩:=st;exact PD he h
section
variable {X:Cx}{elts:List Expr}{kk:Nat}{tpos:Pos}
theorem m6:Jw "enumerate" =some (.type "enumerate"):=by decide+kernel
def iEnu (K:II)(tl:TA):TI:=λσ H R=>tl σ H λvs H1=> ∃a tt,vs= [.ref a]/\(∃xs,AA K H1 a tt xs)/\R (HE K a tt) H1
theorem BB {l:Expr}{tl:TA}{p pos:Pos}(hg:Gl X "enumerate")(hm:X.mg "enumerate" =none)(hl:PA X [l] tl)(hs:Jj [l] X.env= [(false,eval l X.env)]:=by rfl):PI X (.Tuple elts kk tpos) (.Call (.Name "enumerate" p) [l] [] pos) (iEnu X.K tl):=by
 intro pins s σ H R I h;refine Call_ (fo I hg hm m6 (JL (cq (hl pos pins s σ H _ I h) λus s1 ⟨vs,H1,I1,r1,q1⟩=> ?_) hs rfl))
 obtain⟨a,tt,e,⟨xs,hq⟩,q⟩:=q1;subst e;obtain⟨u,rfl,ru⟩:=iq r1;cases ru
 have fin:∀h',IsEnum h' (s1.heap.objs.size+1) s1.heap.objs.size 0 .none->itAt tt h' s1.heap.objs.size a 0->h'.objs.size=s1.heap.objs.size+2->(∀b o,s1.heap.get? b=some o->h'.get? b=some o) →
   wpAny (model X.prog X.w) X.A (pyIter (.ref (s1.heap.objs.size+1))) (PIE X pins σ (.Tuple elts kk tpos) R) X.xe { s1 with heap:=h' }:=λh' he hi hsz hk=>by
  refine PD he ?_
  have I2:Inv X pins σ H1 { s1 with heap:=h' }:=I1.kept (t':=s1.toks) hk
  refine⟨s1.heap.objs.size+1,[s1.heap.objs.size+1,s1.heap.objs.size],_,_,H1,rfl,I2,wA tt a (s1.heap.objs.size+1) s1.heap.objs.size (Nat.succ_ne_self _),⟨⟨_,he⟩,hi⟩,λb hb=> ?_,q⟩
  rcases IW.mp hb with rfl | hb
  ·exact I1.HU (by omega) (I1.hok.fresh (by omega))
  ·rw[IY.mp hb];exact I1.HU (Jc _) (I1.hok.fresh (Jc _))
 cases tt with
 | true=>
  have hq':SqT X.K H1 a xs:=hq;obtain⟨its,rv,pl,hz⟩:=I1.tuple hq'
  exact Enu.callT pl λh' he hi hsz hk=>fin h' he hi hsz hk
 | false=>
  have hq':SqL X.K H1 a xs:=hq;obtain⟨its,rv,pl,hz⟩:=I1.list hq';exact call_enumerate_list pl.isList λh' he hi hsz hk=>fin h' he hi hsz hk
end
end L2
namespace Tr
open PySem PySem.Spec PyProof.Rows L2
section
variable {X:Cx}{a:Expr}{fa:En->Rs T}{fs:En->Rs (List T)}{p pos:Pos}
def iS (f:En->Rs T)(Z:En):Rs (List T):=do
 let x <-f Z
 match x with
 | .lst l=> .ok l
 | .tup l=> .ok l
 | _=> .bad
theorem DL {tg:Expr}(ha:cy X a fa):Ap X tg a (iS fa):=by
 intro pins s σ H R I ⟨Z,O,E,h⟩;unfold iS at h
 cases q:fa Z with
 | bad=>rw[q]at h;exact h.elim
 | err c=>exact vm ha pins s σ H R I ⟨Z,O,E,by unfold iL;rw[q]at h ⊢;exact h⟩
 | ok x=>
  rw[q,aG]at h
  cases x with
  | lst l=>exact vm ha pins s σ H R I ⟨Z,O,E,by unfold iL;rw[q];exact h⟩
  | tup l=>exact DK ha pins s σ H R I ⟨Z,O,E,by unfold iT;rw[q];exact h⟩
  | _=>exact h.elim
def dh:Nat->List T->List T
 | _,[] => []
 | n,t::r=> .tup [.int n,t] ::dh (n+1) r
theorem oP:∀(l:List T) (n i:Nat),(dh n l)[i]? =(l[i]?).map λt=>T.tup [.int ((n+i:Nat):Int),t]
 | [],n,i=>by simp[dh]
 | t::l,n,0=>by simp[dh]
 | t::l,n,i+1=>by
  rw[dh,Kd,oP l (n+1) i,Kd]
  congr 2
  funext t
  congr 4
  omega
theorem oO:∀(l:List T) (n:Nat),(dh n l).length=l.length
 | [],n=>rfl
 | t::l,n=>by rw[dh,IV,IV,oO l]
def iE (f:En->Rs (List T))(Z:En):Rs (List T):=do
 let xs <-f Z
 match xs with
 | [x] =>match x.items with
  | some l=> .ok (dh 0 l)
  | none=> .bad
 | _=> .bad
theorem Bj {elts:List Expr}{kk:Nat}{tpos:Pos}(hm:X.mg "enumerate" =none)(ha:qT X [a] fs)(hg:Gl X "enumerate":=by rfl)(hs:Jj [a] X.env= [(false,eval a X.env)]:=by rfl) :
  Ap X (.Tuple elts kk tpos) (.Call (.Name "enumerate" p) [a] [] pos) (iE fs):=PI.imp (BB hg hm ha hs) λσ H R hh_=>by
 obtain⟨Z,O,E,h⟩:=hh_;obtain⟨Z1,O1,E1,h1⟩:=eQ E h;refine⟨Z1,O1,E1,Post.mono h1 λts H1 s1 q vs r=> ?_⟩
 obtain⟨t',r',s',E',q'⟩:=q vs r
 split at q'
 ·rename_i x0
  obtain⟨v,rfl,rv⟩:=r'.one
  split at q'
  ·rename_i l hl
   have main:∀(aa:Addr) (tt:Bool) (ws:List V),v= .ref aa->¬ O aa->Reps X.K O H1 l ws->AA X.K H1 aa tt ws->(∀P Hc,SameO P H1 Hc->¬ P aa->AA X.K Hc aa tt ws)->¬ Nw X.K H1 aa →
     ∃a tt,[v] = [V.ref a]/\(∃xs,AA X.K H1 a tt xs)/\R (HE X.K a tt) H1:=λaa tt ws e n z sq mv nn=>by
    refine⟨aa,tt,by rw[e],⟨ws,sq⟩,q' H1 (Same.refl H1) _ λP O' hP hO i Hc hsm htr=> ?_⟩
    have hnP:¬ P aa:=λy=>(hP aa y).elim n nn
    have sqc:=mv P Hc hsm hnP;refine⟨λhi=>⟨ws,sqc,by rw[<-z.length,<-oO l 0];exact hi⟩,λt ht=> ?_⟩
    rw[oP]at ht
    cases e1:l[i]? with
    | none=>rw[e1]at ht;cases ht
    | some t0=>
     rw[e1]at ht;cases ht;obtain⟨v0,f1,f2⟩:=z.get e1;refine⟨⟨ws,v0,sqc,f1⟩,λx Hc' y=> ?_⟩
     obtain⟨pp,vv,e2,hpn,e3,hy⟩:=y
     have:=hy ws sqc;rw[f1]at this;cases this;subst e2 e3;refine⟨aS hpn _,gD hpn (λzz=> ?_) (Reps.FS (by simpa using Rep.Gc _) (Reps.FS (f2.move hP hO hsm) Reps.nil_))⟩
     obtain⟨o,w⟩:=htr pp zz;rw[hpn]at w;cases w
   cases x0 with
   | tup m=>
    cases hl;obtain⟨aa,ws,e,n,qq,z⟩:=Rep.Fk.mp rv
    exact main aa true ws e n z (show SqT X.K H1 aa ws from SqT.of qq) (λP Hc hsm hn=>show SqT X.K Hc aa ws from SqT.of (hsm _ _ qq hn)) λw=>by rw[w.1]at qq;cases qq
   | lst m=>
    cases hl;obtain⟨aa,ws,e,n,qq,z⟩:=Rep.Do.mp rv
    exact main aa false ws e n z (show SqL X.K H1 aa ws from SqL.of qq) (λP Hc hsm hn=>show SqL X.K Hc aa ws from SqL.of (hsm _ _ qq hn)) λw=>by rw[w.1]at qq;cases qq
   | scr m=>
    cases hl;unfold Rep at rv;obtain⟨aa,e,n,qq⟩:=rv
    exact main aa false _ e n Reps.ints (show SqL X.K H1 aa _ from qq) (λP Hc hsm hn=>show SqL X.K Hc aa _ from Tr.SqL.keep hsm hn qq) (Tr.SqL.nn qq)
   | _=>cases hl
  ·exact q'.elim
 ·exact q'.elim
end
end Tr
namespace Tm
open PySem PyProof.Rows
theorem kM:fillsNumberSlot (.type "tuple") "mul" =pure false:=
 PySem.fillsNumberSlot_seq (id:="tuple.__mul__") (r:=some (.builtin "tuple.__rmul__")) NQ.lookup (by decide+kernel) Pt.lookup (by decide+kernel)
theorem pM:seqRepeat? (.type "tuple")=pure (some (.builtin "tuple.__mul__")):=by
 unfold seqRepeat?;rw[P0 (T:="tuple") (name:="__mul__") (id:="tuple.__mul__") NQ.lookup (by decide+kernel),P0 (T:="tuple") (name:="__rmul__") (id:="tuple.__rmul__") Pt.lookup (by decide+kernel)]
 rfl
theorem uq (a:Int)(t:Tok)(l:Addr)(items:Array IQ)(n:Nat)(dd:Option Addr)(sl:Array (Option IQ)) :
  Meets (Builtin.«int.__rmul__» ⟨[.int a t,.ref l],[]⟩) (λ_ R s=>s.heap.get? l=some { cls:=.type "tuple",dict:=dd,data:=.seq items n,slots:=sl }/\R (.ok (.ret Value.notImplemented)) s):=
 .of_wp λprog w A R s h=>by obtain⟨hp,g,d,tk,os⟩:=s;obtain⟨hl,h⟩:=h;wp_walk;exact⟨_,rfl,h⟩
open AutoSeq1 (wpAny_loadPart')
theorem y6 (l:Addr)(items:Array IQ)(n:Nat)(dd:Option Addr)(sl:Array (Option IQ))(x:Int)(u:Tok)(h1:1<x)(h2:x<2 ^ 31)(hne:items.isEmpty=false)(hz:items.size*x.toNat<=sizeLine)
  (hz2:(Nr (λa b=>a++b) #[] (Jr x.toNat items)).size<=sizeLine) :
  Meets (Builtin.«tuple.__mul__» ⟨[.ref l,.int x u],[]⟩) (λ_ R s=>s.heap.get? l=some { cls:=.type "tuple",dict:=dd,data:=.seq items n,slots:=sl } ∧
   R (.ok (.ret (Jg s.heap.objs.size))) { s with heap:=s.heap.push { cls:=L7 "tuple",data:=Data.seq (Nr (λa b=>a++b) #[] (Jr x.toNat items)) } }):=
 .of_wp λprog w A R s h=>by
  obtain⟨hp,g,d,tk,os⟩:=s;obtain⟨hl,h⟩:=h
  have hT:QK hp l items:=⟨_,hl,rfl,n,rfl⟩
  have hx:((items.size:Nat):Int)*x=((items.size*x.toNat:Nat):Int):=by
   have e:x=((x.toNat:Nat):Int):=by omega
   rw[Int.natCast_mul,<-e]
  wp_walk using Lp hl
  rw[if_neg (by simp;omega)]
  refine IH (Pe (s:=⟨hp,g,d,tk,os⟩) hT ?_)
  dsimp only
  rw[if_neg (by rw[hne];simp;omega),if_neg (by rw[hne];simp;omega),hx,if_neg (by have:(sizeLine:Nat)<=1000000000:=(by decide);omega),if_neg (by unfold Builtin.Tuple.tupleTooMany;rw[decide_eq_true_iff];omega)]
  refine IH (m:=KI _) (J3 ?_ hz2)
  exact IS ⟨_,rfl,h⟩
section
variable {prog:Jp}{w:J2}{A:JO}{E:IQ->IR->Prop}{s:IR}
theorem mul_tuple {t:Addr}{vs:List IQ}{k:Int}{tk:Tok}{Q:IQ->IR->Prop}(ht:QK s.heap t vs.toArray)(h1:1<k)(h2:k<2 ^ 31)(hv:vs≠ [])(hz:vs.length*k.toNat<=sizeLine)
  (h:Q (.ref s.heap.objs.size) { s with heap:=s.heap.push { cls:=.type "tuple",data:=.seq (Jr k.toNat vs).flatten.toArray } }) :
  wpAny (model prog w) A (KL .Mult (.ref t) (.int k tk)) Q E s:=by
 obtain⟨⟨cls,dd,data,sl⟩,ho,hc,n,hd⟩:=id ht;simp only at hc hd;subst hc hd
 have e:Nr (λa b=>a++b) #[] (Jr k.toNat vs.toArray)=(Jr k.toNat vs).flatten.toArray:=by
  have q:=L2.foldl_rep vs k.toNat []
  simpa using q
 refine Ni (T:="tuple") (U:="int") (by decide) ⟨_,ho,rfl⟩ (λs'=>Ox s' k tk) kM Ql MS pM PX.lookup
  (MP MS (Ox s k tk) PY (Pq _ _) (uq k tk t vs.toArray n dd sl)
   ⟨ho,rfl,⟨_,ho,rfl⟩,MP NQ ⟨_,ho,rfl⟩ F.entry_tuple_mul (F.args_tuple_mul_2 _ _) (y6 t vs.toArray n dd sl k tk h1 h2 (by simpa using hv) (by simpa using hz) (by rw[e,Je,L2.len_rep,PK];exact hz)) ⟨ho,?_⟩⟩)
 rw[e];exact h
end
end Tm
namespace Tr
open PySem PySem.Spec PyProof.Rows L2
section
variable {X:Cx}
def cJ (x y:T):Rs T:=match x,y with
 | .tup l,.int k=>if 1<k/\k<2 ^ 31/\l≠ []/\l.length*k.toNat<=sizeLine then .ok (.tup (Jr k.toNat l).flatten)else .bad
 | x,y=>uE x y
instance (l:List T):Decidable (l≠ []):=by cases l <;> simp <;> infer_instance
theorem dY:OpT X (KL .Mult) cJ:=by
 intro pins s σ H O x y vx vy ux uy Q I hf rx ry r1 r2 hp;unfold cJ at hp
 split at hp
 ·rename_i l k
  split at hp
  ·rename_i h
   obtain⟨a,vs,e1,n1,q1,z1⟩:=Rep.Fk.mp rx;subst e1;cases Rep.Da.mp ry;cases r1;obtain⟨tk,rfl⟩:=r2;obtain⟨its,rv,pl,hz⟩:=I.tuple (SqT.of q1)
   have hl1:=z1.length
   have hl2:=rv.length
   have hne:its≠ []:=λz=>h.2.2.1 (List.eq_nil_of_length_eq_zero (by rw[hl1,hl2,z];rfl))
   refine Tm.mul_tuple pl h.1 h.2.1 hne (by rw[<-hl2,<-hl1];exact h.2.2.2) ?_
   have hn:=I.hok.fresh (Jc _);refine⟨.ref _,_,I.laid (t':=s.toks) (o:=.tup (Jr k.toNat vs).flatten) (λb ob q=>IK _ q) (Jc _) ?_,rfl,hp _ (aS hn _) _ (gD hn (hf _ hn) (z1.rep _))⟩
   refine⟨?_,_,rv.rep k.toNat,Qk _ _⟩
   rw[len_rep,PK,<-hl1];exact h.2.2.2
  ·exact hp.elim
 ·exact Ee pins s σ H O _ _ vx vy ux uy Q I hf rx ry r1 r2 hp
end
def BW (outer:List (Str×LK))(N:List Str)(names:List (Str×LK))(N':List Str)(src:List (Option Nat)):Bool:=
 names.all (λy=>y.2 != .cell||names.lookup y.1 == some .cell)&&names.all (λy=>y.2 != .local||names.lookup y.1 == some .local)&&src.length == N'.length&&
 (JA N'.length).all (λj=>match src[j]? with
  | some (some i)=>match N'[j]? with
   | some x=>N[i]? == some x&&names.lookup x == some .free
   | none=>true
  | _=>true)&&
 names.all (λy=>y.2 != .free||(outer.lookup y.1 == some .cell||outer.lookup y.1 == some .free))
theorem LcScope.by {X:Cx}{scope:L1}{N N':List Str}{src:List (Option Nat)}{names:List (Str×LK)}(hN:X.N=N)(hs:X.env.scope.names=names)(hk:scope.kind= .function)(h:BW names N scope.names N' src=true):LcScope X scope N' src:=by
 unfold BW at h;simp only[IT]at h;obtain⟨⟨⟨⟨h1,h2⟩,h3⟩,h4⟩,h5⟩:=h
 have a1:=Jf.mp h1
 have a2:=Jf.mp h2
 have a4:=Jf.mp h4
 have a5:=Jf.mp h5;refine⟨hk,λy hy hl=>by have:=a1 y hy;rw[hl]at this;simpa using this,λy hy hl=> ?_,by simpa using h3,λj i x e1 e2=> ?_,λx hx=> ?_⟩
 ·have:=a2 y hy
  rw[hl]at this
  simpa using this
 ·have hj:j<N'.length:=(Jd.mp e2).1
  have:=a4 j (JJ.mpr hj);rw[e1]at this;simp only[e2]at this;rw[IT]at this;rw[hN];exact⟨by simpa using this.1,by simpa using this.2⟩
 ·have:=a5 _ hx
  simp only[bne_self_eq_false,NJ,Qo]at this
  show X.env.scope.names.lookup x=_\/X.env.scope.names.lookup x=_
  rw[hs];rcases this with z | z
  ·exact .inl (by simpa using z)
  ·exact .inr (by simpa using z)
def bz:Expr->Bool
 | .Starred .. =>false
 | _=>true
def bx:List Expr->Bool
 | [] =>true
 | e::r=>bz e&&bx r
theorem aW {e:Expr}{es:List Expr}{env:Env}(h:bz e=true):Jj (e::es) env=(false,eval e env)::Jj es env:=by
 cases e <;> first | rfl | cases h
theorem gA {pos:Pos}{env:Env}:∀{es:List Expr},bx es=true->(backTo pos (Jj es env)).any (·.1)=false
 | [],_=>rfl
 | e::r,h=>by
  unfold bx at h;rw[IT]at h;rw[aW h.1]
  have ih:=gA (pos:=pos) (env:=env) h.2
  show(false||(backTo pos (Jj r env)).any (·.1))=false
  rw[ih];rfl
section
variable {X:Cx}{a b e:Expr}{es:List Expr}{fa:En->Rs T}{fs:En->Rs (List T)}{pos p p2:Pos}{x:Str}
theorem qa_c {f:En->Rs T}{g:En->Rs (List T)}(he:cy X e f)(hr:qT X es g)(hn:bz e=true:=by rfl):qT X (e::es) (af f g):=Bo he hr (aW hn)
theorem q_cB {id:String}{g:List T->Rs T}(hc:CallT X (.builtin id) g)(hm:X.mg x=none)(hv:Jw x=some (.builtin id))(ha:qT X (e::es) fs)(hn:bx (e::es)=true:=by rfl)(hg:Gl X x:=by rfl)(h1:autoParam (x≠ "__name__") s_)(h2:autoParam ((x == ("__debug__" : Str))=false) s_) :
  cy X (.Call (.Name x p) (e::es) [] pos) (cl g fs):=by
 unfold bx at hn;rw[IT]at hn;exact Br hc hm hv ha hg h1 h2 (aW hn.1) (gA hn.2)
theorem q_cT {Ty:String}{g:List T->Rs T}(hc:CallT X (.type Ty) g)(hm:X.mg x=none)(hv:Jw x=some (.type Ty))(ha:qT X (e::es) fs)(hn:bx (e::es)=true:=by rfl)(hg:Gl X x:=by rfl)(h1:autoParam (x≠ "__name__") s_)(h2:autoParam ((x == ("__debug__" : Str))=false) s_) :
  cy X (.Call (.Name x p) (e::es) [] pos) (cl g fs):=by
 unfold bx at hn;rw[IT]at hn;exact yw hc hm hv ha hg h1 h2 (aW hn.1) (gA hn.2)
theorem q_c {n k:Nat}{f:Addr}{fd:KM}{ps:List Str}{g:List T->Rs T}(F:Fv X.prog X.w X.K X.mg X.base k f fd ps n g)(hr:Room k X.A)(hm:X.mg x=some (.ref f))(hk:Mx X.K (.ref f)=true)(hb:Binds X.K fd ps [])
  (hl:∀Z ts,fs Z= .ok ts->ts.length=n) (ha:qT X (e::es) fs) (hps:ps.length=n:=by rfl) (hn:bx (e::es)=true:=by rfl) (hg:Gl X x:=by rfl) (h2:autoParam ((x == ("__debug__" : Str))=false) s_):cy X (.Call (.Name x p) (e::es) [] pos) (cl g fs):=by
 unfold bx at hn;rw[IT]at hn;exact DT F hr hm hk hb hps hl ha hg h2 (aW hn.1) (gA hn.2)
theorem q_is {tn:Str}{Ty:String}(hm:X.mg "isinstance" =none)(hmt:X.mg tn=none)(hv:Jw tn=some (.type Ty))(ha:cy X a fa)(hn:bz a=true:=by rfl)(hg:Gl X "isinstance":=by rfl)(hgt:Gl X tn:=by rfl)
  (h1:autoParam (tn≠ "__name__") s_) (h2:autoParam ((tn == ("__debug__" : Str))=false) s_):cy X (.Call (.Name "isinstance" p) [a,.Name tn p2] [] pos) (o1 (zF Ty) fa):=
 Gg hm hmt hv ha hg hgt h1 h2 (aW hn) (gA rfl) (aW rfl)
end
theorem Hj (Z:En)(ts:List T)(h:ai Z= .ok ts):ts.length=0:=by cases h;rfl
theorem Hi {n:Nat}{f:En->Rs T}{g:En->Rs (List T)}(hg:∀Z ts,g Z= .ok ts->ts.length=n)(Z:En)(ts:List T)(h:af f g Z= .ok ts):ts.length=n+1:=by
 unfold af at h
 cases q:f Z with
 | bad=>rw[q]at h;cases h
 | err c=>rw[q]at h;cases h
 | ok t=>
  rw[q,aG]at h
  cases q2:g Z with
  | bad=>rw[q2]at h;cases h
  | err c=>rw[q2]at h;cases h
  | ok r=>
   rw[q2,aG]at h;cases h;rw[IV,hg Z r q2]
theorem ji {k:Nat}{A:JO}(h:Room k A):A.units+60<cLine:=by have:=h.un;omega
theorem GX {k:Nat}{A:JO}(h:Room k A):A.units+61<cLine:=by have:=h.un;omega
structure Fn (K:II)(mg:Str->Option IQ)(x:Str)(st:Stmt)(ps:List Str)(f:Addr)(fd:KM):Prop where
 fn:L2.Fun K x x st f fd
 bd:Binds K fd ps []
 mg:mg x=some (.ref f)
def val (n m:Nat)(F:En->Rs Fl)(ts:List T):Rs T:=if ts.length=n then d7 F (bD m ts)else .bad
theorem C8 {n m:Nat}{F:En->Rs Fl}{ts:List T}{t:T}(h:val n m F ts= .ok t):d7 F (bD m ts)= .ok t:=by
 unfold val at h
 split at h
 ·exact h
 ·cases h
theorem sp_script {K:II}{H:Hp}{a:Addr}{ns:List Int}{g:List T->Rs T}{E:XK}(hS:SqL K H a (ns.map V.int))(h:g [.scr ns] = .ok (.bl true)):spP K 1 g [.ref a] H (λv _=>v= .bl true) E:=by
 refine⟨[.scr ns],λ_=>False,Reps.FS ?_ Reps.nil_,λ_ z=>z.elim,rfl,?_⟩
 ·unfold Rep;exact⟨a,rfl,λz=>z,hS⟩
 ·rw[h];exact λv H' _ r=>Rep.FB.mp r
theorem rM {α:Type}{l:List α}{i:Nat}{z:α}(h:l[i]? =some z):l.set i z=l:=by
 obtain⟨hi,rfl⟩:=Jd.mp h
 exact Of hi
theorem Mn.HV {M:Mn}{i:Nat}{m:Ow}{a:Addr}(h:(M.set i m).u a):m a\/M.u a:=by
 obtain⟨j,h⟩:=h;unfold Mn.set at h
 by_cases z:j=i
 ·rw[if_pos z]at h;exact .inl h
 ·rw[if_neg z]at h;exact .inr ⟨j,h⟩
theorem Mn.Im {M:Mn}{i:Nat}{m:Ow}:M.set i m i=m:=by unfold Mn.set;rw[if_pos rfl]
theorem Mn.HX {M:Mn}{i j:Nat}{m:Ow}(h:j≠i):M.set i m j=M j:=by unfold Mn.set;rw[if_neg h]
theorem RowsR.move {K:II}{O O' P:Ow}{H H':Hp}(hP:∀a,P a->O a\/Nw K H a)(hO:∀a,O' a->O a\/Nw K H a)(h:SameO P H H'):∀{rs:List (List T×List T)} {as:List Addr},(∀b∈as,¬P b)->RowsR K O H rs as->RowsR K O' H' rs as
 | [],_,_,r=>r
 | _::_,_,hb,⟨b,bs,kvs,e1,e2,e3,e4,e5⟩=>by
  subst e1;exact⟨b,bs,kvs,rfl,h _ _ e2 (hb b IL),e3,e4.move hP hO h,e5.move hP hO h λc hc=>hb c (IJ _ hc)⟩
theorem LsR.move {K:II}{O O' P:Ow}{H H':Hp}(hP:∀a,P a->O a\/Nw K H a)(hO:∀a,O' a->O a\/Nw K H a)(h:SameO P H H'):∀{rs:List (List T)} {as:List Addr},(∀b∈as,¬P b)->LsR K O H rs as->LsR K O' H' rs as
 | [],_,_,r=>r
 | _::_,_,hb,⟨b,bs,vs,e1,e2,e4,e5⟩=>by
  subst e1;exact⟨b,bs,vs,rfl,h _ _ e2 (hb b IL),e4.move hP hO h,e5.move hP hO h λc hc=>hb c (IJ _ hc)⟩
theorem ORep.move {K:II}{O O' P M:Ow}{H H':Hp}{o:OT}{v:V}(hP:∀a,P a->O a\/Nw K H a)(hO:∀a,O' a->O a\/Nw K H a)(h:SameO P H H')(hM:∀a,M a->¬ P a)(r:ORep K O M H o v):ORep K O' M H' o v:=by
 cases o with
 | lst l=>obtain⟨a,vs,e1,e2,e3,e4⟩:=r;exact⟨a,vs,e1,e2,h _ _ e3 (hM a ((e2 a).mpr rfl)),e4.move hP hO h⟩
 | dct ks ts=>obtain⟨a,kvs,e1,e2,e3,e4,e5⟩:=r;exact⟨a,kvs,e1,e2,h _ _ e3 (hM a ((e2 a).mpr rfl)),e4,e5.move hP hO h⟩
 | dd ks rows=>
  obtain⟨a,kvs,as,e1,e2,e3,e4,e5,e6,e7,e8⟩:=r
  exact⟨a,kvs,as,e1,e2,e3,e4,h _ _ e5 (hM a ((e2 a).mpr (.inl rfl))),e6,e7,e8.move hP hO h λb hb=>hM b ((e2 b).mpr (.inr hb))⟩
 | ob C ns ls=>
  obtain⟨a,dx,as,e1,e2,e3,e4,e5,e6,e7,e8⟩:=r;exact⟨a,dx,as,e1,e2,e3,h _ _ e4 (hM a ((e2 a).mpr (.inl rfl))),h _ _ e5 (hM dx ((e2 dx).mpr (.inr (.inl rfl)))),e6,e7,e8.move hP hO h λb hb=>hM b ((e2 b).mpr (.inr (.inr hb)))⟩
theorem RowsR.mtb {K:II}{O:Ow}{H:Hp}:∀{rs:List (List T×List T)} {as:List Addr},RowsR K O H rs as->∀b∈as,∃kvs,H b=some (.dT kvs)
 | [],_,r,b,hb=>by unfold RowsR at r;subst r;simp at hb
 | _::_,_,⟨b0,bs,kvs,e1,e2,e3,e4,e5⟩,b,hb=>by
  subst e1;rcases IW.mp hb with rfl | hb
  ·exact⟨kvs,e2⟩
  ·exact e5.mtb b hb
theorem LsR.mtb {K:II}{O:Ow}{H:Hp}:∀{rs:List (List T)} {as:List Addr},LsR K O H rs as->∀b∈as,∃vs,H b=some (.lst vs)
 | [],_,r,b,hb=>by unfold LsR at r;subst r;simp at hb
 | _::_,_,⟨b0,bs,kvs,e1,e2,e4,e5⟩,b,hb=>by
  subst e1;rcases IW.mp hb with rfl | hb
  ·exact⟨kvs,e2⟩
  ·exact e5.mtb b hb
def LO (H:Hp)(a:Addr):Prop:=(∃vs,H a=some (.lst vs))\/∃o,H a=some o/\isO o=true
def OT.isD:OT->Bool
 | .lst _=>false
 | .ob _ _ _=>false
 | _=>true
theorem ORep.kind {K:II}{O M:Ow}{H:Hp}{o:OT}{v:V}(r:ORep K O M H o v):∀a,M a->if o.isD then ∃kvs,H a=some (.dT kvs)else LO H a:=λa z=>by
 cases o with
 | lst l=>obtain⟨b,vs,e1,e2,e3,e4⟩:=r;cases (e2 a).mp z;exact .inl ⟨vs,e3⟩
 | dct ks ts=>obtain⟨b,kvs,e1,e2,e3,e4,e5⟩:=r;cases (e2 a).mp z;exact⟨kvs,e3⟩
 | dd ks rows=>
  obtain⟨b,kvs,as,e1,e2,e3,e4,e5,e6,e7,e8⟩:=r
  rcases(e2 a).mp z with z | z
  ·cases z;exact⟨kvs,e5⟩
  ·exact e8.mtb a z
 | ob C ns ls=>
  obtain⟨b,dx,as,e1,e2,e3,e4,e5,e6,e7,e8⟩:=r
  rcases(e2 a).mp z with z | z | z
  ·cases z;exact .inr ⟨_,e4,rfl⟩
  ·cases z;exact .inr ⟨_,e5,rfl⟩
  ·exact .inl (e8.mtb a z)
theorem ORep.mtb {K:II}{O M:Ow}{H:Hp}{o:OT}{v:V}(r:ORep K O M H o v)(a:Addr)(z:M a):Mtb H a:=by
 have:=r.kind a z
 split at this
 ·exact .inr (.inl this)
 ·exact this.imp_right .inr
theorem rP {K:II}{O:Ow}{H:Hp}:∀{rs:List (List T×List T)} {as:List Addr},(∀b∈as,¬O b)->RowsR K O H rs as->Reps K O H (rs.map λr=>T.dct r.1 r.2) (as.map V.ref)
 | [],_,_,r=>by unfold RowsR at r;subst r;exact Reps.nil_
 | _::_,_,hn,⟨b,bs,kvs,e1,e2,e3,e4,e5⟩=>by
  subst e1;exact Reps.FS (Rep.GE.mpr ⟨b,kvs,rfl,hn b IL,.inl e2,e3,e4⟩) (rP (λc hc=>hn c (IJ _ hc)) e5)
theorem RowsR.less {K:II}{O O':Ow}{H:Hp}(sub:∀a,O' a->O a):∀{rs:List (List T×List T)} {as:List Addr},RowsR K O H rs as->RowsR K O' H rs as
 | [],_,r=>r
 | _::_,_,⟨b,bs,kvs,e1,e2,e3,e4,e5⟩=>⟨b,bs,kvs,e1,e2,e3,e4.less sub,e5.less sub⟩
theorem LsR.less {K:II}{O O':Ow}{H:Hp}(sub:∀a,O' a->O a):∀{rs:List (List T)} {as:List Addr},LsR K O H rs as->LsR K O' H rs as
 | [],_,r=>r
 | _::_,_,⟨b,bs,kvs,e1,e2,e4,e5⟩=>⟨b,bs,kvs,e1,e2,e4.less sub,e5.less sub⟩
theorem LsR.rep {K:II}{O:Ow}{H:Hp}:∀{rs:List (List T)} {as:List Addr},(∀b∈as,¬O b)->LsR K O H rs as->Reps K O H (rs.map T.lst) (as.map V.ref)
 | [],_,_,r=>by unfold LsR at r;subst r;exact Reps.nil_
 | _::_,_,hn,⟨b,bs,kvs,e1,e2,e4,e5⟩=>by
  subst e1;exact Reps.FS (Rep.Do.mpr ⟨b,kvs,rfl,hn b IL,e2,e4⟩) (LsR.rep (λc hc=>hn c (IJ _ hc)) e5)
theorem vc {α β:Type}:∀{l:List α} {m:List β},l.length=m.length->(l.zip m).map (·.1)=l
 | [],[],_=>rfl
 | a::l,b::m,h=>by
  have h':l.length=m.length:=by simpa using h
  show a::(l.zip m).map (·.1)=_
  rw[vc h']
theorem u9 {α β:Type}:∀{l:List α} {m:List β},l.length=m.length->(l.zip m).map (·.2)=m
 | [],[],_=>rfl
 | a::l,b::m,h=>by
  have h':l.length=m.length:=by simpa using h
  show b::(l.zip m).map (·.2)=_
  rw[u9 h']
theorem ORep.rep {K:II}{O O' M:Ow}{H:Hp}{o:OT}{v:V}(sub:∀a,O' a->O a)(hn:∀a,M a->¬ O' a)(r:ORep K O M H o v):Rep K O' H o.view v:=by
 cases o with
 | lst l=>obtain⟨a,vs,e1,e2,e3,e4⟩:=r;exact Rep.Do.mpr ⟨a,vs,e1,hn a ((e2 a).mpr rfl),e3,e4.less sub⟩
 | dct ks ts=>obtain⟨a,kvs,e1,e2,e3,e4,e5⟩:=r;exact Rep.GE.mpr ⟨a,kvs,e1,hn a ((e2 a).mpr rfl),.inl e3,e4,e5.less sub⟩
 | dd ks rows=>
  obtain⟨a,kvs,as,e1,e2,e3,e4,e5,e6,e7,e8⟩:=r;refine Rep.GE.mpr ⟨a,kvs,e1,hn a ((e2 a).mpr (.inl rfl)),.inl e5,e6,?_⟩
  rw[e7]
  exact rP (λb hb=>hn b ((e2 b).mpr (.inr hb))) (e8.less sub)
 | ob C ns ls=>
  obtain⟨a,dx,as,e1,e2,e3,e4,e5,e6,e7,e8⟩:=r
  have hl:ns.length=(as.map V.ref).length:=by rw[IP];exact e6
  refine Rep.Ia.mpr ⟨a,dx,_,e1,hn a ((e2 a).mpr (.inl rfl)),e4,vc hl,?_⟩
  rw[u9 hl];exact(e8.less sub).rep λb hb=>hn b ((e2 b).mpr (.inr (.inr hb)))
section
variable {K:II}{B:Ow}{M:Mn}{H H':Hp}{Z:En}{σ:L2.St}{i:Nat}{o o':OT}{v:V}{m:Ow}
theorem Ev.new (E:Ev K B M H Z σ)(hl:i<Z.length)(hm:∀a,m a->Nw K H a)(s:Same H H')(r:ORep K (OO B (M.set i m)) m H' o v) :
  Ev K B (M.set i m) H' (Z.set i (.ow o)) (σ.set i (some v))/\∀a,(M.set i m).u a->M.u a\/Nw K H a:=by
 have hls:i<σ.length:=by rw[<-E.env.len];exact hl
 have sub:∀a,(M.set i m).u a->M.u a\/Nw K H a:=λa z=>(Mn.HV z).elim (λw=> .inr (hm a w)) .inl
 have subO:∀a,OO B (M.set i m) a->OO B M a\/Nw K H a:=λa z=>z.elim (λw=> .inl (.inl w)) λw=>(sub a w).elim (λy=> .inl (.inr y)) .inr
 have dS:∀a,Nw K H a->¬ OO B M a:=λa w z=>by
  obtain⟨o,e⟩:=(E.env.trk a z).some;rw[w.1]at e;cases e
 refine⟨⟨⟨by rw[J9,J9];exact E.env.len,λj t e=> ?_,λj o' e=> ?_,λj a z=> .inr ⟨j,z⟩,λj k a z1 z2=> ?_,λa z=> ?_⟩,λa z=> ?_⟩,sub⟩
 ·by_cases hj:i=j
  ·subst hj;rw[Jl hl]at e;cases e
  ·rw[Js hj]at e
   obtain⟨w,e1,e2⟩:=E.env.val j t e;exact⟨w,by rw[Js hj];exact e1,(e2.more subO).same s⟩
 ·by_cases hj:i=j
  ·subst hj
   rw[Jl hl]at e
   cases e;exact⟨v,Jl hls,by rw[Mn.Im];exact r⟩
  ·rw[Js hj]at e
   obtain⟨w,e1,e2⟩:=E.env.own j o' e;refine⟨w,by rw[Js hj];exact e1,?_⟩
   rw[Mn.HX (λz=>hj z.symm)]
   exact(e2.move (P:=uD) (λ_ z=>z.elim) subO (λb u q _=>q) λ_ _ z=>z).same s
 ·unfold Mn.set at z1 z2
  by_cases hj:j=i
  ·by_cases hk:k=i
   ·exact hj.trans hk.symm
   ·rw[if_pos hj]at z1;rw[if_neg hk]at z2
    exact(dS a (hm a z1) (.inr ⟨k,z2⟩)).elim
  ·by_cases hk:k=i
   ·rw[if_neg hj]at z1;rw[if_pos hk]at z2
    exact(dS a (hm a z2) (.inr ⟨j,z1⟩)).elim
   ·rw[if_neg hj]at z1;rw[if_neg hk]at z2
    exact E.env.dis j k a z1 z2
 ·rcases z with z | z
  ·exact(E.env.trk a (.inl z)).same s
  ·rcases Mn.HV z with w | w
   ·exact r.mtb a w
   ·exact(E.env.trk a (.inr w)).same s
 ·intro hb
  rcases Mn.HV z with w | w
  ·exact dS a (hm a w) (.inl hb)
  ·exact E.mine a w hb
theorem Ev.put (E:Ev K B M H Z σ)(hi:Z[i]? =some (.ow o))(hs:σ[i]? =some (some v))(s:SameO (M i) H H')(r:ORep K (OO B M) (M i) H' o' v):Ev K B M H' (Z.set i (.ow o')) σ/\SameO M.u H H':=by
 have hl:i<Z.length:=(Jd.mp hi).1
 have inO:∀a,M i a->OO B M a\/Nw K H a:=λa z=> .inl (.inr ⟨i,z⟩)
 have idO:∀a,OO B M a->OO B M a\/Nw K H a:=λa z=> .inl z
 refine⟨⟨⟨by rw[J9];exact E.env.len,λj t e=> ?_,λj o2 e=> ?_,E.env.sub,E.env.dis,λa z=> ?_⟩,E.mine⟩,λb u e n=>s b u e λz=>n ⟨i,z⟩⟩
 ·by_cases hj:i=j
  ·subst hj;rw[Jl hl]at e;cases e
  ·rw[Js hj]at e
   obtain⟨w,e1,e2⟩:=E.env.val j t e;exact⟨w,e1,e2.move inO idO s⟩
 ·by_cases hj:i=j
  ·subst hj
   rw[Jl hl]at e
   cases e;exact⟨v,hs,r⟩
  ·rw[Js hj]at e
   obtain⟨w,e1,e2⟩:=E.env.own j o2 e;exact⟨w,e1,e2.move inO idO s λa z y=>hj (E.env.dis i j a y z)⟩
 ·by_cases hz:M i a
  ·exact r.mtb a hz
  ·exact(E.env.trk a z).at λo e=>s _ _ e hz
def disown (i:Nat)(Z:En):En:=match Z[i]? with
 | some (.ow o)=>Z.set i (.va o.view)
 | _=>Z
theorem EnvM.disown {O O':Ow}{Z:En}(E:EnvM K O M H Z σ)(i:Nat)(sub:∀a,O' a->O a)(hn:∀a,M i a->¬ O' a)(hin:∀j a,j≠i->M j a->O' a):EnvM K O' (M.set i uD) H (disown i Z) σ:=by
 have base:EnvM K O' (M.set i uD) H (Z.set i (match Z[i]? with | some (.ow o)=> .va o.view | some x=>x | none=> .em)) σ:=by
  refine⟨by rw[J9];exact E.len,λj t e=> ?_,λj o e=> ?_,λj a z=> ?_,λj k a z1 z2=> ?_,λa z=>E.trk a (sub a z)⟩
  ·by_cases hj:i=j
   ·subst hj
    by_cases hl:i<Z.length
    ·rw[Jl hl]at e
     cases q:Z[i]? with
     | none=>rw[q]at e;cases e
     | some z=>
      rw[q]at e
      cases z with
      | em=>cases e
      | va t'=>cases e;obtain⟨w,e1,e2⟩:=E.val i _ q;exact⟨w,e1,e2.less sub⟩
      | ow o=>cases e;obtain⟨w,e1,e2⟩:=E.own i _ q;exact⟨w,e1,e2.rep sub hn⟩
    ·rw[LA (by rw[J9];omega)]at e;cases e
   ·rw[Js hj]at e
    obtain⟨w,e1,e2⟩:=E.val j t e;exact⟨w,e1,e2.less sub⟩
  ·by_cases hj:i=j
   ·subst hj
    by_cases hl:i<Z.length
    ·rw[Jl hl]at e
     cases q:Z[i]? with
     | none=>rw[q]at e;cases e
     | some z=>
      rw[q]at e
      cases z with
      | em=>cases e
      | va t'=>cases e
      | ow o=>cases e
    ·rw[LA (by rw[J9];omega)]at e;cases e
   ·rw[Js hj]at e
    obtain⟨w,e1,e2⟩:=E.own j o e;refine⟨w,e1,?_⟩
    rw[Mn.HX (λz=>hj z.symm)]
    exact e2.move (P:=uD) (λ_ z=>z.elim) (λa z=> .inl (sub a z)) (λb u q _=>q) λ_ _ z=>z
  ·unfold Mn.set at z
   by_cases hj:j=i
   ·rw[if_pos hj]at z;exact z.elim
   ·rw[if_neg hj]at z;exact hin j a hj z
  ·unfold Mn.set at z1 z2
   by_cases hj:j=i
   ·rw[if_pos hj]at z1;exact z1.elim
   ·by_cases hk:k=i
    ·rw[if_pos hk]at z2;exact z2.elim
    ·rw[if_neg hj]at z1;rw[if_neg hk]at z2;exact E.dis j k a z1 z2
 unfold Tr.disown
 cases q:Z[i]? with
 | none=>rw[q,List.set_eq_of_length_le (List.getElem?_eq_none_iff.mp q)]at base;exact base
 | some z=>
  rw[q]at base
  cases z with
  | em=>rw[rM q]at base;exact base
  | va t=>rw[rM q]at base;exact base
  | ow o=>exact base
theorem Ev.disown (E:Ev K B M H Z σ)(i:Nat):Ev K B (M.set i uD) H (disown i Z) σ/\∀a,(M.set i uD).u a->M.u a:=by
 have sub:∀a,(M.set i uD).u a->M.u a:=λa z=>(Mn.HV z).elim (λw=>w.elim) id
 refine⟨⟨E.env.disown i (λa z=>z.elim .inl λw=> .inr (sub a w)) (λa z y=> ?_) λj a hj z=> .inr ⟨j,by rw[Mn.HX hj];exact z⟩,λa z=>E.mine a (sub a z)⟩,sub⟩
 rcases y with y | ⟨j,y⟩
 ·exact E.mine a ⟨i,z⟩ y
 ·unfold Mn.set at y
  by_cases hj:j=i
  ·rw[if_pos hj]at y;exact y
  ·rw[if_neg hj]at y;exact hj (E.env.dis j i a y z)
end
section
variable {X:Cx}{a:Expr}{es:List Expr}{fa:En->Rs T}{pos p2 p3:Pos}{x:Str}
theorem Ev.subO {K:II}{B:Ow}{M:Mn}{H:Hp}{i:Nat}{m:Ow}(hm:∀a,m a->Nw K H a)(a:Addr)(z:OO B (M.set i m) a):OO B M a\/Nw K H a:=
 z.elim (λw=> .inl (.inl w)) λw=>(Mn.HV w).elim (λy=> .inr (hm a y)) λy=> .inl (.inr y)
theorem jZ {K:II}{H H1:Hp}(s:Same H H1){a:Addr}(n:Nw K H1 a):Nw K H a:=(gM (SameO.of (P:=uD) s) n).elim (λz=>z.elim) id
def FN (X:Cx)(t:TA):TE:=λσ H Q=>t σ H λxs H1=>xs.length<=sizeLine/\∀p,Nw X.K H1 p->Q (.ref p) (upd H1 p (.lst xs))
theorem BE {t:TA}(h:PA X es t):PE X (.List es pos) (FN X t):=by
 intro pins s σ H Q I hq;refine Pa (cq (h pos pins s σ H _ I hq) λus s1 ⟨xs,H1,I1,r,z,q⟩=>⟨by rw[<-r.length];exact z,?_⟩)
 have hf:H1 s1.heap.objs.size=none:=I1.hok.fresh (Jc _)
 have hk:X.K.lookup s1.heap.objs.size=none:=by
  cases q:X.K.lookup s1.heap.objs.size with
  | none=>rfl
  | some o=>exact absurd (Ja (I1.kIn _ o q)) (Ju _)
 refine⟨.ref s1.heap.objs.size,upd H1 s1.heap.objs.size (.lst xs),I1.laid (t':=s1.toks) (λb u e=>IK _ e) (Jc _) ?_,rfl,q _ ⟨hf,hk⟩⟩
 exact⟨z,us,0,r,IZ _ rfl⟩
def jq (i:Nat)(f:En->Rs (List T))(Z:En):Rs Fl:=do
 let l <-f Z
 if i<Z.length/\l.length<=sizeLine then .ok (.nx (Z.set i (.ow (.lst l))))else .bad
theorem Bb (i:Nat){f:En->Rs (List T)}(hN:X.N.Nodup)(ha:qT X es f)(hi:X.N[i]? =some x:=by rfl)(hx:autoParam (Loc X.env.scope x) x_)(hs:J0 (.List es p2) (some (.Name x p3)) pos.line X.env=pure false:=by rfl)
  (hf:autoParam (X.fn x=true\/X.env.scope.names.lookup x=some .local) r_):ny X (.Assign [.Name x p3] (.List es p2) pos) (jq i f):=PS.imp (pR hN hi hx (BE ha) hs hf) λD σ H hh_=>by
 obtain⟨Z,B,M,E,h⟩:=hh_;refine⟨Z,OO B M,E.o,?_⟩
 unfold jq at h
 cases q:f Z with
 | bad=>rw[q]at h;exact h.elim
 | err c=>rw[q]at h;exact PostF.xa h
 | ok l=>
  rw[q,aG]at h;intro H1 s1 vs rs
  by_cases hl:i<Z.length/\l.length<=sizeLine
  ·rw[if_pos hl]at h
   refine⟨by rw[<-rs.length];exact hl.2,λp hp=> ?_⟩
   have hm:∀a,a=p->Nw X.K H1 a:=λa z=>z▸hp
   obtain⟨E2,sub⟩:=(E.same s1).new (m:=λa=>a=p) (o:=.lst l) (v:=.ref p) (H':=upd H1 p (.lst vs)) hl.1 hm (aS hp.1 _) ⟨p,vs,rfl,λb=>Mt,aH,(rs.more (Ev.subO hm)).same (aS hp.1 _)⟩
   exact h _ _ _ (SameO.of (s1.trans (aS hp.1 _))) E2 λa z=>(sub a z).imp_right (jZ s1)
  ·rw[if_neg hl]at h
   exact h.elim
def nN (i:Nat)(f:En->Rs T)(Z:En):Rs Fl:=match Z[i]? with
 | some (.ow (.lst l))=>f Z >>= λt=>if l.length<sizeLine then .ok (.nx (Z.set i (.ow (.lst (l++ [t])))))else .bad
 | _=> .bad
theorem Ev.putL {K:II}{B:Ow}{M:Mn}{H:Hp}{Z:En}{σ:L2.St}{i:Nat}{o:OT}{l':List T}{b:Addr}{vs':List V}(E:Ev K B M H Z σ)(hi:Z[i]? =some (.ow o))(hs:σ[i]? =some (some (.ref b)))(hM:∀c,M i c↔c=b)(r:Reps K (OO B M) H l' vs') :
  Ev K B M (upd H b (.lst vs')) (Z.set i (.ow (.lst l'))) σ/\SameO M.u H (upd H b (.lst vs')):=by
 have sm:SameO (M i) H (upd H b (.lst vs')):=λc u e nb=>by rw[aF (λz=>nb ((hM c).mpr z))];exact e
 exact E.put hi hs sm ⟨b,vs',rfl,hM,aH,r.move (P:=M i) (λa z=> .inl (.inr ⟨i,z⟩)) (λa z=> .inl z) sm⟩
theorem DJ (i:Nat){apos cpos:Pos}(ha:cy X a fa)(hN:X.N[i]? =some x:=by rfl)(hv:autoParam (tW X.env.scope x) u_)(hn:bz a=true:=by rfl)
  (hbase:KG (.Name x p2) "append" X.env (eval (.Name x p2) X.env)=eval (.Name x p2) X.env:=by rfl) (hline:(apos.endLine == cpos.line)=true:=by rfl)
  (hd:autoParam ((x == ("__debug__" : Str))=false) s_) (hcd:autoParam ((x == ("__classdict__" : Str))=false) s_)
  (hsw:J0 (.Call (.Attribute (.Name x p2) "append" apos) [a] [] cpos) none pos.line X.env=pure false:=by rfl):ny X (.Expr (.Call (.Attribute (.Name x p2) "append" apos) [a] [] cpos) pos) (nN i fa):=by
 have h1:Jj [a] X.env=(false,eval a X.env)::Jj [] X.env:=aW hn;refine PS.imp (pT (CL Me PySem.F.slot_list_append PySem.F.type_list_append oA (jC hN hv hd hcd) (dX ha iz h1) hbase ?_ hline h1 rfl) hsw) λD σ H ⟨Z,B,M,E,h⟩=> ?_
 ·rw[h1];rfl
 unfold nN at h
 split at h
 ·rename_i l hl
  obtain⟨v0,e1,b,vs,rfl,hM,e3,e4⟩:=E.env.own i _ hl;refine⟨.ref b,e1,.inl ⟨rfl,vs,SqL.of e3⟩,Z,OO B M,E.o,?_⟩
  cases q:fa Z with
  | bad=>rw[q]at h;exact h.elim
  | err c=>rw[q]at h;exact PostF.xa h
  | ok t=>
   rw[q,aG]at h
   split at h
   ·rename_i hz
    intro H1 s1 v r
    have e3':=s1 _ _ e3;refine⟨b,vs,v,rfl,rfl,e3',by rw[<-e4.length];exact hz,?_⟩
    obtain⟨g1,g2⟩:=(E.same s1).putL (l':=l++ [t]) (vs':=vs++ [v]) hl e1 hM ((e4.same s1).append (Reps.FS r Reps.nil_));exact h σ _ M (λc o e nb=>g2 c o (s1 _ _ e) nb) g1 λc z=> .inl z
   ·exact h.elim
 ·exact h.elim
def E7 (i:Nat)(l:List T)(Z:En):T->Rs Fl
 | .lst m=>if l.length+m.length<=sizeLine then .ok (.nx (Z.set i (.ow (.lst (l++m)))))else .bad
 | _=> .bad
def md (i:Nat)(f:En->Rs T)(Z:En):Rs Fl:=match Z[i]? with
 | some (.ow (.lst l))=>f Z >>= E7 i l Z
 | _=> .bad
theorem DG (i:Nat){apos cpos:Pos}(ha:cy X a fa)(hN:X.N[i]? =some x:=by rfl)(hv:autoParam (tW X.env.scope x) u_)(hn:bz a=true:=by rfl)
  (hbase:KG (.Name x p2) "extend" X.env (eval (.Name x p2) X.env)=eval (.Name x p2) X.env:=by rfl) (hline:(apos.endLine == cpos.line)=true:=by rfl)
  (hd:autoParam ((x == ("__debug__" : Str))=false) s_) (hcd:autoParam ((x == ("__classdict__" : Str))=false) s_)
  (hsw:J0 (.Call (.Attribute (.Name x p2) "extend" apos) [a] [] cpos) none pos.line X.env=pure false:=by rfl):ny X (.Expr (.Call (.Attribute (.Name x p2) "extend" apos) [a] [] cpos) pos) (md i fa):=by
 have h1:Jj [a] X.env=(false,eval a X.env)::Jj [] X.env:=aW hn;refine PS.imp (pT (CL Me PySem.F.slot_list_extend PySem.F.type_list_extend wW (jC hN hv hd hcd) (dX ha iz h1) hbase ?_ hline h1 rfl) hsw) λD σ H ⟨Z,B,M,E,h⟩=> ?_
 ·rw[h1];rfl
 unfold md at h
 split at h
 ·rename_i l hl
  obtain⟨v0,e1,b,vs,rfl,hM,e3,e4⟩:=E.env.own i _ hl;refine⟨.ref b,e1,.inl ⟨rfl,vs,SqL.of e3⟩,Z,OO B M,E.o,?_⟩
  cases q:fa Z with
  | bad=>rw[q]at h;exact h.elim
  | err c=>rw[q]at h;exact PostF.xa h
  | ok t=>
   rw[q,aG]at h;unfold E7 at h
   split at h
   ·rename_i m
    split at h
    ·rename_i hz
     intro H1 s1 v r;obtain⟨c,ws,rfl,nO,hc,rm⟩:=Rep.Do.mp r
     have e3':=s1 _ _ e3;refine⟨b,c,vs,ws,rfl,rfl,e3',hc,by rw[<-e4.length,<-rm.length];exact hz,?_⟩
     obtain⟨g1,g2⟩:=(E.same s1).putL (l':=l++m) (vs':=vs++ws) hl e1 hM ((e4.same s1).append rm);exact h σ _ M (λc o e nb=>g2 c o (s1 _ _ e) nb) g1 λc z=> .inl z
    ·exact h.elim
   ·exact h.elim
 ·exact h.elim
def mf (i:Nat)(F:En->Rs Fl)(Z:En):Rs Fl:=F (disown i Z)
theorem DH (i:Nat){st:Stmt}{F:En->Rs Fl}(h:ny X st F):ny X st (mf i F):=PS.imp h λD σ H hh_=>by
 obtain⟨Z,B,M,E,q⟩:=hh_;obtain⟨E',sub⟩:=E.disown i;exact⟨disown i Z,B,_,E',PostF.later q (λ_ _ e _=>e) λa z=> .inl (sub a z)⟩
mutual
def T.nk (D:Bool):T->Bool
 | .scr _=>false
 | .dct _ ts=> !D&&nks D ts
 | .ob _ _ _=>false
 | .lst l=>D&&nks D l
 | .tup l=>nks D l
 | _=>true
def nks (D:Bool):List T->Bool
 | [] =>true
 | t::l=>t.nk D&&nks D l
end
mutual
theorem Rep.lend {K:II}{O O':Ow}{H:Hp}{D:Bool}(hk:∀a,O a->O' a\/if D then ∃kvs,Rd H a (.dT kvs)else LO H a):∀{t:T} {v:V},t.nk D=true->Rep K O' H t v->Rep K O H t v
 | .non,_,_,r=>by unfold Rep at r ⊢;exact r
 | .bl _,_,_,r=>by unfold Rep at r ⊢;exact r
 | .int _,_,_,r=>by unfold Rep at r ⊢;exact r
 | .str _,_,_,r=>by unfold Rep at r ⊢;exact r
 | .tup l,_,h,r=>by
  unfold Rep at r ⊢;unfold T.nk at h;obtain⟨a,vs,e,n,q,z⟩:=r;refine⟨a,vs,e,λp=>(hk a p).elim n λw=> ?_,q,Reps.lend hk h z⟩
  split at w
  ·obtain⟨_,w | ⟨_,w⟩⟩:=w <;> rw[q]at w <;> cases w
  ·rcases w with⟨_,w⟩ | ⟨_,w,y⟩ <;> rw[q]at w <;> cases w <;> cases y
 | .lst l,_,h,r=>by
  unfold Rep at r ⊢;unfold T.nk at h;rw[IT]at h;obtain⟨h1,h2⟩:=h;subst h1;obtain⟨a,vs,e,n,q,z⟩:=r;refine⟨a,vs,e,λp=>(hk a p).elim n λw=> ?_,q,Reps.lend hk h2 z⟩
  rw[if_pos rfl]at w;obtain⟨_,w | ⟨_,w⟩⟩:=w <;> rw[q]at w <;> cases w
 | .scr l,_,h,r=>by unfold T.nk at h;cases h
 | .dct ks ts,_,h,r=>by
  unfold Rep at r ⊢;unfold T.nk at h;rw[IT]at h;obtain⟨h1,h2⟩:=h
  cases D with
  | true=>cases h1
  | false=>
   obtain⟨a,kvs,e,n,q,k,z⟩:=r;refine⟨a,kvs,e,λp=>(hk a p).elim n λw=> ?_,q,k,Reps.lend hk h2 z⟩
   rw[if_neg Jo]at w;rcases w with⟨_,w⟩ | ⟨_,w,y⟩ <;> rcases q with q | ⟨_,q⟩ <;> rw[q]at w <;> cases w <;> cases y
 | .ob _ _ _,_,h,r=>by unfold T.nk at h;cases h
theorem Reps.lend {K:II}{O O':Ow}{H:Hp}{D:Bool}(hk:∀a,O a->O' a\/if D then ∃kvs,Rd H a (.dT kvs)else LO H a):∀{l:List T} {vs:List V},nks D l=true->Reps K O' H l vs->Reps K O H l vs
 | [],_,_,r=>by unfold Reps at r ⊢;exact r
 | t::l,_,h,r=>by
  unfold Reps at r ⊢;unfold nks at h;rw[IT]at h;obtain⟨v,ws,e,p,q⟩:=r;exact⟨v,ws,e,Rep.lend hk h.1 p,Reps.lend hk h.2 q⟩
end
def ln (i:Nat)(f:En->Rs T)(Z:En):Rs T:=match Z[i]? with
 | some (.ow o)=>f (disown i Z) >>= λt=>if t.nk o.isD=true then .ok t else .bad
 | _=>f Z
def Ey (i:Nat)(f:En->Rs Bool)(Z:En):Rs Bool:=f (disown i Z)
theorem o8 {K:II}{O:Ow}{M:Mn}{H:Hp}{Z:En}{σ:L2.St}(E:EnvM K O M H Z σ)(i:Nat):EnvM K (λa=>O a/\¬ M i a) (M.set i uD) H (disown i Z) σ:=
 E.disown i (λa z=>z.1) (λa z y=>y.2 z) λj a hj z=>⟨E.sub j a z,λy=>hj (E.dis j i a z y)⟩
theorem q_ln (i:Nat){e:Expr}{f:En->Rs T}(h:cy X e f):cy X e (ln i f):=PE.imp h λσ H Q ⟨Z,O,⟨M,E⟩,q⟩=>by
 unfold ln at q
 split at q
 ·rename_i o hi
  refine⟨disown i Z,_,⟨_,o8 E i⟩,?_⟩
  obtain⟨w,e1,r⟩:=E.own i o hi;refine Post.mono (Post.bind q) λt H' s q2 v rv=> ?_
  split at q2
  ·rename_i hk
   have kd:=(r.same s).kind;refine q2 H' (Same.refl _) v (Rep.lend (λa z=> ?_) hk rv)
   by_cases hm:M i a
   ·refine .inr ?_
    have this:=kd a hm
    by_cases hD:o.isD=true
    ·rw[if_pos hD]at this ⊢;exact this.imp λ_ z=> .inl z
    ·rw[if_neg hD]at this ⊢;exact this
   ·exact .inl ⟨z,hm⟩
  ·exact q2.elim
 ·exact⟨Z,O,⟨M,E⟩,q⟩
theorem F4 (i:Nat){e:Expr}{f:En->Rs Bool}(h:tX X e f):tX X e (Ey i f):=PT.imp h λσ H Q ⟨Z,O,⟨M,E⟩,q⟩=>⟨disown i Z,_,⟨_,o8 E i⟩,q⟩
end
end Tr
namespace Tr
open PySem L2
def jk:List T->List T->List Key->Option T
 | k'::ks,v::vs,k=>if keyOf k'=some k then some v else jk ks vs k
 | _,_,_=>none
def fB (k v:T):List T->List T->List T×List T
 | k'::ks,v'::vs=>if keyOf k'=keyOf k then(k'::ks,v::vs)else(k'::(fB k v ks vs).1,v'::(fB k v ks vs).2)
 | _,_=>([k],[v])
def aM (x y:T):Rs T:=match x,keyOf y with
 | .dct ks vs,some k=>match jk ks vs k with
  | some t=> .ok t
  | none=> .bad
 | _,_=> .bad
def ij (x y:T):Rs T:=match x,keyOf y with
 | .dct ks vs,some k=>match jk ks vs k with
  | some t=> .ok t
  | none=> .ok .non
 | _,_=> .bad
def xo (x y:T):Rs T:=match y,keyOf x with
 | .dct ks vs,some k=> .ok (.bl (jk ks vs k).isSome)
 | _,_=> .bad
def oD (g:T->T->Rs T)(fa fb:En->Rs T)(Z:En):Rs T:=fa Z >>= λx=>match x with
 | .dct ks vs=>fb Z >>= g (.dct ks vs)
 | _=> .bad
def oL (g:T->T->Rs T)(fa fb:En->Rs T)(Z:En):Rs T:=fa Z >>= λx=>match x with
 | .lst l=>fb Z >>= g (.lst l)
 | _=> .bad
def prs:List T->Option (List (T×T))
 | [] =>some []
 | .tup [k,v] ::l=>match keyOf k,prs l with
  | some _,some r=>some ((k,v)::r)
  | _,_=>none
 | _=>none
def fS:List (T×T)->List T×List T->List T×List T
 | [],d=>d
 | (k,v)::r,d=>fS r (fB k v d.1 d.2)
def vZ:List T->Rs T
 | [.lst l] =>match prs l with
  | some ps=>if l.length<=1000 then .ok (.dct (fS ps ([],[])).1 (fS ps ([],[])).2)else .bad
  | none=> .bad
 | _=> .bad
def gI:List T->Bool
 | [] =>true
 | k::l=>(keyOf k).isSome&&gI l
def oj (i:Nat)(f:En->Rs T)(Z:En):Rs Fl:=f Z >>= λt=>vZ [t] >>= λd=>match d with
 | .dct ks vs=>if i<Z.length then .ok (.nx (Z.set i (.ow (.dct ks vs))))else .bad
 | _=> .bad
def pI (i:Nat)(Z:En):Rs Fl:=if i<Z.length then .ok (.nx (Z.set i (.ow (.dct [] []))))else .bad
def nM (i:Nat)(fk fv:En->Rs T)(Z:En):Rs Fl:=match Z[i]? with
 | some (.ow (.dct ks vs))=>fv Z >>= λv=>fk Z >>= λk=>match keyOf k with
  | some _=>if ks.length<1000 then .ok (.nx (Z.set i (.ow (.dct (fB k v ks vs).1 (fB k v ks vs).2))))else .bad
  | none=> .bad
 | _=> .bad
def l9 (i j:Nat)(Z:En):Rs Fl:=match Z[j]? with
 | some (.va (.lst l))=>if i<Z.length/\gI l=true/\(l.map keyOf).Nodup/\l.length<=1000 then .ok (.nx (Z.set i (.ow (.dd l (l.map λ_=>(l,l.map λ_=> .non))))))else .bad
 | _=> .bad
def nQ:List T->List (List T×List T)->List Key->Option (List T×List T)
 | k'::ks,r::rs,k=>if keyOf k'=some k then some r else nQ ks rs k
 | _,_,_=>none
def nP (k:List Key)(x:List T×List T):List T->List (List T×List T)->List (List T×List T)
 | k'::ks,r::rs=>if keyOf k'=some k then x::rs else r::nP k x ks rs
 | _,rs=>rs
def hY (i:Nat)(fa fb fv:En->Rs T)(Z:En):Rs Fl:=match Z[i]? with
 | some (.ow (.dd ks rows))=>fv Z >>= λv=>fa Z >>= λa=>match(keyOf a).bind λka=>(nQ ks rows ka).map λr=>(ka,r)with
  | some (ka,r)=>fb Z >>= λb=>if (keyOf b).isSome=true/\r.1.length<1000 then .ok (.nx (Z.set i (.ow (.dd ks (nP ka (fB b v r.1 r.2) ks rows)))))else .bad
  | none=> .bad
 | _=> .bad
def eV:List T->Option (List Int)
 | [] =>some []
 | .int i::l=>(eV l).map (i:: ·)
 | _=>none
def fN (i:Int):List Int->Int
 | [] =>i
 | j::l=>fN (if j<i then j else i) l
def gi (i:Int):List Int->Int
 | [] =>i
 | j::l=>gi (if i<j then j else i) l
def x9:List T->Rs T
 | [.lst l] =>match eV l with
  | some ns=> .ok (.int ns.sum)
  | none=> .bad
 | _=> .bad
def qm:List T->Rs T
 | [.lst l] =>match eV l with
  | some (i::ns)=> .ok (.int (fN i ns))
  | _=> .bad
 | [.int i,.int j] => .ok (.int (fN i [j]))
 | _=> .bad
def wY:List T->Rs T
 | [.lst l] =>match eV l with
  | some (i::ns)=> .ok (.int (gi i ns))
  | _=> .bad
 | [.int i,.int j] => .ok (.int (gi i [j]))
 | _=> .bad
def jd (x:T):List T->Nat->Option Nat
 | [],_=>none
 | t::l,n=>if aV t x then some n else jd x l (n+1)
def f7 (y x:T):Rs T:=match y with
 | .lst l=>if (x.dep<=60\/deps l<=60)/\x.nd=true/\nds l=true then match jd x l 0 with
   | some n=> .ok (.int n)
   | none=> .bad
  else .bad
 | _=> .bad
def iD (f:En->Rs T)(Z:En):Rs (List T):=f Z >>= λx=>match x with
 | .dct ks _=> .ok ks
 | _=> .bad
def FU:Nat:=1000000000000
end Tr
namespace Tr
open PySem PySem.Spec PyProof.Rows L2
theorem jx {h b b':Heap}:∀{l:List Env},h.FunFrames b l->(∀a∈l.filterMap (·.frame),b'.get? a=none)->h.FunFrames b' l
 | [],_,_=>trivial
 | env::rest,⟨hk,⟨L,o,hf,hn,ho,hd⟩,hr⟩,q=>by
  rw[JZ,hf]at q;exact⟨hk,⟨L,o,hf,q L IL,ho,hd⟩,jx hr λa ha=>q a (IJ _ ha)⟩
section
variable {M:Model}{A:JO}{E:IQ->IR->Prop}{s:IR}
structure Gone (fs:List Addr)(C e:Addr)(T:Option Addr)(h h':Heap)(T':Addr):Prop where
 flt:HG h' C e (some T')
 new:T=some T'\/h.get? T'=none
 keep:∀b o,b∉fs->b≠e->T≠some b->h.get? b=some o->h'.get? b=some o
 slot:∀b o,b∈fs->h.get? b=some o->∃sl,h'.get? b=some { o with slots:=sl }
theorem Ez {base:Heap}{env:Env}{outer:List Env}{L C e:Addr}{T:Option Addr}{Q:Unit->IR->Prop}(hfr:A.frames=some (env::outer))(hl:s.heap.FunFrames base (env::outer))(hf:env.frame=some L)
  (F:HG s.heap C e T) (h:∀h' T',Gone ((env::outer).filterMap (·.frame)) C e T s.heap h' T'->Q () { s with heap:=h' }):wpAny M A (leaving env (.ref e)) Q E s:=by
 generalize hB:Qi s.heap (e::(T.toList++(env::outer).filterMap (·.frame)))=B
 have bm:∀b,b∈e::(T.toList++(env::outer).filterMap (·.frame))->B.get? b=none:=λb m=>by rw[<-hB];exact Oy _ m
 have hl':s.heap.FunFrames B (env::outer):=jx hl λa ha=>bm a (IJ _ (Jn _ ha))
 have hst:B.StaysIn s.heap:=λb o q=>by rw[<-hB]at q;exact OP _ q
 have hen:B.get? e=none:=bm e IL
 have main:∀h',Heap.Left B (env::outer) e (.ref C) s.heap h'->Q () { s with heap:=h' }:=λh' ⟨x1,x2,⟨oe,vs,T',oT,ts,he,hc,hd,h1,hnT,hTe,hT,hdT,h3⟩,x4⟩=>by
  refine h h' T' ⟨⟨hTe,oe,vs,he,hc,hd,h1,oT,ts,hT,hdT,h3⟩,?_,λb o n1 n2 n3 q=> ?_,λb o m q=> ?_⟩
  ·cases q:s.heap.get? T' with
   | none=>exact .inr rfl
   | some o=>
    left
    by_cases z:T'∈e::(T.toList++(env::outer).filterMap (·.frame))
    ·rcases IW.mp z with z | z
     ·exact absurd z hTe
     ·rcases JC.mp z with z | z
      ·cases T with
       | none=>simp at z
       | some t=>simp at z;rw[z]
      ·obtain⟨_,o',ho',hnf⟩:=x2.mem z
       rw[hT]at ho';cases ho';exact absurd hdT (hnf ts)
    ·rw[<-hB,MQ _ q z]at hnT;cases hnT
  ·refine x1 b o ?_
   rw[<-hB];refine MQ _ q λz=> ?_
   rcases IW.mp z with z | z
   ·exact n2 z
   ·rcases JC.mp z with z | z
    ·cases T with
     | none=>simp at z
     | some t=>simp at z;exact n3 (by rw[z])
    ·exact n1 z
  ·obtain⟨_,o',ho',hnf⟩:=hl.mem m
   rw[q]at ho';cases ho';exact x4 b o q hnf
 cases T with
 | none=>
  obtain⟨oe,vs,he,hc,hd,h1⟩:=F;refine wpAny_leaving_first hfr hl' hf he hst hen hd h1 λh' x=>main h' ?_
  rw[hc]at x;exact x
 | some t=>
  obtain⟨hte,oe,vs,he,hc,hd,h1,oT,ts,hT,hdT,h3⟩:=F;exact wpAny_leaving_next hfr hl' hf ⟨oe,vs,t,oT,ts,he,hc,hd,h1,bm t (IJ _ (Ks _ (by simp))),hte,hT,hdT,h3⟩ hst hen main
end
abbrev uR:List IQ:=[.type "ValueError",.type "Exception",.type "BaseException",.type "object"]
structure OwnExc (K:II)(C:Addr)(bm:List IQ):Prop where
 at_:∀h:Heap,K.In h->∃nm q N bs hdct sn sub ab col dd k0 k1 k2 k3 k5 mN,h.get? C=some (MX nm q C N bs bm hdct sn sub ab col dd k0 k1 k2 k3 k5 "ValueError.__new__")/\h.Ns N mN/\mN "__init__" =none/\OwnTail h uR bm
theorem OwnExc.base {K:II}{C:Addr}{bm:List IQ}(O:OwnExc K C bm){h:Heap}(k:K.In h):bm.contains (.type "BaseException")=true:=by
 obtain⟨_,_,_,_,_,_,_,_,_,_,_,_,_,_,_,_,_,_,_,T⟩:=O.at_ h k;exact T.hasType (by decide)
def yh (c:Str)(_:En):Rs Fl:=.err c
section
variable {X:Cx}
theorem yp {c:Str}{msg:Str}{C:Addr}{bm:List IQ}{np p1 cpos pos:Pos}{j:Nat}(O:OwnExc X.K C bm)(hc:X.calm=true)(hm:X.mg c=some (.ref C))(hg:Gl X c:=by rfl)(hd:autoParam ((c == ("__debug__" : Str))=false) s_) :
  ny X (.Raise (some (.Call (.Name c np) [.Constant (.str msg) j p1] [] cpos)) none pos) (yh c):=by
 intro pins s σ H D I ⟨Z,B,M,E,k⟩
 have k:XA X M.u H c:=k;obtain⟨nm,q,N,bs,hdct,sn,sub,ab,col,dd,k0,k1,k2,k3,k5,mN,hC,hN,hni,T⟩:=O.at_ s.heap I.kIn;refine wpAny_Raise_call_subU (C:=C) (mN:=mN) (nm:=nm) (q:=q) (N:=N) (bs:=bs) (hdct:=hdct) (sn:=sn) (sub:=sub) (ab:=ab) (col:=col) (dd:=dd) (k0:=k0) (k1:=k1) (k2:=k2) (k3:=k3) (k5:=k5) M6 (Bn:="ValueError") (by decide) M6 (O.base I.kIn) (I.ok.hd hc) (by rfl) hni (lL I hg hm ⟨rfl,?_⟩ hd)
 show wpAny _ _ (evalArgs (.ref C) true ((false,eval (.Constant (.str msg) j p1) X.env)::backTo cpos (Jj [] X.env)) []) _ _ s
 refine LR (K6 (Calls.Constant_str (Lg ?_)))
 refine⟨rfl,by show 1<=sizeLine;decide,hC,hN,T,λh' e hm'=>k pins _ _ ?_⟩
 obtain⟨t,ht,ht2,ht3⟩:=hm'.there
 have I':Inv X pins σ H { s with heap:=h',toks:=s.toks+1 }:=I.kept (t':=s.toks+1) λb o z=>hm'.keeps b o z
 refine⟨e,none,C,σ,H,rfl,hm,I',λb o z _=>z,?_,?_,⟨_,_,ht,rfl,rfl,rfl⟩,(λt z=>by cases z),λp hp=>⟨λz=> ?_,λz=>by cases z⟩⟩
 ·exact sA I hm'.new
 ·exact λhex=>qg I hex hm'.new
 ·have:=(I.pin p hp).1
  rw[z,show s.heap.get? e=none from hm'.new]at this
  cases this
end
section
variable {P:Jp}{w:J2}{K:II}{mg:Str->Option IQ}{base:Heap}
theorem E5 {x qual:Str}{st:Stmt}{f:Addr}{fd:KM}{N ps:List Str}{k n:Nat}{g:List T->Rs T}(Fn:L2.Fun K x qual st f fd)(S:d9 N ps (aB st))(hn:ps.length=n)
  (hbody:∀(cdv:IQ) (A:JO) (outer:List Env) (s:IR) (H:Hp) (E:XK),Room k (A.deeper (envOfC qual (aB st) s.heap.objs.size f cdv)) →
   ∃F,(∀xe,lI ((km CX0 P w K mg base N qual (aB st) f cdv A outer s H E).FM xe) (cE st) F)/\∀ts,ts.length=n->∀c,g ts= .err c->F (bD N.length ts)= .err c):FnX P w K mg base (k+1) f fd ps n g:=by
 intro A outer s H args us vs O ts c R hr e0 hb r rs trk hl hg hR
 have hpl:ps.length<=N.length:=by have:=congrArg J4 S.pre;rw[KN]at this;omega
 obtain⟨oc,od,kV,doc,pm,an,cdv,ct,osl,rfl,lk,hcd⟩:=Fn.ex
 have hlen:vs.length=ps.length:=by rw[<-rs.length,hl,hn]
 have KX:K.In s.heap:=e0.mod.kin.keeps λb o e=>(e0.bs b o e).1
 have lim:s.heap.NoLimit:=e0.mod.nolimit.keeps λb o e=>(e0.bs b o e).1
 have hkind:∀y∈ps.zip us,(aB st).names.lookup y.1=some .local\/((aB st).names.lookup y.1=some .cell/\((Lw (s.heap.objs.size+1) (aB st).names []).lookup y.1).isSome=true):=λ⟨n,v⟩ hy=>by
  rcases S.par n (MR hy).1 with q | q
  ·exact .inl q
  ·exact .inr ⟨q,Mo _ _ _ (.inl q)⟩
 refine Oo hr.depth (KX _ _ lk) rfl S.co S.gen rfl (OR KX hcd) (hb _ _ _ _ ?_)
 refine M9 S.kind hkind λenv he s1 x=> ?_
 subst he;refine⟨lim.keeps x.toInCall.keep,codeAny_func ?_⟩
 obtain⟨F,hF,hv⟩:=hbody cdv A outer s H E0 (hr.deeper _)
 let xe:IQ->IR->Prop:=λev s'=>wpAny (model P w) (A.deeper (envOfC qual (aB st) s.heap.objs.size f cdv)) (leaving (envOfC qual (aB st) s.heap.objs.size f cdv) ev) (λ_ s''=>R (.error ev) s'') (λe' s''=>R (.error e') s'') s'
 have I:Inv ((km CX0 P w K mg base N qual (aB st) f cdv A outer s H E0).FM xe) [] (start N vs) H s1:=(oJ S hr.hd e0 hlen r x).FM _
 have no:∀a,¬noM.u a:=λa ⟨_,z⟩=>z
 refine LL (hF xe [] s1 (start N vs) H { nx:=λ_ _=>False,rt:=λ_ _=>False,bk:=λ_ _=>False,ct:=λ_ _=>False } I ⟨bD N.length ts,O,noM,n9 rs (by omega) trk,?_⟩) (λfl s' z=> ?_) λe s' hs=>hs
 rotate_left
 ·cases fl with
  | next=>obtain⟨_,_,_,z⟩:=z;exact z.elim
  | cont=>obtain⟨_,_,_,z⟩:=z;exact z.elim
  | brk=>obtain⟨_,_,_,z⟩:=z;exact z.elim
  | ret v=>obtain⟨_,_,_,_,_,z⟩:=z;exact z.elim
 rw[hv ts hl c hg];intro pins ev s' w'
 show wpAny _ _ _ _ _ _
 obtain⟨e,T,C,σ',H',rfl,hm,I',sm,he,heo,fl,hT,_⟩:=w'
 have heo:=heo rfl
 have hT:∀t,T=some t->H' t=none/\s.heap.get? t=none:=λt z=>⟨(hT t z).1,(hT t z).2 rfl⟩
 refine Ez (base:=base) (outer:=outer) (L:=s.heap.objs.size) I'.ok.frames I'.stack rfl fl λh' T' g=>hR _ _ ?_
 have hex:((km CX0 P w K mg base N qual (aB st) f cdv A outer s H E0).FM xe).ex= []:=rfl
 have Tn:H' T'=none/\s.heap.get? T'=none:=by
  rcases g.new with z | z
  ·exact hT T' z
  ·exact⟨sA I' z,qg I' hex z⟩
 have out:∀b o,s.heap.get? b=some o->b≠s.heap.objs.size:=λb o q z=>by
  have:=Ja q;rw[z]at this;exact absurd this (Ju _)
 have mem:∀b,b∈qE ((envOfC qual (aB st) s.heap.objs.size f cdv)::outer)->b=s.heap.objs.size\/b∈qE outer:=λb z=>by
  have z':b∈s.heap.objs.size::qE outer:=z;exact IW.mp z'
 have ne:∀b o,s.heap.get? b=some o->b≠e/\T≠some b:=λb o q=>⟨λz=>(by subst z;rw[show s.heap.get? b=none from heo]at q;cases q),λz=>(by rw[show s.heap.get? b=none from(hT b z).2]at q;cases q)⟩
 have keepH:∀b u,H' b≠none->s'.heap.get? b=some u->h'.get? b=some u:=λb u hb q=>by
  refine g.keep b u (λz=>hb (I'.HR b z)) (λz=>hb (by rw[z];exact he)) (λz=>hb (hT b z).1) q
 refine⟨e,T',C,H',rfl,hm,I'.os,I'.bare,⟨λb o q n hb hx=> ?_,λb o q n hb hx=> ?_,λb o q n hx=>I'.base.free b o q n hx,λb o q hx=> ?_,I'.base.tups,I'.base.frzs,I'.base.tbls⟩,λa o q=> ?_,λb o q=>sm b o q (no b),he,heo,g.flt,Tn.1,Tn.2⟩
 ·exact g.keep b o (λz=>(mem b z).elim (out b o q) hb) (ne b o q).1 (ne b o q).2 (I'.base.keep b o q n hb hx)
 ·obtain⟨sl,q1⟩:=I'.base.slot b o q n hb hx
  obtain⟨sl',q2⟩:=g.slot b _ (IJ _ hb) q1;exact⟨sl',q2⟩
 ·obtain⟨o',q1⟩:=I'.base.there b o q hx
  by_cases z:b∈qE ((envOfC qual (aB st) s.heap.objs.size f cdv)::outer)
  ·obtain⟨sl,q2⟩:=g.slot b o' z q1
   exact⟨_,q2⟩
  ·exact⟨o',g.keep b o' z (ne b o q).1 (ne b o q).2 q1⟩
 ·refine(I'.hok a o q).HN (λb u hb z=>keepH b u ?_ z) (λ_ z=>z) λ_ _ z=>z
  rcases hb with rfl | hb
  ·rw[q];simp
  ·rw[hb];simp
end
theorem AM {n m:Nat}{F:En->Rs Fl}{ts:List T}{c:Str}(h:val n m F ts= .err c):F (bD m ts)= .err c:=by
 unfold val at h
 split at h
 ·unfold d7 at h
  cases z:F (bD m ts)with
  | bad=>rw[z]at h;cases h
  | err c'=>rw[z]at h;cases h;rfl
  | ok f=>
   rw[z,aG]at h;cases f <;> cases h
 ·cases h
section
variable {P:Jp}{w:J2}{K:II}{mg:Str->Option IQ}{base:Heap}
theorem E6 {x qual:Str}{st:Stmt}{f:Addr}{fd:KM}{N ps:List Str}{k n:Nat}{F:En->Rs Fl}(Fn:L2.Fun K x qual st f fd)(S:d9 N ps (aB st))(hn:ps.length=n)
  (hbody:∀(cdv:IQ) (A:JO) (outer:List Env) (s:IR) (H:Hp) (E:XK),Room k (A.deeper (envOfC qual (aB st) s.heap.objs.size f cdv)) →
   ∀xe,lI ((km CX0 P w K mg base N qual (aB st) f cdv A outer s H E).FM xe) (cE st) F):Fv P w K mg base (k+1) f fd ps n (val n N.length F):=
 ⟨GZ Fn S hn λcdv A outer s H E hr=>⟨F,hbody cdv A outer s H E hr _,λts _ _ h=>C8 h⟩,E5 Fn S hn λcdv A outer s H E hr=>⟨F,hbody cdv A outer s H E hr,λts _ c h=>AM h⟩⟩
end
section
variable {X:Cx}{a:Expr}{fa:En->Rs T}{pos p:Pos}{x:Str}
theorem F7:ny X (.Continue pos) FX:=PS.imp rY λD σ H ⟨Z,B,M,E,h⟩=>h σ H M (λ_ _ e _=>e) E λa z=> .inl z
end
inductive OTail (h:Heap):List IQ->Prop
 | base:OTail h uR
 | own {A:Addr} {c0:IQ} {dd:Option Addr} {cd:ClassData} {sl:Array (Option IQ)} {mA:Str->Option IQ} {tl:List IQ} :
   h.get? A=some { cls:=c0,dict:=dd,data:=.cls cd,slots:=sl }->h.Ns cd.ns mA->(∀n∈calmNames,mA n=none)->OTail h tl->OTail h (.ref A::tl)
theorem OTail.tail {h:Heap}{tl:List IQ}(T:OTail h tl):OwnTail h uR tl:=by
 induction T with
 | base=>exact .base
 | own hA hN hq _ ih=>exact .own hA hN (hq _ (.head _)) ih
structure OX (K:II)(C:Addr)(bm:List IQ):Prop where
 at_:∀h:Heap,K.In h->∃nm q N bs hdct sn sub ab col dd k0 k1 k2 k3 k5 mN,h.get? C=some (MX nm q C N bs bm hdct sn sub ab col dd k0 k1 k2 k3 k5 "ValueError.__new__")/\h.Ns N mN/\(∀n∈calmNames,mN n=none)/\OTail h bm
theorem OX.own {K:II}{C:Addr}{bm:List IQ}(O:OX K C bm):OwnExc K C bm:=⟨λh k=>by
 obtain⟨nm,q,N,bs,hdct,sn,sub,ab,col,dd,k0,k1,k2,k3,k5,mN,h1,h2,h3,h4⟩:=O.at_ h k;exact⟨nm,q,N,bs,hdct,sn,sub,ab,col,dd,k0,k1,k2,k3,k5,mN,h1,h2,h3 _ (.head _),h4.tail⟩⟩
theorem GD {K:II}{N:Addr}{ob:IQ}{oe:Option Addr}{es:Array ME}{n:Nat}{oz:Array (Option IQ)}(r:K.lookup N=some ⟨ob,oe,.dict es n,oz⟩)(s:(es.toList.all λe=>ya e.key)=true)
  (u0:L6 K N "__init__" =some none) (u1:L6 K N "__getattribute__" =some none) (u2:L6 K N "__getattr__" =some none) (u3:L6 K N "__class__" =some none) :
  ∀h:Heap,K.In h->∃mN,h.Ns N mN/\∀n∈calmNames,mN n=none:=λh k=>by
 refine⟨nsFind es,⟨_,es,n,k _ _ r,rfl,λe he=> ?_,λ_=>rfl⟩,λx hx=> ?_⟩
 ·have:=Jf.mp s e (by simpa using he)
  cases q:e.key <;> rw[q]at this <;> first | exact⟨_,_,rfl⟩ | cases this
 ·have key:∀x,L6 K N x=some none->nsFind es x=none:=λx u=>by
   unfold L6 at u;rw[r]at u;simp only at u
   split at u
   ·cases u
   ·rename_i he
    unfold nsFind findBy;rw[<-OS,he];rfl
  unfold calmNames at hx;simp only[IW,JQ,or_false]at hx;rcases hx with rfl | rfl | rfl | rfl
  ·exact key _ u0
  ·exact key _ u1
  ·exact key _ u2
  ·exact key _ u3
section
variable {K:II}{nm q:Str}{C N:Addr}{bs:List IQ}{hdct:Bool}{sn:List Str}{sub:List IQ}{ab:Bool}{col:Option Bool}{dd:Option Addr}{k0 k1 k2 k3 k5:Option IQ}
variable {nm' q':Str}{D N':Addr}{bs':List IQ}{hdct':Bool}{sn':List Str}{sub':List IQ}{ab':Bool}{col':Option Bool}{dd':Option Addr}{k0' k1' k2' k3' k5':Option IQ}
theorem BH (w:K.lookup C=some (MX nm q C N bs uR hdct sn sub ab col dd k0 k1 k2 k3 k5 "ValueError.__new__"))(ns:∀h:Heap,K.In h->∃mN,h.Ns N mN/\∀n∈calmNames,mN n=none):OX K C uR:=⟨λh k=>by
 obtain⟨mN,h1,h2⟩:=ns h k;exact⟨nm,q,N,bs,hdct,sn,sub,ab,col,dd,k0,k1,k2,k3,k5,mN,k _ _ w,h1,h2,.base⟩⟩
theorem yM (w:K.lookup C=some (MX nm q C N bs (.ref D::uR) hdct sn sub ab col dd k0 k1 k2 k3 k5 "ValueError.__new__"))(ns:∀h:Heap,K.In h->∃mN,h.Ns N mN/\∀n∈calmNames,mN n=none)
  (wD:K.lookup D=some (MX nm' q' D N' bs' uR hdct' sn' sub' ab' col' dd' k0' k1' k2' k3' k5' "ValueError.__new__")) (nsD:∀h:Heap,K.In h->∃mN,h.Ns N' mN/\∀n∈calmNames,mN n=none):OX K C (.ref D::uR):=⟨λh k=>by
 obtain⟨mN,h1,h2⟩:=ns h k;obtain⟨mD,d1,d2⟩:=nsD h k;exact⟨nm,q,N,bs,hdct,sn,sub,ab,col,dd,k0,k1,k2,k3,k5,mN,k _ _ w,h1,h2,.own (k _ _ wD) d1 d2 .base⟩⟩
end
end Tr
namespace L2
open PySem PySem.Spec PyProof.Rows
section
variable {κ:Type}[DecidableEq κ]
def gz (kvs:List (κ×V))(k:κ):Option V:=(kvs.find? λkv=>decide (kv.1=k)).map (·.2)
def cz (kvs:List (κ×V))(k:κ)(v:V):List (κ×V):=
 if (kvs.any λkv=>decide (kv.1=k))=true then kvs.map (λkv=>if kv.1=k then(kv.1,v)else kv)else kvs++ [(k,v)]
theorem xU {k:κ}:gz ([]:List (κ×V)) k=none:=rfl
theorem fF {p:κ×V}{r:List (κ×V)}{k:κ}(e:p.1=k):gz (p::r) k=some p.2:=by simp[gz,LC,e]
theorem fG {p:κ×V}{r:List (κ×V)}{k:κ}(e:¬ p.1=k):gz (p::r) k=gz r k:=by simp[gz,LC,e]
theorem rj (k:κ):∀kvs:List (κ×V),(kvs.any λkv=>decide (kv.1=k))=(gz kvs k).isSome
 | [] =>rfl
 | p::r=>by
  rw[Lu]
  by_cases e:p.1=k
  ·simp only[fF e,decide_eq_true e,Bool.true_or,OV]
  ·rw[fG e,decide_eq_false e,NJ];exact rj k r
theorem dP (kvs:List (κ×V))(k:κ)(v:V):(cz kvs k v).length<=kvs.length+1:=by
 unfold cz;split
 ·rw[IP];omega
 ·rw[IX,IV,Qp];omega
theorem RelO.HM {o:Option V}{u:Option IQ}(r:RelO o u):o.isSome=u.isSome:=by
 cases o with
 | none=>cases u with
  | none=>rfl
  | some _=>exact(show False from r).elim
 | some _=>cases u with
  | none=>exact(show False from r).elim
  | some _=>rfl
theorem RelO.getD {o:Option V}{u:Option IQ}{d:V}{d':IQ}(r:RelO o u)(rd:RelV d d'):RelV (o.getD d) (u.getD d'):=by
 cases o with
 | none=>cases u with
  | none=>exact rd
  | some _=>exact(show False from r).elim
 | some _=>cases u with
  | none=>exact(show False from r).elim
  | some _=>exact r
theorem KV.val {kvs:List (κ×V)}{vs:List (κ×IQ)}(r:KV kvs vs)(k:κ):RelO (gz kvs k) (valueAt vs k):=by
 unfold KV at r
 induction r with
 | nil=>exact Lf
 | @cons p q ps qs h t ih=>
  obtain⟨h1,h2⟩:=h
  by_cases e:p.1=k
  ·have e':q.1=k:=h1.symm.trans e
   have b:valueAt (q::qs) k=some q.2:=by simp[valueAt,LC,e']
   rw[fF e,b];exact h2
  ·have e':¬ q.1=k:=λz=>e (h1.trans z)
   have b:valueAt (q::qs) k=valueAt qs k:=by simp[valueAt,LC,e']
   rw[fG e,b];exact ih
theorem KV.any {kvs:List (κ×V)}{vs:List (κ×IQ)}(r:KV kvs vs)(k:κ):(kvs.any λkv=>decide (kv.1=k))=vs.any λkv=>decide (kv.1=k):=by
 unfold KV at r
 induction r with
 | nil=>rfl
 | cons h t ih=>rw[Lu,Lu,ih,h.1]
theorem KV.Ip {kvs:List (κ×V)}{vs:List (κ×IQ)}(r:KV kvs vs)(k:κ){y:V}{u:IQ}(ry:RelV y u) :
  KV (kvs.map λkv=>if kv.1=k then(kv.1,y)else kv) (vs.map λkv=>if kv.1=k then(kv.1,u)else kv):=by
 unfold KV at r ⊢
 induction r with
 | nil=>exact .nil
 | @cons p q ps qs h t ih=>
  rw[IM,IM];refine .cons ?_ ih
  obtain⟨h1,h2⟩:=h
  by_cases e:p.1=k
  ·rw[if_pos e,if_pos (h1.symm.trans e)];exact⟨h1,ry⟩
  ·rw[if_neg e,if_neg (λz=>e (h1.trans z))];exact⟨h1,h2⟩
theorem KV.put {kvs:List (κ×V)}{vs:List (κ×IQ)}(r:KV kvs vs)(k:κ){y:V}{u:IQ}(ry:RelV y u):KV (cz kvs k y) (stored vs k u):=by
 unfold cz stored;rw[r.any k]
 by_cases e:(vs.any λkv=>decide (kv.1=k))=true
 ·rw[if_pos e,if_pos e];exact r.Ip k ry
 ·rw[if_neg e,if_neg e];exact Paired.snoc r ⟨rfl,ry⟩
theorem KV.length {kvs:List (κ×V)}{vs:List (κ×IQ)}(r:KV kvs vs):kvs.length=vs.length:=Mf r
end
theorem sZ {P:Jp}{w:J2}{k:Key}{u:IQ}(r:RelV (kV k) u):(cb P w).is k u=true:=by
 cases k with
 | inl i=>obtain⟨t,e⟩:=(show ∃t,u=Kw i t from r);subst e;exact sJ P w i t
 | inr x=>obtain⟨t,e⟩:=(show ∃t,u=KH x t from r);subst e;exact sI P w x t
theorem oH {P:Jp}{w:J2}:∀{ks:List Key} {us:List IQ},Vals (ks.map kV) us->ItemsAre (cb P w) ks us
 | [],_,r=>by rw[Oa]at r;cases r;exact .nil
 | k::ks,_,r=>by
  rw[IM]at r
  cases r with
  | cons h t=>exact .cons (sZ h) (oH t)
abbrev KT (H:Hp):List (List Key×V)->List (List Key×Addr×IQ)->Prop:=QJ λp q=>p.1=q.1/\H q.2.1=some (.tup (p.1.map kV))/\RelV p.2 q.2.2
theorem KT.val {H:Hp}{kvs:List (List Key×V)}{xs:List (List Key×Addr×IQ)}(r:KT H kvs xs)(k:List Key):RelO (gz kvs k) ((atKey xs k).map (·.2)):=by
 induction r with
 | nil=>exact Lf
 | @cons p q ps qs h t ih=>
  obtain⟨h1,_,h2⟩:=h
  by_cases e:p.1=k
  ·have e':q.1=k:=h1.symm.trans e
   have b:atKey (q::qs) k=some q.2:=by simp[atKey,LC,e']
   rw[fF e,b];exact h2
  ·have e':¬ q.1=k:=λz=>e (h1.trans z)
   have b:atKey (q::qs) k=atKey qs k:=by simp[atKey,LC,e']
   rw[fG e,b];exact ih
theorem KT.Ip {H:Hp}{kvs:List (List Key×V)}{xs:List (List Key×Addr×IQ)}(r:KT H kvs xs)(k:List Key){y:V}{u:IQ}(ry:RelV y u) :
  KT H (kvs.map λkv=>if kv.1=k then(kv.1,y)else kv) (xs.map (putAt k u)):=by
 induction r with
 | nil=>exact .nil
 | @cons p q ps qs h t ih=>
  rw[IM,IM];refine .cons ?_ ih
  obtain⟨h1,h2,h3⟩:=h;unfold putAt
  by_cases e:p.1=k
  ·rw[if_pos e,if_pos (h1.symm.trans e)];exact⟨h1,h2,ry⟩
  ·rw[if_neg e,if_neg (λz=>e (h1.trans z))];exact⟨h1,h2,h3⟩
theorem KT.put {H:Hp}{kvs:List (List Key×V)}{xs:List (List Key×Addr×IQ)}(r:KT H kvs xs)(k:List Key){b:Addr}{y:V}{u:IQ}(hb:H b=some (.tup (k.map kV)))(ry:RelV y u) :
  KT H (cz kvs k y) (storedH xs k b u):=by
 have e:(kvs.any λkv=>decide (kv.1=k))=(atKey xs k).isSome:=by
  rw[rj,(r.val k).HM,Pu]
 unfold cz storedH;rw[e]
 by_cases q:(atKey xs k).isSome=true
 ·rw[if_pos q,if_pos q];exact r.Ip k ry
 ·rw[if_neg q,if_neg q];exact Paired.snoc r ⟨rfl,hb,ry⟩
theorem KT.keeps {H H':Hp}{kvs:List (List Key×V)}{xs:List (List Key×Addr×IQ)}(r:KT H kvs xs)(ht:∀b ys,H b=some (.tup ys)->H' b=some (.tup ys)):KT H' kvs xs:=
 Paired.Il r λ_ _ z=>⟨z.1,ht _ _ z.2.1,z.2.2⟩
section
variable {P:Jp}{w:J2}{H:Hp}{h:Heap}{a:Addr}
theorem vk {u:HO}(ok:HOk P w H h)(e:Rd H a u):ObjOk P w H h a u:=e.ok ok
theorem oS {kvs:List (Key×V)}(ok:HOk P w H h)(e:Rd H a (.dK kvs)):kvs.length<=sizeLine/\(a == Ln)=false/\∃vs,KV kvs vs/\h.DictOf (cb P w) a vs:=
 show ObjOk P w H h a (.dK kvs)from vk ok e
theorem G6 {kvs:List (Key×V)}(ok:HOk P w H h)(e:H a=some (.dK kvs)):kvs.length<=sizeLine/\(a == Ln)=false/\∃vs,KV kvs vs/\h.DictOf (cb P w) a vs:=oS ok (.inl e)
theorem gU {ks:List Key}(ok:HOk P w H h)(e:H a=some (.tup (ks.map kV))):(MF (cb P w)).is h ks a:=by
 obtain⟨_,its,r,o,h1,h2,n,h3⟩:=(show ObjOk P w H h a (.tup (ks.map kV))from ok a _ e)
 exact⟨o,its.toArray,n,h1,h2,h3,by simpa using oH r⟩
theorem oQ {kvs:List (List Key×V)}(ok:HOk P w H h)(e:Rd H a (.dT kvs)):kvs.length<=sizeLine/\(a == Ln)=false ∧
  ∃xs,KT H kvs xs/\h.DictOfH (MF (cb P w)) a xs:=by
 obtain⟨z,y,xs,r,o,es,ep,h1,h2,h3,h4,h5⟩:=(show ObjOk P w H h a (.dT kvs)from vk ok e)
 refine⟨z,y,xs,r,o,es,ep,h1,h2,h3,h4,λx hx=> ?_,h5⟩
 have all:∀{l:List (List Key×V)} {m:List (List Key×Addr×IQ)},KT H l m->∀x∈m,(MF (cb P w)).is h x.1 x.2.1:=by
  intro l m q
  induction q with
  | nil=>intro x hx;exact nomatch hx
  | @cons p q ps qs hq t ih=>
   intro x hx;rcases IW.mp hx with e | hx
   ·subst e
    exact gU ok (by rw[<-hq.1];exact hq.2.1)
   ·exact ih x hx
 exact all r x hx
theorem vX {kvs:List (List Key×V)}(ok:HOk P w H h)(e:H a=some (.dT kvs)):kvs.length<=sizeLine/\(a == Ln)=false ∧
  ∃xs,KT H kvs xs/\h.DictOfH (MF (cb P w)) a xs:=oQ ok (.inl e)
end
def DGet (H:Hp)(a:Addr)(y:V)(r:Option V):Prop:=
 (∃kvs k,Rd H a (.dK kvs)/\y=kV k/\r=gz kvs k)\/∃kvs k b,Rd H a (.dT kvs)/\y= .ref b/\H b=some (.tup (k.map kV))/\r=gz kvs k
def DPut (H:Hp)(a:Addr)(y v:V)(H':Hp):Prop:=
 (∃kvs k,H a=some (.dK kvs)/\y=kV k/\kvs.length<sizeLine/\H'=upd H a (.dK (cz kvs k v))) ∨
 ∃kvs k b,H a=some (.dT kvs)/\y= .ref b/\H b=some (.tup (k.map kV))/\kvs.length<sizeLine/\H'=upd H a (.dT (cz kvs k v))
theorem DGet.t {H:Hp}{a b:Addr}{kvs:List (List Key×V)}{k:List Key}(e:H a=some (.dT kvs))(eb:H b=some (.tup (k.map kV))):DGet H a (.ref b) (gz kvs k):=.inr ⟨kvs,k,b,.inl e,rfl,eb,rfl⟩
theorem DPut.t {H:Hp}{a b:Addr}{kvs:List (List Key×V)}{k:List Key}{v:V}(e:H a=some (.dT kvs))(eb:H b=some (.tup (k.map kV)))(hl:kvs.length<sizeLine) :
  DPut H a (.ref b) v (upd H a (.dT (cz kvs k v))):=.inr ⟨kvs,k,b,e,rfl,eb,hl,rfl⟩
section
variable {X:Cx}{pins:List (Addr×Obj)}{σ:St}{H:Hp}{s:IR}{a:Addr}{y v:V}{u r:IQ}{o:Option V}{A:JO}{E:IQ->IR->Prop}
theorem Inv.big (I:Inv X pins σ H s):Ln<s.heap.objs.size:=by
 have h:JF<s.heap.objs.size:=(I.mod.glob.keeps I.bk).lt;exact PL (by decide) h
theorem xt {Q:IQ->IR->Prop}(hu:A.units+1<cLine)(I:Inv X pins σ H s)(g:DGet H a y (some v))(ry:RelV y u)(h:∀w' s',Inv X pins σ H s'->RelV v w'->Q w' s') :
  wpAny (model X.prog X.w) A (getItem (.ref a) u) Q E s:=by
 rcases g with⟨kvs,k,e,ey,l⟩ | ⟨kvs,k,b,e,ey,eb,l⟩
 ·subst ey
  obtain⟨z,hd,vs,rel,dd⟩:=oS I.hok e;obtain⟨w',hw,rw'⟩:=RelO.some_of (v:=v) (o:=valueAt vs k) (by rw[l];exact rel.val k)
  exact wpAny_getItem_of (sZ ry) dd.mapOf hw (h w' _ (I.tok _) rw')
 ·subst ey
  cases (show u=Jg b from ry)
  obtain⟨z,hd,xs,rel,dd⟩:=oQ I.hok e;obtain⟨w',hw,rw'⟩:=RelO.some_of (v:=v) (o:=(atKey xs k).map (·.2)) (by rw[l];exact rel.val k)
  obtain⟨p,hp,hp2⟩:=Kg.mp hw;refine wpAny_getItem_heap (K9 hu) (gU I.hok eb) dd hp ?_
  rw[hp2];exact h w' _ (I.tok _) rw'
theorem d_in {Q:IQ->IR->Prop}(hu:A.units+1<cLine)(I:Inv X pins σ H s)(g:DGet H a y o)(ry:RelV y u)(h:∀s',Inv X pins σ H s'->Q (.bool o.isSome) s') :
  wpAny (model X.prog X.w) A (J6 .In u (.ref a)) Q E s:=by
 rcases g with⟨kvs,k,e,ey,l⟩ | ⟨kvs,k,b,e,ey,eb,l⟩
 ·subst ey
  obtain⟨z,hd,vs,rel,dd⟩:=oS I.hok e;refine wpAny_in_of (sZ ry) hd dd.mapOf ?_
  rw[<-(rel.val k).HM,<-l];exact h _ (I.tok _)
 ·subst ey
  cases (show u=Jg b from ry)
  obtain⟨z,hd,xs,rel,dd⟩:=oQ I.hok e;refine wpAny_in_heap (K9 hu) (gU I.hok eb) hd dd ?_
  have q:=(rel.val k).HM;rw[Pu]at q;rw[<-q,<-l];exact h _ (I.tok _)
theorem kj {h':Heap}{t':Nat}{ob:HO}(I:Inv X pins σ H s)(mu:Hm (H a))(hs:Lr a s.heap h')(he:∃q,h'.get? a=some q)(new:ObjOk X.prog X.w (upd H a ob) h' a ob) :
  Inv X pins σ (upd H a ob) { s with heap:=h',toks:=t' }:=
 I.write (x:=a) (e:=a) mu (.inl rfl) (λb q hb z=>(hs.2 b hb).trans z) he new
theorem Fg {P:Jp}{w:J2}{H':Hp}{h':Heap}{kvs:List (Key×V)}{vs:List (Key×IQ)}(z:kvs.length<=sizeLine)(hd:(a == Ln)=false)(rel:KV kvs vs)(dd:h'.DictOf (cb P w) a vs) :
  ObjOk P w H' h' a (.dK kvs):=⟨z,hd,vs,rel,dd⟩
theorem xq {H':Hp}{Q:Unit->IR->Prop}(hu:A.units+1<cLine)(I:Inv X pins σ H s)(g:DPut H a y v H')(ry:RelV y u)(rv:RelV v r)(h:∀s',Inv X pins σ H' s'->Q () s') :
  wpAny (model X.prog X.w) A (setItem (.ref a) u r) Q E s:=by
 rcases g with⟨kvs,k,e,ey,l,eH⟩ | ⟨kvs,k,b,e,ey,eb,l,eH⟩
 ·subst ey eH
  obtain⟨z,hd,vs,rel,dd⟩:=G6 I.hok e
  have hz:vs.length<=sizeLine:=by rw[<-rel.length];exact z
  have hl:(cz kvs k v).length<=sizeLine:=by have:=dP kvs k v;omega
  refine wpAny_setItem_pairs (hsz:=hz) (sZ ry) dd λh' dd' hs=>h _ ?_
  have he:∃q,h'.get? a=some q:=let ⟨q,_,_,hq,_⟩:=dd';⟨q,hq⟩
  exact kj I (by rw[e];exact Lf) hs he (Fg hl hd (rel.put k rv) dd')
 ·subst ey eH
  cases (show u=Jg b from ry)
  obtain⟨z,hd,xs,rel,dd⟩:=vX I.hok e
  have hz:xs.length<=sizeLine:=by rw[<-Mf rel];exact z
  have hl:(cz kvs k v).length<=sizeLine:=by have:=dP kvs k v;omega
  refine wpAny_setItem_heap (hsz:=hz) (K9 hu) (gU I.hok eb) dd λh' dd' hs=>h _ ?_
  obtain⟨q,es,ep,hq,h2,h3,h4,_,h5⟩:=dd';refine kj I (by rw[e];exact Lf) hs ⟨q,hq⟩ ⟨hl,hd,_,(rel.put k eb rv).keeps λc ys ec=> ?_,q,es,ep,hq,h2,h3,h4,h5⟩
  rw[aF (iG ec e (λz=>nomatch z))]
  exact ec
end
def xF (i:Expr):Prop:=∀ov iv,ON i false ov iv=operate [ov,iv] (getItem ov iv)
theorem AX {prog:Jp}{w:J2}{A:JO}{E:IQ->IR->Prop}{s:IR}{env:Env}{value slice:Expr}{pos:Pos}{T id:String}{Q:IQ->IR->Prop}
  (hl:NB (.type T) "__getitem__" =pure (some (.builtin id))) (hs:xF slice)
  (h:wpAny (model prog w) A (eval value env) (λo s₁=>wpAny (model prog w) A (eval slice env) (λi s₂=>s₂.TypeIs o T/\wpAny (model prog w) A (getItem o i) Q E s₂) E s₁) E s) :
  wpAny (model prog w) A (eval (.Subscript value slice pos) env) Q E s:=by
 refine Subscript_ (LL h (λo s₁ h₁=>LL h₁ (λi s₂ h₂=> ?_) λ_ _ x=>x) λ_ _ x=>x)
 obtain⟨hT,h₂⟩:=h₂;unfold Pf;refine IH ?_
 rw[getitemInPython_of_ne hT.not_modules];refine IH (QD hT hl ?_)
 have fin:wpAny (model prog w) A (ON slice false o i) (λr s₃=>wpAny (model prog w) A (letTemporaryGo value o r >>= λ_=>pure r) Q E s₃) E s₂:=by
  rw[hs o i];exact wpAny_operating (LL h₂ (λr s₃ h₃=>IH (wpAny_letTemporaryGo (IS h₃))) λ_ _ x=>x)
 first
  | exact IS (IH fin)
  | exact IH (IS (IH fin))
  | exact IH fin
theorem tI {X:Cx}{pins:List (Addr×Obj)}{σ:St}{H:Hp}{s:IR}{a:Addr}{y:V}{o:Option V}(I:Inv X pins σ H s)(g:DGet H a y o):s.TypeIs (.ref a) "dict":=by
 rcases g with⟨kvs,k,e,_,_⟩ | ⟨kvs,k,b,e,_,_,_⟩
 ·obtain⟨_,_,vs,_,dd⟩:=oS I.hok e
  exact dd.typeIs
 ·obtain⟨_,_,xs,_,dd⟩:=oQ I.hok e
  exact dd.typeIs
def FP (td ty:TE):TE:=λσ H Q=>td σ H λx H1=>ty σ H1 λy H2=> ∃a v,x= .ref a/\DGet H2 a y (some v)/\Q v H2
def FW (td ty tv:TE):TS:=λD σ H=>tv σ H λv H1=>td σ H1 λx H2=>ty σ H2 λy H3=> ∃a H4,x= .ref a/\DPut H3 a y v H4/\D.nx σ H4
section
variable {X:Cx}{o i e value:Expr}{pos pos' tpos:Pos}{td ty tv:TE}
theorem vq (hu:X.A.units+1<cLine)(ho:PE X o td)(hi:PE X i ty)(hs:xF i):PE X (.Subscript o i pos) (FP td ty):=by
 intro pins s σ H Q I h;refine AX PySem.F.slot_dict_getitem.lookup hs (cq (ho pins s σ H _ I h) λu s1 ⟨x,H1,I1,rx,q1⟩=>cq (hi pins s1 σ H1 _ I1 q1) λiv s2 hh_=> ?_)
 obtain⟨y,H2,I2,ry,a,v,ex,g,q2⟩:=hh_;subst ex;obtain rfl:u=Jg a:=rx;exact⟨tI I2 g,xt hu I2 g ry λw' s3 I3 rw'=>⟨v,H2,I3,rw',q2⟩⟩
theorem vn (hu:X.A.units+1<cLine)(ho:PE X o td)(hi:PE X i ty)(hv:PE X value tv)(hs:J0 value (some (.Subscript o i pos')) pos.line X.env=pure false) :
  PS X (.Assign [.Subscript o i pos'] value pos) (FW td ty tv):=by
 intro pins s σ H D I h;refine wpAny_Assign_Subscript (cq (hv pins s σ H _ I h) λr s1 ⟨v,H1,I1,rv,q1⟩=>cq (ho pins s1 σ H1 _ I1 q1) λu s2 ⟨x,H2,I2,rx,q2⟩=>cq (hi pins s2 σ H2 _ I2 q2) λiv s3 ⟨y,H3,I3,ry,a,H4,ex,g,q3⟩=> ?_) hs
 subst ex;obtain rfl:u=Jg a:=rx;exact xq hu I3 g ry rv λs4 I4=>⟨σ,H4,I4,q3⟩
end
theorem mZ {P:Jp}{w:J2}{H:Hp}(h:Heap)(hb:Ln<h.objs.size):ObjOk P w H (h.push { cls:=.type "dict",data:=.dict #[] }) h.objs.size (.dT []):=
 ⟨KP _,beq_eq_false_iff_ne.mpr (N8 (JS hb)),[],.nil,_,#[],0,IZ _ rfl,⟨rfl,rfl,rfl⟩,rfl,rfl,KU⟩
structure M1 (X:Cx)(o:Expr)(m:Str)(apos:Pos)(e:Expr)(cpos:Pos):Prop where
 base:KG o m X.env (eval o X.env)=eval o X.env
 few:((backTo cpos (Jj [e] X.env)).all (λx=> !x.1)&&(backToKw cpos (Qz [] X.env)).all (λx=>x.1.isSome)
  &&decide (([e]:List Expr).length+([]:List QB).length+(if ([]:List QB).isEmpty then 0 else 1)<30))=true
 line:(apos.endLine == cpos.line)=true
 trees:backTo cpos (Jj [e] X.env)= [(false,eval e X.env)]
structure M2 (X:Cx)(o:Expr)(m:Str)(apos:Pos)(e f:Expr)(cpos:Pos):Prop where
 base:KG o m X.env (eval o X.env)=eval o X.env
 few:((backTo cpos (Jj [e,f] X.env)).all (λx=> !x.1)&&(backToKw cpos (Qz [] X.env)).all (λx=>x.1.isSome)
  &&decide (([e,f]:List Expr).length+([]:List QB).length+(if ([]:List QB).isEmpty then 0 else 1)<30))=true
 line:(apos.endLine == cpos.line)=true
 trees:backTo cpos (Jj [e,f] X.env)= [(false,eval e X.env),(false,eval f X.env)]
def IsD (H:Hp)(a:Addr):Prop:=(∃kvs,Rd H a (.dK kvs))\/∃kvs,Rd H a (.dT kvs)
theorem ET {X:Cx}{pins:List (Addr×Obj)}{σ:St}{H:Hp}{s:IR}{a:Addr}(I:Inv X pins σ H s)(d:IsD H a) :
  s.TypeIs (.ref a) "dict"/\(∀b,Jg a= .ref b->∃ob,s.heap.get? b=some ob/\ob.dict=none)/\(a == Ln)=false:=by
 rcases d with⟨kvs,e⟩ | ⟨kvs,e⟩
 ·obtain⟨_,hd,vs,_,dd⟩:=oS I.hok e
  refine⟨dd.typeIs,λb q=> ?_,hd⟩
  cases q;obtain⟨ob,_,_,h1,h2,_⟩:=dd;exact⟨ob,h1,h2.2.1⟩
 ·obtain⟨_,hd,xs,_,dd⟩:=oQ I.hok e
  refine⟨dd.typeIs,λb q=> ?_,hd⟩
  cases q;obtain⟨ob,_,_,h1,h2,_⟩:=dd;exact⟨ob,h1,h2.2.1⟩
section
variable {X:Cx}{pins:List (Addr×Obj)}{σ:St}{H:Hp}{s:IR}{a:Addr}{y d:V}{u r:IQ}{o:Option V}{A:JO}{E:IQ->IR->Prop}
theorem Fh {Q:IQ->IR->Prop}(hu:A.units+1<cLine)(I:Inv X pins σ H s)(g:DGet H a y o)(ry:RelV y u)(h:∀w' s',Inv X pins σ H s'->RelV (o.getD .non) w'->Q w' s') :
  wpAny (model X.prog X.w) A (call (.builtin "dict.get") [.ref a,u]) Q E s:=by
 rcases g with⟨kvs,k,e,ey,l⟩ | ⟨kvs,k,b,e,ey,eb,l⟩
 ·subst ey
  obtain⟨z,hd,vs,rel,dd⟩:=oS I.hok e;refine call_meetsIn Mz dd.typeIs NW (NF _ _) (meets_dict_get (cb X.prog X.w) a (sZ ry) hd) ⟨_,dd.mapOf,h _ _ (I.tok _) ?_⟩
  rw[l];exact(rel.val k).getD rfl
 ·subst ey
  cases (show u=Jg b from ry)
  obtain⟨z,hd,xs,rel,dd⟩:=oQ I.hok e;refine call_meetsIn Mz dd.typeIs NW (NF _ _) (meetsH_dict_get (MF (cb X.prog X.w)) a b hd) ⟨K9 hu,k,xs,gU I.hok eb,dd,h _ _ (I.tok _) ?_⟩
  rw[l];exact(rel.val k).getD rfl
end
def Di (td ty:TE):TE:=λσ H Q=>td σ H λx H1=> ∃a,x= .ref a/\IsD H1 a/\ty σ H1 λy H2=> ∃o,DGet H2 a y o/\Q (o.getD .non) H2
section
variable {X:Cx}{o e f:Expr}{apos cpos:Pos}{td ty tx:TE}
theorem yK (hu:X.A.units+1<cLine)(ho:PE X o td)(he:PE X e ty)(m:M1 X o "get" apos e cpos):PE X (.Call (.Attribute o "get" apos) [e] [] cpos) (Di td ty):=by
 intro pins s σ H Q I h;refine wpAny_Call_method m.base m.few m.line PySem.F.plainAttrs_dict Mz PySem.F.type_dict_get (cq (ho pins s σ H _ I h) λu s1 hh_=> ?_)
 obtain⟨x,H1,I1,rx,a,ex,d,q1⟩:=hh_;subst ex;obtain rfl:u=Jg a:=rx;obtain⟨t1,t2,_⟩:=ET I1 d;refine⟨t1,t2,?_⟩
 rw[m.trees];refine Mq rfl (LR (K6 (cq (he pins s1 σ H1 _ I1 q1) λiv s2 ⟨y,H2,I2,ry,ov,g,q2⟩=>Lg ?_)))
 exact Fh hu I2 g ry λw' s3 I3 rw'=>⟨_,H2,I3,rw',q2⟩
end
end L2
namespace Tr
open PySem PySem.Spec PyProof.Rows L2
theorem DGet.Io {H:Hp}{a b:Addr}{kvs:List (List Key×V)}{k:List Key}(e:Rd H a (.dT kvs))(eb:H b=some (.tup (k.map kV))):DGet H a (.ref b) (gz kvs k):=.inr ⟨kvs,k,b,e,rfl,eb,rfl⟩
theorem gk {k:Nat}{A:JO}(h:Room k A):A.units+1<cLine:=by have:=h.un;omega
theorem mP {K:II}{O:Ow}{H:Hp}:∀{l:List T} {vs:List V} {k:List Key},jJ l=some k->Reps K O H l vs->vs=k.map kV
 | [],vs,k,h,r=>by cases Reps.AC.mp r;cases h;rfl
 | t::l,vs,k,h,r=>by
  obtain⟨v,ws,rfl,p,q⟩:=Reps.me.mp r;unfold jJ at h
  cases e1:CT t with
  | none=>rw[e1]at h;cases h
  | some a=>
   cases e2:jJ l with
   | none=>rw[e1,e2]at h;cases h
   | some b=>
    rw[e1,e2]at h;cases h;rw[mP e2 q,IM]
    congr 1
    cases t with
    | int i=>cases e1;exact Rep.Da.mp p
    | str x=>cases e1;exact Rep.GM.mp p
    | _=>cases e1
theorem fz {K:II}{O:Ow}{H:Hp}{y:T}{v:V}{k:List Key}(h:keyOf y=some k)(r:Rep K O H y v):∃b,v= .ref b/\H b=some (.tup (k.map kV)):=by
 cases y with
 | tup l=>
  obtain⟨a,vs,e1,_,e3,e4⟩:=Rep.Fk.mp r;rw[mP h e4]at e3
  exact⟨a,e1,e3⟩
 | _=>cases h
theorem kg {K:II}{O:Ow}{H:Hp}{k:List Key}:∀{ks ts:List T} {kvs:List (List Key×V)},ks.map keyOf=kvs.map (λp=>some p.1)->Reps K O H ts (kvs.map (·.2))->match jk ks ts k with
  | some t=> ∃v,gz kvs k=some v/\Rep K O H t v
  | none=>gz kvs k=none
 | [],ts,kvs,h,r=>by
  cases kvs with
  | nil=>unfold jk;exact xU
  | cons _ _=>cases h
 | k'::ks,ts,kvs,h,r=>by
  cases kvs with
  | nil=>cases h
  | cons p kvs=>
   rw[IM,IM]at h;injection h with h1 h2
   rw[IM]at r
   cases ts with
   | nil=>have:=Reps.AC.mp r;cases this
   | cons t ts=>
    obtain⟨v,ws,e,q1,q2⟩:=Reps.me.mp r;injection e with e1 e2
    subst e1 e2;unfold jk
    by_cases hk:keyOf k'=some k
    ·rw[if_pos hk]
     rw[h1]at hk;injection hk with hk
     exact⟨_,fF hk,q1⟩
    ·rw[if_neg hk]
     have hk2:¬ p.1=k:=λz=>hk (by rw[h1,z])
     rw[fG hk2];exact kg h2 q2
theorem pO {κ:Type}[DecidableEq κ]{k:κ}{p:κ×V}{r:List (κ×V)}{v:V}(h:¬ p.1=k):cz (p::r) k v=p::cz r k v:=by
 unfold cz;rw[Lu,decide_eq_false h,NJ]
 by_cases q:(r.any λkv=>decide (kv.1=k))=true
 ·rw[if_pos q,if_pos q,IM,if_neg h]
 ·rw[if_neg q,if_neg q];rfl
theorem pP {κ:Type}[DecidableEq κ]{k:κ}{p:κ×V}{r:List (κ×V)}{v:V}(h:p.1=k)(hn:∀q∈r,q.1≠k):cz (p::r) k v=(p.1,v)::r:=by
 unfold cz;rw[Lu,decide_eq_true h,Bool.true_or,if_pos rfl,IM,if_pos h]
 congr 1
 conv=>rhs;rw[<-Qq r]
 exact JM λq hq=>if_neg (hn q hq)
theorem kf {K:II}{O:Ow}{H:Hp}{kT vT:T}{k:List Key}{v:V}(hk:keyOf kT=some k)(hv:Rep K O H vT v):∀{ks ts:List T} {kvs:List (List Key×V)},ks.map keyOf=kvs.map (λp=>some p.1)->Reps K O H ts (kvs.map (·.2))->(kvs.map (·.1)).Nodup →
  (fB kT vT ks ts).1.map keyOf=(cz kvs k v).map (λp=>some p.1)/\Reps K O H (fB kT vT ks ts).2 ((cz kvs k v).map (·.2))
 | [],ts,kvs,h,r,_=>by
  cases kvs with
  | nil=>
   unfold fB;refine⟨?_,Reps.FS hv Reps.nil_⟩
   simp[cz,hk]
  | cons _ _=>cases h
 | k'::ks,ts,kvs,h,r,hn=>by
  cases kvs with
  | nil=>cases h
  | cons p kvs=>
   rw[IM,IM]at h;injection h with h1 h2
   rw[IM]at r;rw[IM]at hn;obtain⟨n1,n2⟩:=Jq.mp hn
   cases ts with
   | nil=>have:=Reps.AC.mp r;cases this
   | cons t ts=>
    obtain⟨v',ws,e,q1,q2⟩:=Reps.me.mp r;injection e with e1 e2
    subst e1 e2;unfold fB
    by_cases hz:keyOf k'=keyOf kT
    ·rw[if_pos hz]
     have hp:p.1=k:=by rw[hz,hk]at h1;injection h1 with h1;exact h1.symm
     rw[pP hp λq hq z=>n1 (by rw[hp,<-z];exact List.mem_map_of_mem hq)]
     exact⟨by rw[IM,IM,h1,h2],Reps.FS hv q2⟩
    ·rw[if_neg hz]
     have hp:¬ p.1=k:=λz=>hz (by rw[h1,z,hk])
     obtain⟨a1,a2⟩:=kf hk hv h2 q2 n2;rw[pO hp];exact⟨by rw[IM,IM,h1,a1],Reps.FS q1 a2⟩
theorem Cv {H:Hp}{kvs:List (List Key×V)}{xs:List (List Key×Addr×IQ)}(rel:KT H kvs xs):kvs.map (·.1)=xs.map (·.1):=by
 induction rel with
 | nil=>rfl
 | cons h t ih=>rw[IM,IM,ih,h.1]
theorem tK {X:Cx}{pins:List (Addr×Obj)}{σ:L2.St}{H:Hp}{s:IR}{a:Addr}{kvs:List (List Key×V)}(I:Inv X pins σ H s)(e:H a=some (.dT kvs)):(kvs.map (·.1)).Nodup/\kvs.length<=sizeLine:=by
 obtain⟨z,_,xs,rel,_,_,_,_,_,_,_,_,hn⟩:=vX I.hok e;rw[Cv rel];exact⟨hn,z⟩
section
variable {X:Cx}{a b:Expr}{fa fb:En->Rs T}{pos:Pos}
theorem Gi (hu:X.A.units+1<cLine)(ha:cy X a fa)(hb:cy X b fb)(hs:autoParam (xF b) w_):cy X (.Subscript a b pos) (o2 aM fa fb):=by
 refine PE.imp (vq hu ha hb hs) λσ H Q ⟨Z,O,E,hq⟩=> ?_
 obtain⟨Z1,O1,E1,h1⟩:=aZ E hq;refine⟨Z1,O1,E1,Post.mono h1 λt H1 s1 q v r=> ?_⟩
 obtain⟨t',r',s',E',q'⟩:=q v r;obtain⟨Z2,O2,E2,h2⟩:=aZ (f:=fb) E' q';refine⟨Z2,O2,E2,Post.mono h2 λt2 H2 s2 q2 v2 r2=> ?_⟩
 obtain⟨t2',r2',s2',E2',q2'⟩:=q2 v2 r2
 have r'':=r'.same s2';unfold aM at q2'
 split at q2'
 ·rename_i ks vs k hk
  split at q2'
  ·rename_i x hx
   obtain⟨a,kvs,e1,e2,e3,e4,e5⟩:=Rep.GE.mp r'';obtain⟨b,f1,f2⟩:=fz hk r2'
   have g:=kg (k:=k) e4 e5;rw[hx]at g;obtain⟨w,g1,g2⟩:=g;exact⟨a,w,e1,by rw[f1,<-g1];exact DGet.Io e3 f2,q2' H2 (Same.refl H2) w g2⟩
  ·exact q2'.elim
 ·exact q2'.elim
end
end Tr
namespace Tr
open PySem PySem.Spec PyProof.Rows L2
open PySem.SeqAt
theorem y8 {A:JO}{s:IR}{x:T}{ux:IQ}(rx:ReV s x ux)(hu:A.units+60<cLine){l:List T}{us:List IQ}(hd:x.dep<=60\/deps l<=60)(r:ReVs s l us) :
  ∃e:IQ->Bool,(∀y∈us,EqAt A s y ux (e y))/\us.map e=l.map λt=>aV t x:=by
 classical
 have ex:∀y∈us,∃t∈l,ReV s t y:=λy hy=>by
  obtain⟨i,hi,rfl⟩:=J8 hy
  have hl:=r.length
  have e1:l[i]? =some l[i]:=by simp
  obtain⟨u,q1,q2⟩:=r.get e1
  have:us[i]? =some us[i]:=by simp
  rw[this]at q1;cases q1;exact⟨l[i],Ku _,q2⟩
 let e:IQ->Bool:=λy=>decide (∃t∈l,ReV s t y/\aV t x=true)
 have dep:∀t∈l,t.dep<=60\/x.dep<=60:=λt ht=>by
  rcases hd with h | h
  ·exact .inr h
  ·obtain⟨i,hi,rfl⟩:=J8 ht
   exact .inl (JW (iP (i:=i) (by simp)) h)
 have uniq:∀y t t',ReV s t y->ReV s t' y->aV t x=aV t' x:=λy t t' z z'=>by
  rw[<-ku t,<-ku t',ReV.nf z z']
 have agree:∀y t,t∈l->ReV s t y->e y=aV t x:=λy t h z=>by
  show decide (∃t∈l,ReV s t y/\aV t x=true)=aV t x
  cases q:aV t x with
  | true=>exact decide_eq_true ⟨t,h,z,q⟩
  | false=>
   refine decide_eq_false ?_
   rintro ⟨t',h',z',q'⟩
   rw[<-uniq y t t' z z',q]at q';cases q'
 refine⟨e,λy hy=> ?_,?_⟩
 ·obtain⟨t,h,z⟩:=ex y hy
  rw[agree y t h z];exact(B7 60 A s t x y ux (dep t h) hu z rx).1
 ·have go:∀(l':List T) (us':List IQ),(∀t∈l',t∈l)->ReVs s l' us'->us'.map e=l'.map λy=>aV y x:=by
   intro l'
   induction l' with
   | nil=>intro us' _ r';rw[ReVs.AC.mp r'];rfl
   | cons t l' ih=>
    intro us' sub r';obtain⟨u,ws,rfl,p,q⟩:=ReVs.me.mp r';rw[IM,IM,ih ws (λt ht=>sub t (IJ _ ht)) q,agree u t (sub t IL) p]
  exact go l us (λ_ h=>h) r
theorem mX {x:T}:∀{l:List T} {n k:Nat},jd x l n=some k->n<=k/\(l.map λt=>aV t x)[k - n]? =some true/\∀m,m<k - n->(l.map λt=>aV t x)[m]? =some false
 | [],n,k,h=>by cases h
 | t::l,n,k,h=>by
  unfold jd at h
  cases q:aV t x with
  | true=>
   rw[q,if_pos rfl]at h;cases h;refine⟨Jc _,?_,λm hm=>by omega⟩
   rw[Na,IM,q];rfl
  | false=>
   rw[q,if_neg (by decide)]at h
   obtain⟨h1,h2,h3⟩:=mX h
   have e:k - n=(k - (n+1))+1:=by omega
   refine⟨by omega,?_,λm hm=> ?_⟩
   ·rw[e,IM,Kd];exact h2
   ·cases m with
    | zero=>rw[IM,q];rfl
    | succ m=>rw[IM,Kd];exact h3 m (by omega)
section
variable {X:Cx}{a b:Expr}{fa fb:En->Rs T}{pos apos cpos:Pos}
theorem yv (hu:X.A.units+61<cLine)(ha:cy X a fa)(hb:cy X b fb)(hn:bz b=true:=by rfl)
  (hbase:KG a "index" X.env (eval a X.env)=eval a X.env:=by rfl) (hline:(apos.endLine == cpos.line)=true:=by rfl):cy X (.Call (.Attribute a "index" apos) [b] [] cpos) (oL f7 fa fb):=by
 have hs:Jj [b] X.env=(false,eval b X.env)::Jj [] X.env:=aW hn;intro pins s σ H Q I ⟨Z,O,E,hq⟩;refine N3 hbase (by rw[hs];rfl) hline rfl (cq (ha pins s σ H _ I (aZ E hq)) λv s1 hh_=> ?_)
 obtain⟨x,H1,I1,r1,t,rt,s',E',q1⟩:=hh_
 cases t with
 | lst l=>
  obtain⟨c,vs,e1,e2,e3,e4⟩:=Rep.Do.mp rt;subst e1;obtain rfl:v=Jg c:=r1;obtain⟨h1,h2⟩:=xX I1 (show RelV (.ref c) (.ref c)from rfl) (.inl ⟨rfl,vs,SqL.of e3⟩)
  refine⟨_,_,Me,PySem.F.slot_list_index,PySem.F.type_list_index,h1,h2,?_⟩
  rw[hs];refine Mq rfl (LR (K6 (cq (hb pins s1 σ H1 _ I1 (aZ (f:=fb) E' q1)) λu s2 ⟨y,H2,I2,r2,t2,rt2,s'',E'',q2⟩=>Lg ?_)))
  unfold f7 at q2
  split at q2
  ·rename_i l' heq
   cases heq
   split at q2
   ·rename_i hd3
    obtain⟨hd,hnx,hny⟩:=hd3
    split at q2
    ·rename_i k hk
     have rv:=Rep.val I2 (show(T.lst l).nd=true by unfold T.nd;exact hny) (rt.same s'') (show RelV (.ref c) (.ref c)from rfl)
     unfold ReV at rv;obtain⟨c',us,ec,hl,rs⟩:=rv;cases ec;obtain⟨⟨cls,dd,data,sl⟩,ho,hc,n,hdd⟩:=id hl;simp only at hc hdd;subst hc hdd;obtain⟨e,he,ha⟩:=y8 (A:=X.A.in1) (Rep.val I2 hnx rt2 r2) (by show X.A.units+1+60<cLine;omega) hd rs
     obtain⟨_,k1,k2⟩:=mX hk;rw[Nb]at k1 k2;rw[<-ha]at k1 k2
     have hkl:k<us.length:=by have:=(Jd.mp k1).1;rwa [IP]at this
     have hz:us.length<=sizeLine:=by
      have z:=(I2.HP (s'' _ _ e3)).1
      have h3:=rs.length
      have h4:=e4.length;omega
     refine MP F.slot_list_index ⟨_,ho,rfl⟩ F.entry_list_index (F.args_list_index_2 _ _) (list_indexAt c us.toArray n dd sl u e k (by simpa using hkl) (by rw[K0]at hz;omega) ?_ ?_) ⟨ho,λy hy=>he y (by simpa using hy),?_⟩
     ·have:=(Jd.mp k1).2
      rw[NR]at this
      simpa using this
     ·intro m hm hmk
      have:=(Jd.mp (k2 m hmk)).2
      rw[NR]at this
      simpa using this
     ·exact⟨.int _,H2,I2.tok _,⟨_,rfl⟩,q2 H2 (Same.refl H2) _ (Rep.Gc _)⟩
    ·exact q2.elim
   ·exact q2.elim
  ·rename_i hno
   exact(hno l rfl).elim
 | _=>exact q1.elim
theorem DS (hu:X.A.units+1<cLine)(ha:cy X a fa)(hb:cy X b fb)(hn:bz b=true:=by rfl)
  (hbase:KG a "get" X.env (eval a X.env)=eval a X.env:=by rfl) (hline:(apos.endLine == cpos.line)=true:=by rfl):cy X (.Call (.Attribute a "get" apos) [b] [] cpos) (oD ij fa fb):=by
 have hs:Jj [b] X.env=(false,eval b X.env)::Jj [] X.env:=aW hn;refine PE.imp (yK hu ha hb ⟨hbase,by rw[hs];rfl,hline,by rw[hs];rfl⟩) λσ H Q ⟨Z,O,E,hq⟩=> ?_
 obtain⟨Z1,O1,E1,h1⟩:=aZ E hq;refine⟨Z1,O1,E1,Post.mono h1 λt H1 s1 q v r=> ?_⟩
 obtain⟨t',r',s',E',q'⟩:=q v r
 cases t' with
 | dct ks vs=>
  obtain⟨c,kvs,e1,e2,e3,e4,e5⟩:=Rep.GE.mp r';refine⟨c,e1,.inr ⟨kvs,e3⟩,?_⟩
  obtain⟨Z2,O2,E2,h2⟩:=aZ (f:=fb) E' q';refine⟨Z2,O2,E2,Post.mono h2 λt2 H2 s2 q2 v2 r2=> ?_⟩
  obtain⟨t2',r2',s2',E2',q2'⟩:=q2 v2 r2;unfold ij at q2'
  split at q2'
  ·rename_i ks' vs' k heq hk
   cases heq;obtain⟨b,f1,f2⟩:=fz hk r2'
   have g:=kg (k:=k) e4 (e5.same s2');refine⟨gz kvs k,by rw[f1];exact DGet.Io (Rd.Ig (P:=uD) (SameO.of s2') (λz=>z) e3) f2,?_⟩
   cases hx:jk ks vs k with
   | some z=>
    rw[hx]at g q2';obtain⟨w,g1,g2⟩:=g;rw[g1]
    exact q2' H2 (Same.refl H2) w g2
   | none=>
    rw[hx]at g q2';rw[g];exact q2' H2 (Same.refl H2) .non Rep.Ib
  ·exact q2'.elim
 | _=>exact q'.elim
theorem yN (hu:X.A.units+1<cLine):OpT X (J6 .In) xo:=by
 intro pins s σ H O x y vx vy ux uy Q I hf rx ry r1 r2 hp;unfold xo at hp
 split at hp
 ·rename_i ks vs k hk
  obtain⟨c,kvs,e1,e2,e3,e4,e5⟩:=Rep.GE.mp ry;obtain⟨b,f1,f2⟩:=fz hk rx;subst e1 f1;obtain rfl:uy=Jg c:=r2
  have g:=kg (k:=k) e4 e5
  have hsome:(jk ks vs k).isSome=(gz kvs k).isSome:=by
   cases hx:jk ks vs k with
   | some z=>rw[hx]at g;obtain⟨w,g1,_⟩:=g;rw[g1];rfl
   | none=>rw[hx]at g;rw[g];rfl
  refine d_in hu I (DGet.Io e3 f2) r1 λs' I'=>⟨.bl _,H,I',rfl,?_⟩
  rw[<-hsome];exact hp H (Same.refl H) _ (Rep.bl_ _)
 ·exact hp.elim
end
end Tr
namespace Tr
open PySem PySem.Spec PyProof.Rows L2
section
variable {X:Cx}{a b c:Expr}{fa fb fc:En->Rs T}{pos p2 p3 p4:Pos}{x:Str}
def Dh (X:Cx):TE:=λ_ H Q=> ∀p,Nw X.K H p->Q (.ref p) (upd H p (.dT []))
theorem yI:PE X (.Dict [] [] pos) (Dh X):=λpins s σ H Q I h=>by
 have hk:X.K.lookup s.heap.objs.size=none:=by
  cases q:X.K.lookup s.heap.objs.size with
  | none=>rfl
  | some o=>exact absurd (Ja (I.kIn _ o q)) (Ju _)
 exact wpAny_Dict_empty ⟨.ref s.heap.objs.size,_,I.laid (a:=s.heap.objs.size) (o:=.dT []) (t':=s.toks) (λ_ _ q=>IK _ q) (Jc _) (mZ s.heap I.big),rfl,h _ ⟨I.hok.fresh (Jc _),hk⟩⟩
theorem yr (i:Nat)(hN:X.N.Nodup)(hi:X.N[i]? =some x:=by rfl)(hx:autoParam (Loc X.env.scope x) x_)(hs:J0 (.Dict [] [] p2) (some (.Name x p3)) pos.line X.env=pure false:=by rfl)
  (hf:autoParam (X.fn x=true\/X.env.scope.names.lookup x=some .local) r_):ny X (.Assign [.Name x p3] (.Dict [] [] p2) pos) (pI i):=PS.imp (pR hN hi hx yI hs hf) λD σ H hh_=>by
 obtain⟨Z,B,M,E,h⟩:=hh_;unfold pI at h;intro p hp
 by_cases hl:i<Z.length
 ·rw[if_pos hl]at h
  have hm:∀a,a=p->Nw X.K H a:=λa z=>z▸hp
  obtain⟨E2,sub⟩:=E.new (m:=λa=>a=p) (o:=.dct [] []) (v:=.ref p) (H':=upd H p (.dT [])) hl hm (aS hp.1 _) ⟨p,[],rfl,λb=>Mt,aH,rfl,Reps.nil_⟩
  exact h _ _ _ (SameO.of (aS hp.1 _)) E2 sub
 ·rw[if_neg hl]at h
  exact h.elim
theorem DA (i:Nat)(hu:X.A.units+1<cLine)(hb:cy X b fb)(hc:cy X c fc)(hN:X.N[i]? =some x:=by rfl)(hv:autoParam (tW X.env.scope x) u_)
  (hd:autoParam ((x == ("__debug__" : Str))=false) s_) (hcd:autoParam ((x == ("__classdict__" : Str))=false) s_)
  (hs:J0 c (some (.Subscript (.Name x p2) b p3)) pos.line X.env=pure false:=by rfl):ny X (.Assign [.Subscript (.Name x p2) b p3] c pos) (nM i fb fc):=by
 intro pins s σ H D I ⟨Z,B,M,E,h⟩;refine vn hu (jC hN hv hd hcd) hb hc hs pins s σ H D I ?_
 unfold nM at h
 split at h
 ·rename_i ks vs hl
  obtain⟨v0,e1,d,kvs,rfl,hM,e3,e4,e5⟩:=E.env.own i _ hl;obtain⟨nd,nz⟩:=tK I e3;refine⟨Z,OO B M,E.o,?_⟩
  cases q:fc Z with
  | bad=>rw[q]at h;exact h.elim
  | err c=>rw[q]at h;exact PostF.xa h
  | ok vT=>
   rw[q,aG]at h;intro H1 s1 v r;refine⟨.ref d,e1,Z,OO B M,(E.same s1).o,?_⟩
   have h1:=h.later (SameO.of s1) (P1:=M.u) λa z=> .inl z
   cases q2:fb Z with
   | bad=>rw[q2]at h1;exact h1.elim
   | err c=>rw[q2]at h1;exact PostF.xa h1
   | ok kT=>
    rw[q2,aG]at h1;intro H2 s2 y ry
    cases q3:keyOf kT with
    | none=>rw[q3]at h1;exact h1.elim
    | some k=>
     rw[q3]at h1
     have h2:=h1.later (SameO.of s2) (P1:=M.u) λa z=> .inl z
     have hlen:ks.length=kvs.length:=by have:=congrArg J4 e4;simpa using this
     by_cases hz:ks.length<1000
     ·simp only[if_pos hz]at h2
      obtain⟨kb,f1,f2⟩:=fz q3 ry
      have e3':=s2 _ _ (s1 _ _ e3);obtain⟨g1,g2⟩:=kf q3 (r.same s2) e4 ((e5.same s1).same s2) nd;refine⟨d,upd H2 d (.dT (cz kvs k v)),rfl,by rw[f1];exact DPut.t e3' f2 (by rw[K0];omega),?_⟩
      have sm:SameO (M i) H2 (upd H2 d (.dT (cz kvs k v))):=λc u e nb=>by rw[aF (λz=>nb ((hM c).mpr z))];exact e
      obtain⟨g3,g4⟩:=((E.same s1).same s2).put (o':=.dct (fB kT vT ks vs).1 (fB kT vT ks vs).2) hl e1 sm ⟨d,_,rfl,hM,aH,g1,g2.move (P:=M i) (λa z=> .inl (.inr ⟨i,z⟩)) (λa z=> .inl z) sm⟩
      exact h2 σ _ M g4 g3 λc z=> .inl z
     ·simp only[if_neg hz]at h2
      exact h2.elim
 ·exact h.elim
theorem ri {k:List Key}:∀{kvs:List (List Key×V)} {as:List Addr} {v:V},kvs.map (·.2)=as.map V.ref->gz kvs k=some v->∃b∈as,v= .ref b
 | [],as,v,_,h=>by cases h
 | p::kvs,as,v,e,h=>by
  cases as with
  | nil=>cases e
  | cons b0 bs=>
   rw[IM,IM]at e;injection e with e1 e2
   by_cases hk:p.1=k
   ·rw[fF hk]at h
    cases h;exact⟨b0,IL,e1⟩
   ·rw[fG hk]at h
    obtain⟨b,hb,e⟩:=ri e2 h;exact⟨b,IJ _ hb,e⟩
theorem rS {K:II}{O:Ow}{H:Hp}{k:List Key}{r:List T×List T}:∀{ks:List T} {rows:List (List T×List T)} {kvs:List (List Key×V)} {as:List Addr},ks.map keyOf=kvs.map (λp=>some p.1)->kvs.map (·.2)=as.map V.ref->RowsR K O H rows as->nQ ks rows k=some r →
  ∃b kv,gz kvs k=some (.ref b)/\b∈as/\H b=some (.dT kv)/\r.1.map keyOf=kv.map (λp=>some p.1)/\Reps K O H r.2 (kv.map (·.2))
 | [],rows,kvs,as,h1,h2,h3,h=>by unfold nQ at h;cases h
 | k'::ks,rows,kvs,as,h1,h2,h3,h=>by
  cases rows with
  | nil=>unfold nQ at h;cases h
  | cons r0 rows=>
   cases kvs with
   | nil=>cases h1
   | cons p kvs=>
    rw[IM,IM]at h1;injection h1 with h1 h1'
    obtain⟨b0,bs,kv0,rfl,e2,e3,e4,e5⟩:=h3;rw[IM,IM]at h2;injection h2 with h2 h2'
    unfold nQ at h
    by_cases hk:keyOf k'=some k
    ·rw[if_pos hk]at h
     cases h;rw[h1]at hk;injection hk with hk
     exact⟨b0,kv0,by rw[fF hk,h2],IL,e2,e3,e4⟩
    ·rw[if_neg hk]at h
     have hk2:¬ p.1=k:=λz=>hk (by rw[h1,z])
     obtain⟨b,kv,g1,g2,g3⟩:=rS h1' h2' e5 h;exact⟨b,kv,by rw[fG hk2];exact g1,IJ _ g2,g3⟩
theorem rO {K:II}{O:Ow}{H H':Hp}{k:List Key}{xr:List T×List T}{b:Addr}{kv':List (List Key×V)}(hO:O b)(hS:SameO (λc=>c=b) H H')(hb:H' b=some (.dT kv'))(hx1:xr.1.map keyOf=kv'.map (λp=>some p.1))(hx2:Reps K O H' xr.2 (kv'.map (·.2))) :
  ∀{ks:List T} {rows:List (List T×List T)} {kvs:List (List Key×V)} {as:List Addr},ks.map keyOf=kvs.map (λp=>some p.1)->kvs.map (·.2)=as.map V.ref->RowsR K O H rows as->as.Nodup->gz kvs k=some (.ref b)->RowsR K O H' (nP k xr ks rows) as
 | [],rows,kvs,as,h1,h2,h3,hn,h=>by
  cases kvs with
  | nil=>cases h
  | cons _ _=>cases h1
 | k'::ks,rows,kvs,as,h1,h2,h3,hn,h=>by
  have inO:∀a,a=b->O a\/Nw K H a:=λa z=> .inl (z▸hO)
  cases kvs with
  | nil=>cases h1
  | cons p kvs=>
   rw[IM,IM]at h1;injection h1 with h1 h1'
   cases rows with
   | nil=>unfold RowsR at h3;subst h3;cases h2
   | cons r0 rows=>
    obtain⟨b0,bs,kv0,rfl,e2,e3,e4,e5⟩:=h3;rw[IM,IM]at h2;injection h2 with h2 h2'
    obtain⟨n1,n2⟩:=Jq.mp hn;unfold nP
    by_cases hk:keyOf k'=some k
    ·rw[if_pos hk]
     rw[h1]at hk;injection hk with hk
     rw[fF hk,h2]at h;cases h;exact⟨b,bs,kv',rfl,hb,hx1,hx2,e5.move (P:=λc=>c=b) inO (λa z=> .inl z) hS λc hc z=>n1 (z▸hc)⟩
    ·rw[if_neg hk]
     have hk2:¬ p.1=k:=λz=>hk (by rw[h1,z])
     rw[fG hk2]at h;obtain⟨b',hb',e'⟩:=ri h2' h;cases e'
     have hne:b0≠b:=λz=>n1 (z▸hb')
     exact⟨b0,bs,kv0,rfl,hS _ _ e2 hne,e3,e4.move (P:=λc=>c=b) inO (λa z=> .inl z) hS,rO hO hS hb hx1 hx2 h1' h2' e5 n2 h⟩
theorem Ba (i:Nat)(hu:X.A.units+1<cLine)(ha:cy X a fa)(hb:cy X b fb)(hc:cy X c fc)(hsl:autoParam (xF a) w_)(hN:X.N[i]? =some x:=by rfl)(hv:autoParam (tW X.env.scope x) u_)
  (hd:autoParam ((x == ("__debug__" : Str))=false) s_) (hcd:autoParam ((x == ("__classdict__" : Str))=false) s_)
  (hs:J0 c (some (.Subscript (.Subscript (.Name x p2) a p3) b p4)) pos.line X.env=pure false:=by rfl):ny X (.Assign [.Subscript (.Subscript (.Name x p2) a p3) b p4] c pos) (hY i fa fb fc):=by
 intro pins s σ H D I ⟨Z,B,M,E,h⟩;refine vn hu (vq hu (jC hN hv hd hcd) ha hsl) hb hc hs pins s σ H D I ?_
 unfold hY at h
 split at h
 ·rename_i ks rows hl
  obtain⟨v0,e1,d,kvs,as,rfl,hM,na,nas,e5,e6,e7,e8⟩:=E.env.own i _ hl;refine⟨Z,OO B M,E.o,?_⟩
  cases q:fc Z with
  | bad=>rw[q]at h;exact h.elim
  | err c=>rw[q]at h;exact PostF.xa h
  | ok vT=>
   rw[q,aG]at h;intro H1 s1 v r;refine⟨.ref d,e1,Z,OO B M,(E.same s1).o,?_⟩
   have h1:=h.later (SameO.of s1) (P1:=M.u) λa z=> .inl z
   cases q2:fa Z with
   | bad=>rw[q2]at h1;exact h1.elim
   | err c=>rw[q2]at h1;exact PostF.xa h1
   | ok aT=>
    rw[q2,aG]at h1;intro H2 s2 y ry
    have h2:=h1.later (SameO.of s2) (P1:=M.u) λa z=> .inl z
    have E2:=(E.same s1).same s2
    have s12:=s1.trans s2
    split at h2
    ·rename_i ka rr hk
     obtain⟨ka',q3,hk⟩:=Option.bind_eq_some_iff.mp hk;obtain⟨r',q4,hk⟩:=Kg.mp hk;cases hk;obtain⟨rb,kv,g1,g2,g3,g4,g5⟩:=rS e6 e7 e8 q4;obtain⟨ndr,nzr⟩:=tK I g3;obtain⟨ab,f1,f2⟩:=fz q3 ry;refine⟨d,.ref rb,rfl,by rw[f1,<-g1];exact DGet.t (s12 _ _ e5) f2,Z,OO B M,E2.o,?_⟩
     cases q5:fb Z with
     | bad=>rw[q5]at h2;exact h2.elim
     | err c=>rw[q5]at h2;exact PostF.xa h2
     | ok bT=>
      rw[q5,aG]at h2;intro H3 s3 y2 ry2
      have h3:=h2.later (SameO.of s3) (P1:=M.u) λa z=> .inl z
      have s13:=s12.trans s3
      have E3:=E2.same s3
      have hlen:rr.1.length=kv.length:=by have:=congrArg J4 g4;simpa using this
      by_cases hz:(keyOf bT).isSome=true/\rr.1.length<1000
      ·rw[if_pos hz]at h3
       obtain⟨kb,q6⟩:=Lh.mp hz.1;obtain⟨bb,f3,f4⟩:=fz q6 ry2;obtain⟨u1,u2⟩:=kf q6 ((r.same s2).same s3) g4 (g5.same s13) ndr;refine⟨rb,upd H3 rb (.dT (cz kv kb v)),rfl,by rw[f3];exact DPut.t (s13 _ _ g3) f4 (by rw[K0];omega),?_⟩
       have mrb:M i rb:=(hM rb).mpr (.inr g2)
       have hOb:OO B M rb:=.inr ⟨i,mrb⟩
       have sm1:SameO (λc=>c=rb) H3 (upd H3 rb (.dT (cz kv kb v))):=λc u e nb=>by rw[aF nb];exact e
       have sm:SameO (M i) H3 (upd H3 rb (.dT (cz kv kb v))):=λc u e nb=>sm1 c u e λz=>nb (z▸mrb)
       have inO:∀a,a=rb->OO B M a\/Nw X.K H3 a:=λa z=> .inl (z▸hOb)
       have dne:d≠rb:=λz=>na (z▸g2)
       obtain⟨g6,g7⟩:=E3.put (o':=.dd ks (nP ka (fB bT vT rr.1 rr.2) ks rows)) hl e1 sm ⟨d,kvs,as,rfl,hM,na,nas,sm1 _ _ (s13 _ _ e5) dne,e6,e7,rO hOb sm1 aH u1 (u2.move (P:=λc=>c=rb) inO (λa z=> .inl z) sm1) e6 e7 (e8.same s13) nas g1⟩
       exact h3 σ _ M g7 g6 λc z=> .inl z
      ·rw[if_neg hz]at h3
       exact h3.elim
    ·exact h2.elim
 ·exact h.elim
end
end Tr
namespace PySem
open Sem (wp)
namespace F
theorem lk_list_keys:NB (.type "list") "keys" =pure none:=by rw[MY,LG];kernel_rfl
theorem lk_list_getattr:NB (.type "list") "__getattr__" =pure none:=by rw[MY,LG];kernel_rfl
end F
section
variable {prog:Jp}{w:J2}{A:JO}{E:IQ->IR->Prop}{h:Heap}{g:Array O7}{d:Drawn}{t:Nat}{os:OsState}{a:Addr}{its:Array IQ}{n:Nat}
theorem lD {tk:Tok}{Q:Fin->IR->Prop}(hx:h.get? a=some { cls:=.type "list",data:=.seq its n })(hh:A.handled=none)
  (hq:∀h' tk' e,MU h h' e (.ref a) "keys"->E (.ref e) ⟨h',g,d,tk',os⟩) :
  wpAny (model prog w) A (Builtin.«object.__getattribute__» ⟨[.ref a,.str "keys" tk],[]⟩) Q E ⟨h,g,d,t,os⟩:=by
 have hT:(⟨h,g,d,t,os⟩:IR).TypeIs (.ref a) "list":=⟨_,hx,rfl⟩
 have f4:=F.lk_list_keys
 repeat (any_goals (first | assumption | wp_step))
 exact OA hh (λh' tk e hx=>hq h' tk e hx) (attrMsg_fits (by decide+kernel) (by rw[K0];decide))
theorem mM {tk:Tok}{R:Qy->IR->Prop}(hx:h.get? a=some { cls:=.type "list",data:=.seq its n })(hh:A.handled=none)
  (hq:∀h' tk' e,MU h h' e (.ref a) "keys"->R (.error (.ref e)) ⟨h',g,d,tk',os⟩) :
  codeAny (model prog w) A (.call (.builtin "list.__getattribute__") ⟨[.ref a,.str "keys" tk],[]⟩) R ⟨h,g,d,t,os⟩:=
 MM Lk.plain F.entry_list_ga (Lk.check _ _ _ _ _ _ _ _ (show(⟨h,g,d,t,os⟩:IR).TypeIs (.ref a) "list" from⟨_,hx,rfl⟩) (F.args_list_getattribute_2 _ _) (lD hx hh hq))
theorem mO {Q:Option IQ->IR->Prop}(hx:h.get? a=some { cls:=.type "list",data:=.seq its n })(hh:A.handled=none)
  (hq:∀h' tk',(∀b o,h.get? b=some o->h'.get? b=some o)->Q none ⟨h',g,d,tk',os⟩):wpAny (model prog w) A (getAttr? (.ref a) "keys") Q E ⟨h,g,d,t,os⟩:=by
 have hT:∀tk,(⟨h,g,d,tk,os⟩:IR).TypeIs (.ref a) "list":=λ_=>⟨_,hx,rfl⟩
 have f1:=Ph
 have f2:=Lk.lookup
 have f3:=Lk.bind (.ref a)
 have f5:=F.lk_list_getattr;unfold getAttr? getAttrBy? getAttrBy
 repeat (any_goals (first | assumption | exact hT _ | wp_step))
 refine mM hx hh λh' tk' e hx'=> ?_
 obtain⟨t',u',he⟩:=hx'.there
 repeat (any_goals (first | assumption | exact hT _ | wp_step))
 exact hq _ _ hx'.keeps
end
end PySem
namespace PySem.F
theorem entry_dict_update_loop:entryFor table "dict.update.loop" =some Builtin.«dict.update.loop»:=entryFor_of_tree (by kernel_rfl)
theorem plain_dict_update_loop:plainId "dict.update.loop" =true:=by decide+kernel
end PySem.F
namespace Tr
open PySem PySem.Spec PyProof.Rows L2
def dw (kvs:List (List Key×V)):List (List Key×V)->List (List Key×V)
 | [] =>kvs
 | p::ps=>dw (cz kvs p.1 p.2) ps
def PairsAt (H:Hp):List V->List (List Key×V)->Prop
 | [],ps=>ps= []
 | x::xs,ps=> ∃b kb p r,ps=p::r/\x= .ref b/\H b=some (.tup [.ref kb,p.2])/\H kb=some (.tup (p.1.map kV))/\PairsAt H xs r
theorem PairsAt.upd {H:Hp}{d:Addr}{kvs:List (List Key×V)}{o:HO}(hd:H d=some (.dT kvs)):∀{xs:List V} {ps:List (List Key×V)},PairsAt H xs ps->PairsAt (L2.upd H d o) xs ps
 | [],_,h=>h
 | x::xs,_,⟨b,kb,p,r,e1,e2,e3,e4,e5⟩=>⟨b,kb,p,r,e1,e2,by rw[aF (iG e3 hd (λz=>nomatch z))];exact e3,by rw[aF (iG e4 hd (λz=>nomatch z))];exact e4,e5.upd hd⟩
theorem iY {H:Hp}{d:Addr}{a b:HO}:upd (upd H d a) d b=upd H d b:=by
 funext c
 by_cases h:c=d
 ·rw[h,aH,aH]
 ·rw[aF h,aF h,aF h]
section
variable {X:Cx}{pins:List (Addr×Obj)}{σ:L2.St}{A:JO}{res:IQ}{R:Qy->IR->Prop}{d l it:Addr}{xs:List V}
theorem xp (hh:A.handled=none)(hu:A.units+3<cLine):∀(k i:Nat) (s:IR) (H:Hp) (kvs ps:List (List Key×V)),xs.length - i=k->i<=xs.length->H l=some (.lst xs)->H d=some (.dT kvs)->kvs.length+(xs.length - i)<=1000->Inv X pins σ H s->s.heap.IsListIter it l i->kx X pins H it->PairsAt H (xs.drop i) ps →
  (∀s',Inv X pins σ (upd H d (.dT (dw kvs ps))) s'->R (.ok (.ret res)) s')->codeAny (model X.prog X.w) A (.builtin "dict.update.loop" ⟨[.ref d,.ref it,rawInt i,res],[]⟩) R s:=by
 intro k
 induction k with
 | zero=>
  intro i s H kvs ps hk hi hl hd hz I hit hf hp hR;refine K1 F.entry_dict_update_loop ?_
  rw[Kt F.plain_dict_update_loop _];obtain⟨z,its,n,r,hlen,e⟩:=I.HP hl
  have hL:s.heap.IsList l its.toArray:=⟨_,e,rfl,n,rfl⟩
  show wpAny _ A.in1 (pyNext (.ref it) >>= _) _ _ s
  refine IH (On hh hit hL (by simp;omega) λh' hm=> ?_)
  show wpAny _ _ (Nm d [] >>= _) _ _ _
  refine IH (IS (IS ?_))
  have hnil:xs.drop i= []:=Lx (by omega)
  rw[hnil]at hp;unfold PairsAt at hp;subst hp
  have e2:upd H d (.dT (dw kvs []))=H:=by
   funext b
   by_cases hb:b=d
   ·rw[hb,aH,hd];rfl
   ·rw[aF hb]
  rw[e2]at hR
  exact hR _ (I.HH (fp:=[it]) (t':=s.toks) (λb hb=>by rw[IY.mp hb];exact hf) λb o hb eb=>hm b o (λz=>hb (by rw[z];exact IY.mpr rfl)) eb)
 | succ k ih=>
  intro i s H kvs ps hk hi hl hd hz I hit hf hp hR;refine K1 F.entry_dict_update_loop ?_
  rw[Kt F.plain_dict_update_loop _];obtain⟨z,its,n,r,hlen,e⟩:=I.HP hl
  have hL:s.heap.IsList l its.toArray:=⟨_,e,rfl,n,rfl⟩
  have hlt:i<xs.length:=by omega
  have hlt':i<its.length:=by omega
  show wpAny _ A.in1 (pyNext (.ref it) >>= _) _ _ s
  refine IH (N0 hit hL (x:=its[i]) (by simp[hlt']) λh' hit' hm=> ?_)
  have I1:Inv X pins σ H { s with heap:=h' }:=I.HH (fp:=[it]) (t':=s.toks) (λb hb=>by rw[IY.mp hb];exact hf) λb o hb eb=>(hm.2 b (λz=>hb (by rw[z];exact IY.mpr rfl))).trans eb
  have hdrop:xs.drop i=xs[i] ::xs.drop (i+1):=Ki hlt;rw[hdrop]at hp;obtain⟨b,kb,p,r',rfl,ex,hb,hkb,hp'⟩:=hp
  have rx:RelV xs[i] its[i]:=by
   obtain⟨u,q1,q2⟩:=r.get (IU hlt)
   rw[IU hlt']at q1
   cases q1;exact q2
  rw[ex]at rx
  have eu:its[i] =Jg b:=rx;rw[eu];obtain⟨z2,its2,r2,ob,hob1,hob2,nb,hob3⟩:=(show ObjOk X.prog X.w H h' b (.tup [.ref kb,p.2])from I1.hok b _ hb)
  obtain⟨u1,us1,q1,rfl⟩:∃u1 us1,RelV (V.ref kb) u1/\its2=u1::us1:=by cases r2 with | cons a b=>exact⟨_,_,a,rfl⟩
  cases r2 with
  | cons ra rb=>
   obtain⟨u2,q2,rfl⟩:∃u2,RelV p.2 u2/\us1= [u2]:=by cases rb with | cons a b=>cases b;exact⟨_,a,rfl⟩
   obtain rfl:u1=Jg kb:=q1
   show wpAny _ A.in1 (holding [Jg b] _ >>= _) _ _ _
   refine IH (Kj ?_)
   refine IH (wpAny_tryCatch ?_)
   unfold NX;refine IH (Mb (s:={ s with heap:=h' }) (T:="tuple") ⟨ob,hob1,hob2⟩ ?_)
   rw[if_pos (by decide)]
   refine IH (Ko (s:={ s with heap:=h' }) hob1 hob3 (IS ?_))
   show wpAny _ _ (holding [Jg kb,u2] (dictSet d (.ref kb) u2)) _ _ _
   refine Kj ?_
   obtain⟨zz,hds,xs2,rel,dd⟩:=vX I1.hok hd
   have hzl:xs2.length<=sizeLine:=by rw[<-Mf rel];exact zz
   have hkl:kvs.length<sizeLine:=by rw[K0];omega
   have hl2:(cz kvs p.1 p.2).length<=sizeLine:=by have:=dP kvs p.1 p.2;omega
   refine Pj (hsz:=hzl) (K9 (by show A.units+1<cLine;omega)) (gU I1.hok hkb) dd λh2 dd2 hs2=> ?_
   obtain⟨q,es,ep,hq,h22,h3,h4,_,h5⟩:=dd2
   have I2:Inv X pins σ (upd H d (.dT (cz kvs p.1 p.2))) { s with heap:=h2,toks:=s.toks+(MF (cb X.prog X.w)).draws p.1 }:=
    kj (s:={ s with heap:=h' }) I1 (by rw[hd];exact Lf) hs2 ⟨q,hq⟩ ⟨hl2,hds,_,(rel.put p.1 hkb q2).keeps λc ys ec=>by rw[aF (iG ec hd (λz=>nomatch z))];exact ec,q,es,ep,hq,h22,h3,h4,h5⟩
   have hld:l≠d:=iG hl hd (λz=>nomatch z)
   have hitd:it≠d:=λz=>by have:=hf.1;rw[z,hd]at this;cases this
   have hcast:(i:Int)+1=((i+1:Nat):Int):=by omega
   refine IS ⟨Ml F.plain_dict_update_loop _,?_⟩
   rw[hcast];refine ih (i+1) _ (upd H d (.dT (cz kvs p.1 p.2))) (cz kvs p.1 p.2) r' (by omega) (by omega) (by rw[aF hld];exact hl) aH (by have:=dP kvs p.1 p.2;omega) I2 ?_ ⟨by rw[aF hitd];exact hf.1,hf.2⟩ (hp'.upd hd) λs' I'=> ?_
   ·obtain⟨oi,ho1,ho2,ho3⟩:=hit'
    exact⟨oi,(hs2.2 it hitd).trans ho1,ho2,ho3⟩
   ·rw[iY]at I'
    exact hR s' I'
end
theorem PairsAt.same {H H':Hp}(s:Same H H'):∀{xs:List V} {ps:List (List Key×V)},PairsAt H xs ps->PairsAt H' xs ps
 | [],_,h=>h
 | x::xs,_,⟨b,kb,p,r,e1,e2,e3,e4,e5⟩=>⟨b,kb,p,r,e1,e2,s _ _ e3,s _ _ e4,e5.same s⟩
section
variable {X:Cx}{pins:List (Addr×Obj)}{σ:L2.St}{A:JO}{E:IQ->IR->Prop}{H:Hp}{s:IR}{l:Addr}{xs:List V}{ps:List (List Key×V)}
theorem tJ {Q:IQ->IR->Prop}(hh:A.handled=none)(hu:A.units+8<cLine)(I:Inv X pins σ H s)(hl:H l=some (.lst xs))(hz:xs.length<=1000)(hp:PairsAt H xs ps)
  (h:∀p s',Nw X.K H p->Inv X pins σ (upd H p (.dT (dw [] ps))) s'->Q (.ref p) s'):wpAny (model X.prog X.w) A (call (.type "dict") [.ref l]) Q E s:=by
 have hk:X.K.lookup s.heap.objs.size=none:=by
  cases q:X.K.lookup s.heap.objs.size with
  | none=>rfl
  | some o=>exact absurd (Ja (I.kIn _ o q)) (Ju _)
 have hn:H s.heap.objs.size=none:=I.hok.fresh (Jc _)
 have hlp:l≠s.heap.objs.size:=λz=>by rw[z,hn]at hl;cases hl
 refine callType_codes (Q₁:=λobj s₁=>obj= .ref s.heap.objs.size/\s₁= { s with heap:=s.heap.push { cls:=.type "dict",data:=.dict #[] } }) P2 (Oz _) Pv (Qb _ ⟨rfl,rfl⟩) ?_
 rintro obj s₁ ⟨rfl,rfl⟩
 have I1:Inv X pins σ (upd H s.heap.objs.size (.dT [])) { s with heap:=s.heap.push { cls:=.type "dict",data:=.dict #[] } }:=I.laid (a:=s.heap.objs.size) (o:=.dT []) (t':=s.toks) (λ_ _ q=>IK _ q) (Jc _) (mZ s.heap I.big)
 have hT:({ s with heap:=s.heap.push { cls:=.type "dict",data:=.dict #[] } }:IR).TypeIs (.ref s.heap.objs.size) "dict":=⟨_,IZ _ rfl,rfl⟩
 have hl1:upd H s.heap.objs.size (.dT []) l=some (.lst xs):=by rw[aF hlp];exact hl
 obtain⟨z,its,n,r,hlen,e⟩:=I1.HP hl1;refine⟨hT,OW _ _,?_⟩
 unfold Builtin.«dict.__init__»;refine IH ?_
 unfold Nn;refine IH (MH hT ?_)
 show wpAny _ _ (pure (s.heap.objs.size,[Jg l])) _ _ _
 refine IS ?_
 show wpAny _ _ (Ls "dict.__init__" s.heap.objs.size (.ref l) [] .none) _ _ _
 unfold Ls;refine IH (Mb (T:="list") ⟨_,e,rfl⟩ ?_)
 rw[if_pos (by decide)]
 refine IH (mO e hh λh' tk' kp=> ?_)
 have I2:Inv X pins σ (upd H s.heap.objs.size (.dT [])) { s with heap:=h',toks:=tk' }:=I1.kept (t':=tk') kp
 rw[if_pos (by rfl)]
 refine IH (NC ?_)
 have eL:({ s with heap:=h',toks:=tk' }:IR).heap.IsList l its.toArray:=⟨_,kp _ _ e,rfl,n,rfl⟩
 refine IH (LM eL ?_)
 have I3:Inv X pins σ (upd H s.heap.objs.size (.dT [])) { s with heap:=h'.push { cls:=.type "list_iterator",data:=.fields #[.ref l,.int 0 0] },toks:=tk' }:=I2.kept (t':=tk') λb u q=>IK _ q
 have hpl:s.heap.objs.size<h'.objs.size:=Ja (kp _ _ (IZ _ rfl))
 have hni:upd H s.heap.objs.size (.dT []) h'.objs.size=none:=by
  rw[aF (MA hpl)];exact I.hok.fresh (L8 hpl)
 have hp1:PairsAt (upd H s.heap.objs.size (.dT [])) xs ps:=hp.same (aS hn _);refine IS ⟨Ml F.plain_dict_update_loop _,?_⟩
 refine xp (A:=A.in1) (X:=X) (pins:=pins) (σ:=σ) (l:=l) (xs:=xs) (it:=h'.objs.size) hh (by show A.units+1+3<cLine;omega) xs.length 0 _ (upd H s.heap.objs.size (.dT [])) [] ps (by omega) (KP _) hl1 aH (by simp;omega) I3 ⟨_,IZ _ rfl,rfl,rfl⟩ (I2.HU (Jc _) hni) hp1 λs' I'=> ?_
 rw[iY]at I';exact⟨rfl,h _ _ ⟨hn,hk⟩ I'⟩
end
theorem HB {k:Nat}{A:JO}(h:Room k A):A.units+8<cLine:=by have:=h.un;omega
theorem uC {kvs:List (List Key×V)}{k:List Key}{v:V}(h:(kvs.map (·.1)).Nodup):((cz kvs k v).map (·.1)).Nodup:=by
 unfold cz
 by_cases a:(kvs.any λkv=>decide (kv.1=k))=true
 ·rw[if_pos a,JX]
  have:((λx=>x.1)∘λkv:List Key×V=>if kv.1=k then(kv.1,v)else kv)=λx=>x.1:=by
   funext x
   show(if x.1=k then(x.1,v)else x).1=x.1
   by_cases e:x.1=k
   ·rw[if_pos e]
   ·rw[if_neg e]
  rw[this];exact h
 ·rw[if_neg a,Jv,JR]
  refine⟨h,by simp,λx hx y hy=> ?_⟩
  simp only[IM,Oa,IY]at hy;subst hy;intro z;subst z;obtain⟨p,hp,e⟩:=Jh.mp hx;exact a (MI.mpr ⟨p,hp,decide_eq_true e⟩)
def Hk (K:II)(O:Ow)(H:Hp):List (T×T)->List (List Key×V)->Prop
 | [],ps=>ps= []
 | a::l,ps=> ∃p r,ps=p::r/\keyOf a.1=some p.1/\Rep K O H a.2 p.2/\Hk K O H l r
theorem kX {K:II}{O:Ow}{H:Hp}:∀{l:List (T×T)} {ps:List (List Key×V)} {ks ts:List T} {kvs:List (List Key×V)},Hk K O H l ps->ks.map keyOf=kvs.map (λp=>some p.1)->Reps K O H ts (kvs.map (·.2))->(kvs.map (·.1)).Nodup →
  (fS l (ks,ts)).1.map keyOf=(dw kvs ps).map (λp=>some p.1)/\Reps K O H (fS l (ks,ts)).2 ((dw kvs ps).map (·.2))
 | [],ps,ks,ts,kvs,h,h1,h2,hn=>by unfold Hk at h;subst h;exact⟨h1,h2⟩
 | (a,b)::l,ps,ks,ts,kvs,h,h1,h2,hn=>by
  obtain⟨p,r,rfl,e1,e2,e3⟩:=h;obtain⟨g1,g2⟩:=kf (vT:=b) e1 e2 h1 h2 hn
  show(fS l (fB a b ks ts)).1.map keyOf=(dw (cz kvs p.1 p.2) r).map (λp=>some p.1)/\Reps K O H (fS l (fB a b ks ts)).2 ((dw (cz kvs p.1 p.2) r).map (·.2))
  exact kX (l:=l) e3 g1 g2 (uC hn)
theorem vo {K:II}{O:Ow}{H:Hp}:∀{l:List T} {tps:List (T×T)} {xs:List V},prs l=some tps->Reps K O H l xs->∃ps,PairsAt H xs ps/\Hk K O H tps ps
 | [],tps,xs,h,r=>by cases Reps.AC.mp r;cases h;exact⟨[],rfl,rfl⟩
 | t::l,tps,xs,h,r=>by
  obtain⟨v,ws,rfl,p,q⟩:=Reps.me.mp r;unfold prs at h
  split at h
  ·rename_i heq;cases heq
  ·rename_i k v' l' heq
   cases heq
   split at h
   ·rename_i kk rr hk hr
    cases h;obtain⟨ps,g1,g2⟩:=vo hr q;obtain⟨b,vs,e1,e2,e3,e4⟩:=Rep.Fk.mp p;obtain⟨u1,us1,rfl,f1,f2⟩:=Reps.me.mp e4;obtain⟨u2,us2,rfl,f3,f4⟩:=Reps.me.mp f2;cases Reps.AC.mp f4;obtain⟨kb,f5,f6⟩:=fz hk f1;subst f5;exact⟨(kk,u2)::ps,⟨b,kb,(kk,u2),ps,rfl,e1,e3,f6,g1⟩,⟨(kk,u2),ps,rfl,hk,f3,g2⟩⟩
   ·cases h
  ·cases h
section
variable {X:Cx}{e:Expr}{f:En->Rs T}{x y:Str}{p pos p2 p3:Pos}
def Dg (X:Cx)(f:En->Rs T):TE:=λσ H Q=>tP X f σ H λv H'=> ∃a xs ps,v= .ref a/\H' a=some (.lst xs)/\xs.length<=1000/\PairsAt H' xs ps/\∀q,Nw X.K H' q->Q (.ref q) (upd H' q (.dT (dw [] ps)))
theorem yJ (hu:X.A.units+8<cLine)(hc:X.calm=true)(hm:X.mg "dict" =none)(ha:cy X e f)(hg:Gl X "dict")(hs:bz e=true):PE X (.Call (.Name "dict" p) [e] [] pos) (Dg X f):=by
 have h1:Jj [e] X.env=(false,eval e X.env)::Jj [] X.env:=aW hs;intro pins s σ H Q I hq;refine JV (fo I hg hm (show Jw "dict" =some (.type "dict")by decide+kernel) ?_ (by decide) (by decide))
 refine JL (cq (dX (te:=tP X f) ha iz h1 pos pins s σ H (λxs H'=> ∃v,xs= [v]/\∃a xs ps,v= .ref a/\H' a=some (.lst xs)/\xs.length<=1000/\PairsAt H' xs ps/\∀q,Nw X.K H' q->Q (.ref q) (upd H' q (.dT (dw [] ps)))) I ?_) λus s1 hh=> ?_) h1 rfl
 ·obtain⟨Z,O,E,h⟩:=hq
  exact⟨Z,O,E,Post.mono h λt H' _ g v r=>⟨v,rfl,g v r⟩⟩
 ·obtain⟨vs,H1,I1,r1,v,rfl,a,xs,ps,ev,e1,e2,e3,e4⟩:=hh
  subst ev;obtain⟨u,rfl,ru⟩:=r1.one;obtain rfl:u=Jg a:=ru;exact tJ (I1.ok.hd hc) hu I1 e1 e2 e3 λq s' nw I'=>⟨.ref q,_,I',rfl,e4 q nw⟩
theorem Bc (i:Nat)(hu:X.A.units+8<cLine)(hc:X.calm=true)(hm:X.mg "dict" =none)(hN:X.N.Nodup)(ha:cy X e f)(hst:bz e=true:=by rfl)(hg:Gl X "dict":=by rfl)(hi:X.N[i]? =some x:=by rfl)(hx:autoParam (Loc X.env.scope x) x_)(hs:J0 (.Call (.Name "dict" p) [e] [] p2) (some (.Name x p3)) pos.line X.env=pure false:=by rfl)
  (hf:autoParam (X.fn x=true\/X.env.scope.names.lookup x=some .local) r_):ny X (.Assign [.Name x p3] (.Call (.Name "dict" p) [e] [] p2) pos) (oj i f):=PS.imp (pR hN hi hx (yJ hu hc hm ha hg hst) hs hf) λD σ H hh_=>by
 obtain⟨Z,B,M,E,h⟩:=hh_;refine⟨Z,OO B M,E.o,?_⟩
 unfold oj at h
 cases q:f Z with
 | bad=>rw[q]at h;exact h.elim
 | err c=>rw[q]at h;exact PostF.xa h
 | ok t=>
  rw[q,aG]at h;intro H1 s1 v r
  have h1:=h.later (SameO.of s1) (P1:=M.u) λa z=> .inl z
  cases t with
  | lst l=>
   obtain⟨a,xs,rfl,e2,e3,e4⟩:=Rep.Do.mp r;unfold vZ at h1
   split at h1
   ·rename_i l' heq
    cases heq
    split at h1
    ·rename_i tps hps
     by_cases hz:l.length<=1000
     ·rw[if_pos hz,aG]at h1
      obtain⟨ps,g1,g2⟩:=vo hps e4;refine⟨a,xs,ps,rfl,e3,by rw[<-e4.length];exact hz,g1,λnd nw=> ?_⟩
      by_cases hl:i<Z.length
      ·simp only[if_pos hl]at h1
       have hm:∀a,a=nd->Nw X.K H1 a:=λa z=>z▸nw
       obtain⟨k1,k2⟩:=kX (ks:=[]) (ts:=[]) (kvs:=[]) g2 rfl Reps.nil_ KU;obtain⟨E2,sub⟩:=(E.same s1).new (m:=λa=>a=nd) (o:=.dct (fS tps ([],[])).1 (fS tps ([],[])).2) (v:=.ref nd) (H':=upd H1 nd (.dT (dw [] ps))) hl hm (aS nw.1 _) ⟨nd,_,rfl,λb=>Mt,aH,k1,(k2.more (Ev.subO hm)).same (aS nw.1 _)⟩
       exact h1 _ _ _ (SameO.of (aS nw.1 _)) E2 sub
      ·simp only[if_neg hl]at h1;exact h1.elim
     ·rw[if_neg hz]at h1;exact h1.elim
    ·exact h1.elim
   ·rename_i hno
    exact(hno l rfl).elim
  | _=>exact h1.elim
end
theorem eF {K:II}{O:Ow}{H:Hp}:∀{l:List T} {ns:List Int} {xs:List V} {us:List IQ},eV l=some ns->Reps K O H l xs->Vals xs us->MK us ns
 | [],ns,xs,us,h,r,v=>by cases Reps.AC.mp r;cases v;cases h;exact .nil
 | t::l,ns,xs,us,h,r,v=>by
  obtain⟨w,ws,rfl,p,q⟩:=Reps.me.mp r
  cases v with
  | cons v1 v2=>
   cases t with
   | int i=>
    unfold eV at h;obtain⟨m,h1,rfl⟩:=Kg.mp h;cases Rep.Da.mp p;obtain⟨k,rfl⟩:=v1
    exact .cons _ _ (eF h1 q v2)
   | _=>cases h
theorem oB:∀(l:List Int) (i:Int),fN i l∈i::l/\∀a∈i::l,fN i l<=a
 | [],i=>⟨IL,λa h=>by cases IY.mp h;exact Ke _⟩
 | j::l,i=>by
  obtain⟨h1,h2⟩:=oB l (if j<i then j else i)
  unfold fN
  have h3:=h2 _ IL;refine⟨?_,λa ha=> ?_⟩
  ·rcases IW.mp h1 with e | e
   ·rw[e]
    by_cases h:j<i
    ·rw[if_pos h];simp
    ·rw[if_neg h];simp
   ·exact IJ _ (IJ _ e)
  ·rcases IW.mp ha with rfl | ha
   ·by_cases h:j<a
    ·rw[if_pos h]at h3 ⊢;omega
    ·rw[if_neg h]at h3 ⊢;omega
   ·rcases IW.mp ha with rfl | ha
    ·by_cases h:a<i
     ·rw[if_pos h]at h3 ⊢;omega
     ·rw[if_neg h]at h3 ⊢;omega
    ·exact h2 a (IJ _ ha)
theorem oC:∀(l:List Int) (i:Int),gi i l∈i::l/\∀a∈i::l,a<=gi i l
 | [],i=>⟨IL,λa h=>by cases IY.mp h;exact Ke _⟩
 | j::l,i=>by
  obtain⟨h1,h2⟩:=oC l (if i<j then j else i)
  unfold gi
  have h3:=h2 _ IL;refine⟨?_,λa ha=> ?_⟩
  ·rcases IW.mp h1 with e | e
   ·rw[e]
    by_cases h:i<j
    ·rw[if_pos h];simp
    ·rw[if_neg h];simp
   ·exact IJ _ (IJ _ e)
  ·rcases IW.mp ha with rfl | ha
   ·by_cases h:a<j
    ·rw[if_pos h]at h3 ⊢;omega
    ·rw[if_neg h]at h3 ⊢;omega
   ·rcases IW.mp ha with rfl | ha
    ·by_cases h:i<a
     ·rw[if_pos h]at h3 ⊢;omega
     ·rw[if_neg h]at h3 ⊢;omega
    ·exact h2 a (IJ _ ha)
section
variable {X:Cx}
theorem Fi (hc:X.calm=true):CallT X (.builtin "sum") x9:=by
 intro pins s σ H O ts vs us Q I hf rs rv hp;unfold x9 at hp
 split at hp
 ·rename_i l
  obtain⟨v,rfl,r⟩:=rs.one
  split at hp
  ·rename_i ns hk
   obtain⟨a,ws,rfl,n,q,z⟩:=Rep.Do.mp r;obtain⟨u,rfl,ru⟩:=iq rv;cases ru;obtain⟨its,r',pl,hz⟩:=I.list (SqL.of q)
   have hi:=eF hk z r';obtain⟨xs,e⟩:=hi.allInts.items
   have hns:ns=xs.toList.map (·.1):=by rw[<-hi.numsOf,<-NO,<-e]
   have hl:s.heap.IsList a (Nd xs):=by rw[<-e];exact pl.isList
   refine sum_intListG (I.ok.hd hc) hl λh' tk t' hk'=>⟨.int _,H,I.kept (t':=tk) hk',⟨_,rfl⟩,?_⟩
   have:preSum (numAt xs) xs.size=ns.sum:=by rw[hns,preSum_eq,Ly (by simp)]
   rw[this];exact hp H (Same.refl H) _ (Rep.Gc _)
  ·exact hp.elim
 ·exact hp.elim
theorem Ah (hc:X.calm=true):CallT X (.builtin "min") qm:=by
 intro pins s σ H O ts vs us Q I hf rs rv hp;unfold qm at hp
 split at hp
 ·rename_i l
  obtain⟨v,rfl,r⟩:=rs.one
  split at hp
  ·rename_i i ns hk
   obtain⟨a,ws,rfl,n,q,z⟩:=Rep.Do.mp r;obtain⟨u,rfl,ru⟩:=iq rv;cases ru;obtain⟨its,r',pl,hz⟩:=I.list (SqL.of q)
   have hi:=eF hk z r';obtain⟨xs,e⟩:=hi.allInts.items
   have hns:i::ns=xs.toList.map (·.1):=by rw[<-hi.numsOf,<-NO,<-e]
   have hl:s.heap.IsList a (Nd xs):=by rw[<-e];exact pl.isList
   have hsz:0<xs.size:=by
    have h3:=congrArg J4 hns;rw[IV,IP]at h3;rw[<-Jt];omega
   refine min_intList (I.ok.hd hc) hl hsz λv h' tk hv hk'=> ?_
   obtain⟨t,rfl⟩:=QF hv;obtain⟨h1,h2⟩:=argBest_lt (numAt xs) (xs.size - 1);refine⟨.int _,H,I.kept (t':=tk) hk',⟨_,rfl⟩,?_⟩
   have eM:numAt xs (argBest (λi j=>decide (numAt xs i<numAt xs j)) (xs.size - 1))=fN i ns:=by
    obtain⟨g1,g2⟩:=oB ns i
    have m1:numAt xs (argBest (λi j=>decide (numAt xs i<numAt xs j)) (xs.size - 1))∈i::ns:=by
     rw[hns,numAt_eq];exact PySem.getD_mem (by rw[IP,Jt];omega)
    have k1:=g2 _ m1;rw[hns]at g1;obtain⟨j,hj,ej⟩:=mem_getD g1;rw[IP,Jt]at hj;rw[<-numAt_eq]at ej
    have k2:=h2 j (by omega)
    rw[ej]at k2;exact Qr k2 k1
   rw[eM];exact hp H (Same.refl H) _ (Rep.Gc _)
  ·exact hp.elim
 ·rename_i i j
  obtain⟨v,ws,rfl,p,q⟩:=Reps.me.mp rs;obtain⟨v2,rfl,p2⟩:=q.one;cases Rep.Da.mp p;cases Rep.Da.mp p2;refine xw hc pins s σ H _ us Q I rv ⟨i,j,rfl,?_⟩
  exact hp H (Same.refl H) _ (Rep.Gc _)
 ·exact hp.elim
theorem Fj (hc:X.calm=true):CallT X (.builtin "max") wY:=by
 intro pins s σ H O ts vs us Q I hf rs rv hp;unfold wY at hp
 split at hp
 ·rename_i l
  obtain⟨v,rfl,r⟩:=rs.one
  split at hp
  ·rename_i i ns hk
   obtain⟨a,ws,rfl,n,q,z⟩:=Rep.Do.mp r;obtain⟨u,rfl,ru⟩:=iq rv;cases ru;obtain⟨its,r',pl,hz⟩:=I.list (SqL.of q)
   have hi:=eF hk z r';obtain⟨xs,e⟩:=hi.allInts.items
   have hns:i::ns=xs.toList.map (·.1):=by rw[<-hi.numsOf,<-NO,<-e]
   have hl:s.heap.IsList a (Nd xs):=by rw[<-e];exact pl.isList
   have hsz:0<xs.size:=by
    have h3:=congrArg J4 hns;rw[IV,IP]at h3;rw[<-Jt];omega
   refine max_intList (I.ok.hd hc) hl hsz λv h' tk hv hk'=> ?_
   obtain⟨t,rfl⟩:=QF hv;obtain⟨h1,h2⟩:=argBest_gt (numAt xs) (xs.size - 1);refine⟨.int _,H,I.kept (t':=tk) hk',⟨_,rfl⟩,?_⟩
   have eM:numAt xs (argBest (λi j=>decide (numAt xs i > numAt xs j)) (xs.size - 1))=gi i ns:=by
    obtain⟨g1,g2⟩:=oC ns i
    have m1:numAt xs (argBest (λi j=>decide (numAt xs i > numAt xs j)) (xs.size - 1))∈i::ns:=by
     rw[hns,numAt_eq];exact PySem.getD_mem (by rw[IP,Jt];omega)
    have k1:=g2 _ m1;rw[hns]at g1;obtain⟨j,hj,ej⟩:=mem_getD g1;rw[IP,Jt]at hj;rw[<-numAt_eq]at ej
    have k2:=h2 j (by omega)
    rw[ej]at k2;exact Qr k1 k2
   rw[eM];exact hp H (Same.refl H) _ (Rep.Gc _)
  ·exact hp.elim
 ·rename_i i j
  obtain⟨v,ws,rfl,p,q⟩:=Reps.me.mp rs;obtain⟨v2,rfl,p2⟩:=q.one;cases Rep.Da.mp p;cases Rep.Da.mp p2;refine xy hc pins s σ H _ us Q I rv ⟨i,j,rfl,?_⟩
  exact hp H (Same.refl H) _ (Rep.Gc _)
 ·exact hp.elim
end
end Tr
namespace Tr
def fH:List T->Option (List (List Int))
 | [] =>some []
 | .tup l::r=>match eV l,fH r with
  | some ns,some k=>if ns= []then none else some (ns::k)
  | _,_=>none
 | _=>none
theorem sS:∀l,fO l l=false
 | [] =>rfl
 | a::l=>by unfold fO;rw[if_pos rfl];exact sS l
theorem qw:∀a b c,fO a b=true->fO b c=true->fO a c=true
 | [],[],_,h,_=>absurd h (by simp[fO])
 | _::_,[],_,h,_=>absurd h (by simp[fO])
 | [],_::_,[],_,h=>absurd h (by simp[fO])
 | [],_::_,_::_,_,_=>rfl
 | _::_,_::_,[],_,h=>absurd h (by simp[fO])
 | x::a,y::b,z::c,h,g=>by
  unfold fO at h g ⊢
  by_cases e:x=y
  ·subst e
   rw[if_pos rfl]at h
   by_cases e2:x=z
   ·rw[if_pos e2]at g ⊢;exact qw a b c h g
   ·rw[if_neg e2]at g ⊢;exact g
  ·rw[if_neg e]at h
   by_cases e2:y=z
   ·subst e2;rw[if_neg e];exact h
   ·rw[if_neg e2]at g
    have h1:=of_decide_eq_true h
    have h2:=of_decide_eq_true g;rw[if_neg (by omega)]
    exact decide_eq_true (by omega)
theorem mK:∀a b,fO a b=false->fO b a=false->a=b
 | [],[],_,_=>rfl
 | [],_::_,h,_=>absurd h (by simp[fO])
 | _::_,[],_,h=>absurd h (by simp[fO])
 | x::a,y::b,h,g=>by
  unfold fO at h g
  by_cases e:x=y
  ·subst e
   rw[if_pos rfl]at h g;rw[mK a b h g]
  ·rw[if_neg e]at h
   rw[if_neg (λz=>e z.symm)]at g
   have h1:=of_decide_eq_false h
   have h2:=of_decide_eq_false g;omega
theorem zd (a b c:List Int)(h:fO a c=true):fO a b=true\/fO b c=true:=by
 cases h1:fO a b with
 | true=>exact .inl rfl
 | false=>
  cases h2:fO b a with
  | true=>exact .inr (qw _ _ _ h2 h)
  | false=>rw[<-mK _ _ h1 h2];exact .inr h
end Tr
namespace Tr
open PySem PySem.Spec PyProof.Rows L2
section
variable {X:Cx}
theorem gF:∀{m:List T} {ns:List Int},eV m=some ns->m=ns.map .int
 | [],ns,h=>by cases h;rfl
 | t::m,ns,h=>by
  cases t with
  | int i=>
   unfold eV at h;obtain⟨k,h1,rfl⟩:=Kg.mp h
   rw[gF h1];rfl
  | _=>cases h
end
variable (R:RK)
variable {R:RK}
def RK.kind (R:RK)(h:Heap):PyProof.Rows.KeyKind:={ α:=List Int,blt:=fO,irrefl:=sS,trans:=qw,negTrans:=zd,total:=mK,keyOf:=R.key h,dflt:=[] }
def RK.row (R:RK)(h:Heap)(v:IQ):List Int:=(R.key h v).getD []
end Tr
namespace Tr
def G5:List T->Rs T
 | [.lst l,.tup m] =>if gI l=true/\l.length=m.length/\1<=l.length/\l.length<=1000 then .ok (.dct (fS (l.zip m) ([],[])).1 (fS (l.zip m) ([],[])).2)else .bad
 | _=> .bad
end Tr
namespace PySem
open Sem (wp)
namespace F
theorem zk_keys:NB (.type "zip") "keys" =pure none:=by rw[MY,LG];kernel_rfl
theorem zk_ga:NB (.type "zip") "__getattr__" =pure none:=by rw[MY,LG];kernel_rfl
theorem zk_entry:entryFor table "zip.__getattribute__" =some Builtin.«object.__getattribute__»:=
 entryFor_alias (id':="object.__getattribute__") (by kernel_rfl) (by first | rfl | decide+kernel | (unfold String.splitOn;simp+decide [String.splitOnAux])) (by decide+kernel) (by kernel_rfl)
end F
abbrev zO (h:Heap)(z ti to:Addr)(f0 f1:IQ):Prop:=h.get? z=some { cls:=.type "zip",dict:=none,data:=.fields #[f0,f1,.bool false,.ref ti,.ref to],slots:=#[] }
section
variable {prog:Jp}{w:J2}{A:JO}{E:IQ->IR->Prop}{h:Heap}{g:Array O7}{d:Drawn}{t:Nat}{os:OsState}{z ti to:Addr}{f0 f1:IQ}
theorem zk1 {tk:Tok}{Q:Fin->IR->Prop}(hx:zO h z ti to f0 f1)(hh:A.handled=none)(hq:∀h' tk' e,MU h h' e (.ref z) "keys"->E (.ref e) ⟨h',g,d,tk',os⟩) :
  wpAny (model prog w) A (Builtin.«object.__getattribute__» ⟨[.ref z,.str "keys" tk],[]⟩) Q E ⟨h,g,d,t,os⟩:=by
 have hT:(⟨h,g,d,t,os⟩:IR).TypeIs (.ref z) "zip":=⟨_,hx,rfl⟩
 have f4:=F.zk_keys
 repeat (any_goals (first | assumption | wp_step))
 exact OA hh (λh' tk e hx=>hq h' tk e hx) (attrMsg_fits (by decide+kernel) (by rw[K0];decide))
theorem zk2 {tk:Tok}{R:Qy->IR->Prop}(hx:zO h z ti to f0 f1)(hh:A.handled=none)(hq:∀h' tk' e,MU h h' e (.ref z) "keys"->R (.error (.ref e)) ⟨h',g,d,tk',os⟩) :
  codeAny (model prog w) A (.call (.builtin "zip.__getattribute__") ⟨[.ref z,.str "keys" tk],[]⟩) R ⟨h,g,d,t,os⟩:=
 MM Lv.plain F.zk_entry (Lv.check _ _ _ _ _ _ _ _ (show(⟨h,g,d,t,os⟩:IR).TypeIs (.ref z) "zip" from⟨_,hx,rfl⟩) (F.args_zip_getattribute_2 _ _) (zk1 hx hh hq))
theorem zk3 {Q:Option IQ->IR->Prop}(hx:zO h z ti to f0 f1)(hh:A.handled=none)(hq:∀h' tk',(∀b o,h.get? b=some o->h'.get? b=some o)->Q none ⟨h',g,d,tk',os⟩):wpAny (model prog w) A (getAttr? (.ref z) "keys") Q E ⟨h,g,d,t,os⟩:=by
 have hT:∀tk,(⟨h,g,d,tk,os⟩:IR).TypeIs (.ref z) "zip":=λ_=>⟨_,hx,rfl⟩
 have f1:=Ph
 have f2:=Lv.lookup
 have f3:=Lv.bind (.ref z)
 have f5:=F.zk_ga;unfold getAttr? getAttrBy? getAttrBy
 repeat (any_goals (first | assumption | exact hT _ | wp_step))
 refine zk2 hx hh λh' tk' e hx'=> ?_
 obtain⟨t',u',he⟩:=hx'.there
 repeat (any_goals (first | assumption | exact hT _ | wp_step))
 exact hq _ _ hx'.keeps
end
structure Zp (h:Heap)(n l1 t2 k:Nat)(xs ys:Array IQ):Prop where
 b1:l1<n
 b2:t2<n
 pr:MZ h (n+2) (.ref n) (.ref (n+1))
 i1:h.IsListIter n l1 k
 i2:h.IsTupleIter (n+1) t2 k
 s1:h.IsList l1 xs
 s2:h.IsTuple t2 ys
theorem gd {h h':Heap}{a:Addr}{xs:Array IQ}(x:h.IsTuple a xs)(e:∀o,h.get? a=some o->h'.get? a=some o):h'.IsTuple a xs:=let ⟨o,ho,r⟩:=x;⟨o,e _ ho,r⟩
theorem Zp.keep {h h':Heap}{n l1 t2 k:Nat}{xs ys:Array IQ}(q:Zp h n l1 t2 k xs ys)(e:∀c o,c<n+3->h.get? c=some o->h'.get? c=some o):Zp h' n l1 t2 k xs ys where
 b1:=q.b1
 b2:=q.b2
 pr:=e _ _ (by omega) q.pr
 i1:=q.i1.at λo=>e _ o (by omega)
 i2:=q.i2.at λo=>e _ o (by omega)
 s1:=q.s1.at λo=>e _ o (by have:=q.b1;omega)
 s2:=gd q.s2 λo=>e _ o (by have:=q.b2;omega)
section
variable {prog:Jp}{w:J2}{A:JO}{E:IQ->IR->Prop}{s:IR}{n l1 t2 k:Nat}{xs ys:Array IQ}{x y:IQ}
theorem rh {a:Addr}{Q:Option Obj->IR->Prop}(q:Q (s.heap.get? a) s):wpAny (model prog w) A (loadIfAlive a) Q E s:=λΓ p _=>by
 show Sem.wp _ _ (Sem.loadIfAlive a pure) _ _ _ _
 rw[Sem.wp_loadIfAlive];exact q
end
section
variable {prog:Jp}{w:J2}{A:JO}{E:IQ->IR->Prop}{s:IR}{n l1 t2 k:Nat}{xs ys:Array IQ}{x y:IQ}
theorem ez {a b:Nat}(h:a<b\/b<a):a≠b:=by omega
theorem Zp.one {h h':Heap}(q:Zp h n l1 t2 k xs ys)(i:h'.IsListIter n l1 (k+1))(e:Lr n h h'):h'.IsTupleIter (n+1) t2 k/\h'.IsList l1 xs/\h'.IsTuple t2 ys/\MZ h' (n+2) (.ref n) (.ref (n+1)):=by
 have b1:=q.b1
 have b2:=q.b2;exact⟨q.i2.at λo g=>e.extBut _ _ (ez (by omega)) g,q.s1.at λo g=>e.extBut _ _ (ez (by omega)) g,gd q.s2 λo g=>e.extBut _ _ (ez (by omega)) g,e.extBut _ _ (ez (by omega)) q.pr⟩
theorem rg {T:Addr}{ob:Obj}{f:Bool}{Q:Bool->IR->Prop}(kz:zO s.heap (n+4) (n+2) (n+3) (rawInt T) (.bool f))(kT:s.heap.get? T=some ob)
  (hk:∀h',zO h' (n+4) (n+2) (n+3) (rawInt T) (.bool true)->(∀c o,c≠n+4->s.heap.get? c=some o->h'.get? c=some o)->h'.objs.size=s.heap.objs.size->Q false { s with heap:=h' }):wpAny (model prog w) A (Jx (.ref (n+4))) Q E s:=by
 unfold Jx;refine IH (Ka kz rfl (x:=rawInt T) rfl ?_)
 show wpAny _ _ (loadIfAlive (Int.toNat (T:Int)) >>= _) _ _ _
 rw[JD];refine IH (rh ?_)
 rw[kT]
 show wpAny _ _ (field (.ref (n+4)) 1 >>= _) _ _ _
 refine IH (Ka kz rfl (x:=.bool f) rfl ?_)
 cases f with
 | true=>
  rw[if_neg (by decide)]
  exact IS (hk _ kz (λ_ _ _ e=>e) rfl)
 | false=>
  rw[if_pos (by decide)]
  refine IH (Mm kz (by simp) λh₁ kz₁ hs₁=>IS (hk h₁ kz₁ (λc o c1 e=>hs₁.extBut _ _ c1 e) hs₁.1))
theorem xQ {T:Addr}{ob:Obj}{f:Bool}{Q:IQ->IR->Prop}(q:Zp s.heap n l1 t2 k xs ys)(kz:zO s.heap (n+4) (n+2) (n+3) (rawInt T) (.bool f))(kT:s.heap.get? T=some ob)(hx:xs[k]? =some x)(hy:ys[k]? =some y)
  (kq:∀h' p,s.heap.objs.size<=p->MZ h' p x y->zO h' (n+4) (n+2) (n+3) (rawInt T) (.bool true)->Zp h' n l1 t2 (k+1) xs ys->(∀c o,c≠n->c≠n+1->c≠n+4->s.heap.get? c=some o->h'.get? c=some o)->Q (.ref p) { s with heap:=h' }) :
  wpAny (model prog w) A (Builtin.«zip.__next__» ⟨[.ref (n+4)],[]⟩) (λfin s'=> ∃v,fin= .done (.ret v)/\Q v s') E s:=by
 have b1:=q.b1
 have b2:=q.b2
 show wpAny _ _ (field (.ref (n+4)) 2 >>= _) _ _ _
 refine IH (Ka kz rfl (x:=.bool false) rfl ?_)
 show wpAny _ _ (field (.ref (n+4)) 3 >>= _) _ _ _
 refine IH (Ka kz rfl (x:=.ref (n+2)) rfl ?_)
 refine IH (Ko q.pr rfl ?_)
 show wpAny _ _ (Jx (.ref (n+4)) >>= _) _ _ _
 refine IH (rg kz kT λh₁ kz₁ e₁ z₁=> ?_)
 have q₁:Zp h₁ n l1 t2 k xs ys:=q.keep λc o hc g=>e₁ c o (by omega) g
 simp only[KJ,if_false,OY,Mh,Ng];refine IH (IH (IH (Kj ?_)))
 show wpAny _ _ (JI (.ref n) >>= _) _ _ _
 refine IH (N4 q₁.i1 q₁.s1 hx λh₂ g₂ e₂=>IS ?_)
 obtain⟨r1,r2,r3,r4⟩:=q₁.one g₂ e₂;refine IS (IH (IH (Kj ?_)))
 show wpAny _ _ (JI (.ref (n+1)) >>= _) _ _ _
 refine IH (Enu.tupNext r1 r3 hy λh₃ g₃ e₃=>IS (IS (IS ?_)))
 show wpAny _ _ (newTuple [x,y] >>= _) _ _ _
 refine IH (wpAny_newTuple (IS ⟨_,rfl,?_⟩))
 have z₃:h₃.objs.size=s.heap.objs.size:=by rw[e₃.1,e₂.1,z₁]
 have up:∀c o,c≠n->c≠n+1->h₁.get? c=some o->(h₃.push { cls:=.type "tuple",data:=.seq #[x,y] }).get? c=some o:=λc o c1 c2 g=>IK _ (e₃.extBut _ _ c2 (e₂.extBut _ _ c1 g))
 refine kq _ h₃.objs.size (L9 z₃.symm) (IZ _ rfl) (up _ _ (ez (by omega)) (ez (by omega)) kz₁) ⟨b1,b2,up _ _ (ez (by omega)) (ez (by omega)) q₁.pr,?_,?_,?_,?_⟩ λc o c1 c2 c4 g=>up c o c1 c2 (e₁ c o c4 g)
 ·exact g₂.at λo g=>IK _ (e₃.extBut _ _ (ez (by omega)) g)
 ·exact g₃.at λo g=>IK _ g
 ·exact q₁.s1.at λo g=>up _ o (ez (by omega)) (ez (by omega)) g
 ·exact gd q₁.s2 λo g=>up _ o (ez (by omega)) (ez (by omega)) g
theorem wt {a b:IQ}{Q:IQ->IR->Prop}(q:Zp s.heap n l1 t2 k xs ys)(kz:zO s.heap (n+4) (n+2) (n+3) .none (.bool false))(ho:MZ s.heap (n+3) a b)(hx:xs[k]? =some x)(hy:ys[k]? =some y)
  (kq:∀h' p,s.heap.objs.size<=p->MZ h' p x y->zO h' (n+4) (n+2) (n+3) (rawInt p) (.bool false)->Zp h' n l1 t2 (k+1) xs ys->(∀c o,c≠n->c≠n+1->c≠n+3->c≠n+4->s.heap.get? c=some o->h'.get? c=some o)->Q (.ref p) { s with heap:=h' }) :
  wpAny (model prog w) A (Builtin.«zip.__next__» ⟨[.ref (n+4)],[]⟩) (λfin s'=> ∃v,fin= .done (.ret v)/\Q v s') E s:=by
 have b1:=q.b1
 have b2:=q.b2
 show wpAny _ _ (field (.ref (n+4)) 2 >>= _) _ _ _
 refine IH (Ka kz rfl (x:=.bool false) rfl ?_)
 show wpAny _ _ (field (.ref (n+4)) 3 >>= _) _ _ _
 refine IH (Ka kz rfl (x:=.ref (n+2)) rfl ?_)
 refine IH (Ko q.pr rfl ?_)
 show wpAny _ _ (Jx (.ref (n+4)) >>= _) _ _ _
 have fr:wpAny (model prog w) A (Jx (.ref (n+4))) (λv s'=>v=true/\s'=s) E s:=by
  unfold Jx;exact IH (Ka kz rfl (x:=.none) rfl (IS ⟨rfl,rfl⟩))
 refine IH (LL fr (λv s' hv=> ?_) λ_ _ z=>z)
 obtain⟨rfl,rfl⟩:=hv;simp only[if_true];refine IH (NC (IH (Ka kz rfl (x:=.ref (n+3)) rfl (IH (Mm kz (by simp) λh₁ kz₁ e₁=> ?_)))))
 replace kz₁:zO h₁ (n+4) (n+2) (n+3) .ellipsis (.bool false):=kz₁
 have q₁:Zp h₁ n l1 t2 k xs ys:=q.keep λc o hc g=>e₁.extBut c o (ez (by omega)) g
 simp only[List.zipIdx_cons,List.zipIdx_nil,Mh,Ng];refine IH (IH (IH (wpAny_onRaise ?_)))
 show wpAny _ _ (JI (.ref n) >>= _) _ _ _
 refine IH (N4 q₁.i1 q₁.s1 hx λh₂ g₂ e₂=>IS ?_)
 obtain⟨r1,r2,r3,r4⟩:=q₁.one g₂ e₂
 have o₂:MZ h₂ (n+3) a b:=e₂.extBut _ _ (ez (by omega)) (e₁.extBut _ _ (ez (by omega)) ho)
 refine IH (Ko o₂ rfl (IH (OB o₂ λh₃ o₃ e₃=>IH (wpAny_letGo (IS ?_)))))
 replace o₃:MZ h₃ (n+3) x b:=o₃
 refine IH (IH (wpAny_onRaise ?_))
 show wpAny _ _ (JI (.ref (n+1)) >>= _) _ _ _
 refine IH (Enu.tupNext (r1.at λo g=>e₃.extBut _ _ (ez (by omega)) g) (gd r3 λo g=>e₃.extBut _ _ (ez (by omega)) g) hy λh₄ g₄ e₄=>IS ?_)
 have o₄:MZ h₄ (n+3) x b:=e₄.extBut _ _ (ez (by omega)) o₃
 refine IH (Ko o₄ rfl (IH (OB o₄ λh₅ o₅ e₅=>IH (wpAny_letGo (IS (IS ?_))))))
 replace o₅:MZ h₅ (n+3) x y:=o₅
 refine IH (Ko o₅ rfl (IH (wpAny_newTuple ?_)))
 have z₅:h₅.objs.size=s'.heap.objs.size:=by rw[e₅.1,e₄.1,e₃.1,e₂.1,e₁.1]
 have up:∀c o,c≠n->c≠n+1->c≠n+3->h₁.get? c=some o->h₅.get? c=some o:=λc o c1 c2 c3 g=>e₅.extBut _ _ c3 (e₄.extBut _ _ c2 (e₃.extBut _ _ c3 (e₂.extBut _ _ c1 g)))
 show wpAny _ _ (LW (.ref (n+4)) (.ref h₅.objs.size) >>= _) _ _ _
 have z5:zO (h₅.push { cls:=.type "tuple",data:=.seq #[x,y] }) (n+4) (n+2) (n+3) .ellipsis (.bool false):=IK _ (up _ _ (ez (by omega)) (ez (by omega)) (ez (by omega)) kz₁)
 have hn:n+4<h₅.objs.size:=Ja (up _ _ (ez (by omega)) (ez (by omega)) (ez (by omega)) kz₁)
 refine IH ?_
 unfold LW;refine IH (Mm z5 (by simp) λh₇ z₇ e₇=> ?_)
 replace z₇:zO h₇ (n+4) (n+2) (n+3) (rawInt h₅.objs.size) (.bool false):=z₇
 refine Mm z₇ (by simp) λh₈ z₈ e₈=>IS ⟨_,rfl,?_⟩
 replace z₈:zO h₈ (n+4) (n+2) (n+3) (rawInt h₅.objs.size) (.bool false):=z₈
 have up8:∀c o,c≠n+4->h₅.get? c=some o->h₈.get? c=some o:=λc o c1 g=>e₈.extBut _ _ c1 (e₇.extBut _ _ c1 (IK _ g))
 refine kq h₈ h₅.objs.size (L9 z₅.symm) (e₈.extBut _ _ (ez (by omega)) (e₇.extBut _ _ (ez (by omega)) (IZ _ rfl))) z₈ ⟨b1,b2,up8 _ _ (ez (by omega)) (up _ _ (ez (by omega)) (ez (by omega)) (ez (by omega)) q₁.pr),?_,?_,?_,?_⟩ λc o c1 c2 c3 c4 g=>up8 c o c4 (up c o c1 c2 c3 (e₁.extBut _ _ c4 g))
 ·exact g₂.at λo g=>up8 _ _ (ez (by omega)) (e₅.extBut _ _ (ez (by omega)) (e₄.extBut _ _ (ez (by omega)) (e₃.extBut _ _ (ez (by omega)) g)))
 ·exact g₄.at λo g=>up8 _ _ (ez (by omega)) (e₅.extBut _ _ (ez (by omega)) g)
 ·exact q₁.s1.at λo g=>up8 _ _ (ez (by omega)) (up _ o (ez (by omega)) (ez (by omega)) (ez (by omega)) g)
 ·exact gd q₁.s2 λo g=>up8 _ _ (ez (by omega)) (up _ o (ez (by omega)) (ez (by omega)) (ez (by omega)) g)
theorem xP {T:Addr}{ob:Obj}{f:Bool}{Q:Fin->IR->Prop}(hh:A.handled=none)(q:Zp s.heap n l1 t2 k xs ys)(kz:zO s.heap (n+4) (n+2) (n+3) (rawInt T) (.bool f))(kT:s.heap.get? T=some ob)(hx:xs[k]? =none)
  (ke:∀h' e,(∀c o,c≠n->c≠n+4->s.heap.get? c=some o->h'.get? c=some o)->(∃o,h'.get? e=some o/\o.cls= .type "StopIteration")->E (.ref e) { s with heap:=h' }) :
  wpAny (model prog w) A (Builtin.«zip.__next__» ⟨[.ref (n+4)],[]⟩) Q E s:=by
 show wpAny _ _ (field (.ref (n+4)) 2 >>= _) _ _ _
 refine IH (Ka kz rfl (x:=.bool false) rfl ?_)
 show wpAny _ _ (field (.ref (n+4)) 3 >>= _) _ _ _
 refine IH (Ka kz rfl (x:=.ref (n+2)) rfl ?_)
 refine IH (Ko q.pr rfl ?_)
 show wpAny _ _ (Jx (.ref (n+4)) >>= _) _ _ _
 refine IH (rg kz kT λh₁ kz₁ e₁ z₁=> ?_)
 have q₁:Zp h₁ n l1 t2 k xs ys:=q.keep λc o hc g=>e₁ c o (by omega) g
 simp only[KJ,if_false,OY,Mh,Ng];refine IH (IH (IH (Kj ?_)))
 show wpAny _ _ (JI (.ref n) >>= _) _ _ _
 exact IH (wpAny_nextOf_list_end hh q₁.i1 q₁.s1 hx λh₂ e e₂ he=>ke h₂ e (λc o c1 c4 g=>e₂ _ _ c1 (e₁ c o c4 g)) he)
theorem AI {T:Addr}{ob:Obj}{f:Bool}{Q:Option IQ->IR->Prop}(q:Zp s.heap n l1 t2 k xs ys)(kz:zO s.heap (n+4) (n+2) (n+3) (rawInt T) (.bool f))(kT:s.heap.get? T=some ob)(hx:xs[k]? =some x)(hy:ys[k]? =some y)
  (kq:∀h' p,s.heap.objs.size<=p->MZ h' p x y->zO h' (n+4) (n+2) (n+3) (rawInt T) (.bool true)->Zp h' n l1 t2 (k+1) xs ys->(∀c o,c≠n->c≠n+1->c≠n+4->s.heap.get? c=some o->h'.get? c=some o)->Q (some (.ref p)) { s with heap:=h' }) :
  wpAny (model prog w) A (pyNext (.ref (n+4))) Q E s:=by
 have hy':s.TypeIs (.ref (n+4)) "zip":=⟨_,kz,rfl⟩;unfold pyNext;exact IH (Mk (JH (name:=Jb "__next__") hy' Ll (J1 Ll hy' NS (xQ q kz kT hx hy λh' p a1 a2 a3 a4 a5=>IS (kq h' p a1 a2 a3 a4 a5)) (Nu _))))
theorem xO {a b:IQ}{Q:Option IQ->IR->Prop}(q:Zp s.heap n l1 t2 k xs ys)(kz:zO s.heap (n+4) (n+2) (n+3) .none (.bool false))(ho:MZ s.heap (n+3) a b)(hx:xs[k]? =some x)(hy:ys[k]? =some y)
  (kq:∀h' p,s.heap.objs.size<=p->MZ h' p x y->zO h' (n+4) (n+2) (n+3) (rawInt p) (.bool false)->Zp h' n l1 t2 (k+1) xs ys->(∀c o,c≠n->c≠n+1->c≠n+3->c≠n+4->s.heap.get? c=some o->h'.get? c=some o)->Q (some (.ref p)) { s with heap:=h' }) :
  wpAny (model prog w) A (pyNext (.ref (n+4))) Q E s:=by
 have hy':s.TypeIs (.ref (n+4)) "zip":=⟨_,kz,rfl⟩;unfold pyNext;exact IH (Mk (JH (name:=Jb "__next__") hy' Ll (J1 Ll hy' NS (wt q kz ho hx hy λh' p a1 a2 a3 a4 a5=>IS (kq h' p a1 a2 a3 a4 a5)) (Nu _))))
theorem AH {T:Addr}{ob:Obj}{f:Bool}{Q:Option IQ->IR->Prop}(hh:A.handled=none)(q:Zp s.heap n l1 t2 k xs ys)(kz:zO s.heap (n+4) (n+2) (n+3) (rawInt T) (.bool f))(kT:s.heap.get? T=some ob)(hx:xs[k]? =none)
  (kq:∀h',(∀c o,c≠n->c≠n+4->s.heap.get? c=some o->h'.get? c=some o)->Q none { s with heap:=h' }):wpAny (model prog w) A (pyNext (.ref (n+4))) Q E s:=by
 have hy':s.TypeIs (.ref (n+4)) "zip":=⟨_,kz,rfl⟩;unfold pyNext;refine IH (Mk (JH (name:=Jb "__next__") hy' Ll (J1 Ll hy' NS (xP hh q kz kT hx λh' e a1 he=> ?_) (Nu _))))
 obtain⟨o,ho,hc⟩:=he;exact IH (NV (T:="StopIteration") (b:=true) ⟨o,ho,hc⟩ OF (IS (kq _ a1)))
theorem AJ {f0 f1:IQ}{Q:IQ->IR->Prop}(kz:zO s.heap (n+4) (n+2) (n+3) f0 f1)(h:Q (.ref (n+4)) s):wpAny (model prog w) A (pyIter (.ref (n+4))) Q E s:=by
 have hy':s.TypeIs (.ref (n+4)) "zip":=⟨_,kz,rfl⟩;refine PF hy' Qs (J1 Qs hy' F.entry_zip_iter ?_ (F.args_zip_iter_1 _))
 show wpAny _ _ (ret (.ref (n+4))) _ _ s
 exact IS ⟨_,rfl,"zip",_,hy',Ll.lookup,h⟩
end
abbrev FH (h:Heap)(l t:Addr):Heap:=h.push { cls:=.type "list_iterator",data:=.fields #[.ref l,.int 0 0] }
abbrev Hs (h:Heap)(l t:Addr):Heap:=(FH h l t).push { cls:=.type "tuple_iterator",data:=.fields #[.ref t,.int 0 0] }
abbrev Hr (h:Heap)(l t:Addr):Heap:=(Hs h l t).push { cls:=.type "tuple",data:=.seq #[.ref h.objs.size,.ref (FH h l t).objs.size] }
abbrev Hq (h:Heap)(l t:Addr):Heap:=(Hr h l t).push { cls:=.type "tuple",data:=.seq #[.none,.none] }
abbrev CA (h:Heap)(l t:Addr):Heap:=(Hq h l t).push { cls:=.type "zip",data:=.fields #[.none,.bool false,.bool false,.ref (Hs h l t).objs.size,.ref (Hr h l t).objs.size] }
theorem wX (l t:Addr)(xs ys:Array IQ):Meets (Builtin.«zip.__new__» ⟨[.type "zip",.ref l,.ref t],[]⟩) (λ_ R s=>s.heap.IsList l xs/\s.heap.IsTuple t ys/\R (.ok (.ret (.ref (Hq s.heap l t).objs.size))) { s with heap:=CA s.heap l t }):=
 .of_wp λprog w A R s q=>by
  obtain⟨hp,g,d,tk,os⟩:=s;obtain⟨a1,a2,q⟩:=q
  have k0:=sub_zip
  have k1:Heap.IsList (Qn ⟨hp,g,d,tk,os⟩) l xs:=a1
  have k2:Heap.IsTuple (Qn ⟨FH hp l t,g,d,tk,os⟩) t ys:=gd a2 λo e=>IK _ e
  wp_walk using LM k1,K8 k2
  exact⟨_,rfl,q⟩
section
variable {prog:Jp}{w:J2}{A:JO}{E:IQ->IR->Prop}{s:IR}
theorem AK {l t:Addr}{xs ys:Array IQ}{Q:IQ->IR->Prop}(a1:s.heap.IsList l xs)(a2:s.heap.IsTuple t ys)
  (q:∀h',Zp h' s.heap.objs.size l t 0 xs ys->zO h' (s.heap.objs.size+4) (s.heap.objs.size+2) (s.heap.objs.size+3) .none (.bool false)->MZ h' (s.heap.objs.size+3) .none .none->h'.objs.size=s.heap.objs.size+5 →
   (∀c o,s.heap.get? c=some o->h'.get? c=some o)->Q (.ref (s.heap.objs.size+4)) { s with heap:=h' }) :
  wpAny (model prog w) A (call (.type "zip") [.ref l,.ref t]) Q E s:=by
 refine callType_new F.called_zip (by decide) (F.typeCall_zip_2 _ _) (F.newCall_zip_2 _ _) (λobj=>F.args_object_init_3 obj _ _) F.entry_zip_new (wX l t xs ys) ⟨a1,a2,?_⟩
 have z1:(FH s.heap l t).objs.size=s.heap.objs.size+1:=Kc ..
 have z2:(Hs s.heap l t).objs.size=s.heap.objs.size+2:=by rw[Kc,z1]
 have z3:(Hr s.heap l t).objs.size=s.heap.objs.size+3:=by rw[Kc,z2]
 have z4:(Hq s.heap l t).objs.size=s.heap.objs.size+4:=by rw[Kc,z3]
 have z5:(CA s.heap l t).objs.size=s.heap.objs.size+5:=by rw[Kc,z4]
 have g5:(CA s.heap l t).get? (Hq s.heap l t).objs.size=some _:=IZ _ rfl
 have g4:(CA s.heap l t).get? (Hr s.heap l t).objs.size=some _:=IK _ (IZ _ rfl)
 have g3:(CA s.heap l t).get? (Hs s.heap l t).objs.size=some _:=IK _ (IK _ (IZ _ rfl))
 have g2:(CA s.heap l t).get? (FH s.heap l t).objs.size=some _:=IK _ (IK _ (IK _ (IZ _ rfl)))
 have g1:(CA s.heap l t).get? s.heap.objs.size=some _:=IK _ (IK _ (IK _ (IK _ (IZ _ rfl))))
 have up:∀c o,s.heap.get? c=some o->(CA s.heap l t).get? c=some o:=λc o e=>IK _ (IK _ (IK _ (IK _ (IK _ e))))
 show _/\_
 rw[z2,z3,z4]at g5;rw[z1,z2]at g3;rw[z3]at g4;rw[z1]at g2;rw[z4]
 have lt1:l<s.heap.objs.size:=by obtain⟨o,e,_⟩:=a1;exact Ja e
 have lt2:t<s.heap.objs.size:=by obtain⟨o,e,_⟩:=a2;exact Ja e
 exact⟨⟨_,g5,rfl⟩,q _ ⟨lt1,lt2,g3,⟨_,g1,rfl,rfl⟩,⟨_,g2,rfl,rfl⟩,a1.at λo e=>up _ o e,gd a2 λo e=>up _ o e⟩ g5 g4 z5 up⟩
end
end PySem
namespace Tr
open PySem PySem.Spec PyProof.Rows L2
def ZAt (H:Hp):List V->List V->List (List Key×V)->Prop
 | [],[],ps=>ps= []
 | x::xs,y::ys,ps=> ∃kb p r,ps=p::r/\x= .ref kb/\H kb=some (.tup (p.1.map kV))/\p.2=y/\ZAt H xs ys r
 | _,_,_=>False
theorem ZAt.mono {H H':Hp}(h:∀b vs,H b=some (.tup vs)->H' b=some (.tup vs)):∀{xs ys:List V} {ps:List (List Key×V)},ZAt H xs ys ps->ZAt H' xs ys ps
 | [],[],_,z=>z
 | [],_::_,_,z=>z
 | _::_,[],_,z=>z
 | x::xs,y::ys,_,⟨kb,p,r,e1,e2,e3,e4,e5⟩=>⟨kb,p,r,e1,e2,h _ _ e3,e4,e5.mono h⟩
theorem ZAt.len {H:Hp}:∀{xs ys:List V} {ps:List (List Key×V)},ZAt H xs ys ps->xs.length=ys.length
 | [],[],_,_=>rfl
 | [],_::_,_,z=>z.elim
 | _::_,[],_,z=>z.elim
 | x::xs,y::ys,_,⟨kb,p,r,e1,e2,e3,e4,e5⟩=>by rw[IV,IV,e5.len]
section
variable {X:Cx}{pins:List (Addr×Obj)}{σ:L2.St}{A:JO}{res:IQ}{R:Qy->IR->Prop}{d it:Addr}
theorem vY {Ex:Heap->Prop}{i:Nat}{s:IR}{H:Hp}{kvs:List (List Key×V)}{kb:Addr}{kk:List Key}{v:V}(hu:A.units+3<cLine)(hd:H d=some (.dT kvs))(hz:kvs.length<1000)(hk:H kb=some (.tup (kk.map kV)))
  (hn:∀{Q:Option IQ->IR->Prop} {E:IQ->IR->Prop},(∀h' p u2,Inv X pins σ H { s with heap:=h' }->MZ h' p (.ref kb) u2->RelV v u2->Ex h'->Q (some (.ref p)) { s with heap:=h' })->wpAny (model X.prog X.w) A.in1 (pyNext (.ref it)) Q E s)
  (nx:∀h' h2 tk,Ex h'->(∀c,c≠d->h2.get? c=h'.get? c)->Inv X pins σ (upd H d (.dT (cz kvs kk v))) { s with heap:=h2,toks:=tk }->codeAny (model X.prog X.w) A (.builtin "dict.update.loop" ⟨[.ref d,.ref it,rawInt ((i+1:Nat):Int),res],[]⟩) R { s with heap:=h2,toks:=tk }) :
  codeAny (model X.prog X.w) A (.builtin "dict.update.loop" ⟨[.ref d,.ref it,rawInt (i:Nat),res],[]⟩) R s:=by
 refine K1 F.entry_dict_update_loop ?_
 rw[Kt F.plain_dict_update_loop _]
 show wpAny _ A.in1 (pyNext (.ref it) >>= _) _ _ s
 refine IH (hn λh' p u2 I1 hp q2 hx=> ?_)
 show wpAny _ A.in1 (holding [Jg p] _ >>= _) _ _ _
 refine IH (Kj (IH (wpAny_tryCatch ?_)))
 unfold NX;refine IH (Mb (s:={ s with heap:=h' }) (T:="tuple") ⟨_,hp,rfl⟩ ?_)
 rw[if_pos (by decide)]
 refine IH (Ko (s:={ s with heap:=h' }) hp rfl (IS ?_))
 show wpAny _ _ (holding [Jg kb,u2] (dictSet d (.ref kb) u2)) _ _ _
 refine Kj ?_
 obtain⟨zz,hds,xs2,rel,dd⟩:=vX I1.hok hd
 have hzl:xs2.length<=sizeLine:=by rw[<-Mf rel];exact zz
 have hkl:kvs.length<sizeLine:=by rw[K0];omega
 have hl2:(cz kvs kk v).length<=sizeLine:=by have:=dP kvs kk v;omega
 refine Pj (hsz:=hzl) (K9 (by show A.units+1<cLine;omega)) (gU I1.hok hk) dd λh2 dd2 hs2=> ?_
 obtain⟨q,es,ep,hq,h22,h3,h4,_,h5⟩:=dd2
 have I2:Inv X pins σ (upd H d (.dT (cz kvs kk v))) { s with heap:=h2,toks:=s.toks+(MF (cb X.prog X.w)).draws kk }:=
  kj (s:={ s with heap:=h' }) I1 (by rw[hd];exact Lf) hs2 ⟨q,hq⟩ ⟨hl2,hds,_,(rel.put kk hk q2).keeps λc ys ec=>by rw[aF (iG ec hd (λz=>nomatch z))];exact ec,q,es,ep,hq,h22,h3,h4,h5⟩
 have hcast:(i:Int)+1=((i+1:Nat):Int):=by omega
 refine IS ⟨Ml F.plain_dict_update_loop _,?_⟩
 rw[hcast];exact nx h' h2 _ hx (λc hc=>hs2.2 c hc) I2
theorem Ff {s:IR}{i:Nat}(hn:∀{Q:Option IQ->IR->Prop} {E:IQ->IR->Prop},(∀h',R (.ok (.ret res)) { s with heap:=h' }->Q none { s with heap:=h' })->wpAny (model X.prog X.w) A.in1 (pyNext (.ref it)) Q E s) :
  codeAny (model X.prog X.w) A (.builtin "dict.update.loop" ⟨[.ref d,.ref it,rawInt (i:Nat),res],[]⟩) R s:=by
 refine K1 F.entry_dict_update_loop ?_
 rw[Kt F.plain_dict_update_loop _]
 show wpAny _ A.in1 (pyNext (.ref it) >>= _) _ _ s
 refine IH (hn λh' hr=> ?_)
 show wpAny _ _ (Nm d [] >>= _) _ _ _
 exact IH (IS (IS hr))
theorem AL {n l1 t2:Nat}{us ws:Array IQ}{xs ys:List V}{T:Addr}(hh:A.handled=none)(hu:A.units+3<cLine)(rx:Vals xs us.toList)(ry:Vals ys ws.toList)(hTn:n+4<T)(hTd:T≠d):∀(k i:Nat) (s:IR) (H:Hp) (kvs ps:List (List Key×V)) (f:Bool) (ob:Obj),xs.length - i=k->i<=xs.length->H d=some (.dT kvs)->kvs.length+(xs.length - i)<=1000 →
  Inv X pins σ H s->Zp s.heap n l1 t2 i us ws->zO s.heap (n+4) (n+2) (n+3) (rawInt T) (.bool f)->s.heap.get? T=some ob->(∀j:Nat,j<5->kx X pins H (n+j))->l1≠d->t2≠d->ZAt H (xs.drop i) (ys.drop i) ps →
  (∀s',Inv X pins σ (upd H d (.dT (dw kvs ps))) s'->R (.ok (.ret res)) s')->codeAny (model X.prog X.w) A (.builtin "dict.update.loop" ⟨[.ref d,.ref (n+4),rawInt i,res],[]⟩) R s:=by
 have lenx:=rx.length
 have leny:=ry.length;intro k
 induction k with
 | zero=>
  intro i s H kvs ps f ob hk hi hd hz I q kz kT hf hl1 ht2 hp hR
  have hnil:xs.drop i= []:=Lx (by omega)
  have hny:ys.drop i= []:=by
   have:=hp.len;rw[hnil]at this;exact List.length_eq_zero_iff.mp this.symm
  rw[hnil,hny]at hp;unfold ZAt at hp;subst hp
  have e2:upd H d (.dT (dw kvs []))=H:=by
   funext b
   by_cases hb:b=d
   ·rw[hb,aH,hd];rfl
   ·rw[aF hb]
  rw[e2]at hR;refine Ff λ{Q E} hq=>AH hh q kz kT (by rw[NY];rw[<-Jt];omega) λh' e=>hq h' (hR _ ?_)
  exact I.HH (fp:=[n,n+4]) (t':=s.toks) (λb hb=>by
   simp only[IW,JQ,or_false]at hb;rcases hb with rfl | rfl
   ·exact hf 0 (by omega)
   ·exact hf 4 (by omega)) λb o hb eb=>e b o (λz=>hb (by rw[z];simp)) (λz=>hb (by rw[z];simp)) eb
 | succ k ih=>
  intro i s H kvs ps f ob hk hi hd hz I q kz kT hf hl1 ht2 hp hR
  have hlt:i<xs.length:=by omega
  have hdx:xs.drop i=xs[i] ::xs.drop (i+1):=Ki hlt
  have hyl:i<ys.length:=by
   have:=hp.len;rw[KO,KO]at this;omega
  have hdy:ys.drop i=ys[i] ::ys.drop (i+1):=Ki hyl;rw[hdx,hdy]at hp;obtain⟨kb,p,r,rfl,ex,hkb,ep,hp'⟩:=hp;obtain⟨u1,q1,q2⟩:=rx.get (IU hlt)
  obtain⟨u2,q3,q4⟩:=ry.get (IU hyl)
  rw[MB]at q1 q3
  rw[ex]at q2;obtain rfl:u1=Jg kb:=q2;rw[<-ep]at q4
  have hd0:∀j:Nat,j<5->n+j≠d:=λj hj z=>by have:=(hf j hj).1;rw[z,hd]at this;cases this
  refine vY (pins:=pins) (σ:=σ) (Ex:=λh'=>Zp h' n l1 t2 (i+1) us ws/\zO h' (n+4) (n+2) (n+3) (rawInt T) (.bool true)/\h'.get? T=some ob) hu hd (by omega) hkb (λ{Q E} hq=>AI q kz kT q1 q3 λh' b _ a2 a3 a4 a5=>hq h' b u2 ?_ a2 q4 ⟨a4,a3,a5 _ _ (ez (by omega)) (ez (by omega)) (ez (by omega)) kT⟩) λh1 h2 tk hx3 e2 I2=> ?_
  ·exact I.HH (fp:=[n,n+1,n+4]) (t':=s.toks) (λb hb=>by
    simp only[IW,JQ,or_false]at hb;rcases hb with rfl | rfl | rfl
    ·exact hf 0 (by omega)
    ·exact hf 1 (by omega)
    ·exact hf 4 (by omega)) λb o hb eb=>a5 b o (λz=>hb (by rw[z];simp)) (λz=>hb (by rw[z];simp)) (λz=>hb (by rw[z];simp)) eb
  ·obtain⟨x1,x2,x3⟩:=hx3
   have lt1:=x1.b1
   have lt2:=x1.b2
   have x1':Zp h2 n l1 t2 (i+1) us ws:=⟨x1.b1,x1.b2,(e2 _ (hd0 2 (by omega))).trans x1.pr,x1.i1.at λo g=>(e2 _ (hd0 0 (by omega))).trans g,x1.i2.at λo g=>(e2 _ (hd0 1 (by omega))).trans g,x1.s1.at λo g=>(e2 _ hl1).trans g,gd x1.s2 λo g=>(e2 _ ht2).trans g⟩
   refine ih (i+1) _ (upd H d (.dT (cz kvs p.1 p.2))) (cz kvs p.1 p.2) r true ob (by omega) (by omega) aH (by have:=dP kvs p.1 p.2;omega) I2 x1' ((e2 _ (hd0 4 (by omega))).trans x2) ((e2 _ hTd).trans x3) (λj hj=>⟨by rw[aF (hd0 j hj)];exact(hf j hj).1,(hf j hj).2⟩) hl1 ht2 (hp'.mono λb vs e=>by rw[aF (iG e hd (λz=>nomatch z))];exact e) λs' I'=> ?_
   rw[iY]at I';exact hR s' I'
end
section
variable {X:Cx}{pins:List (Addr×Obj)}{σ:L2.St}{A:JO}{E:IQ->IR->Prop}{H:Hp}{s:IR}{n l1 t2:Nat}{us ws:Array IQ}{xs ys:List V}{ps:List (List Key×V)}
theorem Cj {Q:IQ->IR->Prop}(hh:A.handled=none)(hu:A.units+8<cLine)(I:Inv X pins σ H s)(q:Zp s.heap n l1 t2 0 us ws)(kz:zO s.heap (n+4) (n+2) (n+3) .none (.bool false))(ko:MZ s.heap (n+3) .none .none)
  (hf:∀j:Nat,j<5->kx X pins H (n+j)) (rx:Vals xs us.toList) (ry:Vals ys ws.toList) (h1:1<=xs.length) (hz:xs.length<=1000) (hp:ZAt H xs ys ps)
  (h:∀p s',Nw X.K H p->Inv X pins σ (upd H p (.dT (dw [] ps))) s'->Q (.ref p) s'):wpAny (model X.prog X.w) A (call (.type "dict") [.ref (n+4)]) Q E s:=by
 have hk:X.K.lookup s.heap.objs.size=none:=by
  cases q:X.K.lookup s.heap.objs.size with
  | none=>rfl
  | some o=>exact absurd (Ja (I.kIn _ o q)) (Ju _)
 have hn:H s.heap.objs.size=none:=I.hok.fresh (Jc _)
 have z4:n+4<s.heap.objs.size:=Ja kz
 have b1:=q.b1
 have b2:=q.b2;refine callType_codes (Q₁:=λobj s₁=>obj= .ref s.heap.objs.size/\s₁= { s with heap:=s.heap.push { cls:=.type "dict",data:=.dict #[] } }) P2 (Oz _) Pv (Qb _ ⟨rfl,rfl⟩) ?_
 rintro obj s₁ ⟨rfl,rfl⟩
 have I1:Inv X pins σ (upd H s.heap.objs.size (.dT [])) { s with heap:=s.heap.push { cls:=.type "dict",data:=.dict #[] } }:=I.laid (a:=s.heap.objs.size) (o:=.dT []) (t':=s.toks) (λ_ _ q=>IK _ q) (Jc _) (mZ s.heap I.big)
 have hT:({ s with heap:=s.heap.push { cls:=.type "dict",data:=.dict #[] } }:IR).TypeIs (.ref s.heap.objs.size) "dict":=⟨_,IZ _ rfl,rfl⟩
 have kz1:zO (s.heap.push { cls:=.type "dict",data:=.dict #[] }) (n+4) (n+2) (n+3) .none (.bool false):=IK _ kz
 refine⟨hT,OW _ _,?_⟩
 unfold Builtin.«dict.__init__»;refine IH ?_
 unfold Nn;refine IH (MH hT ?_)
 show wpAny _ _ (pure (s.heap.objs.size,[Jg (n+4)])) _ _ _
 refine IS ?_
 show wpAny _ _ (Ls "dict.__init__" s.heap.objs.size (.ref (n+4)) [] .none) _ _ _
 unfold Ls;refine IH (Mb (T:="zip") ⟨_,kz1,rfl⟩ ?_)
 rw[if_pos (by decide)]
 refine IH (zk3 kz1 hh λh' tk' kp=> ?_)
 have I2:Inv X pins σ (upd H s.heap.objs.size (.dT [])) { s with heap:=h',toks:=tk' }:=I1.kept (t':=tk') kp
 have up:∀c o,s.heap.get? c=some o->h'.get? c=some o:=λc o e=>kp c o (IK _ e)
 rw[if_pos (by rfl)]
 refine IH (NC ?_)
 have kz2:zO h' (n+4) (n+2) (n+3) .none (.bool false):=up _ _ kz;refine IH (AJ (s:={ s with heap:=h',toks:=tk' }) kz2 ?_)
 refine IS ⟨Ml F.plain_dict_update_loop _,?_⟩
 have q2:Zp h' n l1 t2 0 us ws:=q.keep λc o _ e=>up c o e
 have hsz:s.heap.objs.size<h'.objs.size:=Ja (kp _ _ (IZ _ rfl))
 have hf2:∀j:Nat,j<5->kx X pins (upd H s.heap.objs.size (.dT [])) (n+j):=λj hj=>⟨by rw[aF (ez (by omega))];exact(hf j hj).1,(hf j hj).2⟩
 obtain⟨x,xs',rfl⟩:∃x xs',xs=x::xs':=by
  cases xs with
  | nil=>simp at h1
  | cons x xs'=>exact⟨x,xs',rfl⟩
 obtain⟨y,ys',rfl⟩:∃y ys',ys=y::ys':=by
  cases ys with
  | nil=>exact hp.elim
  | cons y ys'=>exact⟨y,ys',rfl⟩
 obtain⟨kb,p,r,rfl,ex,hkb,ep,hp'⟩:=hp;obtain⟨u1,v1,v2⟩:=rx.get (i:=0) rfl;obtain⟨u2,v3,v4⟩:=ry.get (i:=0) rfl;rw[MB]at v1 v3
 rw[ex]at v2;obtain rfl:u1=Jg kb:=v2;rw[<-ep]at v4;rw[IV]at hz
 have tupk:∀(o:List (List Key×V)) b vs,H b=some (.tup vs)->upd H s.heap.objs.size (.dT o) b=some (.tup vs):=λo b vs e=>by rw[aF (λz=>by rw[z,hn]at e;cases e)];exact e
 refine vY (A:=A.in1) (X:=X) (pins:=pins) (σ:=σ) (i:=0) (kvs:=[]) (Ex:=λh1=>Zp h1 n l1 t2 1 us ws/\∃T ob,h'.objs.size<=T/\zO h1 (n+4) (n+2) (n+3) (rawInt T) (.bool false)/\h1.get? T=some ob) (by show A.units+1+3<cLine;omega) aH (by simp) (tupk _ _ _ hkb)
  (λ{Q E} hq=>xO q2 kz2 (up _ _ ko) v1 v3 λh1 b a1 a2 a3 a4 a5=>hq h1 b u2 ?_ a2 v4 ⟨a4,b,_,a1,a3,a2⟩) λh1 h2 tk hx3 e2 I3=> ?_
 ·exact I2.HH (fp:=[n,n+1,n+3,n+4]) (t':=tk') (λb hb=>by
   simp only[IW,JQ,or_false]at hb;rcases hb with rfl | rfl | rfl | rfl
   ·exact hf2 0 (by omega)
   ·exact hf2 1 (by omega)
   ·exact hf2 3 (by omega)
   ·exact hf2 4 (by omega)) λb o hb eb=>a5 b o (λz=>hb (by rw[z];simp)) (λz=>hb (by rw[z];simp)) (λz=>hb (by rw[z];simp)) (λz=>hb (by rw[z];simp)) eb
 ·obtain⟨x1,T,ob,hTs,x2,x3⟩:=hx3
  have hd0:∀j:Nat,j<5->n+j≠s.heap.objs.size:=λj hj=>ez (by omega)
  have x1':Zp h2 n l1 t2 1 us ws:=⟨x1.b1,x1.b2,(e2 _ (hd0 2 (by omega))).trans x1.pr,x1.i1.at λo g=>(e2 _ (hd0 0 (by omega))).trans g,x1.i2.at λo g=>(e2 _ (hd0 1 (by omega))).trans g,x1.s1.at λo g=>(e2 _ (ez (by omega))).trans g,gd x1.s2 λo g=>(e2 _ (ez (by omega))).trans g⟩
  rw[iY]at I3;refine AL (A:=A.in1) (X:=X) (pins:=pins) (σ:=σ) (xs:=x::xs') (ys:=y::ys') (T:=T) hh (by show A.units+1+3<cLine;omega) rx ry (by omega) (ez (by omega)) xs'.length 1 _ (upd H s.heap.objs.size (.dT (cz [] p.1 p.2))) (cz [] p.1 p.2) r false ob (by rw[IV];omega) (by rw[IV];omega) aH (by rw[IV];show 1+_<=1000;omega) I3 x1' ((e2 _ (hd0 4 (by omega))).trans x2) ((e2 _ (ez (by omega))).trans x3) (λj hj=>⟨by rw[aF (hd0 j hj)];exact(hf j hj).1,(hf j hj).2⟩) (ez (by omega)) (ez (by omega)) (hp'.mono (tupk _)) λs' I'=> ?_
  rw[iY]at I';exact⟨rfl,h _ _ ⟨hn,hk⟩ I'⟩
theorem CB {K:II}{O:Ow}{H:Hp}:∀{l m:List T} {xs ys:List V},gI l=true->l.length=m.length->Reps K O H l xs->Reps K O H m ys->∃ps,ZAt H xs ys ps/\Hk K O H (l.zip m) ps
 | [],[],xs,ys,_,_,r1,r2=>by cases Reps.AC.mp r1;cases Reps.AC.mp r2;exact⟨[],rfl,rfl⟩
 | [],_::_,_,_,_,h,_,_=>by simp at h
 | _::_,[],_,_,_,h,_,_=>by simp at h
 | a::l,b::m,xs,ys,hk,h,r1,r2=>by
  obtain⟨v,vs,rfl,p1,q1⟩:=Reps.me.mp r1;obtain⟨w,ws,rfl,p2,q2⟩:=Reps.me.mp r2;unfold gI at hk;rw[IT]at hk;obtain⟨kk,ek⟩:=Lh.mp hk.1;obtain⟨ps,g1,g2⟩:=CB hk.2 (by simpa using h) q1 q2
  obtain⟨kb,f5,f6⟩:=fz ek p1;exact⟨(kk,w)::ps,⟨kb,(kk,w),ps,rfl,f5,f6,rfl,g1⟩,⟨(kk,w),ps,rfl,ek,p2,g2⟩⟩
end
section
variable {X:Cx}{a b:Expr}{fs:En->Rs (List T)}{p p1 p2 pos:Pos}
theorem DQ (hu:X.A.units+8<cLine)(hc:X.calm=true)(hm:X.mg "dict" =none)(hmz:X.mg "zip" =none)(ha:qT X [a,b] fs)(hst:bx [a,b] =true:=by rfl)(hg:Gl X "dict":=by rfl)(hgz:Gl X "zip":=by rfl) :
  cy X (.Call (.Name "dict" p) [.Call (.Name "zip" p1) [a,b] [] p2] [] pos) (cl G5 fs):=by
 intro pins s σ H Q I ⟨Z,O,Ev,hq⟩
 have e1:Jj [KZ (.Name "zip" p1) [a,b] [] p2] X.env=(false,eval (.Call (.Name "zip" p1) [a,b] [] p2) X.env)::Jj [] X.env:=aW rfl;unfold bx at hst;rw[IT]at hst
 have e2:Jj [a,b] X.env=(false,eval a X.env)::Jj [b] X.env:=aW hst.1;refine JV (fo I hg hm (show Jw "dict" =some (.type "dict")by decide+kernel) ?_ (by decide) (by decide))
 refine JL ?_ e1 rfl
 rw[e1];refine K6 ?_
 refine JV (fo I hgz hmz (show Jw "zip" =some (.type "zip")by decide+kernel) ?_ (by decide) (by decide))
 refine JL (cq (ha p2 pins s σ H _ I (eQ Ev hq)) λus s1 ⟨vs,H1,I1,r1,ts,rs,s',E',q1⟩=> ?_) e2 (gA hst.2)
 unfold G5 at q1
 split at q1
 ·rename_i l m
  by_cases hz:gI l=true/\l.length=m.length/\1<=l.length/\l.length<=1000
  ·rw[if_pos hz]at q1
   obtain⟨v1,vs1,rfl,ra,rb⟩:=Reps.me.mp rs;obtain⟨v2,rfl,rc⟩:=rb.one;obtain⟨c1,xs,rfl,_,hx,rx⟩:=Rep.Do.mp ra;obtain⟨c2,ys,rfl,_,hy,ry⟩:=Rep.Fk.mp rc
   cases r1 with
   | cons w1 w2=>
    obtain⟨u2,rfl,w3⟩:=Vals.one w2;cases w1;obtain rfl:u2=Jg c2:=w3;obtain⟨z,its,n,rv,hlen,e⟩:=I1.HP hx;obtain⟨z2,its2,r2,ob,hob1,hob2,nb,hob3⟩:=(show ObjOk X.prog X.w H1 s1.heap c2 (.tup ys)from I1.hok c2 _ hy)
    refine AK (xs:=its.toArray) (ys:=its2.toArray) ⟨_,e,rfl,n,rfl⟩ ⟨ob,hob1,hob2,nb,hob3⟩ λh' g1 g2 g3 g4 g5=> ?_
    refine Lg ?_
    have I2:Inv X pins σ H1 { s1 with heap:=h' }:=I1.kept (t':=s1.toks) g5
    obtain⟨ps,k1,k2⟩:=CB hz.1 hz.2.1 rx ry;refine Cj (I2.ok.hd hc) hu I2 g1 g2 g3 (λj hj=>I1.HU (by omega) (I1.hok.fresh (by omega))) rv r2 (by rw[<-rx.length];exact hz.2.2.1) (by rw[<-rx.length];exact hz.2.2.2) k1 λq s' nw I'=>⟨.ref q,_,I',rfl,q1 _ (aS nw.1 _) _ ?_⟩
    obtain⟨d1,d2⟩:=kX (ks:=[]) (ts:=[]) (kvs:=[]) k2 rfl Reps.nil_ KU;exact Rep.GE.mpr ⟨q,_,rfl,E'.fresh nw.1,.inl aH,d1,d2.same (aS nw.1 _)⟩
  ·rw[if_neg hz]at q1;exact q1.elim
 ·exact q1.elim
end
end Tr
namespace Tr
open PySem
def pJ (i j:Nat)(src:List (Option Nat))(tgt:T->En->Rs En)(fc:En->Rs Bool)(fe:En->Rs T)(Z:En):Rs Fl:=match Z[i]? with
 | some (.ow (.dct _ _))=>match dQ (iD (vr i)) src tgt fc fe (disown i Z)with
  | .ok t=>if t.nk true=true/\j<Z.length then .ok (.nx (Z.set j (.va t)))else .bad
  | _=> .bad
 | _=> .bad
end Tr
namespace PySem
open Sem (wp)
section
variable {prog:Jp}{w:J2}{A:JO}{E:IQ->IR->Prop}{s:IR}{d it:Addr}{ob:Obj}{es:Array ME}{ep i:Nat}
theorem BX {Q:IQ->IR->Prop}(k0:(d == Ln)=false)(k1:s.heap.get? d=some ob)(k2:ob.ExactDict)(k3:ob.data= .dict es ep)
  (q:Q (.ref s.heap.objs.size) { s with heap:=s.heap.push { cls:=.type "dict_keyiterator",data:=.fields #[.ref d,.int 0 0,.int es.size 0,.int ep 0] } }):wpAny (model prog w) A (pyIter (.ref d)) Q E s:=by
 have ty:s.TypeIs (.ref d) "dict":=⟨ob,k1,k2.1⟩;refine PF ty P3 (J1 P3 ty F.entry_dict_iter ?_ (F.args_dict_iter_1 _))
 unfold Builtin.«dict.__iter__» Builtin.Dict.dictSlotNone;refine IH (IH (MH ty ?_))
 show wpAny _ _ (pure (Jg d)) _ _ s
 refine IS ?_
 show wpAny _ _ (N6 d >>= _) _ _ s
 unfold N6;rw[if_neg (by rw[k0];exact Jo)]
 refine IH (IS (IH (ND k1 k3 (IH (Ot k1 k3 ?_)))))
 refine IH (J3 (IS ⟨_,rfl,"dict_keyiterator",_,⟨_,IZ _ rfl,rfl⟩,Kn.lookup,?_⟩))
 simpa [rawInt]using q
theorem BY {e:ME}{Q:Option IQ->IR->Prop}(ki:s.heap.IsKeyIter it d i es.size ep)(k1:s.heap.get? d=some ob)(k3:ob.data= .dict es ep)(ke:es[i]? =some e)
  (q:∀h',h'.IsKeyIter it d (i+1) es.size ep->Lr it s.heap h'->Q (some e.key) { s with heap:=h' }):wpAny (model prog w) A (pyNext (.ref it)) Q E s:=by
 obtain⟨oi,g1,g2,g3⟩:=id ki;unfold pyNext;refine IH (Mk (JH (name:=Jb "__next__") ki.typeIs Kn (J1 Kn ki.typeIs MJ ?_ (MC _))))
 refine IH (IS (IH (IH ?_)))
 first | refine IH (KQ ki.typeIs (IS ?_)) | refine IH (Lo ki.typeIs (IS ?_))
 refine IH (wpAny_fieldsOf g1 g3 ?_)
 have own:MN "dict_keyiterator" =false:=by decide
 simp only[own,KJ,if_false]
 show wpAny _ _ (if (Jg d == JK)=true then _ else _) _ _ s
 rw[if_neg (show ¬((Jg d == JK)=true)from Jo)]
 refine IH (IS (IH (ND k1 k3 ?_)))
 rw[if_neg (by simp)]
 refine IH (IS (IH (Ot k1 k3 ?_)))
 rw[if_neg (by simp)]
 refine IS ?_
 simp only[show ¬((i:Int)<0)from by omega,if_false,JD,ke]
 refine IH ?_
 first | refine IH (KQ ki.typeIs (IS ?_)) | refine IH (Lo ki.typeIs (IS ?_))
 refine IH (Ou ki.typeIs ?_)
 show wpAny _ _ (setField (.ref it) 1 (rawInt ((i:Int)+1)) >>= _) _ _ s
 refine IH (Nj g1 g3 (by simp) ?_)
 have ki':(s.heap.update it (Obj.mapFields (·.setIfInBounds 1 (rawInt ((i:Int)+1))))).IsKeyIter it d (i+1) es.size ep:=
  ⟨_,LB _ g1 (Oc (Mi g3 _)),(Pr ..).trans g2,by rw[Mi g3];simp[rawInt]⟩
 refine IH (Kj (IH (Ou (s:={ s with heap:=s.heap.update it (Obj.mapFields (·.setIfInBounds 1 (rawInt ((i:Int)+1)))) }) ki'.typeIs ?_)))
 show wpAny _ _ (pure e.key) _ _ _
 exact IS (IS ⟨_,rfl,IS (q _ ki' (Kx ..))⟩)
theorem EB {Q:Option IQ->IR->Prop}(hh:A.handled=none)(ki:s.heap.IsKeyIter it d i es.size ep)(k1:s.heap.get? d=some ob)(k3:ob.data= .dict es ep)(ke:es.size<=i)
  (q:∀h',Qm it s.heap h'->Q none { s with heap:=h' }):wpAny (model prog w) A (pyNext (.ref it)) Q E s:=by
 obtain⟨oi,g1,g2,g3⟩:=id ki;unfold pyNext;refine IH (Mk (JH (name:=Jb "__next__") ki.typeIs Kn (J1 Kn ki.typeIs MJ ?_ (MC _))))
 refine IH (IS (IH (IH ?_)))
 first | refine IH (KQ ki.typeIs (IS ?_)) | refine IH (Lo ki.typeIs (IS ?_))
 refine IH (wpAny_fieldsOf g1 g3 ?_)
 have own:MN "dict_keyiterator" =false:=by decide
 simp only[own,KJ,if_false]
 show wpAny _ _ (if (Jg d == JK)=true then _ else _) _ _ s
 rw[if_neg (show ¬((Jg d == JK)=true)from Jo)]
 refine IH (IS (IH (ND k1 k3 ?_)))
 rw[if_neg (by simp)]
 refine IH (IS (IH (Ot k1 k3 ?_)))
 rw[if_neg (by simp)]
 refine IS ?_
 simp only[show ¬((i:Int)<0)from by omega,if_false,JD,NY ke]
 refine IH ?_
 first | refine IH (KQ ki.typeIs (IS ?_)) | refine IH (Lo ki.typeIs (IS ?_))
 show wpAny _ _ (setField (.ref it) 0 .none >>= _) _ _ s
 refine IH (Nj g1 g3 (by simp) ?_)
 show wpAny _ _ (newExc (.type "StopIteration") [] >>= _) _ _ _
 refine IH ?_
 simp only[newExc,newTuple];refine IH (J3 ?_ (by size_fits))
 refine IH (m:=Nk _ _) (QC (a:=JK) (by first | rfl | (simp only[Nk];rfl)) (J3 ?_ (by size_fits)))
 simp only[raiseNew];refine IH (wpAny_handled ?_)
 rw[show A.in1.handled=none from hh]
 refine IH (IS (wpAny_throw ?_))
 refine IH (NV (T:="StopIteration") (b:=true) ⟨_,IZ _ rfl,rfl⟩ OF ?_)
 exact IS (q _ (((Kx ..).extBut.push _).push _))
end
end PySem
namespace Tr
open PySem PySem.Spec PyProof.Rows L2
section
variable {X:Cx}{pins:List (Addr×Obj)}{σ:L2.St}{H:Hp}{s:IR}{d:Addr}{ob:Obj}{kvs:List (List Key×V)}{es:Array ME}{ep:Nat}
theorem uH (I:Inv X pins σ H s)(hd:H d=some (.dT kvs))(ho:s.heap.get? d=some ob):Inv X pins σ (upd H d (.frz ob (.dT kvs))) s:=by
 have x:ObjOk X.prog X.w H s.heap d (.dT kvs):=I.hok d _ hd
 have ne:∀b (u:HO),H b=some u->(∀k,u≠ .dT k)->b≠d:=λb u e hu z=>by rw[z,hd]at e;cases e;exact hu _ rfl
 exact kj (h':=s.heap) (t':=s.toks) (ob:=.frz ob (.dT kvs)) I (by rw[hd];exact Lf) (Pn ..) ⟨ob,ho⟩ ⟨ho,x.HN (λb u _ e=>e) (λb e=>by rw[aF (ne b _ e (λ_ z=>nomatch z))];exact e) λb xs e=>by rw[aF (ne b _ e (λ_ z=>nomatch z))];exact e⟩
theorem zG (I:Inv X pins σ H s)(hd:H d=some (.frz ob (.dT kvs)))(h0:∀o u,X.H₀ d≠some (.frz o u)):Inv X pins σ (upd H d (.dT kvs)) s:=by
 have ne:∀b,H b=none->b≠d:=λb e z=>by rw[z,hd]at e;cases e
 have ne2:∀b (u:HO),H b=some u->(∀o k,u≠ .frz o k)->b≠d:=λb u e hu z=>by rw[z,hd]at e;cases e;exact hu _ _ rfl
 have up:∀b (u:HO),H b=some u->b≠d->upd H d (.dT kvs) b=some u:=λb u e z=>by rw[aF z];exact e
 have un:∀b,H b=none->upd H d (.dT kvs) b=none:=λb e=>by rw[aF (ne b e)];exact e
 have x:ObjOk X.prog X.w H s.heap d (.frz ob (.dT kvs)):=I.hok d _ hd
 have ow:∀c b,H b=some (.own c)->upd H d (.dT kvs) b=some (.own c):=λc b e=>up b _ e (ne2 b _ e (λ_ _ z=>nomatch z))
 have tu:∀b xs,H b=some (.tup xs)->upd H d (.dT kvs) b=some (.tup xs):=λb xs e=>up b _ e (ne2 b _ e (λ_ _ z=>nomatch z))
 refine⟨I.ok,I.os,I.bare,⟨I.base.keep,I.base.slot,λb o e n hx=>un b (I.base.free b o e n hx),I.base.there,λb xs e=>tu b xs (I.base.tups b xs e),λb o u e=> ?_,λb ps e=> ?_⟩,I.loc,I.cell,un _ I.free,λy c e=>un _ (I.freeC y c e),λp hp=> ?_,λa u e=> ?_,I.len⟩
 ·exact up b _ (I.base.frzs b o u e) λz=>h0 o u (z▸e)
 ·obtain⟨more,q⟩:=I.base.tbls b ps e
  exact⟨more,up b _ q (ne2 b _ q (λ_ _ z=>nomatch z))⟩
 ·obtain⟨p1,p2,p3⟩:=I.pin p hp
  exact⟨p1,un _ p2,p3⟩
 ·by_cases ha:a=d
  ·subst ha
   rw[aH]at e;cases e;exact x.2.HN (λb u _ e=>e) (ow a) tu
  ·rw[aF ha]at e
   exact(I.hok a u e).HN (λb u _ e=>e) (ow a) tu
def HF (d:Addr)(ob:Obj)(es:Array ME):It where
 go:=λi H=> ∃kvs,H d=some (.frz ob (.dT kvs))/\i<kvs.length
 yld:=λi H x H'=>H'=H/\∃e b,es[i]? =some e/\e.key= .ref b/\x= .ref b
 stop:=λi H=> ∃kvs,H d=some (.frz ob (.dT kvs))/\kvs.length<=i
theorem qD {P:Jp}{w:J2}{h:Heap}(x:ObjOk P w H h d (.frz ob (.dT kvs)))(hx:ob.data= .dict es ep):h.get? d=some ob/\ob.ExactDict/\(d == Ln)=false/\es.size=kvs.length/\∀(i:Nat) p,kvs[i]? =some p->∃e b,es[i]? =some e/\e.key= .ref b/\H b=some (.tup (p.1.map kV)):=by
 obtain⟨e1,z,y,xs,r,o',es',ep',e2,ex,e3,e4,nd⟩:=x;rw[e1]at e2;cases e2;rw[hx]at e3;cases e3
 have hl:es.size=xs.length:=by rw[<-Jt,e4,IP]
 refine⟨e1,ex,y,by rw[hl,Mf r],λi p hp=> ?_⟩
 have key:∀{ks:List (List Key×V)} {xs:List (List Key×Addr×IQ)},QJ (λ(p:List Key×V) (q:List Key×Addr×IQ)=>p.1=q.1/\H q.2.1=some (.tup (p.1.map kV))/\RelV p.2 q.2.2) ks xs->∀{i:Nat} {p},ks[i]? =some p->∃q,xs[i]? =some q/\H q.2.1=some (.tup (p.1.map kV)):=by
  intro ks xs r
  induction r with
  | nil=>intro i p h;simp at h
  | cons a _ ih=>
   intro i p h
   cases i with
   | zero=>simp only[List.getElem?_cons_zero,Np]at h ⊢;subst h;exact⟨_,rfl,a.2.1⟩
   | succ i=>simp only[Kd]at h ⊢;exact ih h
 obtain⟨q,hq,hb⟩:=key r hp;refine⟨entryOfKey (MF (cb P w)) q,q.2.1,?_,rfl,hb⟩
 rw[<-MB,e4,Jm,hq]
 rfl
theorem t9 {P:Jp}{w:J2}{K:II}{tg:Expr}{it:Addr}(hx:ob.data= .dict es ep):xE P w K tg (HF d ob es) [it] it (λi h=>h.IsKeyIter it d i es.size ep) where
 mem:=by simp
 obj:=λi h st b hb=>by
  have e:b=it:=by simpa using hb
  subst e;obtain⟨o,e,c,d⟩:=st;exact⟨o,e,λv z=>by rw[d]at z;cases z⟩
 keep:=λi h h' st k=>st.at λo e=>k it (by simp) o e
 item:=by
  intro X hP hw hK hc i pins s σ H E I hf st hg;subst hP hw hK;obtain⟨kvs,hq,hi⟩:=hg;obtain⟨f0,f1,f2,f3,f4,f5⟩:=hf it (by simp)
  obtain⟨e1,ex,_,sz,at_⟩:=qD (I.hok d _ hq) hx;obtain⟨e,b,ge,ek,_⟩:=at_ i kvs[i] (IU hi)
  refine BY st e1 hx ge λh' st' sb=> ?_
  have I1:Inv X pins σ H { s with heap:=h' }:=I.turned (t':=s.toks) (λb o hb e=>(sb.2 b hb).trans e) f0 f1 f3 f4 f5
  obtain⟨o,eo,c,dd⟩:=id st';exact⟨e.key,rfl,vQ (s:={ s with heap:=h' }) eo c dd (by decide) ⟨.ref b,H,I1,ek,⟨rfl,e,b,ge,ek,rfl⟩,st',λb hb=>(hf b hb).1⟩⟩
 done:=by
  intro X hP hw hK hc i pins s σ H E I hf st hg;subst hP hw hK;obtain⟨kvs,hq,hi⟩:=hg;obtain⟨f0,f1,f2,f3,f4,f5⟩:=hf it (by simp)
  obtain⟨e1,ex,_,sz,_⟩:=qD (I.hok d _ hq) hx;exact EB (I.ok.hd hc) st e1 hx (by omega) λh' eb=>⟨rfl,I.turned (t':=s.toks) (λb o hb e=>eb b o hb e) f0 f1 f3 f4 f5⟩
 self:=λ_ _ _ _ _ st h=>wpAny_pyIter_keyiter st h
def iDF (d:Addr)(ob:Obj)(es:Array ME)(te:TE):TI:=λσ H R=>te σ H λx H1=>x= .ref d/\(∃kvs,H1 d=some (.frz ob (.dT kvs)))/\R (HF d ob es) H1
theorem yD {tg l:Expr}{te:TE}(hx:ob.data= .dict es ep)(hl:PE X l te):PI X tg l (iDF d ob es te):=by
 intro pins s σ H R I h;refine cq (hl pins s σ H _ I h) λv s1 hh_=> ?_
 obtain⟨x,H1,I1,r1,q1⟩:=hh_;obtain⟨e,⟨kvs,hq⟩,q⟩:=q1;subst e;obtain rfl:v=Jg d:=r1;obtain⟨e1,ex,y,sz,_⟩:=qD (I1.hok d _ hq) hx;refine BX y e1 ex hx ⟨s1.heap.objs.size,[s1.heap.objs.size],_,_,H1,rfl,I1.kept (t':=s1.toks) λb o e=>IK _ e,t9 hx,⟨_,IZ _ rfl,rfl,rfl⟩,λb hb=> ?_,q⟩
 have e:b=s1.heap.objs.size:=by simpa using hb
 subst e;exact I1.HU (Jc _) (I1.hok.fresh (Jc _))
end
theorem lg {K:II}{O:Ow}{H:Hp}:∀{l:List T} {kk:List Key},jJ l=some kk->Reps K O H l (kk.map kV)
 | [],kk,h=>by cases h;exact Reps.nil_
 | t::l,kk,h=>by
  unfold jJ at h
  split at h
  ·rename_i k r hk hr
   cases h;refine Reps.FS ?_ (lg hr)
   cases t with
   | int i=>cases hk;exact Rep.Gc i
   | str x=>cases hk;exact Rep.IB x
   | _=>cases hk
  ·cases h
theorem zl {K:II}{O:Ow}{H:Hp}{t:T}{kk:List Key}{b:Addr}(h:keyOf t=some kk)(hb:H b=some (.tup (kk.map kV)))(n:¬ O b):Rep K O H t (.ref b):=by
 cases t with
 | tup l=>exact Rep.Fk.mpr ⟨b,_,rfl,n,hb,lg h⟩
 | _=>cases h
section
variable {X:Cx}{d:Addr}{ob:Obj}{kvs:List (List Key×V)}{es:Array ME}{ep:Nat}
theorem zE {K:II}{O:Ow}{H:Hp}{ks:List T}(hd:H d=some (.frz ob (.dT kvs)))(hk:ks.map keyOf=kvs.map (λp=>some p.1))(nO:¬ O d)(tr:∀a vs,H a=some (.tup vs)->¬ O a)
  (at_:∀(i:Nat) p,kvs[i]? =some p->∃e b,es[i]? =some e/\e.key= .ref b/\H b=some (.tup (p.1.map kV))):Hn K O H ks (HF d ob es):=λP O' hP hO i Hc hs ht=>by
 have hl:ks.length=kvs.length:=by have:=congrArg J4 hk;rwa [IP,IP]at this
 have hnP:¬ P d:=λz=>(hP d z).elim nO λw=>by rw[w.1]at hd;cases hd
 have hd':Hc d=some (.frz ob (.dT kvs)):=hs _ _ hd hnP;refine⟨λhi=>⟨kvs,hd',by omega⟩,λt ht'=> ?_⟩
 have hi:i<kvs.length:=by rw[<-hl];exact(Jd.mp ht').1
 refine⟨⟨kvs,hd',hi⟩,λx Hc' y=> ?_⟩
 obtain⟨rfl,e,b,ge,ek,rfl⟩:=y;obtain⟨e2,b2,ge2,ek2,hb⟩:=at_ i kvs[i] (IU hi)
 rw[ge]at ge2;cases ge2;rw[ek]at ek2;cases ek2
 have kt:keyOf t=some kvs[i].1:=by
  have:=congrArg (λl=>l[i]?) hk
  simp only[Jm,ht',IU hi,Og,Np]at this
  exact this
 exact⟨Same.refl _,(zl kt hb (tr b _ hb)).move hP hO hs⟩
def tPIF (X:Cx)(d:Addr)(ob:Obj)(es:Array ME)(i:Nat):TI:=λσ H R=>σ[i]? =some (some (.ref d))/\(∃kvs,H d=some (.frz ob (.dT kvs)))/\R (HF d ob es) H
theorem DE {elt tg:Expr}{ifs:List Expr}{scope:L1}{spos py pos pn:Pos}{N':List Str}{src:List (Option Nat)}{tgt:T->En->Rs En}{fc:En->Rs Bool}{fe:En->Rs T}(i j:Nat){y D:Str}
  (hc:X.calm=true) (S:LcScope X scope N' src)
  (block:∀cl C s₀ H₀ fp,Aq (br X scope cl N' C s₀ H₀ fp) tg tgt/\we (br X scope cl N' C s₀ H₀ fp) ifs (xK (br X scope cl N' C s₀ H₀ fp) fc)/\cy (br X scope cl N' C s₀ H₀ fp) elt fe)
  (hN:X.N.Nodup) (hD:X.N[i]? =some D:=by rfl) (hDv:autoParam (tW X.env.scope D) u_) (hDd:autoParam ((D == ("__debug__" : Str))=false) s_) (hDc:autoParam ((D == ("__classdict__" : Str))=false) s_)
  (hiy:X.N[j]? =some y:=by rfl) (hy:autoParam (Loc X.env.scope y) x_) (hsw:J0 (.ListComp elt [⟨tg,.Name D pn,ifs,0⟩] scope pos) (some (.Name y py)) spos.line X.env=pure true:=by rfl)
  (hf:autoParam (X.fn y=true\/X.env.scope.names.lookup y=some .local) r_) (hs:autoParam (∀x,Jy (.Name D pn) X.env x=pure x) t_) :
  ny X (.Assign [.Name y py] (.ListComp elt [⟨tg,.Name D pn,ifs,0⟩] scope pos) spos) (pJ i j src tgt fc fe):=by
 intro pins s σ H E0 I ⟨Z,B,M,E,h⟩;unfold pJ at h
 split at h
 ·rename_i ks ts hi
  obtain⟨v,sv,r⟩:=E.env.own i _ hi;obtain⟨d,kvs,rfl,hM,hd,hk,rt⟩:=r
  cases qt:dQ (iD (vr i)) src tgt fc fe (disown i Z)with
  | bad=>rw[qt]at h;exact h.elim
  | err c=>rw[qt]at h;exact h.elim
  | ok t=>
  rw[qt]at h
  dsimp only at h
  by_cases hh:t.nk true=true/\j<Z.length
  ·rw[if_pos hh]at h
   obtain⟨z0,y0,xs0,r0,ob,es,ep,ho,hex,hdat,he,hnd⟩:=(show ObjOk X.prog X.w H s.heap d (.dT kvs)from I.hok d _ hd)
   have h0:∀o u,X.H₀ d≠some (.frz o u):=λo u e=>by
    have:=I.base.frzs d o u e;rw[hd]at this;cases this
   have I1:=uH I hd ho
   have hPG:∀cl C s₀ H₀ fp,PG (br X scope cl N' C s₀ H₀ fp) tg (wG X tgt):=λcl C s₀ H₀ fp=>(block cl C s₀ H₀ fp).1
   have hPI:∀cl C s₀ H₀ fp,we (br X scope cl N' C s₀ H₀ fp) ifs (tPT0 X.K fc):=λcl C s₀ H₀ fp pins s σ H Q I h=>(block cl C s₀ H₀ fp).2.1 pins s σ H Q I (tPT0.up (X:=br X scope cl N' C s₀ H₀ fp) h)
   have hPE:∀cl C s₀ H₀ fp,PE (br X scope cl N' C s₀ H₀ fp) elt (tP0 X.K fe):=λcl C s₀ H₀ fp pins s σ H Q I h=>(block cl C s₀ H₀ fp).2.2 pins s σ H Q I (tP0.up (X:=br X scope cl N' C s₀ H₀ fp) h)
   have hPI2:PI X tg (.Name D pn) (tPIF X d ob es i):=PI.imp (yD (d:=d) (ob:=ob) hdat (jC hD hDv hDd hDc)) λσ H R ⟨a,b,c⟩=>⟨_,a,rfl,b,c⟩
   have rule:=CK (g:=wG X tgt) (tc:=tPT0 X.K fc) (te:=tP0 X.K fe) (i:=j) (y:=y) (py:=py) (spos:=spos) (pos:=pos) hc S hPI2 (λcl C s₀ H₀ fp=>⟨hPG cl C s₀ H₀ fp,hPI cl C s₀ H₀ fp,hPE cl C s₀ H₀ fp⟩) hN hiy hy hsw hf hs
   have sO:SameO (λa=>a=d) H (upd H d (.frz ob (.dT kvs))):=λb o e nb=>by rw[aF nb];exact e
   have Md:M i d:=(hM d).mpr rfl
   have Od:OO B M d:=.inr ⟨i,Md⟩;refine cq (rule pins s σ (upd H d (.frz ob (.dT kvs))) { nx:=λσ' H'=>H' d=some (.frz ob (.dT kvs))/\E0.nx σ' (upd H' d (.dT kvs)),rt:=λ_ _=>False } I1 ?_) λf s' hf=> ?_
   ·-- the Pg,with the dict standing still
    have rdE:∀{u:T} {v:V},Rep X.K (OO B M) H u v->Rep X.K (λa=>OO B M a/\¬ M i a) (upd H d (.frz ob (.dT kvs))) u v:=λr=>(Rep.keep sO (λa z=>by rw[z];exact Od) r).less λa z=>z.1
    have E1:EnvM X.K (λa=>OO B M a/\¬ M i a) (M.set i uD) (upd H d (.frz ob (.dT kvs))) (disown i Z) σ:=by
     have ed:disown i Z=Z.set i (.va (.dct ks ts)):=by unfold disown;rw[hi];rfl
     have il:i<Z.length:=(Jd.mp hi).1
     rw[ed];refine⟨by rw[J9];exact E.env.len,λk u e=> ?_,λk o e=> ?_,λk a z=> ?_,λk k' a z1 z2=> ?_,λa z=> ?_⟩
     ·by_cases hk':i=k
      ·subst hk'
       rw[Jl il]at e
       cases e;exact⟨.ref d,sv,Rep.GE.mpr ⟨d,kvs,rfl,λz=>z.2 Md,.inr ⟨ob,aH⟩,hk,(Reps.keep sO (λa z=>by rw[z];exact Od) rt).less λa z=>z.1⟩⟩
      ·rw[Js hk']at e
       obtain⟨v,e1,e2⟩:=E.env.val k u e;exact⟨v,e1,rdE e2⟩
     ·by_cases hk':i=k
      ·subst hk'
       rw[Jl il]at e
       cases e
      ·rw[Js hk']at e
       obtain⟨v,e1,e2⟩:=E.env.own k o e;refine⟨v,e1,?_⟩
       have em:M.set i uD k=M k:=by unfold Mn.set;rw[if_neg λz=>hk' z.symm]
       rw[em];exact e2.move (P:=λa=>a=d) (λa z=> .inl (by rw[z];exact Od)) (λa z=> .inl z.1) sO λa z w=>hk' (E.env.dis k i a z (by rw[w];exact Md)).symm
     ·unfold Mn.set at z
      split at z
      ·exact z.elim
      ·rename_i hk'
       exact⟨E.env.sub k a z,λw=>hk' (E.env.dis k i a z w)⟩
     ·unfold Mn.set at z1 z2
      split at z1
      ·exact z1.elim
      ·split at z2
       ·exact z2.elim
       ·exact E.env.dis k k' a z1 z2
     ·have ne:a≠d:=λw=>z.2 (by rw[w];exact Md)
      exact(E.env.trk a z.1).at λo q=>by rw[aF ne];exact q
    have fk:iD (vr i) (disown i Z)= .ok ks:=by
     have:vr i (disown i Z)= .ok (.dct ks ts):=by
      unfold vr disown;rw[hi];simp only[Jl (Jd.mp hi).1]
      rfl
     unfold iD;rw[this]
     rfl
    have qt':dQ (λ_=> .ok ks) src tgt fc fe (disown i Z)= .ok t:=by
     rw[<-qt];unfold dQ;rw[fk]
    have rd:=qy (X:=X) (fi:=λ_=> .ok ks) (src:=src) (tgt:=tgt) (fc:=fc) (fe:=fe) (σ:=σ) (H:=upd H d (.frz ob (.dT kvs))) (Q:=λv H'=>H' d=some (.frz ob (.dT kvs))/\E0.nx (σ.set j (some v)) (upd H' d (.dT kvs))) ⟨disown i Z,_,⟨_,E1⟩,by
     rw[qt'];intro H' sm v rv
     have hd':H' d=some (.frz ob (.dT kvs)):=sm _ _ aH;refine⟨hd',?_⟩
     have sm2:Same H (upd H' d (.dT kvs)):=λb o e=>by
      by_cases hb:b=d
      ·subst hb;rw[aH,<-hd];exact e
      ·rw[aF hb];exact sm b o (by rw[aF hb];exact e)
     have rl:Rep X.K (OO B M) H' t v:=Rep.lend (D:=true) (λa z=>by
      by_cases hm:M i a
      ·refine .inr ?_
       rw[if_pos rfl,(hM a).mp hm];exact⟨kvs,.inr ⟨ob,hd'⟩⟩
      ·exact .inl ⟨z,hm⟩) hh.1 rv
     have r2:Rep X.K (OO B M) (upd H' d (.dT kvs)) t v:=Rep.keep (P:=λa=>a=d) (λb o e nb=>by rw[aF nb];exact e) (λa z=>by rw[z];exact Od) rl
     exact h _ _ M (SameO.of sm2) ⟨(E.env.same sm2).set hh.2 r2,E.mine⟩ λa z=> .inl z⟩
    obtain⟨Z',O',⟨M',E'⟩,P'⟩:=rd;refine⟨sv,⟨kvs,aH⟩,P' _ (Same.refl _) _ (zE aH hk (λz=> ?_) (λa vs q z=> ?_) (qD (I1.hok d _ aH) hdat).2.2.2.2)⟩
    ·rcases E'.trk d z with⟨_,q⟩ | ⟨_,q⟩ | ⟨_,q,y⟩ <;> rw[aH]at q <;> cases q <;> cases y
    ·rcases E'.trk a z with⟨_,w⟩ | ⟨_,w⟩ | ⟨_,w,y⟩ <;> rw[q]at w <;> cases w <;> cases y
   ·cases f with
    | next=>
     obtain⟨σ',H',I',e1,e2⟩:=hf
     exact⟨σ',_,zG I' e1 h0,e2⟩
    | brk=>obtain⟨_,_,_,z⟩:=hf;exact z.elim
    | cont=>obtain⟨_,_,_,z⟩:=hf;exact z.elim
    | ret u=>obtain⟨_,_,_,_,_,z⟩:=hf;exact z.elim
  ·rw[if_neg hh]at h;exact h.elim
 ·exact h.elim
end
end Tr
namespace Tr
def pj:List T->Rs T
 | [.tup l] =>x9 [.lst l]
 | ts=>x9 ts
end Tr
namespace PySem
section
variable {prog:Jp}{w:J2}{A:JO}{E:IQ->IR->Prop}{s:IR}{l:Addr}{xs:Array (Int×Tok)}
theorem xY {Q:IQ->IR->Prop}(hl:s.heap.IsTuple l (Nd xs))
  (h:∀s₂:IR,s₂= { s with heap:=s.heap.push { cls:=.type "tuple_iterator",data:=.fields #[.ref l,.int 0 0] } }->(s₂.heap.IsTupleIter s.heap.objs.size l 0/\s₂.heap.IsTuple l (Nd xs))->(∀b∈ [s.heap.objs.size,l],b<s₂.heap.objs.size)->l≠s.heap.objs.size->Q (.ref s.heap.objs.size) s₂) :
  wpAny (model prog w) A (pyIter (.ref l)) Q E s:=by
 have hlt:l<s.heap.objs.size:=by obtain⟨_,e,_⟩:=hl;exact Ja e
 refine K8 hl (h _ rfl ⟨⟨_,IZ _ rfl,rfl,rfl⟩,gd hl λo e=>IK _ e⟩ (λb hb=> ?_) (JS hlt))
 show b<(s.heap.push _).objs.size
 rw[Kc];simp only[IW,JQ,or_false]at hb;rcases hb with rfl | rfl
 ·exact K5 _
 ·exact Lj hlt
theorem xZ {h':Heap}{o0:Obj}(hk:∀b o,b∉ [s.heap.objs.size]->(s.heap.push o0).get? b=some o->h'.get? b=some o):∀b o,s.heap.get? b=some o->h'.get? b=some o:=λb o e=>
 hk b o (λhm=>absurd (IY.mp hm▸Ja e) (Ju _)) (IK _ e)
theorem AU {Q:IQ->IR->Prop}(hh:A.handled=none)(hl:s.heap.IsTuple l (Nd xs))(h:∀h' tk t',(∀b o,s.heap.get? b=some o->h'.get? b=some o)->Q (.int (preSum (numAt xs) xs.size) t') { s with heap:=h',toks:=tk }) :
  wpAny (model prog w) A (call (.builtin "sum") [.ref l]) Q E s:=by
 refine call_sum_walkG (xY hl λs₂ e st hfp hlI=> ?_)
 subst e;refine⟨_,_,_,_,_,_,numAt xs,rfl,Walks.tuple (A:=A.in1) hh _ l hlI (Nd xs),st,hfp,(λ_ _=>QF),λh' tk t' hk=> ?_⟩
 have:=h h' tk t' (xZ hk)
 simpa [Nd]using this
end
end PySem
namespace Tr
open PySem PySem.Spec PyProof.Rows L2
section
variable {X:Cx}
theorem kr (hc:X.calm=true):CallT X (.builtin "sum") pj:=by
 intro pins s σ H O ts vs us Q I hf rs rv hp;unfold pj at hp
 split at hp
 ·rename_i l
  unfold x9 at hp;obtain⟨v,rfl,r⟩:=rs.one
  dsimp only at hp
  split at hp
  ·rename_i ns hk
   obtain⟨a,ws,rfl,n,q,z⟩:=Rep.Fk.mp r;obtain⟨u,rfl,ru⟩:=iq rv;cases ru;obtain⟨its,r',pl,hz⟩:=I.tuple (SqT.of q)
   have hi:=eF hk z r';obtain⟨xs,e⟩:=hi.allInts.items
   have hns:ns=xs.toList.map (·.1):=by rw[<-hi.numsOf,<-NO,<-e]
   have hl:s.heap.IsTuple a (Nd xs):=by rw[<-e];exact pl
   refine AU (I.ok.hd hc) hl λh' tk t' hk'=>⟨.int _,H,I.kept (t':=tk) hk',⟨_,rfl⟩,?_⟩
   have:preSum (numAt xs) xs.size=ns.sum:=by rw[hns,preSum_eq,Ly (by simp)]
   rw[this];exact hp H (Same.refl H) _ (Rep.Gc _)
  ·exact hp.elim
 ·exact Fi hc pins s σ H O _ vs us Q I hf rs rv hp
end
end Tr
namespace L2
open PySem PySem.Spec PyProof.Rows
theorem tD {n b:Nat}:b∈ [n+4,n,n+1,n+2,n+3] ↔n<=b/\b<n+5:=by
 simp only[IW,JQ,or_false];omega
end L2
namespace Tr
open PySem PySem.Spec PyProof.Rows L2
def Wk (K:II)(O:Ow)(H1:Hp)(l:List T)(v:V):Prop:=∃(aa:Addr) (tt:Bool) (ws:List V),v= .ref aa/\¬ O aa/\Reps K O H1 l ws/\AA K H1 aa tt ws/\(∀P Hc,SameO P H1 Hc->¬ P aa->AA K Hc aa tt ws)/\¬ Nw K H1 aa
end Tr
namespace Tr
open PySem
def c0 (g:List T->Rs T)(_:En):Rs T:=match g []with
 | .ok t=> .ok t
 | _=> .bad
end Tr
namespace PySem
open Sem (wp)
open L2 (itAt)
structure PW (prog:Jp)(w:J2)(A:JO)(I:Addr)(T:String)(fp wr:List Addr)(n:Nat)(R:Nat->IQ->IQ->Prop)(St:Nat->Option Addr->Heap->Prop):Prop where
 sub:∀b∈wr,b∈fp
 ty:∀i o (s:IR),St i o s.heap->s.TypeIs (.ref I) T
 frame:∀i o h h',St i o h->(∀b∈fp,∀ob,h.get? b=some ob->h'.get? b=some ob)->St i o h'
 item:∀i o (s:IR) (Q:Option IQ->IR->Prop) (E:IQ->IR->Prop),i<n->St i o s.heap->(∀t,o=some t->∃ob,s.heap.get? t=some ob) →
  (∀p h' tk x y,R i x y->s.heap.objs.size<=p->MZ h' p x y->St (i+1) (some (o.getD p)) h'->(∀b ob,b∉wr->s.heap.get? b=some ob->h'.get? b=some ob)->Q (some (.ref p)) { s with heap:=h',toks:=tk })->wpAny (model prog w) A (pyNext (.ref I)) Q E s
 done:∀o (s:IR) (Q:Option IQ->IR->Prop) (E:IQ->IR->Prop),St n o s.heap->(∀t,o=some t->∃ob,s.heap.get? t=some ob)->(∀h' tk,(∀b ob,b∉wr->s.heap.get? b=some ob->h'.get? b=some ob)->Q none { s with heap:=h',toks:=tk })->wpAny (model prog w) A (pyNext (.ref I)) Q E s
 self:∀i o (s:IR) (Q:IQ->IR->Prop) (E:IQ->IR->Prop),St i o s.heap->Q (.ref I) s->wpAny (model prog w) A (pyIter (.ref I)) Q E s
end PySem
namespace Tr
open PySem
inductive Fx where
 | nx (Z:En) | rt (t:T) (Z:En)
def mN (Z:En):Rs Fx:=.ok (.nx Z)
end Tr
namespace Tr
open PySem PySem.Spec PyProof.Rows L2
abbrev one (j:Nat)(m:Ow):Mn:=noM.set j m
structure QE (X:Cx)(e:Expr)(f:En->Rs T):Prop where
 h:cy X e f
structure QA (X:Cx)(e:List Expr)(f:En->Rs (List T)):Prop where
 h:qT X e f
structure QT (X:Cx)(e:Expr)(f:En->Rs Bool):Prop where
 h:tX X e f
structure QW (X:Cx)(e:Expr)(f:En->Rs Bool):Prop where
 h:C2 X e f
structure QS (X:Cx)(e:Stmt)(f:En->Rs Fl):Prop where
 h:ny X e f
structure Ao (X:Cx)(e:List Stmt)(f:En->Rs Fl):Prop where
 h:lI X e f
structure QG (X:Cx)(e:Expr)(f:T->En->Rs En):Prop where
 h:Aq X e f
structure HD (X:Cx)(e:List Expr)(f:List T->En->Rs En):Prop where
 h:As X e f
structure QI (X:Cx)(t e:Expr)(f:En->Rs (List T)):Prop where
 h:Ap X t e f
structure QO (X:Cx)(e:Option Expr)(f:En->Rs (Option Int)):Prop where
 h:Hl X e f
structure FF (X:Cx)(e:List Expr)(f:En->Rs Bool):Prop where
 h:we X e (xK X f)
theorem ae {X:Cx}(i:Nat){x:Str}{pos:Pos}(hN:(Cx.N X)[i]? =some x:=by rfl)(hv:autoParam (tW (K7 (Cx.env X)) x) u_)(hd:autoParam ((x == Jb "__debug__")=false) s_)(hcd:autoParam ((x == Jb "__classdict__")=false) s_):QE X (JG x pos) (vr i):=
 ⟨F8 (i:=i) (hN:=hN) (hv:=hv) (hd:=hd) (hcd:=hcd)⟩
theorem ak {X:Cx}{i:Int}{j:Nat}{pos:Pos}:QE X (OZ (Const.int i) j pos) (cn (T.int i)):=
 ⟨Gh ⟩
theorem ft {X:Cx}{i:Bool}{j:Nat}{pos:Pos}:QE X (OZ (Const.bool i) j pos) (cn (T.bl i)):=
 ⟨q_bl ⟩
theorem bQ {X:Cx}{j:Nat}{pos:Pos}:QE X (OZ Const.none j pos) (cn T.non):=
 ⟨Gd ⟩
theorem AF {X:Cx}{x:Str}{i:Int}{u:IQ}{pos:Pos}(hm:Cx.mg X x=some u)(r:L2.RelV (V.int i) u)(hg:Gl X x:=by rfl)(hd:autoParam ((x == Jb "__debug__")=false) s_):QE X (JG x pos) (cn (T.int i)):=
 ⟨DP (hm:=hm) (r:=r) (hg:=hg) (hd:=hd)⟩
theorem ah {X:Cx}:QA X [] ai:=
 ⟨DN ⟩
theorem ag {X:Cx}{e:Expr}{es:List Expr}{f:En->Rs T}{g:En->Rs (List T)}(he:QE X e f)(hr:QA X es g)(hn:bz e=true:=by rfl):QA X (e::es) (af f g):=
 ⟨qa_c (he:=he.h) (hr:=hr.h) (hn:=hn)⟩
theorem cS {X:Cx}{es:List Expr}{x1:Nat}{pos:Pos}{f:En->Rs (List T)}(h:QA X es f):QE X (Expr.Tuple es x1 pos) (cp f):=
 ⟨F9 (h:=h.h)⟩
theorem dU {X:Cx}{es:List Expr}{pos:Pos}{f:En->Rs (List T)}(h:QA X es f):QE X (Expr.List es pos) (cN f):=
 ⟨Gf (h:=h.h)⟩
theorem au {X:Cx}{a b:Expr}{fa fb:En->Rs T}{pos:Pos}{op:Operator}{g:T->T->Rs T}(ho:OpT X (KL op) g)(ha:QE X a fa)(hb:QE X b fb):QE X (Expr.BinOp a op b pos) (o2 g fa fb):=
 ⟨Gk (ho:=ho) (ha:=ha.h) (hb:=hb.h)⟩
theorem eE {X:Cx}{a b:Expr}{fa fb:En->Rs T}{pos:Pos}{op:CmpOp}{g:T->T->Rs T}(ho:OpT X (J6 op) g)(ha:QE X a fa)(hb:QE X b fb)(hm:NN op b=false:=by rfl):QE X (PN a [op] [b] pos) (o2 g fa fb):=
 ⟨Gj (ho:=ho) (ha:=ha.h) (hb:=hb.h) (hm:=hm)⟩
theorem pe {X:Cx}{a:Expr}{fa:En->Rs T}{pos:Pos}(ha:QE X a fa):QE X (PP UnaryOp.USub a pos) (o1 qi fa):=
 ⟨Ge (ha:=ha.h)⟩
theorem q0 {X:Cx}{a b c:Expr}{fa fb fc:En->Rs T}{pos:Pos}{op op':CmpOp}{g g':T->T->Rs T}(ho:OpT X (J6 op) g)(ho':OpT X (J6 op') g')(ha:QE X a fa)(hb:QE X b fb)(hc:QE X c fc)(hm:autoParam (lastMarks [op,op'] [b,c] =false) v_):QE X (PN a [op,op'] [b,c] pos) (ch g g' fa fb fc):=
 ⟨Bq (ho:=ho) (ho':=ho') (ha:=ha.h) (hb:=hb.h) (hc:=hc.h) (hm:=hm)⟩
theorem cf {X:Cx}{e:Expr}{f:En->Rs T}(h:QE X e f)(he:autoParam (∀(whole:Sem IQ),PySem.isTrue e (Cx.env X) whole=(do let v <-whole;standAt (Expr.pos e);holding [v] (truthy v))) t_):QT X e (tb f):=
 ⟨Dw (h:=h.h) (he:=he)⟩
theorem aU {X:Cx}{a b:Expr}{fa fb:En->Rs T}{pos:Pos}{op:CmpOp}{g:T->T->Rs T}(ho:OpT X (J6 op) g)(ha:QE X a fa)(hb:QE X b fb)(hm:NN op b=false:=by rfl):QT X (PN a [op] [b] pos) (tb (o2 g fa fb)):=
 ⟨Dy (ho:=ho) (ha:=ha.h) (hb:=hb.h) (hm:=hm)⟩
theorem xM {X:Cx}{a:Expr}{pos:Pos}{f:En->Rs Bool}(ha:QT X a f):QW X (Lc Ov [a] pos) f:=
 ⟨A9 (ha:=ha.h)⟩
theorem fW {X:Cx}{a:Expr}{pos:Pos}{f:En->Rs Bool}(ha:QT X a f):QW X (Lc O0 [a] pos) f:=
 ⟨Du (ha:=ha.h)⟩
theorem AD {X:Cx}{a b:Expr}{pos:Pos}{f g:En->Rs Bool}{rest:List Expr}(ha:QT X a f)(hb:QW X (Lc Ov (b::rest) pos) g):QW X (Lc Ov (a::b::rest) pos) (tQ f g):=
 ⟨Dv (ha:=ha.h) (hb:=hb.h)⟩
theorem ik {X:Cx}{a b:Expr}{pos:Pos}{f g:En->Rs Bool}{rest:List Expr}(ha:QT X a f)(hb:QW X (Lc O0 (b::rest) pos) g):QW X (Lc O0 (a::b::rest) pos) (oo f g):=
 ⟨F3 (ha:=ha.h) (hb:=hb.h)⟩
theorem jQ {X:Cx}{f:En->Rs Bool}{e:Expr}(h:QW X e f):QT X e f:=
 ⟨qt_w (h:=h.h)⟩
theorem cK {X:Cx}{a:Expr}{pos:Pos}{f:En->Rs Bool}(ha:QT X a f):QT X (PP UnaryOp.Not a pos) (dS f):=
 ⟨Dx (ha:=ha.h)⟩
theorem cT {X:Cx}{a:Expr}{fa:En->Rs T}{pos:Pos}{op:BoolOp}(h:QE X a fa):QE X (Lc op [a] pos) fa:=
 ⟨Ga (h:=h.h)⟩
theorem cF {X:Cx}{a b:Expr}{fa fb:En->Rs T}{pos:Pos}{rest:List Expr}(ha:QE X a fa)(hb:QE X (Lc Ov (b::rest) pos) fb):QE X (Lc Ov (a::b::rest) pos) (cP fa fb):=
 ⟨Gm (ha:=ha.h) (hb:=hb.h)⟩
theorem Cz {X:Cx}{a b:Expr}{fa fb:En->Rs T}{pos:Pos}{rest:List Expr}(ha:QE X a fa)(hb:QE X (Lc O0 (b::rest) pos) fb):QE X (Lc O0 (a::b::rest) pos) (BI fa fb):=
 ⟨q_or (ha:=ha.h) (hb:=hb.h)⟩
theorem C7 {X:Cx}{a:Expr}{fa:En->Rs T}{pos:Pos}(ha:QE X a fa):QE X (PP UnaryOp.Not a pos) (o1 BP fa):=
 ⟨Gb (ha:=ha.h)⟩
theorem lU {X:Cx}{a b c:Expr}{fa fb:En->Rs T}{pos:Pos}{f:En->Rs Bool}(hc:QT X c f)(ha:QE X a fa)(hb:QE X b fb):QE X (Expr.IfExp c a b pos) (oK f fa fb):=
 ⟨q_if (hc:=hc.h) (ha:=ha.h) (hb:=hb.h)⟩
theorem aE {X:Cx}{a b:Expr}{fa fb:En->Rs T}{pos:Pos}(ha:QE X a fa)(hb:QE X b fb)(hs:autoParam (wc b) w_):QE X (KW a b pos) (o2 aP fa fb):=
 ⟨q_ix (ha:=ha.h) (hb:=hb.h) (hs:=hs)⟩
theorem lR {X:Cx}:QO X none pN:=
 ⟨Bg ⟩
theorem lQ {X:Cx}{a:Expr}{fa:En->Rs T}(ha:QE X a fa):QO X (some a) (pS fa):=
 ⟨Bf (ha:=ha.h)⟩
theorem lT {X:Cx}{a:Expr}{fa:En->Rs T}{pos:Pos}{lo hi:Option Expr}{p2:Pos}{fl fu:En->Rs (Option Int)}(ha:QE X a fa)(hl:QO X lo fl)(hu:QO X hi fu):QE X (KW a (Expr.Slice lo hi none p2) pos) (sl fa fl fu):=
 ⟨Bp (ha:=ha.h) (hl:=hl.h) (hu:=hu.h)⟩
theorem bR {X:Cx}{e:Expr}{es:List Expr}{fs:En->Rs (List T)}{pos p:Pos}{x:Str}{id:String}{g:List T->Rs T}(hc:CallT X (Value.builtin id) g)(hm:Cx.mg X x=none)(hv:Jw x=some (Value.builtin id))(ha:QA X (e::es) fs)(hn:bx (e::es)=true:=by rfl)(hg:Gl X x:=by rfl)(h1:autoParam (x≠Jb "__name__") s_)(h2:autoParam ((x == Jb "__debug__")=false) s_):QE X (KZ (JG x p) (e::es) [] pos) (cl g fs):=
 ⟨q_cB (hc:=hc) (hm:=hm) (hv:=hv) (ha:=ha.h) (hn:=hn) (hg:=hg) (h1:=h1) (h2:=h2)⟩
theorem rf {X:Cx}{e:Expr}{es:List Expr}{fs:En->Rs (List T)}{pos p:Pos}{x:Str}{Ty:String}{g:List T->Rs T}(hc:CallT X (L7 Ty) g)(hm:Cx.mg X x=none)(hv:Jw x=some (L7 Ty))(ha:QA X (e::es) fs)(hn:bx (e::es)=true:=by rfl)(hg:Gl X x:=by rfl)(h1:autoParam (x≠Jb "__name__") s_)(h2:autoParam ((x == Jb "__debug__")=false) s_):QE X (KZ (JG x p) (e::es) [] pos) (cl g fs):=
 ⟨q_cT (hc:=hc) (hm:=hm) (hv:=hv) (ha:=ha.h) (hn:=hn) (hg:=hg) (h1:=h1) (h2:=h2)⟩
theorem zq_c {X:Cx}{e:Expr}{es:List Expr}{fs:En->Rs (List T)}{pos p:Pos}{x:Str}{n k:Nat}{f:Addr}{fd:KM}{ps:List Str}{g:List T->Rs T}(F:Fv (Cx.prog X) (Cx.w X) (Cx.K X) (Cx.mg X) (Cx.base X) k f fd ps n g)(hr:Room k (Cx.A X))(hm:Cx.mg X x=some (Jg f))(hk:W.keepIn (Cx.K X) (Jg f)=true)(hb:L2.Binds (Cx.K X) fd ps [])(hl:∀(Z:En) (ts:List T),fs Z=Rs.ok ts->J4 ts=n)(ha:QA X (e::es) fs)(hps:J4 ps=n:=by rfl)(hn:bx (e::es)=true:=by rfl)(hg:Gl X x:=by rfl)(h2:autoParam ((x == Jb "__debug__")=false) s_):QE X (KZ (JG x p) (e::es) [] pos) (cl g fs):=
 ⟨q_c (F:=F) (hr:=hr) (hm:=hm) (hk:=hk) (hb:=hb) (hl:=hl) (ha:=ha.h) (hps:=hps) (hn:=hn) (hg:=hg) (h2:=h2)⟩
theorem u6 {X:Cx}{a:Expr}{fa:En->Rs T}{pos p p2:Pos}{tn:Str}{Ty:String}(hm:Cx.mg X (Jb "isinstance")=none)(hmt:Cx.mg X tn=none)(hv:Jw tn=some (L7 Ty))(ha:QE X a fa)(hn:bz a=true:=by rfl)(hg:Gl X (Jb "isinstance"):=by rfl)(hgt:Gl X tn:=by rfl)(h1:autoParam (tn≠Jb "__name__") s_)(h2:autoParam ((tn == Jb "__debug__")=false) s_):QE X (KZ (JG (Jb "isinstance") p) [a,JG tn p2] [] pos) (o1 (zF Ty) fa):=
 ⟨q_is (hm:=hm) (hmt:=hmt) (hv:=hv) (ha:=ha.h) (hn:=hn) (hg:=hg) (hgt:=hgt) (h1:=h1) (h2:=h2)⟩
theorem ao {X:Cx}{pos:Pos}{x:Str}(i:Nat)(hN:LI (Cx.N X))(hi:(Cx.N X)[i]? =some x:=by rfl)(hx:autoParam (L2.Loc (K7 (Cx.env X)) x) x_)(hf:autoParam (Cx.fn X x=true\/L3 x (NK (K7 (Cx.env X)))=some NameKind.local) r_):QG X (JG x pos) (gN i):=
 ⟨Bm (i:=i) (hN:=hN) (hi:=hi) (hx:=hx) (hf:=hf)⟩
theorem gy {X:Cx}:HD X [] vP:=
 ⟨Bk ⟩
theorem bV {X:Cx}{e:Expr}{es:List Expr}{g:T->En->Rs En}{gs:List T->En->Rs En}(h1:QG X e g)(h2:HD X es gs)(hs:List.map (λx=>Prod.snd x) (KB (e::es) (Cx.env X))=assign e (Cx.env X)::List.map (λx=>Prod.snd x) (KB es (Cx.env X)):=by rfl):HD X (e::es) (kR g gs):=
 ⟨yu (h1:=h1.h) (h2:=h2.h) (hs:=hs)⟩
theorem iX {X:Cx}{es:List Expr}{pos:Pos}{k n:Nat}{gs:List T->En->Rs En}(hc:Cx.calm X=true)(h:HD X es gs)(hn:J4 (KB es (Cx.env X))=n:=by rfl)(hst:List.findIdx? (λx=>Prod.fst x) (KB es (Cx.env X))=none:=by rfl):QG X (Expr.Tuple es k pos) (gT n gs):=
 ⟨DM (hc:=hc) (h:=h.h) (hn:=hn) (hst:=hst)⟩
theorem cY {X:Cx}{a:Expr}{fs:En->Rs (List T)}{pos p:Pos}{tg:Expr}(hm:Cx.mg X (Jb "range")=none)(ha:QA X [a] fs)(hg:Gl X (Jb "range"):=by rfl)(hs:Jj [a] (Cx.env X)= [(false,eval a (Cx.env X))]:=by rfl):QI X tg (KZ (JG (Jb "range") p) [a] [] pos) (iR fs):=
 ⟨wK (hm:=hm) (ha:=ha.h) (hg:=hg) (hs:=hs)⟩
theorem bF {X:Cx}:FF X [] bT:=
 ⟨Bi ⟩
theorem lS {X:Cx}{c:Expr}{f:En->Rs Bool}(h:QT X c f):FF X [c] f:=
 ⟨Bh (h:=h.h)⟩
theorem FG {X:Cx}{pos:Pos}{elt tg iter:Expr}{ifs:List Expr}{scope:L1}{N':List Str}{src:List (Option Nat)}{fi:En->Rs (List T)}{tgt:T->En->Rs En}{fc:En->Rs Bool}{fe:En->Rs T}(hc:Cx.calm X=true)(S:LcScope X scope N' src)(hi:QI X tg iter fi)(block:∀(cl:List (Str×Addr)) (C:Addr) (s₀:IR) (H₀:Hp) (fp:List Addr),QG (br X scope cl N' C s₀ H₀ fp) tg tgt/\FF (br X scope cl N' C s₀ H₀ fp) ifs fc/\QE (br X scope cl N' C s₀ H₀ fp) elt fe)(hs:autoParam (∀(x:IQ),Jy iter (Cx.env X) x=pure x) t_):QE X (NL elt [{ target:=tg,iter:=iter,ifs:=ifs,is_async:=0 }] scope pos) (dQ fi src tgt fc fe):=
 ⟨q_lc (hc:=hc) (S:=S) (hi:=hi.h) (block:=λa1 a2 a3 a4 a5=>⟨(block a1 a2 a3 a4 a5).1.h,(block a1 a2 a3 a4 a5).2.1.h,(block a1 a2 a3 a4 a5).2.2.h⟩) (hs:=hs)⟩
theorem aY {X:Cx}:Ao X [] sN:=
 ⟨DD ⟩
theorem aj {X:Cx}{st:Stmt}{rest:List Stmt}{F G:En->Rs Fl}(h1:QS X st F)(h2:Ao X rest G):Ao X (st::rest) (ay F G):=
 ⟨Be (h1:=h1.h) (h2:=h2.h)⟩
theorem aq {X:Cx}{st:Stmt}{F:En->Rs Fl}(h:QS X st F):Ao X [st] F:=
 ⟨DB (h:=h.h)⟩
theorem ax {X:Cx}{a:Expr}{fa:En->Rs T}{pos:Pos}(ha:QE X a fa):QS X (Stmt.Return (some a) pos) (aR fa):=
 ⟨Dz (ha:=ha.h)⟩
theorem bB {X:Cx}{c:Expr}{pos:Pos}{f:En->Rs Bool}{A B:List Stmt}{F G:En->Rs Fl}(hc:QT X c f)(ha:Ao X A F)(hb:Ao X B G):QS X (Stmt.If c A B pos) (eR f F G):=
 ⟨F6 (hc:=hc.h) (ha:=ha.h) (hb:=hb.h)⟩
theorem C5 {X:Cx}{pos:Pos}{elt tg iter:Expr}{ifs:List Expr}{scope:L1}{spos py:Pos}{N':List Str}{src:List (Option Nat)}{fi:En->Rs (List T)}{tgt:T->En->Rs En}{fc:En->Rs Bool}{fe:En->Rs T}(i:Nat){y:Str}(hc:Cx.calm X=true)(S:LcScope X scope N' src)(hi:QI X tg iter fi)(block:∀(cl:List (Str×Addr)) (C:Addr) (s₀:IR) (H₀:Hp) (fp:List Addr),QG (br X scope cl N' C s₀ H₀ fp) tg tgt/\FF (br X scope cl N' C s₀ H₀ fp) ifs fc/\QE (br X scope cl N' C s₀ H₀ fp) elt fe)(hN:LI (Cx.N X))(hiy:(Cx.N X)[i]? =some y:=by rfl)(hy:autoParam (L2.Loc (K7 (Cx.env X)) y) x_)(hsw:J0 (NL elt [{ target:=tg,iter:=iter,ifs:=ifs,is_async:=0 }] scope pos) (some (JG y py)) (LJ spos) (Cx.env X)=pure true:=by rfl)(hf:autoParam (Cx.fn X y=true\/L3 y (NK (K7 (Cx.env X)))=some NameKind.local) r_)(hs:autoParam (∀(x:IQ),Jy iter (Cx.env X) x=pure x) t_):QS X (Mu [JG y py] (NL elt [{ target:=tg,iter:=iter,ifs:=ifs,is_async:=0 }] scope pos) spos) (cg (dQ fi src tgt fc fe) (gN i)):=
 ⟨F5 (i:=i) (hc:=hc) (S:=S) (hi:=hi.h) (block:=λa1 a2 a3 a4 a5=>⟨(block a1 a2 a3 a4 a5).1.h,(block a1 a2 a3 a4 a5).2.1.h,(block a1 a2 a3 a4 a5).2.2.h⟩) (hN:=hN) (hiy:=hiy) (hy:=hy) (hsw:=hsw) (hf:=hf) (hs:=hs)⟩
theorem aD {X:Cx}{a:Expr}{fa:En->Rs T}{pos:Pos}{tg:Expr}{g:T->En->Rs En}(ha:QE X a fa)(hg:QG X tg g)(hs:O8 [tg] a (LJ pos) (Cx.env X)=pure false:=by rfl)(hw:O9 [tg] a (Cx.env X)=pure none:=by rfl)(h1:List.map (λx=>Prod.snd x) (KB [tg] (Cx.env X))= [assign tg (Cx.env X)]:=by rfl):QS X (Mu [tg] a pos) (cg fa g):=
 ⟨DI (ha:=ha.h) (hg:=hg.h) (hs:=hs) (hw:=hw) (h1:=h1)⟩
theorem dv {X:Cx}{a:Expr}{fa:En->Rs T}{pos:Pos}(ha:QE X a fa)(hs:J0 a none (LJ pos) (Cx.env X)=pure false:=by rfl):QS X (Stmt.Expr a pos) (uo fa):=
 ⟨Bd (ha:=ha.h) (hs:=hs)⟩
theorem cA {X:Cx}{pos:Pos}{tg iter:Expr}{body:List Stmt}{fi:En->Rs (List T)}{g:T->En->Rs En}{F:En->Rs Fl}(hc:Cx.calm X=true)(hi:QI X tg iter fi)(hg:QG (Cx.nox X) tg g)(hb:Ao (Cx.nox X) body F)(hs:autoParam (∀(x:IQ),Jy iter (Cx.env X) x=pure x) t_):QS X (Stmt.For tg iter body [] pos) (eU fi g F):=
 ⟨DF (hc:=hc) (hi:=hi.h) (hg:=hg.h) (hb:=hb.h) (hs:=hs)⟩
theorem wj {X:Cx}{pos:Pos}{c:Expr}{body:List Stmt}{fc:En->Rs Bool}{F:En->Rs Fl}(n:Nat)(hc:QT (Cx.nox X) c fc)(hb:Ao (Cx.nox X) body F):QS X (Stmt.While c body [] pos) (bM fc F n):=
 ⟨yo (n:=n) (hc:=hc.h) (hb:=hb.h)⟩
theorem bu {X:Cx}{a:Expr}{fa:En->Rs T}{tg:Expr}(ha:QE X a fa):QI X tg a (iS fa):=
 ⟨DL (ha:=ha.h)⟩
theorem ip {X:Cx}{a:Expr}{fs:En->Rs (List T)}{p pos:Pos}{elts:List Expr}{kk:Nat}{tpos:Pos}(hm:Cx.mg X (Jb "enumerate")=none)(ha:QA X [a] fs)(hg:Gl X (Jb "enumerate"):=by rfl)(hs:Jj [a] (Cx.env X)= [(false,eval a (Cx.env X))]:=by rfl):QI X (Expr.Tuple elts kk tpos) (KZ (JG (Jb "enumerate") p) [a] [] pos) (iE fs):=
 ⟨Bj (hm:=hm) (ha:=ha.h) (hg:=hg) (hs:=hs)⟩
theorem jR {X:Cx}{es:List Expr}{pos p2 p3:Pos}{x:Str}(i:Nat){f:En->Rs (List T)}(hN:LI (Cx.N X))(ha:QA X es f)(hi:(Cx.N X)[i]? =some x:=by rfl)(hx:autoParam (L2.Loc (K7 (Cx.env X)) x) x_)(hs:J0 (Expr.List es p2) (some (JG x p3)) (LJ pos) (Cx.env X)=pure false:=by rfl)(hf:autoParam (Cx.fn X x=true\/L3 x (NK (K7 (Cx.env X)))=some NameKind.local) r_):QS X (Mu [JG x p3] (Expr.List es p2) pos) (jq i f):=
 ⟨Bb (i:=i) (hN:=hN) (ha:=ha.h) (hi:=hi) (hx:=hx) (hs:=hs) (hf:=hf)⟩
theorem pd {X:Cx}{a:Expr}{fa:En->Rs T}{pos p2:Pos}{x:Str}(i:Nat){apos cpos:Pos}(ha:QE X a fa)(hN:(Cx.N X)[i]? =some x:=by rfl)(hv:autoParam (tW (K7 (Cx.env X)) x) u_)(hn:bz a=true:=by rfl)(hbase:KG (JG x p2) (Jb "append") (Cx.env X) (eval (JG x p2) (Cx.env X))=eval (JG x p2) (Cx.env X):=by rfl)(hline:(OJ apos == LJ cpos)=true:=by rfl)(hd:autoParam ((x == Jb "__debug__")=false) s_)(hcd:autoParam ((x == Jb "__classdict__")=false) s_)(hsw:J0 (KZ (LX (JG x p2) (Jb "append") apos) [a] [] cpos) none (LJ pos) (Cx.env X)=pure false:=by rfl):QS X (Stmt.Expr (KZ (LX (JG x p2) (Jb "append") apos) [a] [] cpos) pos) (nN i fa):=
 ⟨DJ (i:=i) (ha:=ha.h) (hN:=hN) (hv:=hv) (hn:=hn) (hbase:=hbase) (hline:=hline) (hd:=hd) (hcd:=hcd) (hsw:=hsw)⟩
theorem o9 {X:Cx}{a:Expr}{fa:En->Rs T}{pos p2:Pos}{x:Str}(i:Nat){apos cpos:Pos}(ha:QE X a fa)(hN:(Cx.N X)[i]? =some x:=by rfl)(hv:autoParam (tW (K7 (Cx.env X)) x) u_)(hn:bz a=true:=by rfl)(hbase:KG (JG x p2) (Jb "extend") (Cx.env X) (eval (JG x p2) (Cx.env X))=eval (JG x p2) (Cx.env X):=by rfl)(hline:(OJ apos == LJ cpos)=true:=by rfl)(hd:autoParam ((x == Jb "__debug__")=false) s_)(hcd:autoParam ((x == Jb "__classdict__")=false) s_)(hsw:J0 (KZ (LX (JG x p2) (Jb "extend") apos) [a] [] cpos) none (LJ pos) (Cx.env X)=pure false:=by rfl):QS X (Stmt.Expr (KZ (LX (JG x p2) (Jb "extend") apos) [a] [] cpos) pos) (md i fa):=
 ⟨DG (i:=i) (ha:=ha.h) (hN:=hN) (hv:=hv) (hn:=hn) (hbase:=hbase) (hline:=hline) (hd:=hd) (hcd:=hcd) (hsw:=hsw)⟩
theorem iW {X:Cx}(i:Nat){st:Stmt}{F:En->Rs Fl}(h:QS X st F):QS X st (mf i F):=
 ⟨DH (i:=i) (h:=h.h)⟩
theorem jl {X:Cx}(i:Nat){e:Expr}{f:En->Rs T}(h:QE X e f):QE X e (ln i f):=
 ⟨q_ln (i:=i) (h:=h.h)⟩
theorem C4 {X:Cx}(i:Nat){e:Expr}{f:En->Rs Bool}(h:QT X e f):QT X e (Ey i f):=
 ⟨F4 (i:=i) (h:=h.h)⟩
theorem C6 {X:Cx}{pos:Pos}:QS X (Stmt.Continue pos) FX:=
 ⟨F7 ⟩
theorem kD {X:Cx}{c:Str}{msg:Str}{C:Addr}{bm:List IQ}{np p1 cpos pos:Pos}{j:Nat}(O:OX X.K C bm)(hm:X.mg c=some (.ref C))(hc:X.calm=true:=by rfl)(hg:Gl X c:=by rfl)(hd:autoParam ((c == ("__debug__" : Str))=false) s_) :
  QS X (.Raise (some (.Call (.Name c np) [.Constant (.str msg) j p1] [] cpos)) none pos) (yh c):=⟨yp O.own hc hm hg hd⟩
theorem vd {P:Jp}{w:J2}{K:II}{mg:Str->Option IQ}{base:Heap}{x qual:Str}{st:Stmt}{f:Addr}{fd:KM}{N ps:List Str}{k n:Nat}{F:En->Rs Fl}(Fn:L2.Fun K x qual st f fd)(S:d9 N ps (aB st))(hn:ps.length=n)
  (hbody:∀(cdv:IQ) (A:JO) (outer:List Env) (s:IR) (H:Hp) (E:XK),Room k (A.deeper (envOfC qual (aB st) s.heap.objs.size f cdv)) →
   ∀xe,Ao ((km CX0 P w K mg base N qual (aB st) f cdv A outer s H E).FM xe) (cE st) F):Fv P w K mg base (k+1) f fd ps n (val n N.length F):=E6 Fn S hn λcdv A outer s H E hr xe=>(hbody cdv A outer s H E hr xe).h
theorem bh {X:Cx}{a b:Expr}{fa fb:En->Rs T}{pos:Pos}(hu:MD (Cx.A X)+1<cLine)(ha:QE X a fa)(hb:QE X b fb)(hs:autoParam (xF b) w_):QE X (KW a b pos) (o2 aM fa fb):=
 ⟨Gi (hu:=hu) (ha:=ha.h) (hb:=hb.h) (hs:=hs)⟩
theorem u7 {X:Cx}{a b:Expr}{fa fb:En->Rs T}{apos cpos:Pos}(hu:MD (Cx.A X)+1<cLine)(ha:QE X a fa)(hb:QE X b fb)(hn:bz b=true:=by rfl)(hbase:KG a (Jb "get") (Cx.env X) (eval a (Cx.env X))=eval a (Cx.env X):=by rfl)(hline:(OJ apos == LJ cpos)=true:=by rfl):QE X (KZ (LX a (Jb "get") apos) [b] [] cpos) (oD ij fa fb):=
 ⟨DS (hu:=hu) (ha:=ha.h) (hb:=hb.h) (hn:=hn) (hbase:=hbase) (hline:=hline)⟩
theorem wq {X:Cx}{a b:Expr}{fa fb:En->Rs T}{apos cpos:Pos}(hu:MD (Cx.A X)+61<cLine)(ha:QE X a fa)(hb:QE X b fb)(hn:bz b=true:=by rfl)(hbase:KG a (Jb "index") (Cx.env X) (eval a (Cx.env X))=eval a (Cx.env X):=by rfl)(hline:(OJ apos == LJ cpos)=true:=by rfl):QE X (KZ (LX a (Jb "index") apos) [b] [] cpos) (oL f7 fa fb):=
 ⟨yv (hu:=hu) (ha:=ha.h) (hb:=hb.h) (hn:=hn) (hbase:=hbase) (hline:=hline)⟩
theorem wo {X:Cx}{pos p2 p3:Pos}{x:Str}(i:Nat)(hN:LI (Cx.N X))(hi:(Cx.N X)[i]? =some x:=by rfl)(hx:autoParam (L2.Loc (K7 (Cx.env X)) x) x_)(hs:J0 (Expr.Dict [] [] p2) (some (JG x p3)) (LJ pos) (Cx.env X)=pure false:=by rfl)(hf:autoParam (Cx.fn X x=true\/L3 x (NK (K7 (Cx.env X)))=some NameKind.local) r_):QS X (Mu [JG x p3] (Expr.Dict [] [] p2) pos) (pI i):=
 ⟨yr (i:=i) (hN:=hN) (hi:=hi) (hx:=hx) (hs:=hs) (hf:=hf)⟩
theorem xN {X:Cx}{e:Expr}{f:En->Rs T}{x:Str}{p pos p2 p3:Pos}(i:Nat)(hu:MD (Cx.A X)+8<cLine)(hc:Cx.calm X=true)(hm:Cx.mg X (Jb "dict")=none)(hN:LI (Cx.N X))(ha:QE X e f)(hst:bz e=true:=by rfl)(hg:Gl X (Jb "dict"):=by rfl)(hi:(Cx.N X)[i]? =some x:=by rfl)(hx:autoParam (L2.Loc (K7 (Cx.env X)) x) x_)(hs:J0 (KZ (JG (Jb "dict") p) [e] [] p2) (some (JG x p3)) (LJ pos) (Cx.env X)=pure false:=by rfl)(hf:autoParam (Cx.fn X x=true\/L3 x (NK (K7 (Cx.env X)))=some NameKind.local) r_):QS X (Mu [JG x p3] (KZ (JG (Jb "dict") p) [e] [] p2) pos) (oj i f):=
 ⟨Bc (i:=i) (hu:=hu) (hc:=hc) (hm:=hm) (hN:=hN) (ha:=ha.h) (hst:=hst) (hg:=hg) (hi:=hi) (hx:=hx) (hs:=hs) (hf:=hf)⟩
theorem u4 {X:Cx}{b c:Expr}{fb fc:En->Rs T}{pos p2 p3:Pos}{x:Str}(i:Nat)(hu:MD (Cx.A X)+1<cLine)(hb:QE X b fb)(hc:QE X c fc)(hN:(Cx.N X)[i]? =some x:=by rfl)(hv:autoParam (tW (K7 (Cx.env X)) x) u_)(hd:autoParam ((x == Jb "__debug__")=false) s_)(hcd:autoParam ((x == Jb "__classdict__")=false) s_)(hs:J0 c (some (KW (JG x p2) b p3)) (LJ pos) (Cx.env X)=pure false:=by rfl):QS X (Mu [KW (JG x p2) b p3] c pos) (nM i fb fc):=
 ⟨DA (i:=i) (hu:=hu) (hb:=hb.h) (hc:=hc.h) (hN:=hN) (hv:=hv) (hd:=hd) (hcd:=hcd) (hs:=hs)⟩
theorem lP {X:Cx}{a b c:Expr}{fa fb fc:En->Rs T}{pos p2 p3 p4:Pos}{x:Str}(i:Nat)(hu:MD (Cx.A X)+1<cLine)(ha:QE X a fa)(hb:QE X b fb)(hc:QE X c fc)(hsl:autoParam (xF a) w_)(hN:(Cx.N X)[i]? =some x:=by rfl)(hv:autoParam (tW (K7 (Cx.env X)) x) u_)(hd:autoParam ((x == Jb "__debug__")=false) s_)(hcd:autoParam ((x == Jb "__classdict__")=false) s_)(hs:J0 c (some (KW (KW (JG x p2) a p3) b p4)) (LJ pos) (Cx.env X)=pure false:=by rfl):QS X (Mu [KW (KW (JG x p2) a p3) b p4] c pos) (hY i fa fb fc):=
 ⟨Ba (i:=i) (hu:=hu) (ha:=ha.h) (hb:=hb.h) (hc:=hc.h) (hsl:=hsl) (hN:=hN) (hv:=hv) (hd:=hd) (hcd:=hcd) (hs:=hs)⟩
end Tr
namespace Tr
open PySem PySem.Spec L2
theorem LcScope.byN {X:Cx}{scope:L1}{N N':List Str}{src:List (Option Nat)}(hN:X.N=N)(hk:scope.kind= .function)(h:BW scope.names N scope.names N' src=true)
  (hf:(scope.names.all λy=>y.2 != .free||(X.env.scope.names.lookup y.1 == some .cell||X.env.scope.names.lookup y.1 == some .free))=true):LcScope X scope N' src:=by
 have z:=LcScope.by (X:={ X with env:={ X.env with scope:=scope } }) hN rfl hk h
 refine⟨hk,z.cel,z.loc,z.len,z.from_,λx hx=> ?_⟩
 have:=Jf.mp hf _ hx;simp only[bne_self_eq_false,NJ,Qo]at this
 show X.env.scope.names.lookup x=_\/X.env.scope.names.lookup x=_
 rcases this with z | z
 ·exact .inl (by simpa using z)
 ·exact .inr (by simpa using z)
end Tr
namespace Tr
open PySem PySem.Spec PyProof.Rows L2 PySem.W
theorem zN (h:Heap):(zP h).In h:=by
 have key:∀(l:List Nat) (a:Addr) (o:Obj),(l.filterMap λa=>(h.get? a).map λo=>(a,o)).lookup a=some o->h.get? a=some o:=by
  intro l
  induction l with
  | nil=>intro a o e;cases e
  | cons b r ih=>
   intro a o e
   cases hb:h.get? b with
   | none=>rw[Nv (by rw[hb];rfl)]at e;exact ih a o e
   | some ob=>
    rw[Kl (b:=(b,ob)) (by rw[hb];rfl),Kb]at e
    cases q:a == b with
    | true=>rw[q]at e;cases e;rw[eq_of_beq q];exact hb
    | false=>rw[q]at e;exact ih a o e
 exact λa o e=>key _ a o e
theorem CY {K:Frag}{n:Str}{st:Stmt}(e:obF K n=exF n st):∃f fd,nsIn K JF n=some (some (.ref f))/\L2.Fun K n n st f fd:=by
 unfold obF at e
 split at e
 ·rename_i f hf
  split at e
  ·rename_i oc od d sl hl
   cases d;unfold exF at e;simp only[Np,Prod.mk.injEq]at e;obtain⟨h1,h2,h3,h4,h5,h6,h7,h8,h9,h10,h11⟩:=e;subst h1 h2 h3 h4 h5 h6 h7 h8 h9;exact⟨f,_,hf,EX hl h10 h11⟩
  ·cases e
 ·cases e
theorem mB {K:Frag}{N:Addr}{n:Str}(e:GC K N n=true):nsIn K N n=some none:=by
 unfold GC at e
 split at e
 ·assumption
 ·cases e
theorem Et {K:Frag}{n:Str}{i:Int}(e:HA K n=some i):∃t,nsIn K JF n=some (some (.int i t)):=by
 unfold HA at e
 split at e
 ·rename_i i' t h;cases e;exact⟨t,h⟩
 ·cases e
theorem lV:∀{l:List IQ},vf l=true->l=uR:=by
 intro l e;unfold vf at e
 split at e
 ·simp only[IT,beq_iff_eq]at e
  obtain⟨⟨⟨h1,h2⟩,h3⟩,h4⟩:=e;subst h1 h2 h3 h4;rfl
 ·cases e
theorem jG {K:Frag}{D:Option Addr}{n:Str}{C:Addr}(e:BO K D n=some C):nsIn K JF n=some (some (.ref C)) ∧
  ∃nm q N bs bm hd sn su ab co dd k0 k1 k2 k3 k5,xW D bm=true/\K.lookup C=some (MX nm q C N bs bm hd sn su ab co dd k0 k1 k2 k3 k5 "ValueError.__new__")/\∀h:Heap,K.In h->∃mN,h.Ns N mN/\∀n∈calmNames,mN n=none:=by
 unfold BO at e
 split at e
 ·rename_i C' hC
  split at e
  ·rename_i t dd c k0 k1 k2 k3 b k5 hl
   split at e
   ·rename_i E m ob oe es ep oz hm hN
    split at e
    ·rename_i hq
     cases e;simp only[IT,beq_iff_eq,Pw]at hq;obtain⟨⟨⟨⟨⟨⟨h1,h2⟩,h3⟩,h4⟩,h5⟩,h6⟩,h7⟩:=hq
     have z:=Jf.mp h5;refine⟨hC,c.name,c.qualname,c.ns,c.bases,m,c.hasDict,c.slotNames,c.subclasses,c.abstract,c.collection,dd,k0,k1,k2,k3,k5,h7,?_,GD hN h4 (mB (z _ (.head _))) (mB (z _ (.tail _ (.head _)))) (mB (z _ (.tail _ (.tail _ (.head _))))) (mB (z _ (.tail _ (.tail _ (.tail _ (.head _))))))⟩
     rw[hl];cases c;simp only at hm h3;subst h1 h2 hm h3 h6
     rfl
    ·cases e
   ·cases e
  ·cases e
 ·cases e
theorem ox0 {K:Frag}{C:Addr}{n:Str}(e:BO K none n=some C):OX K C uR:=by
 obtain⟨_,_,_,_,_,_,_,_,_,_,_,_,_,_,_,_,_,hu,hl,hn⟩:=jG e;cases lV hu;exact BH hl hn
theorem ox1 {K:Frag}{C D:Addr}{n m:Str}(e:BO K (some D) n=some C)(d:BO K none m=some D):OX K C (.ref D::uR):=by
 obtain⟨_,_,_,_,_,bm,_,_,_,_,_,_,_,_,_,_,_,hu,hl,hn⟩:=jG e;obtain⟨_,_,_,_,_,_,_,_,_,_,_,_,_,_,_,_,_,hu',hl',hn'⟩:=jG d;cases lV hu';unfold xW at hu;simp only at hu
 split at hu
 ·rw[IT]at hu
  cases eq_of_beq hu.1;cases lV hu.2;exact yM hl hn hl' hn'
 ·cases hu
theorem k6 {α:Type}{o:Option α}{r:List (Option α)}{l:List α}(e:uT (o::r)=some l):∃a l',o=some a/\l=a::l'/\uT r=some l':=by
 cases o with
 | none=>cases e
 | some a=>
  unfold uT at e
  split at e
  ·rename_i l' h;cases e;exact⟨a,l',rfl,rfl,h⟩
  ·cases e
theorem Ak {α:Type}{l:List α}(e:uT ([]:List (Option α))=some l):l= []:=by cases e;rfl
theorem oq:∀{l:List Addr},qf l=true->l.Nodup
 | [],_=> .nil
 | a::r,h=>by
  unfold qf at h;rw[IT]at h;refine Jq.mpr ⟨λhm=> ?_,oq h.2⟩
  have:=Jf.mp h.1 a hm
  simp at this
theorem Es {K:Frag}{m:Str}{es:List Str}(e:Hz K (m::es)=true):∃D l,BO K none m=some D/\uT (es.map (BO K (some D)))=some l/\(l++ [D]).Nodup:=by
 rw[Hz]at e
 split at e
 ·rename_i D hD
  split at e
  ·rename_i l hl;exact⟨D,l,hD,hl,oq e⟩
  ·cases e
 ·cases e
section
variable {S:xJ}{top:Nat->Stmt}{K:Frag}{h:Heap}{mg:Str->Option IQ}
theorem qo {α β:Type}{f g:α->β}:∀{l:List α} (j:Nat) {a:α},l.map f=l.map g->l[j]? =some a->f a=g a
 | [],_,_,_,q=>by cases q
 | b::l,0,a,e,q=>by cases q;exact(List.cons.inj e).1
 | b::l,j+1,a,e,q=>qo (l:=l) j (List.cons.inj e).2 q
theorem zy (j:Nat){n:Str}{i:Nat}{ps:List Str}(X:K.In h)(G:h.Ns JF mg)(e:sj S K=rk S top)(q:S.tab[j]? =some (n,i))
  (hb:∀(kV doc pm:IQ) (an:Option Addr) (cdv ct:IQ) (us:List IQ),us.length=ps.length->Qe (fnOf n n (fD (top i)) (cE (top i)) (aB (top i)) .none kV doc pm an cdv ct) ⟨us,[]⟩=pure (ps.zip us)) :
  ∃f fd,Fn K mg n (top i) ps f fd:=by
 obtain⟨f,fd,h1,h2⟩:=CY (qo j (congrArg (·.1) e) q)
 exact⟨f,fd,h2,h2.binds hb,mg_of X G h1⟩
theorem GQ (j:Nat){n:Str}{i:Nat}{x:Str}{fa:Addr}(X:K.In h)(G:h.Ns JF mg)(e:sj S K=rk S top)(q:S.tab[j]? =some (n,i))(hfa:mg n=some (.ref fa))
  (hb:∀(kV doc pm:IQ) (an:Option Addr) (cdv ct u:IQ),Qe (fnOf n n (fD (top i)) (cE (top i)) (aB (top i)) .none kV doc pm an cdv ct) ⟨[u],[]⟩=pure [(x,u)]) :
  ∃fd,Fn K mg n (top i) [x] fa fd/\∀(s:IR) (u:IQ),PB s fd ⟨[u],[]⟩ [(x,u)]:=by
 obtain⟨f,fd,h1,h2⟩:=CY (qo j (congrArg (·.1) e) q)
 have z:=hfa.symm.trans (mg_of X G h1);cases z
 have hh:=h2;obtain⟨oc,od,kV,doc,pm,an,cdv,ct,osl,rfl,lk,hcd⟩:=hh.ex;exact⟨_,⟨h2,.all λus hl=>match us,hl with | [u],_=>hb kV doc pm an cdv ct u,mg_of X G h1⟩,λs u=> .of_eq (hb kV doc pm an cdv ct u)⟩
theorem dI (j:Nat){n:Str}(X:K.In h)(G:h.Ns JF mg)(e:sj S K=rk S top)(q:S.zs[j]? =some n):mg n=none:=
 mg_none_of X G (mB (Jf.mp (congrArg (·.2.1) e:S.zs.all (GC K JF)=true) n (JT q)))
theorem oG (j:Nat){n:Str}{i:Int}(X:K.In h)(G:h.Ns JF mg)(e:sj S K=rk S top)(q:S.cs[j]? =some (n,i)):∃t,mg n=some (.int i t):=by
 obtain⟨t,ht⟩:=Et (qo (f:=λc=>HA K c.1) (g:=λc=>some c.2) j (congrArg (·.2.2.1) e) q)
 exact⟨t,mg_of X G ht⟩
theorem GU (e:sj S K=rk S top):Hz K S.es=true:=congrArg (·.2.2.2) e
end
theorem left_of {p q:Jp}{loose:List Str}{Xt:IR->Bool}{α:Type}{Yf:IR->α}{Ya:J2->α}{N:Nat}{g0:Bool}
  (e:opening p=plainProg p.main.scope.names) (hN:Nat.ble 600 N=true) (f:∀s,fenceModules? p s=some s)
  (h:∀(w:J2) (os:OsState),(topFrom treeTable p w N ⟨boot_heap w.params,⟨[]⟩,boot_drawn,boot_toks,os⟩).map (λs=>(openSeen q loose (Qw p.main.body) Xt g0 s,Yf s))=some (openGood q loose,Ya w)) :
  LeftO p q loose Xt Yf Ya N g0:=λw=>by
 obtain⟨⟨h0,gs,d,k,os⟩,e1,e2⟩:=Kg.mp (boot_open e hN f w);simp only[Prod.mk.injEq]at e2;obtain⟨rfl,rfl,rfl,rfl⟩:=e2;unfold openEnds;rw[e1];exact h w os
structure Cl (P:Jp)(w:J2)(K:Frag)(mg:Str->Option IQ)(base:Heap)(k:Nat)(x:Str)(n:Nat)(m:List T->Rs T):Prop where
 ex:∃f fd ps,mg x=some (.ref f)/\keepIn K (.ref f)=true/\Binds K fd ps []/\ps.length=n/\Fv P w K mg base k f fd ps n m
abbrev fU (K:Frag)(mg:Str->Option IQ)(x:Str)(st:Stmt)(ps:List Str):Prop:=∃f fd,Fn K mg x st ps f fd
section
variable {P:Jp}{w:J2}{K:Frag}{mg:Str->Option IQ}{base:Heap}{x:Str}{st:Stmt}{N ps:List Str}{k n:Nat}{F:En->Rs Fl}
theorem Hd (H:fU K mg x st ps)(S:d9 N ps (aB st))(hn:ps.length=n)
  (hbody:∀(f:Addr) (cdv:IQ) (A:JO) (outer:List Env) (s:IR) (H:Hp) (E:XK),Room k (A.deeper (envOfC x (aB st) s.heap.objs.size f cdv)) →
   ∀xe,Ao ((km CX0 P w K mg base N x (aB st) f cdv A outer s H E).FM xe) (cE st) F):Cl P w K mg base (k+1) x n (val n N.length F):=by
 obtain⟨f,fd,h⟩:=H;exact⟨f,fd,ps,h.mg,h.fn.kp,h.bd,hn,vd h.fn S hn (hbody f)⟩
end
section
variable {X:Cx}{e:Expr}{es:List Expr}{fs:En->Rs (List T)}{pos p:Pos}{x:Str}{n k k':Nat}{g:List T->Rs T}
theorem aO (c:Cl X.prog X.w X.K X.mg X.base k x n g)(hr:Room k' X.A)(ha:QA X (e::es) fs)(hk:autoParam (k<=k') s_)(hl:∀(Z:En) (ts:List T),fs Z= .ok ts->ts.length=n:=by repeat first | exact Hj | refine Hi ?_)
  (hn:bx (e::es)=true:=by rfl) (hg:Gl X x:=by rfl) (h2:autoParam ((x == Jb "__debug__")=false) s_):QE X (.Call (.Name x p) (e::es) [] pos) (cl g fs):=by
 obtain⟨f,fd,ps,h1,h3,h4,h5,h6⟩:=c.ex;exact zq_c h6 (hr.mono hk) h1 h3 h4 hl ha h5 hn hg h2
theorem qZ {i:Int}(h:∃t,X.mg x=some (.int i t))(hg:Gl X x:=by rfl)(hd:autoParam ((x == Jb "__debug__")=false) s_):QE X (.Name x pos) (cn (.int i)):=by
 obtain⟨t,h⟩:=h;exact AF h ⟨_,rfl⟩ hg hd
end
def hookC (S:tV)(top:Nat->Stmt):Hook:=
 ⟨_,λs=>yU S (zP s.heap),λ_=>xV S top,λ_ h=> ∃K:Frag,K.In h/\yU S K=xV S top,λ_ s e=>⟨_,zN s.heap,e⟩,λ_ _ _ ⟨K,a,b⟩ k=>⟨K,a.keeps k,b⟩⟩
theorem walk_c {l:OpenLaw}{n k:Nat}{q:Jp}{loose:List Str}{XP:(Str->Option IQ)->Heap->Prop}{d:DefRec}{S:tV}{top:Nat->Stmt}{CX:AB}{sp:Frag->Sp}{x:Str}
  (hn:l.most=some n) (hn2:n<=sizeLine) (hdf:d.params.defaults= []) (hr:Room k callerA)
  (F:∀(w:J2) (K:Frag) (mg:Str->Option IQ) (fa:Addr) (h:Heap),K.In h->yU S K=xV S top->h.Ns JF mg->mg d.name=some (.ref fa) →
   ∃fd:KM,(∀(s:IR) (u:IQ),PB s fd ⟨[u],[]⟩ [(x,u)])/\∀base:Heap,K.In base->base.Ns JF mg->qU l.prog w K mg base CX k fa fd [x] (sp K))
  (hsp:∀(K:Frag) (H:Hp) (a:Addr) (ns:List Int),ns.length<=n->Fu H->SqL K H a (ns.map V.int)->sp K [.ref a] H (λv _=>v= .bl true) λ_ _ _=>False)
  (hCX:∀(H:Hp) (s:IR) (e:IQ) (s':IR),CX [] H s (λ_ _ _=>False) e s'->False) :
  WalkO q loose XP (hookC S top).says l.row.toRowW d [] (λf vs=>PySem.call f vs):=by
 refine Att.attach_call hn hdf λw s₀ s₁ mg mb fa o pm cd doc a vs ns G Y ho hd hcd hmg hobj hints hlen hg=> ?_
 obtain⟨K,KX,e⟩:=Y;obtain⟨fd,hb,hF⟩:=F w K mg fa _ KX e G.T.g hmg;exact zj KX G.T.g G.T.b G.T.builtins G.T.nolimit hg hobj hints (JW hlen hn2) hr hF hb (λH hO hS=>hsp K H a ns hlen hO hS) λH e s'=>hCX H s₁ e s'
end Tr
namespace Tr
open PySem PySem.Spec PyProof.Rows L2
theorem PairsAt.snoc {H:Hp}{b kb:Addr}{p:List Key×V}(h1:H b=some (.tup [.ref kb,p.2]))(h2:H kb=some (.tup (p.1.map kV))):∀{xs:List V} {ps:List (List Key×V)},PairsAt H xs ps->PairsAt H (xs++ [.ref b]) (ps++ [p])
 | [],_,h=>by
  unfold PairsAt at h;subst h
  exact⟨b,kb,p,[],rfl,rfl,h1,h2,rfl⟩
 | x::xs,_,⟨b',kb',p',r,e1,e2,e3,e4,e5⟩=>by
  subst e1;exact⟨b',kb',p',r++ [p],rfl,e2,e3,e4,e5.snoc h1 h2⟩
theorem PairsAt.move {H H':Hp}{D:Addr}{zs:List V}(hD:H D=some (.lst zs))(s:SameO (λa=>a=D) H H'):∀{xs:List V} {ps:List (List Key×V)},PairsAt H xs ps->PairsAt H' xs ps
 | [],_,h=>h
 | x::xs,_,⟨b,kb,p,r,e1,e2,e3,e4,e5⟩=>⟨b,kb,p,r,e1,e2,s _ _ e3 (iG e3 hD (λz=>nomatch z)),s _ _ e4 (iG e4 hD (λz=>nomatch z)),e5.move hD s⟩
theorem PairsAt.len {H:Hp}:∀{xs:List V} {ps:List (List Key×V)},PairsAt H xs ps->xs.length=ps.length
 | [],_,h=>by unfold PairsAt at h;subst h;rfl
 | x::xs,_,⟨b,kb,p,r,e1,e2,e3,e4,e5⟩=>by subst e1;rw[IV,IV,e5.len]
section
variable {X:Cx}
theorem sU {src:List (Option Nat)}{wi:TI}{te:TE}{σ:L2.St}{H:Hp}{Q:VK}{Z:En}{O:Ow}{l:List T}{kk:List (List Key)}(E:EnvO X.K O H Z σ)(hwi:∀R,(∀H1,Same H H1->∀J,Hn X.K O H1 l J->R J H1)->wi σ H R)(hz:l.length<=1000)(hk:l.map keyOf=kk.map some)(hs:0<src.length)
  (Acc:Hp->Addr->List V->Prop) (a0:∀H1 D,Same H H1->Nw X.K H1 D->Acc (upd H1 D (.lst [])) D [])
  (am:∀H1 H2 D vs ys,Acc H1 D vs->H1 D=some (.lst ys)->SameO (λa=>a=D) H1 H2->Acc H2 D vs)
  (hte:∀t∈l,∀σ' H' O' D vs ys (Q':VK),EnvM X.K O' noM H' ((bH src Z).set 0 (.va t)) σ'->Acc H' D vs->H' D=some (.lst ys)->(∀v H'',Same H' H''->Acc H'' D (vs++ [v])->Q' v H'')->te σ' H' Q')
  (hq:∀H1 D ys ps H',Same H H1->Nw X.K H1 D->Same H1 H'->H' D=some (.lst ys)->PairsAt H' ys ps->ps.map (·.1)=kk->Acc H' D (ps.map (·.2))->Q (.ref D) H') :
  Df X.K wi src (wG X (gN 0)) rA (AQ (jT (rz 0) (jT te x6))) σ H Q:=by
 refine hwi _ λH1 s1 J hJ D hD hK=> ?_
 have nD:Nw X.K H1 D:=⟨hD,hK⟩
 have E1:=E.same s1
 have lk:l.length=kk.length:=by have:=congrArg J4 hk;rwa [IP,IP]at this
 have hlen:0<(bH src Z).length:=by unfold bH;rw[IP];exact hs
 let O':Ow:=λa=>O a\/a=D
 have subO:∀a,O' a->O a\/Nw X.K H1 a:=λa z=>z.elim .inl λw=> .inr (w▸nD)
 refine⟨λi m σ' ys H'=>m=l.length - i/\i<=l.length/\ys.length=i/\H' D=some (.lst ys)/\SameO (λa=>a=D) (upd H1 D (.lst [])) H' ∧
  ∃s0 ps,EnvM X.K O' noM H' ((bH src Z).set 0 s0) σ'/\PairsAt H' ys ps/\ps.map (·.1)=kk.take i/\Acc H' D (ps.map (·.2)),⟨l.length,?_⟩,?_⟩
 ·have sN:Same H1 (upd H1 D (.lst [])):=aS hD _
  refine⟨by omega,KP _,rfl,aH,λb o e _=>e,(bH src Z)[0],[],?_,rfl,rfl,a0 H1 D s1 nD⟩
  rw[Of]
  exact(sV E1 src).move (P:=λa=>a=D) (λa z=> .inr (z▸nD)) subO (λb o e _=>sN b o e) λa z=>by
   rcases z with z | z
   ·exact(E1.mtb a z).same sN
   ·rw[z];exact .inl ⟨_,aH⟩
 ·rintro i m σ' ys H' ⟨rfl,hi',hyl,hDl,hsm,s0,ps,E',hp,hkk,hacc⟩
  refine⟨hDl,?_⟩
  have sm1:SameO (λa=>a=D) H1 H':=λb o e nb=>hsm b o (by rw[aF nb];exact e) nb
  have it:=hJ (λa=>a=D) O' (λa z=> .inr (z▸nD)) subO i H' sm1 (λa z=>(E'.trk a z).some)
  by_cases hlt:i<l.length
  ·refine .inr ?_
   obtain⟨go,yl⟩:=it.2 l[i] (by simp)
   refine⟨go,by rw[hyl,K0];omega,λxx Hc y=> ?_⟩
   obtain⟨sc,rx⟩:=yl xx Hc y
   have Ec:=E'.same sc
   have eg:gN 0 l[i] ((bH src Z).set 0 s0)= .ok ((bH src Z).set 0 (.va l[i])):=by unfold gN;rw[if_pos (by rw[J9];exact hlen),PQ]
   refine⟨(bH src Z).set 0 s0,O',noM,l[i],Ec,rx,?_⟩
   rw[eg];intro σ1 Eg;unfold rA
   dsimp only
   rw[if_pos rfl];obtain⟨kv,ekv,rkv⟩:=Eg.val 0 l[i] (by rw[Jl hlen])
   refine⟨kv,ekv,?_⟩
   have aC:Acc Hc D (ps.map (·.2)):=am H' Hc D _ ys hacc hDl λb o e _=>sc b o e
   have DC:Hc D=some (.lst ys):=sc _ _ hDl;refine hte l[i] (Ku hlt) σ1 Hc O' D _ ys _ Eg aC DC λv H4 s4 acc4=>⟨by show 2<=sizeLine;rw[K0];omega,λp hpn=> ?_⟩
   have D4:H4 D=some (.lst ys):=s4 _ _ DC
   have pD:p≠D:=λz=>by rw[z,D4]at hpn;cases hpn
   have E4:=Eg.same s4
   have ki:kk[i]'(by omega)=kk[i]'(by omega):=rfl
   have hki:keyOf l[i] =some (kk[i]'(by omega)):=by
    have:=congrArg (λz=>z[i]?) hk
    simp only[Jm,IU hlt,IU (show i<kk.length by omega),Og]at this
    exact JB this
   obtain⟨kb,rfl,hkb⟩:=fz hki (rkv.same s4)
   have s46:SameO (λa=>a=D) H4 (upd (upd H4 p (.tup [.ref kb,v])) D (.lst (ys++ [.ref p]))):=λb o e nb=>by
    rw[aF nb,aF (λz=>by rw[z,hpn]at e;cases e)];exact e
   refine⟨by rw[aF (N8 pD)];exact D4,l.length - (i+1),by omega,rfl,hlt,?_,aH,λb o e nb=>s46 b o (s4 _ _ (sc _ _ (hsm b o e nb))) nb,.va l[i],ps++ [(kk[i]'(by omega),v)],?_,?_,?_,?_⟩
   ·rw[IX,hyl];rfl
   ·exact E4.move (λa z=> .inl (.inr z)) (λa z=> .inl z) s46 λaa z=>by
     by_cases hz:aa=D
     ·rw[hz];exact .inl ⟨_,aH⟩
     ·exact(E4.trk aa z).at λo e=>s46 _ _ e hz
   ·refine((hp.same (sc.trans s4)).move D4 s46).snoc (kb:=kb) (p:=(kk[i]'(by omega),v)) ?_ ?_
    ·rw[aF pD,aH]
    ·exact s46 _ _ hkb (iG hkb D4 (λz=>nomatch z))
   ·rw[Jv,hkk]
    show kk.take i++ [kk[i]'(by omega)] =kk.take (i+1)
    rw[List.take_append_getElem]
   ·rw[Jv]
    exact am H4 _ D _ ys acc4 D4 s46
  ·refine .inl ⟨it.1 (by omega),?_⟩
   have sF:Same H1 H':=λb o e=>sm1 b o e λz=>by rw[z,hD]at e;cases e
   exact hq H1 D ys ps H' s1 nD sF hDl hp (by rw[hkk,Ly (by omega)]) hacc
def ph (K:II)(t:TE):TE:=λσ H Q=>t σ H λv H'=> ∃a xs ps,v= .ref a/\H' a=some (.lst xs)/\xs.length<=1000/\PairsAt H' xs ps/\∀q,Nw K H' q->Q (.ref q) (upd H' q (.dT (dw [] ps)))
theorem r6 {e:Expr}{t:TE}{p pos:Pos}(hu:X.A.units+8<cLine)(hc:X.calm=true)(hm:X.mg "dict" =none)(ha:PE X e t)(hg:Gl X "dict")(hs:bz e=true):PE X (.Call (.Name "dict" p) [e] [] pos) (ph X.K t):=by
 have h1:Jj [e] X.env=(false,eval e X.env)::Jj [] X.env:=aW hs;intro pins s σ H Q I hq;refine JV (fo I hg hm (show Jw "dict" =some (.type "dict")by decide+kernel) ?_ (by decide) (by decide))
 refine JL (cq (dX (te:=t) ha iz h1 pos pins s σ H (λzs H'=>match zs with | [v] => ∃a xs ps,v= .ref a/\H' a=some (.lst xs)/\xs.length<=1000/\PairsAt H' xs ps/\∀q,Nw X.K H' q->Q (.ref q) (upd H' q (.dT (dw [] ps))) | _=>False) I ?_) λus s1 hh=> ?_) h1 rfl
 ·exact hq
 ·obtain⟨vs,H1,I1,r1,hv⟩:=hh
  match vs,hv,r1 with
  | [v],hv,r1=>
  obtain⟨a,xs,ps,ev,e1,e2,e3,e4⟩:=hv;subst ev;obtain⟨u,rfl,ru⟩:=r1.one;obtain rfl:u=Jg a:=ru;exact tJ (I1.ok.hd hc) hu I1 e1 e2 e3 λq s' nw I'=>⟨.ref q,_,I',rfl,e4 q nw⟩
end
theorem kH:∀(ps kvs:List (List Key×V)),((kvs++ps).map (·.1)).Nodup->dw kvs ps=kvs++ps
 | [],kvs,_=>by rw[dw,J7]
 | p::ps,kvs,h=>by
  have e:cz kvs p.1 p.2=kvs++ [p]:=by
   unfold cz;rw[if_neg];intro z;obtain⟨q,hq,e⟩:=MI.mp z
   have e:=of_decide_eq_true e;rw[Jv,JR]at h;exact h.2.2 q.1 (Jh.mpr ⟨q,hq,rfl⟩) p.1 (by simp) e
  rw[dw,e,kH ps (kvs++ [p]) (by rw[JE];exact h),JE]
  rfl
def fK (kk:List (List Key)):List (List Key×V):=kk.map λk=>(k,V.non)
theorem Dq {kk:List (List Key)}:∀{ps:List (List Key×V)},ps.map (·.1)=kk->(∀v∈ps.map (·.2),v=V.non)->ps=fK kk:=by
 intro ps h1 h2;subst h1;unfold fK;rw[JX]
 conv=>lhs;rw[<-Qq ps]
 exact JM λp hp=>Prod.ext rfl (h2 p.2 (Jh.mpr ⟨p,hp,rfl⟩))
section
variable {X:Cx}
def tPI0 (K:II)(f:En->Rs (List T)):TI:=λσ H R=> ∃Z O,EnvO K O H Z σ/\match f Z with
 | .ok ts=> ∀H',Same H H'->∀J,Hn K O H' ts J->R J H'
 | _=>False
theorem tPI0.up {f:En->Rs (List T)}{σ:L2.St}{H:Hp}{R:It->Hp->Prop}(h:tPI0 X.K f σ H R):Hv X f σ H R:=by
 obtain⟨Z,O,E,h⟩:=h;refine⟨Z,O,E,?_⟩
 cases q:f Z with
 | ok t=>rw[q]at h;exact h
 | err c=>rw[q]at h;exact h.elim
 | bad=>rw[q]at h;exact h.elim
def uc (X:Cx)(src:List (Option Nat)):TE:=ph X.K (Df X.K (tPI0 X.K (iS (vr 1))) src (wG X (gN 0)) rA (AQ (jT (rz 0) (jT (tC .non) x6))))
theorem D7 {eb tb ib:Expr}{p q1 pc lp pos:Pos}{jj:Nat}{sc:L1}{N':List Str}{src:List (Option Nat)}{x1}(hu:X.A.units+8<cLine)(hc:X.calm=true)(hm:X.mg "dict" =none)(hg:Gl X "dict")(S:LcScope X sc N' src)(hi:Ap X tb ib (iS (vr 1)))
  (blk:∀cl C s₀ H₀ fp,Aq (br X sc cl N' C s₀ H₀ fp) tb (gN 0)/\PE (br X sc cl N' C s₀ H₀ fp) eb (rz 0)/\bz eb=true) (hs:∀x,Jy ib X.env x=pure x) :
  PE X (.Call (.Name "dict" p) [.ListComp (.Tuple [eb,.Constant .none jj pc] x1 q1) [⟨tb,ib,[],0⟩] sc lp] [] pos) (uc X src):=
 PE.imp (r6 hu hc hm (rZ hc S hi (λcl C s₀ H₀ fp=>⟨(blk cl C s₀ H₀ fp).1,pU,uv (dX (blk cl C s₀ H₀ fp).2.1 (dX yG iz (aW rfl)) (aW (blk cl C s₀ H₀ fp).2.2))⟩) hs) hg rfl) λσ H Q h=>tPI0.up h
theorem yk {src:List (Option Nat)}{σ:L2.St}{H:Hp}{Q:VK}{Z:En}{O:Ow}{l:List T}{kk:List (List Key)}(E:EnvO X.K O H Z σ)(hf:iS (vr 1) Z= .ok l)(hz:l.length<=1000)(hk:l.map keyOf=kk.map some)(hn:kk.Nodup)(hs:0<src.length)
  (hq:∀d H',Same H H'->Nw X.K H d->H' d=some (.dT (fK kk))->Q (.ref d) H'):uc X src σ H Q:=by
 have lk:l.length=kk.length:=by have:=congrArg J4 hk;rwa [IP,IP]at this
 unfold uc ph;refine sU (X:=X) (te:=tC .non) E (λR h=>⟨Z,O,E,by rw[hf];exact h⟩) hz hk hs (λ_ _ vs=> ∀v∈vs,v=V.non) (λ_ _ _ _ v h=>nomatch h) (λ_ _ _ _ _ h _ _=>h) (λt ht σ' H' O' D vs ys Q' _ acc _ k=>k _ H' (Same.refl H') λv hv=> ?_) λH1 D ys ps H' s1 nD s2 hD hp h1 h2=> ?_
 ·rcases JC.mp hv with z | z
  ·exact acc v z
  ·exact IY.mp z
 ·have e:ps=fK kk:=Dq h1 h2
  refine⟨D,ys,ps,rfl,hD,by rw[hp.len,e];unfold fK;rw[IP];omega,hp,λq nq=> ?_⟩
  have e2:dw [] ps=fK kk:=by rw[kH ps [] (by rw[Kp,h1];exact hn),Kp,e]
  rw[e2];exact hq q _ ((s1.trans s2).trans (aS nq.1 _)) (jZ (s1.trans s2) nq) aH
theorem rV {K:II}{O:Ow}{H:Hp}:∀(l:List T) (kk:List (List Key)),l.length=kk.length->Reps K O H (l.map λ_=>T.non) ((fK kk).map (·.2))
 | [],[],_=>Reps.nil_
 | _::l,_::kk,h=>Reps.FS Rep.Ib (rV l kk (by simpa using h))
 | [],_::_,h=>by simp at h
 | _::_,[],h=>by simp at h
theorem rQ {K:II}{O:Ow}{H:Hp}{l:List T}{kk:List (List Key)}(hk:l.map keyOf=kk.map some):∀{m:List T} {ds:List Addr},m.length=ds.length->(∀d∈ds,H d=some (.dT (fK kk)))->RowsR K O H (m.map λ_=>(l,l.map λ_=>T.non)) ds
 | [],[],_,_=>rfl
 | _::m,d::ds,h,hd=>⟨d,ds,fK kk,rfl,hd d IL,by unfold fK;rw[JX];exact hk,rV l kk (by have:=congrArg J4 hk;rwa [IP,IP]at this),rQ hk (by simpa using h) λe he=>hd e (IJ _ he)⟩
 | [],_::_,h,_=>by simp at h
 | _::_,[],h,_=>by simp at h
theorem vK:∀{l:List T},gI l=true->∃kk:List (List Key),l.map keyOf=kk.map some
 | [],_=>⟨[],rfl⟩
 | t::l,h=>by
  unfold gI at h;rw[IT]at h;obtain⟨kk,e⟩:=vK h.2;obtain⟨k,ek⟩:=Lh.mp h.1;exact⟨k::kk,by rw[IM,IM,ek,e]⟩
theorem yq (i j:Nat){x:Str}{ea r ta ia:Expr}{p q1 lp p2 p3 pos:Pos}{x1}{sc:L1}{N':List Str}{src:List (Option Nat)}(hu:X.A.units+8<cLine)(hc:X.calm=true)(hm:X.mg "dict" =none)(hN:X.N.Nodup)
  (S:LcScope X sc N' [none,some j]) (hi:Ap X ta ia (iS (vr j))) (hsr:0<src.length)
  (blk:∀cl C s₀ H₀ fp,Aq (br X sc cl N' C s₀ H₀ fp) ta (gN 0)/\PE (br X sc cl N' C s₀ H₀ fp) ea (rz 0)/\PE (br X sc cl N' C s₀ H₀ fp) r (uc X src)) (h1:bz ea=true:=by rfl) (h2:bz r=true:=by rfl)
  (hs:autoParam (∀x,Jy ia X.env x=pure x) t_) (hg:Gl X "dict":=by rfl) (hix:X.N[i]? =some x:=by rfl) (hx:autoParam (Loc X.env.scope x) x_)
  (hsw:J0 (.Call (.Name "dict" p) [.ListComp (.Tuple [ea,r] x1 q1) [⟨ta,ia,[],0⟩] sc lp] [] p2) (some (.Name x p3)) pos.line X.env=pure false:=by rfl)
  (hf:autoParam (X.fn x=true\/X.env.scope.names.lookup x=some .local) r_) :
  ny X (.Assign [.Name x p3] (.Call (.Name "dict" p) [.ListComp (.Tuple [ea,r] x1 q1) [⟨ta,ia,[],0⟩] sc lp] [] p2) pos) (l9 i j):=
 PS.imp (pR hN hix hx (r6 hu hc hm (rZ (g:=wG X (gN 0)) (tc:=rA) (te:=AQ (jT (rz 0) (jT (uc X src) x6))) hc S hi (λcl C s₀ H₀ fp=>⟨(blk cl C s₀ H₀ fp).1,pU,uv (dX (blk cl C s₀ H₀ fp).2.1 (dX (blk cl C s₀ H₀ fp).2.2 iz (aW h2)) (aW h1))⟩) hs) hg rfl) hsw hf) λD σ H hh_=>by
  obtain⟨Z,B,M,E,h⟩:=hh_;unfold l9 at h
  cases qj:Z[j]? with
  | none=>rw[qj]at h;exact h.elim
  | some z=>
   rw[qj]at h
   match z,h,qj with
   | .va (.lst l),h,qj=>
    dsimp only at h
    by_cases hh:i<Z.length/\gI l=true/\(l.map keyOf).Nodup/\l.length<=1000
    ·rw[if_pos hh]at h
     obtain⟨hl,hky,hnd,hz⟩:=hh;obtain⟨kk,hk⟩:=vK hky
     have lk:l.length=kk.length:=by have:=congrArg J4 hk;rwa [IP,IP]at this
     have hn:kk.Nodup:=by
      rw[hk]at hnd;exact(Ny.mp hnd).imp λh z=>h (by rw[z])
     have fj:iS (vr j) Z= .ok l:=by unfold iS vr;rw[qj];rfl
     have hlc:bH [none,some j] Z= [.em,.va (.lst l)]:=by unfold bH;simp[qj]
     unfold x8 ph
     refine sU (X:=X) (te:=uc X src) E.o (λR h=>⟨Z,OO B M,E.o,by rw[fj];exact h⟩) hz hk (by simp)
      (λH' D vs=>H D=none/\Same H H'/\∃ds:List Addr,vs=ds.map V.ref/\ds.Nodup/\∀d∈ds,Nw X.K H d/\H' d=some (.dT (fK kk)))
      (λH1 D s1 nD=>⟨(jZ s1 nD).1,s1.trans (aS nD.1 _),[],rfl,KU,λd h=>nomatch h⟩)
      (λH1 H2 D vs ys ⟨c1,c2,ds,c3,c4,c5⟩ hD s=>⟨c1,(λb o e=>s b o (c2 b o e) (λz=>by rw[z,c1]at e;cases e)),ds,c3,c4,λd hd=>⟨(c5 d hd).1,s _ _ (c5 d hd).2 (iG (c5 d hd).2 hD (λz=>nomatch z))⟩⟩)
      (λt ht σ' H' O' D vs ys Q' E' ⟨c1,c2,ds,c3,c4,c5⟩ hD k=>yk (l:=l) (kk:=kk) ⟨noM,E'⟩ (by rw[hlc];rfl) hz hk hn hsr λd H'' s' nd hd=> ?_) λH1 D ys ps H' s1 nD s2 hD hp e1 ⟨c1,c2,ds,c3,c4,c5⟩=> ?_
     ·refine k _ H'' s' ⟨c1,c2.trans s',ds++ [d],by rw[c3,Jv];rfl,?_,λe he=> ?_⟩
      ·refine JR.mpr ⟨c4,by simp,λu hu w hw=> ?_⟩
       rw[IY.mp hw];intro z
       have:=(c5 u hu).2;rw[z,nd.1]at this;cases this
      ·rcases JC.mp he with z | z
       ·exact⟨(c5 e z).1,s' _ _ (c5 e z).2⟩
       ·rw[IY.mp z]
        exact⟨jZ c2 nd,hd⟩
     ·have hpl:ps.length=kk.length:=by rw[<-e1,IP]
      refine⟨D,ys,ps,rfl,hD,by rw[hp.len];omega,hp,λq nq=> ?_⟩
      have e2:dw [] ps=ps:=by rw[kH ps [] (by rw[Kp,e1];exact hn),Kp]
      rw[e2]
      have qd:q∉ds:=λz=>by have:=(c5 q z).2;rw[nq.1]at this;cases this
      have dl:ds.length=ps.length:=by have:=congrArg J4 c3;rw[IP,IP]at this;exact this.symm
      have hm':∀b,b=q\/b∈ds->Nw X.K H b:=λb z=>z.elim (λw=>w▸jZ c2 nq) λw=>(c5 b w).1
      have sF:Same H (upd H' q (.dT ps)):=c2.trans (aS nq.1 _);obtain⟨E2,sub⟩:=E.new (m:=λb=>b=q\/b∈ds) (o:=.dd l (l.map λ_=>(l,l.map λ_=> .non))) (v:=.ref q) (H':=upd H' q (.dT ps)) hl hm' sF ⟨q,ps,ds,rfl,λb=>Mt,qd,c4,aH,by rw[hk,<-e1,JX];rfl,c3,rQ hk (by omega) λd hd=>by rw[aF (show d≠q from λz=>qd (z▸hd))];exact(c5 d hd).2⟩
      exact h _ _ _ (SameO.of sF) E2 sub
    ·rw[if_neg hh]at h;exact h.elim
   | .em,h,_=>exact h.elim
   | .ow _,h,_=>exact h.elim
   | .va .non,h,_=>exact h.elim
   | .va (.bl _),h,_=>exact h.elim
   | .va (.int _),h,_=>exact h.elim
   | .va (.str _),h,_=>exact h.elim
   | .va (.tup _),h,_=>exact h.elim
   | .va (.scr _),h,_=>exact h.elim
   | .va (.dct _ _),h,_=>exact h.elim
end
theorem wm {X:Cx}(i j:Nat){x:Str}{ea r ta ia:Expr}{p q1 lp p2 p3 pos:Pos}{x1}{sc:L1}{N':List Str}{src:List (Option Nat)}(hu:X.A.units+8<cLine)(hc:X.calm=true)(hm:X.mg "dict" =none)(hN:X.N.Nodup)
  (S:LcScope X sc N' [none,some j]) (hi:QI X ta ia (iS (vr j))) (hsr:0<src.length)
  (blk:∀cl C s₀ H₀ fp,QG (br X sc cl N' C s₀ H₀ fp) ta (gN 0)/\PE (br X sc cl N' C s₀ H₀ fp) ea (rz 0)/\PE (br X sc cl N' C s₀ H₀ fp) r (uc X src)) (h1:bz ea=true:=by rfl) (h2:bz r=true:=by rfl)
  (hs:autoParam (∀x,Jy ia X.env x=pure x) t_) (hg:Gl X "dict":=by rfl) (hix:X.N[i]? =some x:=by rfl) (hx:autoParam (Loc X.env.scope x) x_)
  (hsw:J0 (.Call (.Name "dict" p) [.ListComp (.Tuple [ea,r] x1 q1) [⟨ta,ia,[],0⟩] sc lp] [] p2) (some (.Name x p3)) pos.line X.env=pure false:=by rfl)
  (hf:autoParam (X.fn x=true\/X.env.scope.names.lookup x=some .local) r_) :
  QS X (.Assign [.Name x p3] (.Call (.Name "dict" p) [.ListComp (.Tuple [ea,r] x1 q1) [⟨ta,ia,[],0⟩] sc lp] [] p2) pos) (l9 i j):=
 ⟨yq i j hu hc hm hN S hi.h hsr (λcl C s₀ H₀ fp=>⟨(blk cl C s₀ H₀ fp).1.h,(blk cl C s₀ H₀ fp).2⟩) h1 h2 hs hg hix hx hsw hf⟩
theorem AG {X:Cx}{a b:Expr}{fs:En->Rs (List T)}{p p1 p2 pos:Pos}(hu:X.A.units+8<cLine)(hc:X.calm=true)(hm:X.mg "dict" =none)(hmz:X.mg "zip" =none)(ha:QA X [a,b] fs)(hst:bx [a,b] =true:=by rfl)(hg:Gl X "dict":=by rfl)(hgz:Gl X "zip":=by rfl) :
  QE X (.Call (.Name "dict" p) [.Call (.Name "zip" p1) [a,b] [] p2] [] pos) (cl G5 fs):=⟨DQ hu hc hm hmz ha.h hst hg hgz⟩
theorem u5 {X:Cx}{elt tg:Expr}{ifs:List Expr}{scope:L1}{spos py pos pn:Pos}{N':List Str}{src:List (Option Nat)}{tgt:T->En->Rs En}{fc:En->Rs Bool}{fe:En->Rs T}(i j:Nat){y D:Str}
  (hc:X.calm=true) (S:LcScope X scope N' src) (block:∀cl C s₀ H₀ fp,QG (br X scope cl N' C s₀ H₀ fp) tg tgt/\FF (br X scope cl N' C s₀ H₀ fp) ifs fc/\QE (br X scope cl N' C s₀ H₀ fp) elt fe)
  (hN:X.N.Nodup) (hD:X.N[i]? =some D:=by rfl) (hDv:autoParam (tW X.env.scope D) u_) (hDd:autoParam ((D == ("__debug__" : Str))=false) s_) (hDc:autoParam ((D == ("__classdict__" : Str))=false) s_)
  (hiy:X.N[j]? =some y:=by rfl) (hy:autoParam (Loc X.env.scope y) x_) (hsw:J0 (.ListComp elt [⟨tg,.Name D pn,ifs,0⟩] scope pos) (some (.Name y py)) spos.line X.env=pure true:=by rfl)
  (hf:autoParam (X.fn y=true\/X.env.scope.names.lookup y=some .local) r_) (hs:autoParam (∀x,Jy (.Name D pn) X.env x=pure x) t_) :
  QS X (.Assign [.Name y py] (.ListComp elt [⟨tg,.Name D pn,ifs,0⟩] scope pos) spos) (pJ i j src tgt fc fe):=
 ⟨DE i j hc S (λa b c d e=>⟨(block a b c d e).1.h,(block a b c d e).2.1.h,(block a b c d e).2.2.h⟩) hN hD hDv hDd hDc hiy hy hsw hf hs⟩
theorem fsc {N P:List Str}{sc:L1}(h1:sc.kind= .function:=by rfl)(h2:sc.isCoroutine=false:=by rfl)(h3:sc.isGenerator=false:=by rfl)(h4:autoParam (N.Nodup) y_)(h5:N.take P.length=P:=by rfl)
  (h6:autoParam (∀x∈P,sc.names.lookup x=some .local\/sc.names.lookup x=some .cell) y_) (h7:autoParam (∀y∈sc.names,y.2≠ .free) y_):d9 N P sc:=⟨h1,h2,h3,h4,h5,h6,h7⟩
end Tr
namespace Tr
open PySem
def tbl (pl:List Nat)(L:Bool):SetTable:={ mask:=7,place:=pl.toArray,dummies:=#[],finger:=0,led:=L,moves:=0,plain:=true }
theorem pL:∀{pl:List Nat},pl.Pairwise (· < ·)->∀{a b v u:Nat},a<b->pl[a]? =some v->pl[b]? =some u->v<u:=by
 intro pl h a b v u ab ha hb;rw[LY]at h;obtain⟨h1,rfl⟩:=Jd.mp ha
 obtain⟨h2,rfl⟩:=Jd.mp hb
 exact h a b h1 h2 ab
theorem ni {pl:List Nat}(hs:pl.Pairwise (· < ·))(j:Nat):∀(fuel lo hi:Nat),hi - lo<=fuel->lo<=hi->hi<=pl.length →
  (∀i v,i<lo->pl[i]? =some v->v<j)->(∀i v,hi<=i->pl[i]? =some v->j<=v) →
  ∃r,Po pl.toArray j fuel lo hi=r/\r<=pl.length/\(∀i v,i<r->pl[i]? =some v->v<j)/\(∀i v,r<=i->pl[i]? =some v->j<=v)
 | 0,lo,hi,hf,hl,hh,h1,h2=>by
  have e:lo=hi:=by omega
  subst e
  exact⟨lo,rfl,hh,h1,h2⟩
 | fuel+1,lo,hi,hf,hl,hh,h1,h2=>by
  unfold Po
  by_cases hlt:lo<hi
  ·rw[if_pos hlt]
   have hm:(lo+hi) / 2<pl.length:=by omega
   have em:pl[(lo+hi) / 2]? =some pl[(lo+hi) / 2]:=IU hm
   have eg:pl.toArray.getD ((lo+hi) / 2) j=pl[(lo+hi) / 2]:=by simp[hm]
   dsimp only
   rw[eg]
   by_cases hc:pl[(lo+hi) / 2] <j
   ·rw[if_pos hc]
    refine ni hs j fuel _ hi (by omega) (by omega) hh ?_ h2
    intro i v hi' hv;rcases PR i ((lo+hi) / 2)with q | q
    ·exact PL (pL hs q hv em) hc
    ·have:i=(lo+hi) / 2:=by omega
     subst this;rw[em]at hv;cases hv;exact hc
   ·rw[if_neg hc]
    refine ni hs j fuel lo _ (by omega) (by omega) (by omega) h1 ?_
    intro i v hi' hv;rcases O4 hi' with q | q
    ·subst q
     rw[em]at hv;cases hv;omega
    ·have:=pL hs q em hv;omega
  ·rw[if_neg hlt]
   have e:lo=hi:=by omega
   subst e;exact⟨lo,rfl,hh,h1,h2⟩
theorem nh {pl:List Nat}(hs:pl.Pairwise (· < ·))(j:Nat) :
  Jk pl.toArray j<=pl.length/\(∀i v,i<Jk pl.toArray j->pl[i]? =some v->v<j)/\(∀i v,Jk pl.toArray j<=i->pl[i]? =some v->j<=v):=by
 obtain⟨r,h1,h2,h3,h4⟩:=ni hs j pl.length 0 pl.length (by omega) (by omega) (Jc _) (λi v h=>by omega) (λi v h e=>by
  rw[LA h]at e;cases e)
 have e:Jk pl.toArray j=r:=by unfold Jk;simpa using h1
 rw[e];exact⟨h2,h3,h4⟩
theorem ui {pl:List Nat}{L:Bool}{j:Nat}(h:j∉pl):(tbl pl L).slot j= .empty:=by
 unfold SetTable.slot tbl
 dsimp only
 have q:¬ (pl.toArray[Jk pl.toArray j]? == some j)=true:=by
  intro e;rw[beq_iff_eq,List.getElem?_toArray]at e
  exact h (JT e)
 rw[if_neg q]
 have q2:Oh #[] j=false:=by simp[Oh]
 rw[q2];rfl
theorem qA {pl:List Nat}(hs:pl.Pairwise (· < ·)){j:Nat}(hj:j∉pl) :
  (pl.take (Jk pl.toArray j)++j::pl.drop (Jk pl.toArray j)).Pairwise (· < ·):=by
 obtain⟨h1,h2,h3⟩:=nh hs j;rw[List.pairwise_append];refine⟨hs.sublist (Pp _ _),?_,?_⟩
 ·rw[List.pairwise_cons]
  refine⟨λa ha=> ?_,hs.sublist (Px _ _)⟩
  obtain⟨i,hi,e⟩:=J8 ha;rw[Py]at e
  have hlt:Jk pl.toArray j+i<pl.length:=by simp at hi;omega
  have:=h3 (Jk pl.toArray j+i) a (by omega) (by rw[IU hlt,e])
  rcases O4 this with q | q
  ·exact absurd (List.mem_of_mem_drop ha) (q▸hj)
  ·exact q
 ·intro a ha b hb
  obtain⟨i,hi,e⟩:=J8 ha;rw[List.getElem_take]at e
  have hi':i<Jk pl.toArray j:=by simp at hi;omega
  have hlt:i<pl.length:=by omega
  have a1:=h2 i a hi' (by rw[IU hlt,e])
  rcases IW.mp hb with rfl | hb
  ·exact a1
  ·obtain⟨i2,hi2,e2⟩:=J8 hb
   rw[Py]at e2
   have hlt2:Jk pl.toArray j+i2<pl.length:=by simp at hi2;omega
   have:=h3 (Jk pl.toArray j+i2) b (by omega) (by rw[IU hlt2,e2])
   omega
theorem mT {k:Int}(h0:0<=k)(h1:k<100):hashInt k=k:=by
 obtain⟨n,rfl⟩:=Jz h0
 have hn:n<100:=by omega
 have e1:rawHash (n:Int)=n:=by
  have e:(((n:Int).natAbs:Int) % ((2 ^ 61 - 1:Nat):Int))=(n:Int):=by
   rw[Int.natAbs_natCast];exact Int.emod_eq_of_lt (by omega) (by omega)
  have e2:¬ ((n:Int)<0):=by omega
  have e3:¬ (((n:Int) == -1)=true):=by rw[beq_iff_eq];omega
  unfold rawHash
  dsimp only
  rw[e,if_neg e2,if_neg e3]
 unfold hashInt;rw[e1,if_neg (by rw[beq_iff_eq];omega)]
def pF (es:Array (Int×IQ))(ep:Nat)(pl:List Nat)(L:Bool):Obj:={ cls:=.type "set",dict:=none,data:=.set es ep (tbl pl L),slots:=#[] }
def Fq (w:J2):Bool:=w.params.followText "set-order"
section
variable {prog:Jp}{w:J2}{A:JO}{E:IQ->IR->Prop}{s:IR}
theorem A2 (a:IQ){Q₁:IQ->IR->Prop}
  (h:Q₁ (.ref s.heap.objs.size) { s with heap:=s.heap.push (pF #[] 0 [] (!Fq w)) }) :
  codeAny (model prog w) A (.call (.builtin "set.__new__") ⟨[.type "set",a],[]⟩) (wants Q₁ E) s:=by
 refine QH ?_
 show wpAny _ A.in1 (do checkBuiltinCall "set.__new__" ⟨[.type "set",a],[]⟩;again (.builtin "set.__new__" ⟨[.type "set",a],[]⟩)) _ _ s
 refine IH (QC (F.newCall_set_1 a) (IS ⟨Ml Qt _,K1 F.entry_set_new ?_⟩))
 rw[Kt Qt _];unfold Builtin.«set.__new__» Builtin.Frozenset.newClass
 have hsub:=sub_set_self;obtain⟨hp,g,d,tk,os⟩:=s
 dsimp only
 wp_walk
 refine wpAny_askSetting (IS ?_)
 dsimp only
 simp only[newObj];refine IH (wpAny_alloc (IS ?_))
 exact IS h
end
def kB (M mv:Nat)(pl:List Nat)(L:Bool):SetTable:={ mask:=M,place:=pl.toArray,dummies:=#[],finger:=0,led:=L,moves:=mv,plain:=true }
theorem uh {pl:List Nat}{M mv:Nat}{L:Bool}(hs:pl.Pairwise (· < ·)){j:Nat}(h:j∈pl):∃i,(kB M mv pl L).slot j= .live i/\i<pl.length:=by
 obtain⟨k,hk,e⟩:=J8 h;obtain⟨h1,h2,h3⟩:=nh hs j
 have ek:pl[k]? =some j:=by rw[IU hk,e]
 have er:Jk pl.toArray j=k:=by
  rcases Nat.lt_trichotomy (Jk pl.toArray j) k with q | q | q
  ·have hl:Jk pl.toArray j<pl.length:=by omega
   have e2:=IU hl
   have a:=h3 _ _ (Jc _) e2
   have b:=pL hs q e2 ek;omega
  ·exact q
  ·have:=h2 k j q ek;omega
 refine⟨k,?_,hk⟩
 unfold SetTable.slot kB
 dsimp only
 rw[er];simp[ek]
theorem rL {pl:List Nat}{M mv:Nat}{L:Bool}{j:Nat}(h:j∉pl):(kB M mv pl L).slot j= .empty:=ui (L:=L) h
def Cq (M:Nat)(p:LZ):LZ:=(kB M 0 [] false).advance p
def stM (M:Nat)(h:Int):LZ:=(kB M 0 [] false).probeStart h
def xS (M:Nat):Nat->LZ->List Nat
 | 0,_=> []
 | n+1,p=>p.j::xS M n (Cq M p)
theorem Al {M:Nat}{p:LZ}(h:p.dummy=none):(Cq M p).dummy=none:=by
 unfold Cq SetTable.advance;split
 ·exact h
 ·exact h
theorem kI {pl:List Nat}{M mv:Nat}{L:Bool}(hs:pl.Pairwise (· < ·)){at_:Nat->Int}{h:Int}(hd:∀i<pl.length,at_ i≠h):∀(fuel n:Nat) (p:LZ),n<=fuel->p.dummy=none->(∃x∈xS M n p,x∉pl) →
  ∃j,j∉pl/\Ms (kB M mv pl L) at_ h fuel p=some (.empty j none)
 | fuel,0,p,_,_,⟨x,hx,_⟩=>by cases hx
 | 0,n+1,p,hn,_,_=>by omega
 | fuel+1,n+1,p,hn,hp,⟨x,hx,nx⟩=>by
  unfold Ms
  by_cases hm:p.j∈pl
  ·obtain⟨w,ew,hw⟩:=uh (M:=M) (mv:=mv) (L:=L) hs hm
   rw[ew]
   dsimp only
   rw[if_neg (by rw[beq_iff_eq];exact hd w hw)]
   show ∃j,j∉pl/\Ms (kB M mv pl L) at_ h fuel (Cq M p)=_
   refine kI hs hd fuel n _ (by omega) (Al hp) ⟨x,?_,nx⟩
   obtain rfl | hx:=IW.mp hx
   ·exact absurd hm nx
   ·exact hx
  ·rw[rL hm]
   exact⟨p.j,hm,by rw[hp]⟩
def hs2 (c k:Nat):Int:=reduceHash (Nf [(c:Int),(k:Int)])
def G9 (M n:Nat)(h:Int):Bool:=(JA (M+1)).all λx=>(xS M n (stM M h)).contains x
theorem cov7:∀c<4,∀k<4,G9 7 40 (hs2 c k)=true:=by decide+kernel
theorem Ha:∀c<4,∀k<4,G9 31 450 (hs2 c k)=true:=by decide+kernel
theorem EW {c k d m:Nat}(hc:c<4)(hk:k<4)(hd:d<4)(hm:m<4)(e:hs2 c k=hs2 d m):c=d/\k=m:=by
 have key:∀c<4,∀k<4,((JA 4).all λd=>(JA 4).all λm=>hs2 c k != hs2 d m||(c == d&&k == m))=true:=by decide+kernel
 have:=Jf.mp (Jf.mp (key c hc k hk) d (JJ.mpr hd)) m (JJ.mpr hm)
 simpa [e]using this
theorem vj:∀(n:Nat) (pl:List Nat),(∀x<n,x∈pl)->n<=pl.length
 | 0,_,_=>KP _
 | n+1,pl,h=>by
  have hn:=h n (K5 n)
  have:=vj n (pl.erase n) λx hx=>(LS (by omega)).mpr (h x (by omega))
  rw[Ma hn]at this
  have:=Mr hn;omega
theorem EY {pl:List Nat}{n:Nat}(h:pl.length<n):∃x<n,x∉pl:=L0 λz=>by
 have:=vj n pl λx hx=>L0 λq=>z ⟨x,hx,q⟩
 omega
theorem D2 {pl:List Nat}{M mv:Nat}{L:Bool}(hM:M=7\/M=31)(hs:pl.Pairwise (· < ·))(hl:pl.length<=M){at_:Nat->Int}{c k:Nat}(hc:c<4)(hk:k<4)(hd:∀i<pl.length,at_ i≠hs2 c k) :
  ∃j,j∉pl/\(kB M mv pl L).probe at_ (hs2 c k) ((kB M mv pl L).probeStart (hs2 c k))=some (.empty j none):=by
 obtain⟨x,hx,nx⟩:=EY (n:=M+1) (pl:=pl) (by omega)
 show ∃j,j∉pl/\Ms (kB M mv pl L) at_ (hs2 c k) (10*My M) (stM M (hs2 c k))=_
 rcases hM with rfl | rfl
 ·have:=Jf.mp (cov7 c hc k hk) x (JJ.mpr hx)
  exact kI hs hd _ 40 _ (by decide) rfl ⟨x,by simpa using this,nx⟩
 ·have:=Jf.mp (Ha c hc k hk) x (JJ.mpr hx)
  exact kI hs hd _ 450 _ (by decide) rfl ⟨x,by simpa using this,nx⟩
def lz (pl:List Nat)(j:Nat):List Nat:=pl.take (Jk pl.toArray j)++j::pl.drop (Jk pl.toArray j)
theorem put2 {pl:List Nat}{M mv:Nat}{L:Bool}(j:Nat):(kB M mv pl L).put j=(kB M mv (lz pl j) L,Jk pl.toArray j):=by
 have q2:Oh #[] j=false:=by simp[Oh]
 have q3:Lm pl.toArray (Jk pl.toArray j) j=(lz pl j).toArray:=by
  apply Array.toList_inj.mp
  rw[SetTable.toList_insertAt]
  rfl
 simp only[SetTable.put,kB,q2,q3]
 rfl
theorem rX {pl:List Nat}(hs:pl.Pairwise (· < ·))(j:Nat):(lz pl j).length=pl.length+1:=by
 have:=(nh hs j).1;unfold lz;rw[IX,IV,KN,KO];omega
theorem wL {pl:List Nat}(hs:pl.Pairwise (· < ·)){j:Nat}(hj:j∉pl):(lz pl j).Pairwise (· < ·):=qA hs hj
def vi:Nat->Nat->Nat->List Nat
 | 0,_,_=> []
 | n+1,i,q=>(JA (SetTable.runEnd 31 i+1 - i)).map (i+ ·)++vi n (SetTable.leap 31 i q).1 (SetTable.leap 31 i q).2
def covR (h:Int):Bool:=(JA 32).all λx=>(vi 46 (Kr h % 32) (Kr h)).contains x
theorem G8:∀c<4,∀k<4,covR (hs2 c k)=true:=by decide+kernel
theorem getD_none {ow:Array (Option Nat)}{j:Nat}(h:(ow.getD j (some 0)).isNone=true):ow[j]? =some none:=by
 unfold Array.getD at h
 split at h
 ·rename_i hj
  rw[KC hj]
  have:ow[j] =none:=by simpa using h
  rw[this]
 ·cases h
theorem vS {ow:Array (Option Nat)}{x:Nat}(hx:ow[x]? =some none):∀(fuel n i q:Nat),n<=fuel->x∈vi n i q->∃j,Kv 31 ow fuel i q=some j/\ow[j]? =some none
 | fuel,0,i,q,_,h=>by cases h
 | 0,n+1,i,q,hn,_=>by omega
 | fuel+1,n+1,i,q,hn,h=>by
  unfold Kv;split
  ·rename_i k hk
   exact⟨_,rfl,getD_none (List.find?_some (p:=λk=>(ow.getD (i+k) (some 0)).isNone) hk)⟩
  ·rename_i hk
   unfold vi at h;refine vS hx fuel n _ _ (by omega) ((JC.mp h).resolve_left λz=> ?_)
   obtain⟨k,hm,e⟩:=Jh.mp z
   have:=List.find?_eq_none.mp hk k hm
   apply this
   show(ow.getD (i+k) (some 0)).isNone=true
   obtain⟨hl,e2⟩:=M8.mp hx
   have hl':i+k<ow.size:=by rw[e];exact hl
   have e3:ow[i+k] =none:=by simp only[e];exact e2
   unfold Array.getD;rw[dif_pos hl'];simp[e3]
def eC (ow:Array (Option Nat)):List (Nat×Nat):=(JA 32).filterMap λj=>(ow.getD j none).map (j,·)
theorem tw {β:Type}{f g:Nat->Option β}:∀{l:List Nat},(∀y∈l,g y=f y)->l.filterMap g=l.filterMap f
 | [],_=>rfl
 | x::l,h=>by rw[JZ,JZ,h x IL,tw λy hy=>h y (IJ _ hy)]
theorem sR {β:Type}{f g:Nat->Option β}{j:Nat}{b:β}(hf:f j=none)(hg:g j=some b)(he:∀x,x≠j->g x=f x):∀l:List Nat,l.Nodup->j∈l->(l.filterMap g).length=(l.filterMap f).length+1
 | [],_,h=>by cases h
 | x::l,nd,h=>by
  obtain⟨m1,m2⟩:=Jq.mp nd
  by_cases e:x=j
  ·subst e
   have:l.filterMap g=l.filterMap f:=tw λy hy=>he y λz=>m1 (z▸hy)
   rw[Kl hg,Nv hf,this,IV]
  ·have hj:j∈l:=(IW.mp h).resolve_left λz=>e z.symm
   have ih:=sR hf hg he l m2 hj;rw[JZ,JZ,he x e]
   cases f x with
   | none=>exact ih
   | some y=>rw[IV,IV,ih]
theorem w6 {ow:Array (Option Nat)}(h:∀x<32,ow.getD x none≠none):(eC ow).length=32:=by
 have:∀l:List Nat,(∀x∈l,x<32)->(l.filterMap λj=>(ow.getD j none).map (j,·)).length=l.length:=by
  intro l
  induction l with
  | nil=>intro _;rfl
  | cons x l ih=>
   intro hl
   cases e:ow.getD x none with
   | none=>exact absurd e (h x (hl x IL))
   | some y=>
    rw[Kl (b:=(x,y)) (by rw[e];rfl),IV,IV,ih λz hz=>hl z (IJ _ hz)]
 unfold eC;rw[this _ λx hx=>JJ.mp hx,Kz]
theorem l8 {ow:Array (Option Nat)}{j k x:Nat}(hj:j<ow.size):(ow.setIfInBounds j (some k)).getD x none=if x=j then some k else ow.getD x none:=by
 have e1:(ow.setIfInBounds j (some k)).getD x none=((ow.setIfInBounds j (some k))[x]?).getD none:=by simp
 have e2:ow.getD x none=(ow[x]?).getD none:=by simp
 rw[e1,e2,Array.getElem?_setIfInBounds]
 by_cases h:x=j
 ·subst h;simp[hj]
 ·rw[if_neg (λz=>h z.symm),if_neg h]
def n8 (acc:Option (Array (Option Nat)×Nat))(h:Int):Option (Array (Option Nat)×Nat):=
 acc.bind λp=>(Kv 31 p.1 (My 31) (Kr h % 32) (Kr h)).map λj=>(p.1.setIfInBounds j (some p.2),p.2+1)
def isH (h:Int):Prop:=∃c k,c<4/\k<4/\h=hs2 c k
theorem Dj {ow:Array (Option Nat)}{k:Nat}{h:Int}(hh:isH h)(hz:ow.size=32)(h1:(eC ow).length=k)(h2:∀p∈eC ow,p.2<k)(hk:k<32) :
  ∃ow',n8 (some (ow,k)) h=some (ow',k+1)/\ow'.size=32/\(eC ow').length=k+1/\∀p∈eC ow',p.2<k+1:=by
 obtain⟨c,m,hc,hm,rfl⟩:=hh
 obtain⟨x,hx,ex⟩:∃x<32,ow.getD x none=none:=L0 λz=>by
  have:=w6 (ow:=ow) λx hx e=>z ⟨x,hx,e⟩
  omega
 have ex':ow[x]? =some none:=by
  have e2:ow.getD x none=(ow[x]?).getD none:=by simp
  rw[KC (by omega)]at e2 ⊢
  rw[ex]at e2;simp only[Option.getD_some]at e2;rw[<-e2]
 have cv:=Jf.mp (G8 c hc m hm) x (JJ.mpr hx)
 generalize hs2 c m=h at cv ⊢
 obtain⟨j,ej,nj⟩:=vS ex' (My 31) 46 (Kr h % 32) (Kr h) (by decide) (by simpa using cv)
 obtain⟨hj,nj'⟩:=M8.mp nj
 have st:n8 (some (ow,k)) h=some (ow.setIfInBounds j (some k),k+1):=by
  unfold n8;rw[NT,ej];rfl
 have gj:ow.getD j none=none:=by
  have e2:ow.getD j none=(ow[j]?).getD none:=by simp
  rw[e2,nj];rfl
 refine⟨_,st,by simp[hz],?_,λp hp=> ?_⟩
 ·unfold eC
  rw[sR (f:=λx=>(ow.getD x none).map (x,·)) (j:=j) (b:=(j,k)) (by show(ow.getD j none).map (j,·)=none;rw[gj];rfl) (by show((ow.setIfInBounds j (some k)).getD j none).map (j,·)=_;rw[l8 hj,if_pos rfl];rfl) (λx hx=>by show((ow.setIfInBounds j (some k)).getD x none).map (x,·)=_;rw[l8 hj,if_neg hx]) _ P4 (JJ.mpr (by omega))]
  unfold eC at h1;rw[h1]
 ·unfold eC at hp
  obtain⟨y,hy,ey⟩:=J5.mp hp;rw[l8 hj]at ey
  by_cases q:y=j
  ·rw[if_pos q]at ey;cases ey;exact K5 k
  ·rw[if_neg q]at ey
   have:=h2 p (by unfold eC;exact J5.mpr ⟨y,hy,ey⟩)
   omega
theorem EZ (hs:List Int):∀(ow:Array (Option Nat)) (k:Nat),(∀h∈hs,isH h)->ow.size=32->(eC ow).length=k->(∀p∈eC ow,p.2<k)->k+hs.length<=16 →
  ∃ow',hs.foldl n8 (some (ow,k))=some (ow',k+hs.length)/\(eC ow').length=k+hs.length/\∀p∈eC ow',p.2<k+hs.length:=by
 induction hs with
 | nil=>exact λow k _ _ h1 h2 _=>⟨ow,rfl,h1,h2⟩
 | cons h hs ih=>
  intro ow k hh hz h1 h2 hk;rw[IV]at hk;obtain⟨ow1,st,z1,l1,p1⟩:=Dj (hh h IL) hz h1 h2 (by omega)
  obtain⟨ow',e1,e2,e3⟩:=ih ow1 (k+1) (λh hm=>hh h (IJ _ hm)) z1 l1 p1 (by omega)
  have ea:k+1+hs.length=k+(h::hs).length:=by rw[IV];omega
  rw[ea]at e1 e2 e3;refine⟨ow',?_,e2,e3⟩
  rw[Ob,st];exact e1
theorem w4 (ow:Array (Option Nat)):((eC ow).map (·.1)).Pairwise (· < ·):=by
 have:∀l:List Nat,((l.filterMap λj=>(ow.getD j none).map (j,·)).map (·.1)).Sublist l:=by
  intro l
  induction l with
  | nil=>exact .slnil
  | cons x l ih=>
   rw[JZ]
   cases ow.getD x none with
   | none=>exact ih.cons _
   | some y=>exact ih.cons_cons _
 exact List.pairwise_lt_range.sublist (this _)
theorem A5 {pl:List Nat}{L:Bool}{hs:Array Int}(hh:∀h∈hs.toList,isH h)(h16:hs.size<=16):∃pl' order,(kB 7 0 pl L).relaid hs 20=some (kB 31 1 pl' L,order)/\pl'.Pairwise (· < ·)/\pl'.length=hs.size/\order.size=hs.size/\∀i∈order.toList,i<hs.size:=by
 have l0:eC (Qu 32 none)= []:=by decide+kernel
 obtain⟨ow,e1,e2,e3⟩:=EZ hs.toList (Qu 32 none) 0 hh (by simp) (by rw[l0];rfl) (λp hp=>by rw[l0]at hp;cases hp) (by simpa using h16)
 rw[Oi,show hs.toList.length=hs.size from Jt]at e2 e3
 have ec:Km 31 hs=some ow:=by
  unfold Km;rw[<-Array.foldl_toList]
  have hf:(λ(acc:Option (Array (Option Nat)×Nat)) (h:Int)=>(do
    let (owner,k) <-acc
    let j <-Kv 31 owner (My 31) (Kr h % (31+1)) (Kr h)
    pure (owner.setIfInBounds j (some k),k+1)))=n8:=by
   funext acc h
   unfold n8
   cases acc with
   | none=>rfl
   | some p=>
    obtain⟨o,k⟩:=p;rw[NT]
    generalize My 31=tt
    show(Kv 31 o tt (Kr h % 32) (Kr h) >>= _)=_
    cases Kv 31 o tt (Kr h % 32) (Kr h) <;> rfl
  rw[hf,e1];rfl
 refine⟨(eC ow).map (·.1),((eC ow).map (·.2)).toArray,?_,w4 ow,by rw[IP,e2],by simp[e2],λi hi=> ?_⟩
 ·show(Km 31 hs >>= λowner=>_)=_
  rw[ec]
  rfl
 ·obtain⟨p,hp,rfl⟩:=Jh.mp hi
  exact e3 p hp
theorem ua {prog:Jp}{w:J2}{c k:Nat}(hc:c<4)(hk:k<4):tupleKeyHash (intKind prog w) [(c:Int),(k:Int)] =hs2 c k:=by
 unfold tupleKeyHash hs2
 show reduceHash (Nf [hashInt (c:Int),hashInt (k:Int)])=_
 rw[mT (by omega) (by omega),mT (by omega) (by omega)]
def Dm (es:Array (Int×IQ))(ep M mv:Nat)(pl:List Nat)(L:Bool):Obj:={ cls:=.type "set",dict:=none,data:=.set es ep (kB M mv pl L),slots:=#[] }
structure SetY (h:Heap)(a:Addr)(es:Array (Int×IQ))(ep M mv:Nat)(pl:List Nat)(L:Bool)(ks:List (Nat×Nat)):Prop where
 at_:h.get? a=some (Dm es ep M mv pl L)
 rise:pl.Pairwise (· < ·)
 len:es.size=pl.length
 num:es.size=ks.length
 cap:(M=7/\mv=0/\pl.length<=4)\/(M=31/\mv=1/\pl.length<=16)
 ent:∀e∈es.toList,∃p∈ks,p.1<4/\p.2<4/\e.1=hs2 p.1 p.2
theorem rn {M mv n:Nat}{pl:List Nat}{L:Bool}(e:n=pl.length)(h:pl.length<=M):(kB M mv pl L).fits n=true:=by
 unfold SetTable.fits SetTable.fill
 show(pl.toArray.size == n&&decide (pl.toArray.size+0<=M))=true
 rw[Je,e]
 simp;omega
section
variable {prog:Jp}{w:J2}{A:JO}{E:IQ->IR->Prop}{s:IR}{a:Addr}{es:Array (Int×IQ)}{ep M mv:Nat}{pl:List Nat}{L:Bool}{ks:List (Nat×Nat)}
theorem SetY.fits {h:Heap}(x:SetY h a es ep M mv pl L ks):(kB M mv pl L).fits es.size=true:=rn x.len (by rcases x.cap with h | h <;> omega)
theorem SetY.keep {h h':Heap}(x:SetY h a es ep M mv pl L ks)(k:∀o,h.get? a=some o->h'.get? a=some o):SetY h' a es ep M mv pl L ks:=⟨k _ x.at_,x.rise,x.len,x.num,x.cap,x.ent⟩
theorem tO {b:Addr}{xs:List Int}{Q:Bool->IR->Prop}(hb:LN (intKind prog w) s.heap xs b)(h:Q true s):wpAny (model prog w) A (hashByValue 8 (.ref b)) Q E s:=by
 have hT:=hb.typeIs;obtain⟨o,items,n,ho,_,hd,hi⟩:=hb;unfold hashByValue;refine IH (QD hT F.slot_tuple_hash.lookup (by
 dsimp only
 refine IH (Ko ho hd (IH (m:=forIn items _ _) ?_));rw[<-Array.forIn_toList]
 refine wpAny_forIn_list _ (λrest r s'=>r.1=none/\s'=s/\∃l,ItemsAre (intKind prog w) l rest) _ ?_ ?_ _ _ ⟨rfl,rfl,xs,hi⟩
 ·rintro v rest r s' ⟨_,rfl,l,hl⟩
  cases hl with
  | @cons k _ l' _ h1 h2=>
   obtain⟨t,rfl⟩:∃t,v=Kw k t:=by
    cases v <;> simp[intKind,NI]at h1
    subst h1;exact⟨_,rfl⟩
   refine IH (IS ?_);simp only[Bool.not_true,KJ,if_false];exact IS ⟨rfl,rfl,l',h2⟩
 ·rintro ⟨q1,q2⟩ s' ⟨hr,rfl,_⟩
  obtain rfl:q1=none:=hr;exact IS h))
theorem A4 {Q:Unit->IR->Prop}(at_:s.heap.get? a=some (Dm es ep 7 0 pl L))(he:es.size=pl.length)(hl:pl.length=5)(hn:es.size=ks.length)(ent:∀e∈es.toList,∃p∈ks,p.1<4/\p.2<4/\e.1=hs2 p.1 p.2)
  (h:∀h' es' ep' pl',Lr a s.heap h'->SetY h' a es' ep' 31 1 pl' L ks->Q () { s with heap:=h' }):wpAny (model prog w) A (setRelay a 20) Q E s:=by
 have hf:(kB 7 0 pl L).fits es.size=true:=rn he (by omega)
 obtain⟨pl',order,e1,e2,e3,e4,e5⟩:=A5 (pl:=pl) (L:=L) (hs:=es.map (·.1)) (λx hx=>by
  rw[Array.toList_map]at hx;obtain⟨e,he,rfl⟩:=Jh.mp hx;obtain⟨p,_,p1,p2,p3⟩:=ent e he;exact⟨_,_,p1,p2,p3⟩) (by simp;omega)
 simp only[Array.size_map]at e3 e4 e5
 have es':(order.filterMap (es[·]?)).size=es.size:=by
  rw[<-Jt,NZ,<-e4,<-Jt (xs:=order)]
  generalize order.toList=ol at e5
  clear e1 e4
  induction ol with
  | nil=>rfl
  | cons i ol ih=>
   have hi:=e5 i IL;rw[Kl (b:=es[i]) (KC hi),IV,IV,ih λj hj=>e5 j (IJ _ hj)]
 unfold setRelay;refine IH (Mw at_ rfl hf ?_)
 dsimp only
 rw[if_neg (by decide+kernel),e1]
 refine IH ?_
 show wpAny _ _ (if ((order.filterMap (es[·]?)).size != es.size)=true then _ else _) _ _ _
 rw[if_neg (by rw[es'];simp)]
 refine IS (PH at_ rfl (h _ _ (ep+1) pl' (Kx ..) ⟨LB (Obj.putSet _ (kB 31 1 pl' L)) at_ rfl,e2,by rw[es',e3],by rw[es'];exact hn,.inr ⟨rfl,rfl,by omega⟩,λe he=> ?_⟩) (by rw[es',K0];omega))
 rw[NZ]at he;obtain⟨i,_,hi⟩:=J5.mp he;exact ent e (ML.mpr (Array.mem_of_getElem? hi))
theorem Hh {b:Addr}{c k:Nat}{Q:Bool->IR->Prop}(hc:c<4)(hk:k<4)(x:SetY s.heap a es ep M mv pl L ks)(hn:(c,k)∉ks)(h15:ks.length<=15)(hb:LN (intKind prog w) s.heap [(c:Int),(k:Int)] b)
  (h:∀h' es' ep' M' mv' pl',Lr a s.heap h'->SetY h' a es' ep' M' mv' pl' L (ks++ [(c,k)])->Q true { s with heap:=h' }):wpAny (model prog w) A (setAddHashed a (.ref b) (hs2 c k)) Q E s:=by
 have hM:M=7\/M=31:=by rcases x.cap with z | z <;> simp[z]
 have hlM:pl.length<=M:=by rcases x.cap with z | z <;> omega
 have hne:a≠b:=λz=>by
  obtain⟨o,items,n,ho,hcl,_⟩:=hb;subst z;rw[x.at_]at ho;cases ho;exact absurd (L7.inj hcl) (by decide)
 obtain⟨j,nj,ej⟩:=D2 (mv:=mv) (L:=L) hM x.rise hlM (at_:=λi=>(es[i]?.map (·.1)).getD 0) hc hk λi hi z=>by
  have hi':i<es.size:=by rw[x.len];exact hi
  rw[KC hi']at z
  obtain⟨p,hp,p1,p2,p3⟩:=x.ent es[i] (ML.mpr (Array.getElem_mem hi'));obtain⟨q1,q2⟩:=EW hc hk p1 p2 (z.symm.trans p3)
  apply hn
  rw[q1,q2];exact hp
 have key:∀at_:Nat->Int,(∀i,at_ i=(es[i]?.map (·.1)).getD 0)->(kB M mv pl L).probe at_ (hs2 c k) ((kB M mv pl L).probeStart (hs2 c k))=some (.empty j none):=λat_ ha=>by
  rw[show at_=λi=>(es[i]?.map (·.1)).getD 0 from funext ha];exact ej
 unfold setAddHashed setAddHashedIn;refine Kj (IH (Mw x.at_ rfl x.fits ?_))
 dsimp only
 rw[show byScan (.ref b) es=false from rfl,if_neg (by decide)]
 unfold setSearch setSearchFrom;refine IH (IH (Mw x.at_ rfl x.fits ?_))
 dsimp only
 have gw:(kB M mv pl L).gaveWay=false:=by
  rcases hM with rfl | rfl <;> simp[SetTable.gaveWay,kB]
 rw[gw,if_neg (by decide)]
 rw[NP,key]
 rotate_left
 ·exact λi=>rfl
 dsimp only
 refine IS ?_
 dsimp only
 refine IH (Mw x.at_ rfl x.fits ?_)
 dsimp only
 rw[put2]
 dsimp only
 rw[show(kB M mv (lz pl j) L).plain=true from rfl,if_pos rfl]
 refine IH (tO hb ?_)
 rw[if_pos rfl]
 have tf:(kB M mv (lz pl j) L).tooFull=decide ((pl.length+1)*5 ≥ M*3):=by
  show decide (((lz pl j).toArray.size+0)*5 ≥ M*3)=_
  rw[Je,rX x.rise,Nat.add_zero]
 have perm:=SetTable.insertAt_perm es (Jk pl.toArray j) (hs2 c k,Jg b)
 have z2:(Lm es (Jk pl.toArray j) (hs2 c k,Jg b)).size=es.size+1:=by rw[<-Jt,perm.length_eq];simp
 have n2:es.size+1=(ks++ [(c,k)]).length:=by rw[x.num];simp
 have ent2:∀e∈(Lm es (Jk pl.toArray j) (hs2 c k,Jg b)).toList,∃p∈ks++ [(c,k)],p.1<4/\p.2<4/\e.1=hs2 p.1 p.2:=λe he=>by
  have:=perm.mem_iff.mp he;rw[Array.toList_push,JC,IY]at this;rcases this with q | rfl
  ·obtain⟨p,hp,r⟩:=x.ent e q
   exact⟨p,Ks _ hp,r⟩
  ·exact⟨(c,k),Jn _ (IY.mpr rfl),hc,hk,rfl⟩
 have sz:(Lm es (Jk pl.toArray j) (hs2 c k,Jg b)).size<=sizeLine:=by rw[z2,x.num,K0];omega
 refine IH (PH x.at_ rfl ?_ sz)
 have hg:(s.heap.update a (Obj.putSet (Lm es (Jk pl.toArray j) (hs2 c k,Jg b)) (kB M mv (lz pl j) L))).get? a=some (Dm (Lm es (Jk pl.toArray j) (hs2 c k,Jg b)) (ep+1) M mv (lz pl j) L):=LB (Obj.putSet _ (kB M mv (lz pl j) L)) x.at_ rfl
 have l2:=rX x.rise j
 have r2:=wL x.rise nj
 have hl:=x.len;rw[tf]
 by_cases full:M=7/\pl.length=4
 ·obtain⟨rfl,h4⟩:=full
  have mv0:mv=0:=by rcases x.cap with q | q <;> omega
  subst mv0;rw[if_pos (by rw[h4];rfl),show SetTable.grown (es.size+1)=20 by rw[hl,h4];rfl]
  refine IH (A4 (s:={ s with heap:=_ }) hg (by rw[z2,l2,hl]) (by rw[l2,h4]) (by rw[z2,n2]) ent2 λh' es' ep' pl' sb y=>IS (h h' es' ep' 31 1 pl' ((Kx ..).trans sb) y))
 ·rw[if_neg (by
   rw[Bool.not_false,KD,decide_eq_true_iff]
   have:=x.num;rcases x.cap with q | q <;> omega)]
  refine IS (h _ _ (ep+1) M mv (lz pl j) (Kx ..) ⟨hg,r2,by rw[z2,l2,hl],by rw[z2,n2],?_,ent2⟩)
  have:=x.num;rcases x.cap with q | q
  ·exact .inl ⟨q.1,q.2.1,by omega⟩
  ·exact .inr ⟨q.1,q.2.1,by omega⟩
end
theorem EH {prog:Jp}{w:J2}{xs:List Int}{b:Addr}{h h':Heap}(x:LN (intKind prog w) h xs b)(k:∀o,h.get? b=some o->h'.get? b=some o):LN (intKind prog w) h' xs b:=let ⟨o,its,n,ho,r⟩:=x;⟨o,its,n,k o ho,r⟩
section
variable {prog:Jp}{w:J2}{A:JO}{R:Qy->IR->Prop}{I:Addr}{fp wr:List Addr}{G:Array O7->Array O7->Prop}{n:Nat}{P:Nat->IQ->Prop}{St:Nat->IR->Prop}{h0:Heap}
theorem wu {L:Bool}(W:WalksS prog w A.in1 I fp wr G n P St)(S:Addr)(hS:S∉fp)(hu:A.units+1<cLine)(key:Nat->Nat×Nat)(hk:∀i,i<n->(key i).1<4/\(key i).2<4)(hd:∀i j,i<j->j<n->key i≠key j)(hn:n<=16)
  (hv:∀i v,P i v->∃b,v= .ref b/\b∉S::wr/\LN (intKind prog w) h0 [((key i).1:Int),((key i).2:Int)] b) :
  ∀(k i:Nat) (s:IR) (es:Array (Int×IQ)) (ep M mv:Nat) (pl:List Nat),n - i=k->i<=n->St i s->SetY s.heap S es ep M mv pl L ((JA i).map key)->(∀b o,b∉S::wr->h0.get? b=some o->s.heap.get? b=some o) →
   (∀s' es' ep' M' mv' pl',Moved (S::wr) G s s'->SetY s'.heap S es' ep' M' mv' pl' L ((JA n).map key)->R (.ok (.ret .none)) s') →
   codeAny (model prog w) A (Code.builtin "set.update.loop" ⟨[.ref S,.ref I],[]⟩) R s:=by
 have hw:S∉wr:=λh=>hS (W.sub _ h)
 have hsub:∀b∈wr,b∈S::wr:=λ_=>IJ S
 intro k
 induction k with
 | zero=>
  intro i s es ep M mv pl hk' hi hst x kp hR;obtain rfl:i=n:=by omega
  refine K1 LU (by
   rw[Kt KS _];refine IH (m:=pyNext (.ref I)) (W.done s _ _ hst λs' hm=> ?_)
   exact IS (hR s' es ep M mv pl (hm.mono hsub) (x.keep λo e=>hm.heap S o hw e)))
 | succ k ih=>
  intro i s es ep M mv pl hk' hi hst x kp hR
  have hlt:i<n:=by omega
  refine K1 LU (by
   rw[Kt KS _];refine IH (m:=pyNext (.ref I)) (W.item i s _ _ hlt hst λv s' hP hst' hm=> ?_)
   obtain⟨b,rfl,nb,tk⟩:=hv i v hP
   have x':SetY s'.heap S es ep M mv pl L ((JA i).map key):=x.keep λo e=>hm.heap S o hw e
   have kp':∀b o,b∉S::wr->h0.get? b=some o->s'.heap.get? b=some o:=λb o q e=>hm.heap b o (λz=>q (hsub b z)) (kp b o q e)
   have tk':LN (intKind prog w) s'.heap [((key i).1:Int),((key i).2:Int)] b:=EH tk λo e=>kp' b o nb e
   refine IH (m:=holding [Jg b] _) (Kj ?_)
   unfold setAdd;refine Kj (IH (wpAny_pyHash_tuple (by show A.units+1<cLine;exact hu) tk' ?_))
   rw[ua (hk i hlt).1 (hk i hlt).2];refine Hh (s:={ s' with toks:=s'.toks+_ }) (hk i hlt).1 (hk i hlt).2 x' (λz=> ?_) (by rw[IP,Kz];omega) tk' λh' es' ep' M' mv' pl' hsb x2=> ?_
   ·obtain⟨j,hj,e⟩:=Jh.mp z
    exact hd j i (JJ.mp hj) hlt e
   ·have x3:SetY h' S es' ep' M' mv' pl' L ((JA (i+1)).map key):=by rw[MV,Jv];exact x2
    refine IS ⟨Ml KS _,ih (i+1) _ es' ep' M' mv' pl' (by omega) hlt (W.frame _ s' _ _ hst' (P5 _ _) λb hb o e=> ?_) x3 (λb o q e=> ?_) λs'' es2 ep2 M2 mv2 pl2 hm'' x4=> ?_⟩
    ·rw[hsb.2 b (λh:b=S=>hS (by rw[<-h];exact hb))];exact e
    ·show h'.get? b=some o
     rw[hsb.2 b (λh:b=S=>q (by rw[h];exact IL))];exact kp' b o q e
    ·refine hR s'' es2 ep2 M2 mv2 pl2 (Moved.trans W.gtrans ((hm.mono hsub).then_heap (P5 _ _) λb o hb e=> ?_) hm'') x4
     rw[hsb.2 b (λh:b=S=>hb (by rw[h];exact IL))];exact e)
end
section
variable {w:J2}{prog:Jp}{s:IR}{A:JO}{E:IQ->IR->Prop}
theorem AV:isSubtype (.type "list") (.type "set")=pure false:=by rw[isSubtype_type];kernel_rfl
theorem AW:isSubtype (.type "list") (.type "frozenset")=pure false:=by rw[isSubtype_type];kernel_rfl
theorem xv {l:Addr}{items:Array IQ}{key:Nat->Nat×Nat}{Q:IQ->IR->Prop}
  (hh:A.handled=none) (hu:A.units+10<cLine) (hl:s.heap.IsList l items) (hk:∀i,i<items.size->(key i).1<4/\(key i).2<4) (hd:∀i j,i<j->j<items.size->key i≠key j) (hb:items.size<=16)
  (hv:∀i v,items[i]? =some v->∃b,v= .ref b/\LN (intKind prog w) s.heap [((key i).1:Int),((key i).2:Int)] b)
  (h:∀(h':Heap) (tk:Nat) es ep M mv pl,SetY h' s.heap.objs.size es ep M mv pl (!Fq w) ((JA items.size).map key) →
   (∀b o,b<s.heap.objs.size->s.heap.get? b=some o->h'.get? b=some o)->s.toks<=tk->Q (.ref s.heap.objs.size) { s with heap:=h',toks:=tk }) :
  wpAny (model prog w) A (call (.type "set") [Jg l]) Q E s:=by
 obtain⟨c,tl,hmro⟩:=LD.mro;have hmade:=LD.made;have hsub:=LD.sub;refine wpAny_call (QH ?_);show wpAny _ _ (callAny (.type "set") _) _ _ _;refine IS ⟨Code.quiet_builtin _ (by decide+kernel),K1 F.entry_type_call ?_⟩;rw[Around.under_plain (weight_type_call_type "set" [.ref l] []) rfl];have h1:=LD.notType;have h2:=LD.canCreate;have hct:=F.typeCall_set_1 (.ref l);repeat (any_goals (first | assumption | wp_step))
 refine MG (A2 (.ref l) (E:=E) (Q₁:=λobj s₁=>obj= .ref s.heap.objs.size/\s₁= { s with heap:=s.heap.push (pF #[] 0 [] (!Fq w)) }) ⟨rfl,rfl⟩) λr s₁ hr=> ?_;cases r with
 | error e=>exact hr
 | ok fl=>
  cases fl with
  | ret obj=>
   obtain⟨rfl,rfl⟩:=hr;generalize hH:s.heap.push (pF #[] 0 [] (!Fq w))=H1;have hH1:H1.objs.size=s.heap.objs.size+1:=by rw[<-hH,Kc]
   have hS:H1.get? s.heap.objs.size=some (pF #[] 0 [] (!Fq w)):=by rw[<-hH];exact IZ _ rfl
   have hT:Shared.TypeIs { s with heap:=H1 } (.ref s.heap.objs.size) "set":=⟨_,hS,rfl⟩;have hli:=LD.init.lookup;have hbi:=LD.init.bind (.ref s.heap.objs.size);repeat (any_goals (first | assumption | wp_step))
   refine MG (MM (R:=wants (λr s₂=>r= .none/\∃h' tk es ep M mv pl,s₂= { s with heap:=h',toks:=tk }/\SetY h' s.heap.objs.size es ep M mv pl (!Fq w) ((JA items.size).map key) ∧
     (∀b o,b<s.heap.objs.size->s.heap.get? b=some o->h'.get? b=some o)/\s.toks<=tk) E) LD.init.plain F.entry_set_init (check_set_init_1 hT ?_)) λr₂ s₂ hr₂=> ?_
   ·obtain⟨ol,hol,hcl,nl,hdl⟩:=id hl
    obtain⟨ocls,odict,odata,oslots⟩:=ol;simp only at hcl hdl;subst hcl;subst hdl;have hol':H1.get? l=some { cls:=.type "list",dict:=odict,data:=.seq items nl,slots:=oslots }:=by rw[<-hH];exact IK _ hol
    have hsls:=AV;have hslf:=AW;have hne:(L7 "list" == L7 "dict")=false:=by decide
    have hl1:H1.IsList l items:=⟨_,hol',rfl,nl,rfl⟩;unfold Builtin.«set.__init__» noKeywords Qd;generalize hPI:pyIter=PI;wp_walk;subst hPI;refine LM hl1 ?_;refine IH (wpAny_runValue ?_);have hlS:l<s.heap.objs.size:=Ja hol;have hh3:A.in1.in1.in1.handled=none:=by simp[hh]
    have hneI:l≠H1.objs.size:=by rw[hH1];exact JS (Lj hlS)
    have hSf:s.heap.objs.size∉ [H1.objs.size,l]:=by
     simp only[IW,IY,JQ,or_false,not_or];exact⟨by rw[hH1];exact JS (K5 _),MA hlS⟩
    have hvY:∀i v,items[i]? =some v->∃b,v= .ref b/\b∉s.heap.objs.size:: [H1.objs.size]/\LN (intKind prog w) s.heap [((key i).1:Int),((key i).2:Int)] b:=λi v e=>by
     obtain⟨b,rfl,t⟩:=hv i v e;have hlt:b<s.heap.objs.size:=by obtain⟨_,_,_,ho,_⟩:=t;exact Ja ho
     refine⟨b,rfl,?_,t⟩;simp only[IW,JQ,or_false,not_or];exact⟨JS hlt,by rw[hH1];exact JS (Lj hlt)⟩
    refine wu (L:=!Fq w) (h0:=s.heap) ((Walks.list hh3 _ l hneI items).toS) s.heap.objs.size hSf (by show A.units+1+1+1<cLine;omega) key hk hd hb hvY (items.size - 0) 0 _ #[] 0 7 0 [] (by omega) (KP _)
     ⟨⟨_,IZ _ rfl,rfl,rfl⟩,(hl1.push _)⟩ ?hS0 (λb o q e=>IK _ (by rw[<-hH];exact IK _ e)) ?hR
    case hS0=>
     exact⟨IK _ hS,Pm,rfl,rfl,.inl ⟨rfl,rfl,by simp⟩,λe he=>by simp at he⟩
    case hR=>
     intro s' es' ep' M' mv' pl' hm x';obtain⟨h',g',d',tk',os'⟩:=s';have eg:g'=s.gens:=hm.gens;have ed:d'=s.drawn:=hm.drawn;have eo:os'=s.os:=hm.os;have et:s.toks<=tk':=hm.toks;subst eg;subst ed;subst eo;show wpAny _ _ _ _ _ _;refine IS ?_;show wpAny _ _ (ret JK) _ _ _;refine IS ⟨rfl,h',tk',es',ep',M',mv',pl',rfl,x',λb o hb e=> ?_,et⟩;refine hm.heap b o ?_ (IK _ (by rw[<-hH];exact IK _ e));simp only[IW,IY,JQ,or_false,not_or];exact⟨JS hb,by rw[hH1];exact JS (Lj hb)⟩
   ·cases r₂ with
    | error e=>exact hr₂
    | ok fl₂=>
     cases fl₂ with
     | ret r=>
      obtain⟨rfl,h',tk,es,ep,M,mv,pl,rfl,x',hk',et⟩:=hr₂;repeat (any_goals (first | assumption | wp_step))
      exact h _ _ es ep M mv pl x' hk' et
     | _=>exact hr₂.elim
  | _=>exact hr.elim
end
end Tr
namespace Tr
def sd:T->Option (Nat×Nat)
 | .tup [.int a,.int b] =>if 0<=a/\a<4/\0<=b/\b<4 then some (a.toNat,b.toNat)else none
 | _=>none
def jD:List T->Option (List (Nat×Nat))
 | [] =>some []
 | t::l=>match sd t,jD l with
  | some p,some k=>some (p::k)
  | _,_=>none
def sM:List T->Rs T
 | [.lst l] =>match jD l with
  | some ks=>if ks.Nodup/\ks.length<=16 then .ok (.int (ks.length:Nat))else .bad
  | none=> .bad
 | _=> .bad
end Tr
namespace Tr
open PySem PySem.Spec PyProof.Rows L2
theorem r9 {t:T}{p:Nat×Nat}(h:sd t=some p):t= .tup [.int (p.1:Nat),.int (p.2:Nat)]/\p.1<4/\p.2<4:=by
 unfold sd at h
 split at h
 ·split at h
  ·rename_i a b z
   cases h;refine⟨?_,by omega,by omega⟩
   rw[OK z.1,OK z.2.2.1]
  ·cases h
 ·cases h
theorem r8:∀{l:List T} {ks:List (Nat×Nat)},jD l=some ks->ks.length=l.length/\∀i t,l[i]? =some t->sd t=some (ks.getD i (0,0))
 | [],ks,h=>by cases h;exact⟨rfl,λi t e=>by simp at e⟩
 | t::l,ks,h=>by
  unfold jD at h
  split at h
  ·rename_i p k h1 h2
   cases h;obtain⟨a,b⟩:=r8 h2;refine⟨by rw[IV,IV,a],λi u e=> ?_⟩
   cases i with
   | zero=>cases e;exact h1
   | succ i=>exact b i u (by simpa using e)
  ·cases h
section
variable {X:Cx}{a:Expr}{fs:En->Rs (List T)}{p p1 p2 pos:Pos}
theorem gU {pins:List (Addr×Obj)}{σ:L2.St}{H:Hp}{s:IR}{O:Ow}(I:Inv X pins σ H s){c k:Nat}{v:V}{u:IQ}(r:Rep X.K O H (.tup [.int (c:Nat),.int (k:Nat)]) v)(q:RelV v u):∃b,u= .ref b/\LN (intKind X.prog X.w) s.heap [(c:Int),(k:Int)] b:=by
 obtain⟨b,ws,rfl,n,e,z⟩:=Rep.Fk.mp r;obtain rfl:u=Jg b:=q;obtain⟨its,r',pl,hz⟩:=I.tuple (SqT.of e)
 have hi:=eF (ns:=[(c:Int),(k:Int)]) rfl z r';obtain⟨o,ho,hc,m,hd⟩:=pl;refine⟨b,rfl,o,_,m,ho,hc,hd,?_⟩
 generalize hq:its.toArray.toList=l
 have:l=its:=by rw[<-hq]
 subst this
 cases hi with
 | cons _ t1 h1=>
  cases h1 with
  | cons _ t2 h2=>
   cases h2;exact .cons (by simp[intKind,NI]) (.cons (by simp[intKind,NI]) .nil)
theorem DO (hc:X.calm=true)(hu:X.A.units+60<cLine)(hm:X.mg "len" =none)(hms:X.mg "set" =none)(ha:qT X [a] fs)(hst:bx [a] =true:=by rfl)(hg:Gl X "len":=by rfl)(hgs:Gl X "set":=by rfl) :
  cy X (.Call (.Name "len" p) [.Call (.Name "set" p1) [a] [] p2] [] pos) (cl sM fs):=by
 intro pins s σ H Q I ⟨Z,O,Ev,hq⟩
 have e1:Jj [KZ (.Name "set" p1) [a] [] p2] X.env=(false,eval (.Call (.Name "set" p1) [a] [] p2) X.env)::Jj [] X.env:=aW rfl;unfold bx at hst;rw[IT]at hst
 have e2:Jj [a] X.env=(false,eval a X.env)::Jj [] X.env:=aW hst.1;refine JV (fo I hg hm (show Jw "len" =some (.builtin "len")by decide+kernel) ?_ (by decide) (by decide))
 refine Lq ?_ e1 rfl
 rw[e1];refine K6 ?_
 refine JV (fo I hgs hms (show Jw "set" =some (.type "set")by decide+kernel) ?_ (by decide) (by decide))
 refine JL (cq (ha p2 pins s σ H _ I (eQ Ev hq)) λus s1 ⟨vs,H1,I1,r1,ts,rs,s',E',q1⟩=> ?_) e2 rfl
 unfold sM at q1
 split at q1
 ·rename_i l
  split at q1
  ·rename_i ks hn
   split at q1
   ·rename_i hz
    obtain⟨v1,rfl,ra⟩:=rs.one;obtain⟨c1,ws,rfl,n1,hx,rx⟩:=Rep.Do.mp ra;obtain⟨u1,rfl,z1⟩:=Vals.one r1;obtain rfl:u1=Jg c1:=z1;obtain⟨z,its,n,rv,hlen,eo⟩:=I1.HP hx;obtain⟨kl,kat⟩:=r8 hn
    have hll:l.length=its.length:=by rw[<-hlen,rx.length]
    have hd:X.A.handled=none:=I1.ok.hd hc
    have at_:∀i v,its.toArray[i]? =some v->∃t,l[i]? =some t/\∃b,v= .ref b/\LN (intKind X.prog X.w) s1.heap [((ks.getD i (0,0)).1:Int),((ks.getD i (0,0)).2:Int)] b:=λi v e=>by
     have e:its[i]? =some v:=by simpa using e
     have hi:i<l.length:=by rw[hll];exact(Jd.mp e).1
     obtain⟨t,et⟩:∃t,l[i]? =some t:=⟨_,IU hi⟩
     obtain⟨w,ew,rw_⟩:=rx.get et;obtain⟨u,eu,ru⟩:=rv.get ew;rw[e]at eu;cases eu;obtain⟨rfl,_,_⟩:=r9 (kat i t et);exact⟨_,et,gU I1 rw_ ru⟩
    have hz2:its.toArray.size=ks.length:=by rw[Je,kl,hll]
    refine xv (items:=its.toArray) (key:=λi=>ks.getD i (0,0)) hd (by omega) ⟨_,eo,rfl,n,rfl⟩ (λi h=> ?_) (λi j h1 h2=> ?_) (by rw[hz2];exact hz.2) (λi v e=>let ⟨_,_,q⟩:=at_ i v e;q) λh' tk es ep M mv pl x kp et=> ?_
    ·obtain⟨t,et,_⟩:=at_ i _ (KC h)
     exact(r9 (kat i t et)).2
    ·rw[hz2]at h2
     show ks.getD i (0,0)≠ks.getD j (0,0)
     rw[LP,LP,IU h2,IU (by omega)]
     exact LY.mp hz.1 i j (by omega) h2 h1
    refine Lg ?_
    have es_:es.size=ks.length:=by rw[x.num,IP,Kz,hz2]
    refine call_len_set (s:={ s1 with heap:=h',toks:=tk }) x.at_ ⟨rfl,rfl,rfl⟩ rfl x.fits (by rw[es_];have:=hz.2;omega) ?_
    rw[es_];exact⟨.int _,H1,I1.kept (t':=tk+1+1) λb o e=>kp b o (Ja e) e,⟨_,rfl⟩,q1 H1 (Same.refl H1) _ (Rep.Gc _)⟩
   ·exact q1.elim
  ·exact q1.elim
 ·exact q1.elim
theorem AE (hc:X.calm=true)(hu:X.A.units+60<cLine)(hm:X.mg "len" =none)(hms:X.mg "set" =none)(ha:QA X [a] fs)(hst:bx [a] =true:=by rfl)(hg:Gl X "len":=by rfl)(hgs:Gl X "set":=by rfl) :
  QE X (.Call (.Name "len" p) [.Call (.Name "set" p1) [a] [] p2] [] pos) (cl sM fs):=⟨DO hc hu hm hms ha.h hst hg hgs⟩
end
section
variable {P:Jp}{w:J2}{K:II}{mg:Str->Option IQ}{base:Heap}{x:Str}{st:Stmt}{ps:List Str}{k n:Nat}{F:En->Rs Fl}
theorem aQ (N:List Str)(H:fU K mg x st ps)
  (hbody:N.Nodup->∀(f:Addr) (cdv:IQ) (A:JO) (outer:List Env) (s:IR) (H:Hp) (E:XK),Room k (A.deeper (envOfC x (aB st) s.heap.objs.size f cdv)) →
   ∀xe,Ao ((km CX0 P w K mg base N x (aB st) f cdv A outer s H E).FM xe) (cE st) F) (S:autoParam (d9 N ps (aB st)) z_) (hn:ps.length=n:=by rfl):Cl P w K mg base (k+1) x n (val n N.length F):=Hd H S hn (hbody S.nd)
end
theorem cU {X:Cx}{pos:Pos}{elt tg iter:Expr}{ifs:List Expr}{scope:L1}{src:List (Option Nat)}{fi:En->Rs (List T)}{tgt:T->En->Rs En}{fc:En->Rs Bool}{fe:En->Rs T}(N' N:List Str)(st:Stmt)(hi:QI X tg iter fi)
  (block:N'.Nodup->∀(cl:List (Str×Addr)) (C:Addr) (s₀:IR) (H₀:Hp) (fp:List Addr),QG (br X scope cl N' C s₀ H₀ fp) tg tgt/\FF (br X scope cl N' C s₀ H₀ fp) ifs fc/\QE (br X scope cl N' C s₀ H₀ fp) elt fe)
  (hc:Cx.calm X=true:=by rfl) (hN:X.N=N:=by rfl) (hm:X.env.scope.names=(aB st).names:=by rfl) (hk:scope.kind= .function:=by rfl) (h:autoParam (BW (aB st).names N scope.names N' src=true) y_) (nd:autoParam (N'.Nodup) y_) (hs:autoParam (∀(x:IQ),Jy iter (Cx.env X) x=pure x) t_) :
  QE X (NL elt [{ target:=tg,iter:=iter,ifs:=ifs,is_async:=0 }] scope pos) (dQ fi src tgt fc fe):=FG hc (LcScope.by hN hm hk h) hi (block nd) hs
@[elab_as_elim] theorem GJ {α:Type} {p:List α->Prop} (h:∀a,p [a]):∀us:List α,us.length=1->p us
 | [a],_=>h a
@[elab_as_elim] theorem GI {α:Type} {p:List α->Prop} (h:∀a b,p [a,b]):∀us:List α,us.length=2->p us
 | [a,b],_=>h a b
@[elab_as_elim] theorem GH {α:Type} {p:List α->Prop} (h:∀a b c,p [a,b,c]):∀us:List α,us.length=3->p us
 | [a,b,c],_=>h a b c
section
variable {K:II}{h:Heap}{mg:Str->Option IQ}{S:xJ}{top:Nat->Stmt}
theorem cI (j:Nat){n:Str}{i:Nat}{ps:List Str}(X:K.In h)(G:h.Ns JF mg)(e:sj S K=rk S top)(q:S.tab[j]? =some (n,i):=by rfl)
  (hb:∀(kV doc pm:IQ) (an:Option Addr) (cdv ct:IQ) (us:List IQ),us.length=ps.length->Qe (L4 n n (fD (top i)) (cE (top i)) (aB (top i)) .none kV doc pm an cdv ct) ⟨us,[]⟩=pure (ps.zip us):=by
   intro _ _ _ _ _ _ us hl;first | exact GJ (λ_=>rfl) us hl | exact GI (λ_ _=>rfl) us hl | exact GH (λ_ _ _=>rfl) us hl | exact len_0 rfl us hl) :
  ∃f fd,Fn K mg n (top i) ps f fd:=zy j X G e q hb
end
end Tr
namespace G
open PySem PySem.Spec PyProof.Rows L2 Tr
structure Bl (mg:Str->Option IQ):Prop where
 b_all:mg "all" =none
 b_bool:mg "bool" =none
 b_dict:mg "dict" =none
 b_enumerate:mg "enumerate" =none
 b_int:mg "int" =none
 b_isinstance:mg "isinstance" =none
 b_len:mg "len" =none
 b_list:mg "list" =none
 b_max:mg "max" =none
 b_min:mg "min" =none
 b_range:mg "range" =none
 b_set:mg "set" =none
 b_sum:mg "sum" =none
 b_tuple:mg "tuple" =none
 b_zip:mg "zip" =none
structure Cs (mg:Str->Option IQ):Prop where
 MOST_CLOCKS:∃t,mg "MOST_CLOCKS" =some (.int 4 t)
 MOST_LETTERS:∃t,mg "MOST_LETTERS" =some (.int 8 t)
 MOST_READINGS:∃t,mg "MOST_READINGS" =some (.int 4 t)
 LAST_READING:∃t,mg "LAST_READING" =some (.int 99 t)
 SLOWEST:∃t,mg "SLOWEST" =some (.int 9 t)
 LONGEST:∃t,mg "LONGEST" =some (.int 999 t)
theorem qO:Jw "bool" =some (.type "bool"):=by decide+kernel
theorem lx:Jw "int" =some (.type "int"):=by decide+kernel
theorem qN:Jw "list" =some (.type "list"):=by decide+kernel
theorem dC:Jw "tuple" =some (.type "tuple"):=by decide+kernel
structure Xs (K:II)(mg:Str->Option IQ)(C_NoRecord C_NoEvent C_NoWorld C_ClockError:Addr):Prop where
 m_NoRecord:mg "NoRecord" =some (.ref C_NoRecord)
 m_NoEvent:mg "NoEvent" =some (.ref C_NoEvent)
 m_NoWorld:mg "NoWorld" =some (.ref C_NoWorld)
 m_ClockError:mg "ClockError" =some (.ref C_ClockError)
 o_NoRecord:OX K C_NoRecord (.ref C_ClockError::uR)
 o_NoEvent:OX K C_NoEvent (.ref C_ClockError::uR)
 o_NoWorld:OX K C_NoWorld (.ref C_ClockError::uR)
 o_ClockError:OX K C_ClockError uR
 d:[C_NoRecord,C_NoEvent,C_NoWorld,C_ClockError].Nodup
end G
namespace G
open PySem Tr
def iV:En->Rs Fl:=
 (ay (eR (tb (o2 kC (vr 0) (cN ai))) (aR (o2 cJ (cn (.int 7)) (vr 1))) sN) (aR (o2 aK (o2 aP (vr 0) (o2 j4 (vr 1) (cl cV (af (vr 0) ai)))) (o2 cJ (cn (.int 6553)) (o2 kc (vr 1) (cl cV (af (vr 0) ai)))))))
def eY:List T->Rs T:=val 2 2 iV
def hI:En->Rs Fl:=
 (ay (cg (o2 j4 (o2 aK (o2 cJ (o2 j4 (cl eY (af (vr 0) (af (vr 1) ai))) (cn (.int 2147483563))) (cn (.int 69069))) (o2 cJ (cn (.int 104723)) (o2 aK (vr 1) (cn (.int 1))))) (cn (.int 2147483563))) (gN 3)) (ay (cg (o2 j4 (o2 aK (o2 cJ (vr 3) (vr 3)) (o2 kc (vr 3) (cn (.int 3)))) (cn (.int 2147483399))) (gN 3)) (aR (o2 j4 (o2 kc (o2 j4 (o2 aK (o2 cJ (vr 3) (vr 3)) (o2 kc (vr 3) (cn (.int 7)))) (cn (.int 2147483647))) (cn (.int 11))) (vr 2)))))
def aw:List T->Rs T:=val 3 4 hI
def jz:En->Rs Fl:=
 (ay (cg (cN ai) (gN 1)) (ay (eU (iE (af (vr 0) ai)) (gT 2 (kR (gN 2) (kR (gN 3) vP))) (cg (o2 aK (vr 1) (dQ (iR (af (cl cV (af (o2 aP (vr 3) (cn (.int 2))) ai)) ai)) [none,some 2] (gN 0) bT (cp (af (vr 1) (af (vr 0) ai))))) (gN 1))) (aR (vr 1))))
def dA:List T->Rs T:=val 1 4 jz
def dE:En->Rs Fl:=
 (ay (cg (cl dA (af (vr 2) ai)) (gN 3)) (ay (eR (tb (o2 qr (cl cV (af (vr 3) ai)) (cn (.int 2)))) (aR (cn .non)) sN) (ay (cg (cl aw (af (vr 0) (af (vr 1) (af (cl cV (af (vr 3) ai)) ai)))) (gN 4)) (ay (cg (o2 j4 (o2 aK (o2 aK (vr 4) (cn (.int 1))) (cl aw (af (vr 0) (af (o2 aK (vr 1) (cn (.int 1))) (af (o2 fw (cl cV (af (vr 3) ai)) (cn (.int 1))) ai))))) (cl cV (af (vr 3) ai))) (gN 5)) (ay (cg (cl aw (af (vr 0) (af (o2 aK (vr 1) (cn (.int 2))) (af (cn (.int 8)) ai)))) (gN 6)) (ay (cg (oK (tb (o2 kC (cl aw (af (vr 0) (af (o2 aK (vr 1) (cn (.int 3))) (af (cn (.int 3)) ai)))) (cn (.int 0)))) (cn .non) (o2 aK (vr 6) (cl aw (af (vr 0) (af (o2 aK (vr 1) (cn (.int 4))) (af (cn (.int 9)) ai)))))) (gN 7)) (aR (cp (af (o2 aP (vr 3) (vr 4)) (af (o2 aP (vr 3) (vr 5)) (af (vr 6) (af (vr 7) ai))))))))))))
def cR:List T->Rs T:=val 3 8 dE
def hU:En->Rs Fl:=
 (ay (cg (o2 aK (cn (.int 1)) (cl aw (af (vr 0) (af (vr 1) (af (cn (.int 3)) ai))))) (gN 2)) (ay (cg (cp (af (cl aw (af (vr 0) (af (o2 aK (vr 1) (cn (.int 2))) (af (cn (.int 6)) ai)))) ai)) (gN 3)) (ay (eU (iR (af (cl aw (af (vr 0) (af (o2 aK (vr 1) (cn (.int 1))) (af (cn (.int 3)) ai)))) ai)) (gN 4) (cg (o2 aK (vr 3) (cp (af (o2 aK (o2 aK (o2 aP (vr 3) (o1 qi (cn (.int 1)))) (cn (.int 1))) (cl aw (af (vr 0) (af (o2 aK (o2 aK (vr 1) (cn (.int 3))) (vr 4)) (af (cn (.int 5)) ai))))) ai))) (gN 3))) (aR (cp (af (vr 2) (af (o2 aK (vr 2) (cl aw (af (vr 0) (af (o2 aK (vr 1) (cn (.int 6))) (af (cn (.int 3)) ai))))) (af (vr 3) ai))))))))
def ck:List T->Rs T:=val 2 5 hU
def gx:En->Rs Fl:=
 (ay (cg (cl gL (af (dQ (iR (af (o2 aK (cn (.int 1)) (cl aw (af (vr 0) (af (vr 1) (af (cn (.int 3)) ai))))) ai)) [none,some 0,some 1] (gN 0) bT (cl ck (af (vr 1) (af (o2 aK (o2 aK (vr 2) (cn (.int 1))) (o2 cJ (cn (.int 8)) (vr 0))) ai)))) ai)) (gN 3)) (ay (cg (cN ai) (gN 4)) (ay (eU (iR (af (cl aw (af (vr 0) (af (o2 aK (vr 1) (cn (.int 30))) (af (o2 aK (vr 2) (cn (.int 1))) ai)))) ai)) (gN 5) (ay (cg (cl cR (af (vr 0) (af (o2 aK (o2 aK (vr 1) (cn (.int 31))) (o2 cJ (cn (.int 6)) (vr 5))) (af (vr 3) ai)))) (gN 6)) (cg (o2 aK (vr 4) (o2 cJ (cN (af (vr 6) ai)) (cl zH (af (o2 da (vr 6) (cn .non)) ai)))) (gN 4)))) (aR (cp (af (vr 3) (af (cl gL (af (vr 4) ai)) ai)))))))
def eK:List T->Rs T:=val 3 7 gx
def o7:En->Rs Fl:=
 (aR (cP (o1 (zF "tuple") (vr 0)) (ch Fz Fz (vr 1) (cl cV (af (vr 0) ai)) (vr 2))))
def aN:List T->Rs T:=val 3 3 o7
def uW:En->Rs Fl:=
 (aR (cP (o1 (zF "int") (vr 0)) (o1 BP (o1 (zF "bool") (vr 0)))))
def eG:List T->Rs T:=val 1 1 uW
def tR:En->Rs Fl:=
 (aR (cP (cl eG (af (vr 0) ai)) (ch Fz Fz (vr 1) (vr 0) (vr 2))))
def aX:List T->Rs T:=val 3 3 tR
def xI:En->Rs Fl:=
 (aR (cP (cl aX (af (vr 0) (af (cn (.int 1)) (af (cn (.int 9)) ai)))) (cl aX (af (vr 1) (af (vr 0) (af (cn (.int 9)) ai))))))
def i9:List T->Rs T:=val 2 2 xI
def wg:En->Rs Fl:=
 (aR (cl nu (af (dQ (iR (af (o2 fw (cl cV (af (vr 0) ai)) (cn (.int 1))) ai)) [none,some 0] (gN 0) bT (o2 qr (o2 aP (vr 1) (vr 0)) (o2 aP (vr 1) (o2 aK (vr 0) (cn (.int 1)))))) ai)))
def i8:List T->Rs T:=val 1 1 wg
def ef:En->Rs Fl:=
 (ay (eR (dS (tb (cl aN (af (vr 0) (af (cn (.int 1)) (af (cn (.int 4)) ai)))))) (aR (cn (.bl false))) sN) (aR (cP (cl nu (af (dQ (iS (vr 0)) [none] (gN 0) bT (cl aX (af (vr 0) (af (cn (.int 0)) (af (cn (.int 99)) ai))))) ai)) (cl i8 (af (vr 0) ai)))))
def bN:List T->Rs T:=val 1 1 ef
def g8:En->Rs Fl:=
 (aR (cP (cl aN (af (vr 0) (af (cn (.int 3)) (af (cn (.int 3)) ai)))) (cP (cl i9 (af (o2 aP (vr 0) (cn (.int 0))) (af (o2 aP (vr 0) (cn (.int 1))) ai))) (cl bN (af (o2 aP (vr 0) (cn (.int 2))) ai)))))
def de:List T->Rs T:=val 1 1 g8
def g9:En->Rs Fl:=
 (aR (cP (cl aN (af (vr 0) (af (cn (.int 1)) (af (cn (.int 4)) ai)))) (cl nu (af (dQ (iS (vr 0)) [none] (gN 0) bT (cl de (af (vr 0) ai))) ai))))
def dm:List T->Rs T:=val 1 1 g9
def uX:En->Rs Fl:=
 (ay (eR (oo (dS (tb (cl aN (af (vr 1) (af (cn (.int 2)) (af (cn (.int 2)) ai)))))) (dS (tb (cl aX (af (o2 aP (vr 1) (cn (.int 0))) (af (cn (.int 0)) (af (o2 fw (cl cV (af (vr 0) ai)) (cn (.int 1))) ai))))))) (aR (cn (.bl false))) sN) (aR (cl aX (af (o2 aP (vr 1) (cn (.int 1))) (af (cn (.int 0)) (af (o2 fw (cl cV (af (o2 aP (o2 aP (vr 0) (o2 aP (vr 1) (cn (.int 0)))) (cn (.int 2))) ai)) (cn (.int 1))) ai))))))
def dG:List T->Rs T:=val 2 2 uX
def uY:En->Rs Fl:=
 (aR (cP (cl aX (af (vr 0) (af (cn (.int 0)) (af (cn (.int 999)) ai)))) (BI (o2 jK (vr 1) (cn .non)) (cl aX (af (vr 1) (af (vr 0) (af (cn (.int 999)) ai)))))))
def gQ:List T->Rs T:=val 2 2 uY
def tT:En->Rs Fl:=
 (ay (eR (oo (dS (tb (cl aN (af (vr 1) (af (cn (.int 4)) (af (cn (.int 4)) ai)))))) (dS (tb (cl gQ (af (o2 aP (vr 1) (cn (.int 2))) (af (o2 aP (vr 1) (cn (.int 3))) ai)))))) (aR (cn (.bl false))) sN) (aR (cP (cl dG (af (vr 0) (af (o2 aP (vr 1) (cn (.int 0))) ai))) (cP (cl dG (af (vr 0) (af (o2 aP (vr 1) (cn (.int 1))) ai))) (o2 lb (o2 aP (vr 1) (cn (.int 0))) (o2 aP (vr 1) (cn (.int 1))))))))
def eX:List T->Rs T:=val 2 2 tT
def gv:En->Rs Fl:=
 (aR (cP (cl aN (af (vr 1) (af (cn (.int 0)) (af (cn (.int 8)) ai)))) (cl nu (af (dQ (iS (vr 1)) [none,some 0] (gN 0) bT (cl eX (af (vr 1) (af (vr 0) ai)))) ai))))
def cQ:List T->Rs T:=val 2 2 gv
def tS:En->Rs Fl:=
 (aR (cP (cl aN (af (vr 0) (af (cn (.int 2)) (af (cn (.int 2)) ai)))) (cP (cl dm (af (o2 aP (vr 0) (cn (.int 0))) ai)) (cl cQ (af (o2 aP (vr 0) (cn (.int 0))) (af (o2 aP (vr 0) (cn (.int 1))) ai))))))
def fZ:List T->Rs T:=val 1 1 tS
def gn:En->Rs Fl:=
 (eR (dS (tb (cl fZ (af (vr 0) ai)))) (yh "NoRecord") sN)
def bS:List T->Rs T:=val 1 1 gn
def nB:En->Rs Fl:=
 (ay (uo (cl bS (af (vr 0) ai))) (ay (jq 1 ai) (ay (eU (iE (af (o2 aP (vr 0) (cn (.int 0))) ai)) (gT 2 (kR (gN 2) (kR (gN 3) vP))) (md 1 (dQ (iR (af (cl cV (af (o2 aP (vr 3) (cn (.int 2))) ai)) ai)) [none,some 2] (gN 0) bT (cp (af (vr 1) (af (vr 0) ai)))))) (mf 1 (aR (vr 1))))))
def fM:List T->Rs T:=val 1 4 nB
def ee:En->Rs Fl:=
 (ay (cg (o2 aP (vr 1) (cn (.int 2))) (gN 2)) (ay (jq 3 ai) (ay (eU (iR (af (o2 fw (cl cV (af (vr 2) ai)) (cn (.int 1))) ai)) (gN 4) (ay (cg (cp (af (vr 0) (af (vr 4) ai))) (gN 5)) (ay (cg (cp (af (vr 0) (af (o2 aK (vr 4) (cn (.int 1))) ai))) (gN 6)) (ay (cg (o2 fw (o2 aP (vr 2) (o2 aK (vr 4) (cn (.int 1)))) (o2 aP (vr 2) (vr 4))) (gN 7)) (ay (nN 3 (cp (af (vr 5) (af (vr 6) (af (o2 cJ (vr 7) (o2 aP (vr 1) (cn (.int 1)))) ai))))) (nN 3 (cp (af (vr 6) (af (vr 5) (af (o2 cJ (o1 qi (vr 7)) (o2 aP (vr 1) (cn (.int 0)))) ai)))))))))) (mf 3 (aR (vr 3))))))
def cj:List T->Rs T:=val 2 8 ee
def dJ:En->Rs Fl:=
 (ay (jq 1 (af (cp (af (o2 aP (vr 0) (cn (.int 1))) (af (o2 aP (vr 0) (cn (.int 0))) (af (o1 qi (o2 aP (vr 0) (cn (.int 2)))) ai)))) ai)) (ay (eR (tb (o2 da (o2 aP (vr 0) (cn (.int 3))) (cn .non))) (nN 1 (cp (af (o2 aP (vr 0) (cn (.int 0))) (af (o2 aP (vr 0) (cn (.int 1))) (af (o2 aP (vr 0) (cn (.int 3))) ai))))) sN) (mf 1 (aR (vr 1)))))
def bY:List T->Rs T:=val 1 2 dJ
def nC:En->Rs Fl:=
 (ay (uo (cl bS (af (vr 0) ai))) (ay (jq 1 ai) (ay (eU (iE (af (o2 aP (vr 0) (cn (.int 0))) ai)) (gT 2 (kR (gN 2) (kR (gN 3) vP))) (md 1 (cl cj (af (vr 2) (af (vr 3) ai))))) (ay (eU (iS (o2 aP (vr 0) (cn (.int 1)))) (gN 4) (md 1 (cl bY (af (vr 4) ai)))) (mf 1 (aR (vr 1)))))))
def cG:List T->Rs T:=val 1 5 nC
def dM:En->Rs Fl:=
 (ay (pI 5) (ay (eU (iE (af (vr 2) ai)) (gT 2 (kR (gN 6) (kR (gN 7) vP))) (ay (pJ 5 8 [none,some 5,some 4,some 7] (gN 0) (tb (o2 da (o2 aM (o2 aM (vr 2) (vr 0)) (vr 3)) (cn .non))) (o2 aK (o2 aM (vr 1) (vr 0)) (o2 aM (o2 aM (vr 2) (vr 0)) (vr 3)))) (ay (pJ 5 9 [none,some 5,some 4,some 7] (gN 0) (tb (o2 da (o2 aM (o2 aM (vr 2) (vr 3)) (vr 0)) (cn .non))) (o2 fw (o2 aM (vr 1) (vr 0)) (o2 aM (o2 aM (vr 2) (vr 3)) (vr 0)))) (ay (cg (oK (tb (o2 lb (vr 9) (cN ai))) (cl wY (af (vr 9) ai)) (oK (tb (o2 lb (vr 8) (cN ai))) (o2 fw (cl qm (af (vr 8) ai)) (cn (.int 5))) (cn (.int 0)))) (gN 10)) (ay (cg (oK (tb (o2 lb (vr 8) (cN ai))) (cl qm (af (vr 8) ai)) (o2 aK (vr 10) (cn (.int 5)))) (gN 11)) (nM 5 (vr 7) (o2 aK (vr 10) (cl aw (af (vr 0) (af (o2 aK (vr 1) (vr 6)) (af (o2 aK (o2 fw (vr 11) (vr 10)) (cn (.int 1))) ai))))))))))) (aR (cl gL (af (ln 5 (dQ (iS (vr 2)) [none,some 5] (gN 0) bT (o2 aM (vr 1) (vr 0)))) ai)))))
def cL:List T->Rs T:=val 5 12 dM
def gZ:En->Rs Fl:=
 (eR (dS (tb (cl dG (af (o2 aP (vr 0) (cn (.int 0))) (af (vr 1) ai))))) (yh "NoEvent") sN)
def dZ:List T->Rs T:=val 2 2 gZ
def gp:En->Rs Fl:=
 (ay (uo (cl bS (af (vr 0) ai))) (ay (uo (cl dZ (af (vr 0) (af (vr 1) ai)))) (uo (cl dZ (af (vr 0) (af (vr 2) ai))))))
def bU:List T->Rs T:=val 3 3 gp
def iU:En->Rs Fl:=
 (ay (cg (oD ij (vr 0) (o2 aP (vr 1) (cn (.int 1)))) (gN 3)) (aR (BI (o2 jK (vr 3) (cn .non)) (o2 qr (o2 aK (o2 aP (vr 2) (cn (.int 0))) (o2 aP (vr 1) (cn (.int 2)))) (o2 aP (vr 3) (cn (.int 0)))))))
def df:List T->Rs T:=val 3 4 iU
def iQ:En->Rs Fl:=
 (ay (oj 2 (dQ (iS (vr 1)) [none] (gN 0) bT (cp (af (vr 0) (af (cp (af (cn (.int 0)) (af (cN ai) ai))) ai))))) (ay (cg (cn (.bl true)) (gN 3)) (ay (bM (tb (vr 3)) (ay (cg (cn (.bl false)) (gN 3)) (eU (iE (af (vr 0) ai)) (gT 2 (kR (gN 4) (kR (gN 5) vP))) (ay (cg (ln 2 (oD ij (vr 2) (o2 aP (vr 5) (cn (.int 0))))) (gN 6)) (ay (eR (oo (tb (o2 jK (vr 6) (cn .non))) (dS (Ey 2 (tb (cl df (af (vr 2) (af (vr 5) (af (vr 6) ai)))))))) FX sN) (ay (cg (o2 aK (o2 aP (vr 6) (cn (.int 1))) (cN (af (vr 4) ai))) (gN 7)) (ay (cg (dQ (iS (vr 7)) [none,some 0] (gN 0) bT (o2 aP (o2 aP (vr 1) (vr 0)) (cn (.int 0)))) (gN 8)) (ay (eR (tb (o2 FC (o2 aP (vr 5) (cn (.int 1))) (vr 8))) (aR (cp (af (cn .non) (af (sl (vr 7) (pS (oL f7 (vr 8) (o2 aP (vr 5) (cn (.int 1))))) pN) ai)))) sN) (ay (nM 2 (o2 aP (vr 5) (cn (.int 1))) (cp (af (o2 aK (o2 aP (vr 6) (cn (.int 0))) (o2 aP (vr 5) (cn (.int 2)))) (af (vr 7) ai)))) (cg (cn (.bl true)) (gN 3)))))))))) FU) (mf 2 (aR (cp (af (vr 2) (af (cn .non) ai))))))))
def fL:List T->Rs T:=val 2 9 iQ
def eI:En->Rs Fl:=
 (ay (cg (cl fM (af (vr 0) ai)) (gN 2)) (ay (cg (o2 aP (cl fL (af (vr 1) (af (vr 2) ai))) (cn (.int 0))) (gN 3)) (ay (eR (tb (o2 jK (vr 3) (cn .non))) (aR (cn .non)) sN) (aR (cl gL (af (dQ (iS (vr 2)) [none,some 3] (gN 0) bT (o2 aP (o2 aM (vr 1) (vr 0)) (cn (.int 0)))) ai))))))
def dk:List T->Rs T:=val 2 4 eI
def Cw:En->Rs Fl:=
 (aR (cl dk (af (vr 0) (af (cl cG (af (vr 0) ai)) ai))))
def i6:List T->Rs T:=val 1 1 Cw
def tU:En->Rs Fl:=
 (aR (o2 da (cl i6 (af (vr 0) ai)) (cn .non)))
def dO:List T->Rs T:=val 1 1 tU
def gY:En->Rs Fl:=
 (eR (dS (tb (cl dO (af (vr 0) ai)))) (yh "NoWorld") sN)
def dj:List T->Rs T:=val 1 1 gY
def qV:En->Rs Fl:=
 (aR (o2 aP (cl fL (af (cl cG (af (vr 0) ai)) (af (cN (af (vr 1) ai)) ai))) (cn (.int 0))))
def di:List T->Rs T:=val 2 2 qV
def Av:En->Rs Fl:=
 (ay (uo (cl bU (af (vr 0) (af (vr 1) (af (vr 2) ai))))) (ay (uo (cl dj (af (vr 0) ai))) (ay (cg (cl di (af (vr 0) (af (vr 1) ai))) (gN 3)) (aR (oK (tb (o2 xo (vr 2) (vr 3))) (o2 aP (o2 aM (vr 3) (vr 2)) (cn (.int 1))) (cn .non))))))
def ie:List T->Rs T:=val 3 4 Av
def hG:En->Rs Fl:=
 (ay (l9 2 0) (ay (eU (iS (vr 0)) (gN 3) (hY 2 (vr 3) (vr 3) (cn (.int 0)))) (ay (eU (iS (vr 1)) (gT 3 (kR (gN 3) (kR (gN 4) (kR (gN 5) vP)))) (eR (oo (tb (o2 jK (ln 2 (o2 aM (o2 aM (vr 2) (vr 3)) (vr 4))) (cn .non))) (tb (o2 qr (vr 5) (ln 2 (o2 aM (o2 aM (vr 2) (vr 3)) (vr 4)))))) (hY 2 (vr 3) (vr 4) (vr 5)) sN)) (ay (eU (iS (vr 0)) (gN 6) (eU (iS (vr 0)) (gN 3) (eU (iS (vr 0)) (gN 4) (eR (tQ (tb (o2 da (ln 2 (o2 aM (o2 aM (vr 2) (vr 3)) (vr 6))) (cn .non))) (tb (o2 da (ln 2 (o2 aM (o2 aM (vr 2) (vr 6)) (vr 4))) (cn .non)))) (ay (cg (o2 aK (ln 2 (o2 aM (o2 aM (vr 2) (vr 3)) (vr 6))) (ln 2 (o2 aM (o2 aM (vr 2) (vr 6)) (vr 4)))) (gN 7)) (eR (oo (tb (o2 jK (ln 2 (o2 aM (o2 aM (vr 2) (vr 3)) (vr 4))) (cn .non))) (tb (o2 qr (vr 7) (ln 2 (o2 aM (o2 aM (vr 2) (vr 3)) (vr 4)))))) (hY 2 (vr 3) (vr 4) (vr 7)) sN)) sN)))) (mf 2 (aR (oK (tb (o2 kC (dQ (iS (vr 0)) [none,some 2] (gN 0) (tb (o2 qr (o2 aM (o2 aM (vr 1) (vr 0)) (vr 0)) (cn (.int 0)))) (vr 0)) (cN ai))) (vr 2) (cn .non))))))))
def fx:List T->Rs T:=val 2 8 hG
def xH:En->Rs Fl:=
 (aR (oK (tb (o2 xo (vr 1) (vr 0))) (o2 aP (o2 aM (vr 0) (vr 1)) (cn (.int 0))) (cn .non)))
def kO:List T->Rs T:=val 2 2 xH
def fV:En->Rs Fl:=
 (ay (uo (cl bU (af (vr 0) (af (vr 1) (af (vr 2) ai))))) (ay (uo (cl dj (af (vr 0) ai))) (aR (cl kO (af (cl di (af (vr 0) (af (vr 1) ai))) (af (vr 2) ai))))))
def bA:List T->Rs T:=val 3 3 fV
def gu:En->Rs Fl:=
 (aR (cP (o1 (zF "list") (vr 1)) (cl nu (af (dQ (iS (vr 1)) [none,some 0] (gN 0) bT (cl aX (af (vr 0) (af (cn (.int 0)) (af (o2 fw (cl cV (af (vr 1) ai)) (cn (.int 1))) ai))))) ai))))
def cu:List T->Rs T:=val 2 2 gu
def kA:En->Rs Fl:=
 (ay (eR (dS (tb (cl cu (af (vr 0) (af (vr 3) ai))))) (aR (cn (.bl false))) sN) (ay (cg (vr 1) (gN 4)) (ay (eU (iS (vr 3)) (gN 5) (ay (eR (tb (o2 lb (o2 aP (o2 aP (vr 0) (vr 5)) (cn (.int 0))) (vr 4))) (aR (cn (.bl false))) sN) (cg (o2 aP (o2 aP (vr 0) (vr 5)) (cn (.int 1))) (gN 4)))) (aR (o2 kC (vr 4) (vr 2))))))
def gP:List T->Rs T:=val 4 6 kA
def nA:En->Rs Fl:=
 (aR (cl pj (af (dQ (iS (vr 1)) [none,some 0] (gN 0) bT (o2 aP (o2 aP (vr 1) (vr 0)) (cn (.int 2)))) ai)))
def gH:List T->Rs T:=val 2 2 nA
def qW:En->Rs Fl:=
 (ay (uo (cl bU (af (vr 0) (af (vr 1) (af (vr 2) ai))))) (ay (cg (cl cG (af (vr 0) ai)) (gN 5)) (aR (cP (cl eG (af (vr 3) ai)) (cP (cl gP (af (vr 5) (af (vr 1) (af (vr 2) (af (vr 4) ai))))) (o2 Fz (cl gH (af (vr 5) (af (vr 4) ai))) (vr 3)))))))
def i7:List T->Rs T:=val 5 6 qW
def fq:En->Rs Fl:=
 (ay (cg (cl pj (af (dQ (iS (vr 4)) [none,some 3] (gN 0) bT (o2 aP (o2 aP (vr 1) (vr 0)) (cn (.int 2)))) ai)) (gN 5)) (aR (cP (o2 kC (cl bA (af (vr 0) (af (vr 1) (af (vr 2) ai)))) (vr 5)) (cl i7 (af (vr 0) (af (vr 1) (af (vr 2) (af (vr 5) (af (vr 4) ai)))))))))
def bO:List T->Rs T:=val 5 6 fq
def gq:En->Rs Fl:=
 (ay (eR (oo (dS (tb (cl cu (af (vr 0) (af (vr 1) ai))))) (tb (o2 kC (vr 1) (cN ai)))) (aR (cn (.bl false))) sN) (ay (cg (o2 aP (o2 aP (vr 0) (o2 aP (vr 1) (cn (.int 0)))) (cn (.int 0))) (gN 2)) (aR (cl gP (af (vr 0) (af (vr 2) (af (vr 2) (af (vr 1) ai))))))))
def eJ:List T->Rs T:=val 2 3 gq
def uZ:En->Rs Fl:=
 (ay (cg (cl cG (af (vr 0) ai)) (gN 2)) (aR (cP (cl eJ (af (vr 2) (af (vr 1) ai))) (o2 qr (cl gH (af (vr 2) (af (vr 1) ai))) (cn (.int 0))))))
def kP:List T->Rs T:=val 2 3 uZ
def Aw:En->Rs Fl:=
 (ay (cg (cl eK (af (vr 0) (af (cn (.int 0)) (af (cn (.int 5)) ai)))) (gN 1)) (ay (eR (dS (tb (cl dO (af (vr 1) ai)))) (aR (cn (.bl true))) sN) (ay (cg (cl fM (af (vr 1) ai)) (gN 2)) (ay (cg (cl cG (af (vr 1) ai)) (gN 3)) (ay (cg (cl cL (af (vr 0) (af (cn (.int 80)) (af (vr 2) (af (vr 3) (af (cl fx (af (vr 2) (af (vr 3) ai))) ai)))))) (gN 4)) (ay (cg (cl G5 (af (vr 2) (af (vr 4) ai))) (gN 5)) (ay (cg (o2 aP (vr 2) (cl aw (af (vr 0) (af (cn (.int 100)) (af (cl cV (af (vr 2) ai)) ai))))) (gN 6)) (ay (cg (o2 aP (vr 2) (cl aw (af (vr 0) (af (cn (.int 101)) (af (cl cV (af (vr 2) ai)) ai))))) (gN 7)) (ay (cg (o2 aP (vr 2) (cl aw (af (vr 0) (af (cn (.int 102)) (af (cl cV (af (vr 2) ai)) ai))))) (gN 8)) (ay (cg (cl ie (af (vr 1) (af (vr 6) (af (vr 7) ai)))) (gN 9)) (ay (eR (tb (o2 da (vr 9) (cn .non))) (ay (cg (o2 aK (cN (af (vr 6) ai)) (dQ (iS (vr 9)) [none,some 3] (gN 0) bT (o2 aP (o2 aP (vr 1) (vr 0)) (cn (.int 1))))) (gN 10)) (ay (eR (oo (tb (o2 lb (cl sM (af (vr 10) ai)) (cl cV (af (vr 10) ai)))) (tb (o2 lb (o2 aP (vr 10) (o1 qi (cn (.int 1)))) (vr 7)))) (aR (cn (.bl false))) sN) (ay (cg (cl pj (af (dQ (iS (vr 9)) [none,some 3] (gN 0) bT (o2 aP (o2 aP (vr 1) (vr 0)) (cn (.int 2)))) ai)) (gN 11)) (ay (eU (iR (af (cl cV (af (vr 9) ai)) ai)) (gN 12) (ay (eR (tb (o2 HC (o2 fw (o2 aM (vr 5) (o2 aP (vr 10) (o2 aK (vr 12) (cn (.int 1))))) (o2 aM (vr 5) (o2 aP (vr 10) (vr 12)))) (o2 aP (o2 aP (vr 3) (o2 aP (vr 9) (vr 12))) (cn (.int 2))))) (aR (cn (.bl false))) sN) (ay (eR (dS (tb (cl bO (af (vr 1) (af (vr 6) (af (o2 aP (vr 10) (o2 aK (vr 12) (cn (.int 1)))) (af (vr 3) (af (sl (vr 9) pN (pS (o2 aK (vr 12) (cn (.int 1))))) ai)))))))) (aR (cn (.bl false))) sN) (eR (dS (tb (cl bO (af (vr 1) (af (o2 aP (vr 10) (o2 aK (vr 12) (cn (.int 1)))) (af (vr 7) (af (vr 3) (af (sl (vr 9) (pS (o2 aK (vr 12) (cn (.int 1)))) pN) ai)))))))) (aR (cn (.bl false))) sN)))) (ay (cg (cl ie (af (vr 1) (af (vr 7) (af (vr 8) ai)))) (gN 13)) (ay (eR (tb (o2 da (vr 13) (cn .non))) (ay (cg (o2 aK (vr 11) (cl pj (af (dQ (iS (vr 13)) [none,some 3] (gN 0) bT (o2 aP (o2 aP (vr 1) (vr 0)) (cn (.int 2)))) ai))) (gN 14)) (eR (dS (tb (cl i7 (af (vr 1) (af (vr 6) (af (vr 8) (af (vr 14) (af (o2 aK (vr 9) (vr 13)) ai)))))))) (aR (cn (.bl false))) sN)) sN) (ay (cg (cl ie (af (vr 1) (af (vr 7) (af (vr 6) ai)))) (gN 15)) (eR (tb (o2 da (vr 15) (cn .non))) (ay (cg (o2 aK (vr 11) (cl pj (af (dQ (iS (vr 15)) [none,some 3] (gN 0) bT (o2 aP (o2 aP (vr 1) (vr 0)) (cn (.int 2)))) ai))) (gN 11)) (eR (oo (tb (cl kP (af (vr 1) (af (o2 aK (vr 9) (vr 15)) ai)))) (tb (o2 qr (vr 11) (cn (.int 0))))) (aR (cn (.bl false))) sN)) sN)))))))) sN) (aR (cP (o2 kC (cl ie (af (vr 1) (af (vr 6) (af (vr 6) ai)))) (cN ai)) (o2 kC (cl bA (af (vr 1) (af (vr 6) (af (vr 6) ai)))) (cn (.int 0))))))))))))))))
def m_law:List T->Rs T:=val 1 16 Aw
end G
namespace G
open PySem PySem.Spec PyProof.Rows L2 Tr
section
variable (P:Jp)(w:J2){K:II}{mg:Str->Option IQ}(base:Heap)
abbrev pC:Stmt:=top 53
theorem p9 (F:fU K mg "_law_cell" pC ["_law_script","_law_k"])(B:Bl mg):Cl P w K mg base 1 "_law_cell" 2 eY:=
 aQ ["_law_script","_law_k"] F λd f c A o s H E hr x=>(aj (bB (aU (la (ji hr)) (ae 0) (dU ah)) (aq (ax (au dY ak (ae 1)))) aY) (aq (ax (au aL (aE (ae 0) (au jE (ae 1) (bR cO B.b_len K2 (ag (ae 0) ah)))) (au dY ak (au lK (ae 1) (bR cO B.b_len K2 (ag (ae 0) ah))))))))
abbrev nJ:Stmt:=top 54
theorem nW (F:fU K mg "_law_drawn" nJ ["_law_script","_law_k","_law_many"])(aay:Cl P w K mg base 1 "_law_cell" 2 eY):Cl P w K mg base 2 "_law_drawn" 3 aw:=
 aQ ["_law_script","_law_k","_law_many","_law_cell_here"] F λd f c A o s H E hr x=>(by(apply aj;exact(aD (au jE (au aL (au dY (au jE (aO aay hr (ag (ae 0) (ag (ae 1) ah))) ak) ak) (au dY ak (au aL (ae 1) ak))) ak) (ao 3 d));apply aj;exact(aD (au jE (au aL (au dY (ae 3) (ae 3)) (au lK (ae 3) ak)) ak) (ao 3 d));exact aq (ax (au jE (au lK (au jE (au aL (au dY (ae 3) (ae 3)) (au lK (ae 3) ak)) ak) ak) (ae 2)))))
abbrev iy:Stmt:=top 57
abbrev iF:List Str:=["_law_clocks","_law_found","_law_number","_law_clock_here"]
theorem mz (F:fU K mg "_law_events" iy ["_law_clocks"])(B:Bl mg):Cl P w K mg base 1 "_law_events" 1 dA:=
 aQ iF F λd f c A o s H E hr x=>(by(apply aj;exact(aD (dU ah) (ao 1 d));apply aj;exact(cA rfl (ip B.b_enumerate (ag (ae 0) ah)) (iX rfl (bV (ao 2 d) (bV (ao 3 d) gy))) (aq (aD (au aL (ae 1) (cU ["_law_place","_law_number"] iF iy (cY B.b_range (ag (bR cO B.b_len K2 (ag (aE (ae 3) ak) ah)) ah)) (λd _ _ _ _ _=>⟨(ao 0 d),bF,(cS (ag (ae 1) (ag (ae 0) ah)))⟩))) (ao 1 d))));exact aq (ax (ae 1))))
abbrev l5:Stmt:=top 56
theorem my (F:fU K mg "_law_letter" l5 ["_law_script","_law_at","_law_clocks"])(aao:Cl P w K mg base 1 "_law_events" 1 dA)(aa0:Cl P w K mg base 2 "_law_drawn" 3 aw)(B:Bl mg):Cl P w K mg base 3 "_law_letter" 3 cR:=
 aQ ["_law_script","_law_at","_law_clocks","_law_row","_law_place","_law_other","_law_least","_law_most"] F λd f c A o s H E hr x=>(by(apply aj;exact(aD (aO aao hr (ag (ae 2) ah)) (ao 3 d));apply aj;exact(bB (aU k9 (bR cO B.b_len K2 (ag (ae 3) ah)) ak) (aq (ax bQ)) aY);apply aj;exact(aD (aO aa0 hr (ag (ae 0) (ag (ae 1) (ag (bR cO B.b_len K2 (ag (ae 3) ah)) ah)))) (ao 4 d));apply aj;exact(aD (au jE (au aL (au aL (ae 4) ak) (aO aa0 hr (ag (ae 0) (ag (au aL (ae 1) ak) (ag (au fI (bR cO B.b_len K2 (ag (ae 3) ah)) ak) ah))))) (bR cO B.b_len K2 (ag (ae 3) ah))) (ao 5 d));apply aj;exact(aD (aO aa0 hr (ag (ae 0) (ag (au aL (ae 1) ak) (ag ak ah)))) (ao 6 d));apply aj;exact(aD (lU (aU (la (ji hr)) (aO aa0 hr (ag (ae 0) (ag (au aL (ae 1) ak) (ag ak ah)))) ak) bQ (au aL (ae 6) (aO aa0 hr (ag (ae 0) (ag (au aL (ae 1) ak) (ag ak ah)))))) (ao 7 d));exact aq (ax (cS (ag (aE (ae 3) (ae 4)) (ag (aE (ae 3) (ae 5)) (ag (ae 6) (ag (ae 7) ah))))))))
abbrev nK:Stmt:=top 55
theorem nX (F:fU K mg "_law_clock" nK ["_law_script","_law_at"])(aa0:Cl P w K mg base 2 "_law_drawn" 3 aw)(B:Bl mg):Cl P w K mg base 3 "_law_clock" 2 ck:=
 aQ ["_law_script","_law_at","_law_slow","_law_readings","_law_k"] F λd f c A o s H E hr x=>(by(apply aj;exact(aD (au aL ak (aO aa0 hr (ag (ae 0) (ag (ae 1) (ag ak ah))))) (ao 2 d));apply aj;exact(aD (cS (ag (aO aa0 hr (ag (ae 0) (ag (au aL (ae 1) ak) (ag ak ah)))) ah)) (ao 3 d));apply aj;exact(cA rfl (cY B.b_range (ag (aO aa0 hr (ag (ae 0) (ag (au aL (ae 1) ak) (ag ak ah)))) ah)) (ao 4 d) (aq (aD (au aL (ae 3) (cS (ag (au aL (au aL (aE (ae 3) (pe ak)) ak) (aO aa0 hr (ag (ae 0) (ag (au aL (au aL (ae 1) ak) (ae 4)) (ag ak ah))))) ah))) (ao 3 d))));exact aq (ax (cS (ag (ae 2) (ag (au aL (ae 2) (aO aa0 hr (ag (ae 0) (ag (au aL (ae 1) ak) (ag ak ah))))) (ag (ae 3) ah)))))))
abbrev ix:Stmt:=top 58
abbrev iC:List Str:=["_law_script","_law_at","_law_most","_law_clocks","_law_letters","_law_k","_law_letter_here"]
theorem mw (F:fU K mg "_law_record" ix ["_law_script","_law_at","_law_most"])(aa0:Cl P w K mg base 2 "_law_drawn" 3 aw)(aap:Cl P w K mg base 3 "_law_letter" 3 cR)(aav:Cl P w K mg base 3 "_law_clock" 2 ck)(B:Bl mg):Cl P w K mg base 4 "_law_record" 3 eK:=
 aQ iC F λd f c A o s H E hr x=>(by(apply aj;exact(aD (rf kn B.b_tuple dC (ag (cU ["_law_k","_law_script","_law_at"] iC ix (cY B.b_range (ag (au aL ak (aO aa0 hr (ag (ae 0) (ag (ae 1) (ag ak ah))))) ah)) (λd _ _ _ _ _=>⟨(ao 0 d),bF,(aO aav hr (ag (ae 1) (ag (au aL (au aL (ae 2) ak) (au dY ak (ae 0))) ah)))⟩)) ah)) (ao 3 d));apply aj;exact(aD (dU ah) (ao 4 d));apply aj;exact(cA rfl (cY B.b_range (ag (aO aa0 hr (ag (ae 0) (ag (au aL (ae 1) ak) (ag (au aL (ae 2) ak) ah)))) ah)) (ao 5 d) (aj (aD (aO aap hr (ag (ae 0) (ag (au aL (au aL (ae 1) ak) (au dY ak (ae 5))) (ag (ae 3) ah)))) (ao 6 d)) (aq (aD (au aL (ae 4) (au dY (dU (ag (ae 6) ah)) (rf Fm B.b_int lx (ag (eE dy (ae 6) bQ) ah)))) (ao 4 d)))));exact aq (ax (cS (ag (ae 3) (ag (rf kn B.b_tuple dC (ag (ae 4) ah)) ah))))))
abbrev uf:Stmt:=top 14
theorem uB (F:fU K mg "is_long" uf ["thing","least","most"])(B:Bl mg):Cl P w K mg base 1 "is_long" 3 aN:=
 aQ ["thing","least","most"] F λd f c A o s H E hr x=>(aq (ax (cF (u6 B.b_isinstance B.b_tuple dC (ae 0)) (cT (q0 se se (ae 1) (bR cO B.b_len K2 (ag (ae 0) ah)) (ae 2))))))
abbrev rF:Stmt:=top 12
theorem sf (F:fU K mg "is_whole" rF ["thing"])(B:Bl mg):Cl P w K mg base 1 "is_whole" 1 eG:=
 aQ ["thing"] F λd f c A o s H E hr x=>(aq (ax (cF (u6 B.b_isinstance B.b_int lx (ae 0)) (cT (C7 (u6 B.b_isinstance B.b_bool qO (ae 0)))))))
abbrev pq:Stmt:=top 13
theorem pZ (F:fU K mg "is_within" pq ["thing","least","most"])(aag:Cl P w K mg base 1 "is_whole" 1 eG):Cl P w K mg base 2 "is_within" 3 aX:=
 aQ ["thing","least","most"] F λd f c A o s H E hr x=>(aq (ax (cF (aO aag hr (ag (ae 0) ah)) (cT (q0 se se (ae 1) (ae 0) (ae 2))))))
abbrev ue:Stmt:=top 17
theorem uA (F:fU K mg "is_pace" ue ["slow","fast"])(aa1:Cl P w K mg base 2 "is_within" 3 aX)(C:Cs mg):Cl P w K mg base 3 "is_pace" 2 i9:=
 aQ ["slow","fast"] F λd f c A o s H E hr x=>(aq (ax (cF (aO aa1 hr (ag (ae 0) (ag ak (ag (qZ C.SLOWEST) ah)))) (cT (aO aa1 hr (ag (ae 1) (ag (ae 0) (ag (qZ C.SLOWEST) ah))))))))
abbrev rE:Stmt:=top 15
abbrev sC:List Str:=["numbers"]
theorem yS (F:fU K mg "rises" rE ["numbers"])(B:Bl mg):Cl P w K mg base 1 "rises" 1 i8:=
 aQ sC F λd f c A o s H E hr x=>(aq (ax (bR (m4 rfl) B.b_all Qg (ag (cU ["k","numbers"] sC rE (cY B.b_range (ag (au fI (bR cO B.b_len K2 (ag (ae 0) ah)) ak) ah)) (λd _ _ _ _ _=>⟨(ao 0 d),bF,(eE k9 (aE (ae 1) (ae 0)) (aE (ae 1) (au aL (ae 0) ak)))⟩)) ah))))
abbrev hW:Stmt:=top 16
abbrev hZ:List Str:=["thing"]
theorem lC (F:fU K mg "are_readings" hW ["thing"])(aa2:Cl P w K mg base 1 "is_long" 3 aN)(aaH:Cl P w K mg base 1 "rises" 1 i8)(aa1:Cl P w K mg base 2 "is_within" 3 aX)(B:Bl mg)(C:Cs mg):Cl P w K mg base 3 "are_readings" 1 bN:=
 aQ hZ F λd f c A o s H E hr x=>(aj (bB (cK (cf (aO aa2 hr (ag (ae 0) (ag ak (ag (qZ C.MOST_READINGS) ah)))))) (aq (ax ft)) aY) (aq (ax (cF (bR (m4 rfl) B.b_all Qg (ag (cU ["part"] hZ hW (bu (ae 0)) (λd _ _ _ _ _=>⟨(ao 0 d),bF,(aO aa1 hr (ag (ae 0) (ag ak (ag (qZ C.LAST_READING) ah))))⟩)) ah)) (cT (aO aaH hr (ag (ae 0) ah)))))))
abbrev rJ:Stmt:=top 18
theorem si (F:fU K mg "is_clock" rJ ["thing"])(aa2:Cl P w K mg base 1 "is_long" 3 aN)(aaE:Cl P w K mg base 3 "is_pace" 2 i9)(aak:Cl P w K mg base 3 "are_readings" 1 bN):Cl P w K mg base 4 "is_clock" 1 de:=
 aQ ["thing"] F λd f c A o s H E hr x=>(aq (ax (cF (aO aa2 hr (ag (ae 0) (ag ak (ag ak ah)))) (cF (aO aaE hr (ag (aE (ae 0) ak) (ag (aE (ae 0) ak) ah))) (cT (aO aak hr (ag (aE (ae 0) ak) ah)))))))
abbrev jo:Stmt:=top 19
abbrev jr:List Str:=["thing"]
theorem nU (F:fU K mg "are_clocks" jo ["thing"])(aa2:Cl P w K mg base 1 "is_long" 3 aN)(aaC:Cl P w K mg base 4 "is_clock" 1 de)(B:Bl mg)(C:Cs mg):Cl P w K mg base 5 "are_clocks" 1 dm:=
 aQ jr F λd f c A o s H E hr x=>(aq (ax (cF (aO aa2 hr (ag (ae 0) (ag ak (ag (qZ C.MOST_CLOCKS) ah)))) (cT (bR (m4 rfl) B.b_all Qg (ag (cU ["part"] jr jo (bu (ae 0)) (λd _ _ _ _ _=>⟨(ao 0 d),bF,(aO aaC hr (ag (ae 0) ah))⟩)) ah))))))
abbrev rG:Stmt:=top 20
theorem sg (F:fU K mg "is_event" rG ["clocks","thing"])(aa1:Cl P w K mg base 2 "is_within" 3 aX)(aa2:Cl P w K mg base 1 "is_long" 3 aN)(B:Bl mg):Cl P w K mg base 3 "is_event" 2 dG:=
 aQ ["clocks","thing"] F λd f c A o s H E hr x=>(aj (bB (jQ (ik (cK (cf (aO aa2 hr (ag (ae 1) (ag ak (ag ak ah)))))) (fW (cK (cf (aO aa1 hr (ag (aE (ae 1) ak) (ag ak (ag (au fI (bR cO B.b_len K2 (ag (ae 0) ah)) ak) ah))))))))) (aq (ax ft)) aY) (aq (ax (aO aa1 hr (ag (aE (ae 1) ak) (ag ak (ag (au fI (bR cO B.b_len K2 (ag (aE (aE (ae 0) (aE (ae 1) ak)) ak) ah)) ak) ah)))))))
abbrev rH:Stmt:=top 21
theorem sh (F:fU K mg "is_delay" rH ["least","most"])(aa1:Cl P w K mg base 2 "is_within" 3 aX)(C:Cs mg):Cl P w K mg base 3 "is_delay" 2 gQ:=
 aQ ["least","most"] F λd f c A o s H E hr x=>(aq (ax (cF (aO aa1 hr (ag (ae 0) (ag ak (ag (qZ C.LONGEST) ah)))) (cT (Cz (eE om (ae 1) bQ) (cT (aO aa1 hr (ag (ae 1) (ag (ae 0) (ag (qZ C.LONGEST) ah))))))))))
abbrev pz:Stmt:=top 22
theorem p6 (F:fU K mg "is_letter" pz ["clocks","thing"])(aab:Cl P w K mg base 3 "is_event" 2 dG)(aa2:Cl P w K mg base 1 "is_long" 3 aN)(aaD:Cl P w K mg base 3 "is_delay" 2 gQ):Cl P w K mg base 4 "is_letter" 2 eX:=
 aQ ["clocks","thing"] F λd f c A o s H E hr x=>(aj (bB (jQ (ik (cK (cf (aO aa2 hr (ag (ae 1) (ag ak (ag ak ah)))))) (fW (cK (cf (aO aaD hr (ag (aE (ae 1) ak) (ag (aE (ae 1) ak) ah)))))))) (aq (ax ft)) aY) (aq (ax (cF (aO aab hr (ag (ae 0) (ag (aE (ae 1) ak) ah))) (cF (aO aab hr (ag (ae 0) (ag (aE (ae 1) ak) ah))) (cT (eE (mj (ji hr)) (aE (ae 1) ak) (aE (ae 1) ak))))))))
abbrev iw:Stmt:=top 23
abbrev iB:List Str:=["clocks","thing"]
theorem mr (F:fU K mg "are_letters" iw ["clocks","thing"])(aa2:Cl P w K mg base 1 "is_long" 3 aN)(aaz:Cl P w K mg base 4 "is_letter" 2 eX)(B:Bl mg)(C:Cs mg):Cl P w K mg base 5 "are_letters" 2 cQ:=
 aQ iB F λd f c A o s H E hr x=>(aq (ax (cF (aO aa2 hr (ag (ae 1) (ag ak (ag (qZ C.MOST_LETTERS) ah)))) (cT (bR (m4 rfl) B.b_all Qg (ag (cU ["part","clocks"] iB iw (bu (ae 1)) (λd _ _ _ _ _=>⟨(ao 0 d),bF,(aO aaz hr (ag (ae 1) (ag (ae 0) ah)))⟩)) ah))))))
abbrev pw:Stmt:=top 24
theorem p0 (F:fU K mg "is_record" pw ["thing"])(aa2:Cl P w K mg base 1 "is_long" 3 aN)(aaw:Cl P w K mg base 5 "are_clocks" 1 dm)(aaq:Cl P w K mg base 5 "are_letters" 2 cQ):Cl P w K mg base 6 "is_record" 1 fZ:=
 aQ ["thing"] F λd f c A o s H E hr x=>(aq (ax (cF (aO aa2 hr (ag (ae 0) (ag ak (ag ak ah)))) (cF (aO aaw hr (ag (aE (ae 0) ak) ah)) (cT (aO aaq hr (ag (aE (ae 0) ak) (ag (aE (ae 0) ak) ah))))))))
abbrev lX:Stmt:=top 25
theorem ml (F:fU K mg "need_record" lX ["thing"])(aaA:Cl P w K mg base 6 "is_record" 1 fZ){C_NoRecord C_NoEvent C_NoWorld C_ClockError:Addr}(S:Xs K mg C_NoRecord C_NoEvent C_NoWorld C_ClockError):Cl P w K mg base 7 "need_record" 1 bS:=
 aQ ["thing"] F λd f c A o s H E hr x=>(aq (bB (cK (cf (aO aaA hr (ag (ae 0) ah)))) (aq (kD S.o_NoRecord S.m_NoRecord)) aY))
abbrev og:Stmt:=top 27
abbrev ox:List Str:=["record","told","number","clock"]
theorem wQ (F:fU K mg "events" og ["record"])(aa3:Cl P w K mg base 7 "need_record" 1 bS)(B:Bl mg):Cl P w K mg base 8 "events" 1 fM:=
 aQ ox F λd f c A o s H E hr x=>(by(apply aj;exact(dv (aO aa3 hr (ag (ae 0) ah)));apply aj;exact(jR 1 d ah);apply aj;exact(cA rfl (ip B.b_enumerate (ag (aE (ae 0) ak) ah)) (iX rfl (bV (ao 2 d) (bV (ao 3 d) gy))) (aq (o9 1 (cU ["k","number"] ox og (cY B.b_range (ag (bR cO B.b_len K2 (ag (aE (ae 3) ak) ah)) ah)) (λd _ _ _ _ _=>⟨(ao 0 d),bF,(cS (ag (ae 1) (ag (ae 0) ah)))⟩)))));exact aq (iW 1 (ax (ae 1)))))
abbrev jA:Stmt:=top 29
theorem jF (F:fU K mg "bounds_of_clock" jA ["number","clock"])(B:Bl mg):Cl P w K mg base 1 "bounds_of_clock" 2 cj:=
 aQ ["number","clock","readings","told","k","first","second","steps"] F λd f c A o s H E hr x=>(by(apply aj;exact(aD (aE (ae 1) ak) (ao 2 d));apply aj;exact(jR 3 d ah);apply aj;exact(cA rfl (cY B.b_range (ag (au fI (bR cO B.b_len K2 (ag (ae 2) ah)) ak) ah)) (ao 4 d) (by(apply aj;exact(aD (cS (ag (ae 0) (ag (ae 4) ah))) (ao 5 d));apply aj;exact(aD (cS (ag (ae 0) (ag (au aL (ae 4) ak) ah))) (ao 6 d));apply aj;exact(aD (au fI (aE (ae 2) (au aL (ae 4) ak)) (aE (ae 2) (ae 4))) (ao 7 d));apply aj;exact(pd 3 (cS (ag (ae 5) (ag (ae 6) (ag (au dY (ae 7) (aE (ae 1) ak)) ah)))));exact aq (pd 3 (cS (ag (ae 6) (ag (ae 5) (ag (au dY (pe (ae 7)) (aE (ae 1) ak)) ah))))))));exact aq (iW 3 (ax (ae 3)))))
abbrev jf:Stmt:=top 30
theorem jg (F:fU K mg "bounds_of_letter" jf ["letter"]):Cl P w K mg base 1 "bounds_of_letter" 1 bY:=
 aQ ["letter","told"] F λd f c A o s H E hr x=>(by(apply aj;exact(jR 1 d (ag (cS (ag (aE (ae 0) ak) (ag (aE (ae 0) ak) (ag (pe (aE (ae 0) ak)) ah)))) ah));apply aj;exact(bB (aU dy (aE (ae 0) ak) bQ) (aq (pd 1 (cS (ag (aE (ae 0) ak) (ag (aE (ae 0) ak) (ag (aE (ae 0) ak) ah)))))) aY);exact aq (iW 1 (ax (ae 1)))))
abbrev wI:Stmt:=top 31
theorem wR (F:fU K mg "bounds" wI ["record"])(aa3:Cl P w K mg base 7 "need_record" 1 bS)(aah:Cl P w K mg base 1 "bounds_of_clock" 2 cj)(aae:Cl P w K mg base 1 "bounds_of_letter" 1 bY)(B:Bl mg):Cl P w K mg base 8 "bounds" 1 cG:=
 aQ ["record","told","number","clock","letter"] F λd f c A o s H E hr x=>(by(apply aj;exact(dv (aO aa3 hr (ag (ae 0) ah)));apply aj;exact(jR 1 d ah);apply aj;exact(cA rfl (ip B.b_enumerate (ag (aE (ae 0) ak) ah)) (iX rfl (bV (ao 2 d) (bV (ao 3 d) gy))) (aq (o9 1 (aO aah hr (ag (ae 2) (ag (ae 3) ah))))));apply aj;exact(cA rfl (bu (aE (ae 0) ak)) (ao 4 d) (aq (o9 1 (aO aae hr (ag (ae 4) ah)))));exact aq (iW 1 (ax (ae 1)))))
abbrev cC:Stmt:=top 62
abbrev cD:List Str:=["_law_script","_law_at","_law_places","_law_row","_law_table_here","_law_times","_law_k","_law_event","_law_highs","_law_lows","_law_low","_law_high"]
theorem jh (F:fU K mg "_law_drawn_world" cC ["_law_script","_law_at","_law_places","_law_row","_law_table_here"])(aa0:Cl P w K mg base 2 "_law_drawn" 3 aw)(B:Bl mg):Cl P w K mg base 3 "_law_drawn_world" 5 cL:=
 aQ cD F λd f c A o s H E hr x=>(by(apply aj;exact(wo 5 d);apply aj;exact(cA rfl (ip B.b_enumerate (ag (ae 2) ah)) (iX rfl (bV (ao 6 d) (bV (ao 7 d) gy))) (by(apply aj;exact(u5 5 8 (N':=["_law_one","_law_times","_law_table_here","_law_event"]) (src:=[none,some 5,some 4,some 7]) rfl (LcScope.by (N:=cD) (names:=(aB cC).names) rfl rfl rfl (by decide+kernel))  (λ_ _ _ _ _=>⟨(ao 0 (show LI (["_law_one","_law_times","_law_table_here","_law_event"]:List Str)by decide+kernel)),(lS (aU dy (bh (gk hr) (bh (gk hr) (ae 2) (ae 0)) (ae 3)) bQ)),(au aL (bh (gk hr) (ae 1) (ae 0)) (bh (gk hr) (bh (gk hr) (ae 2) (ae 0)) (ae 3)))⟩) d);apply aj;exact(u5 5 9 (N':=["_law_one","_law_times","_law_table_here","_law_event"]) (src:=[none,some 5,some 4,some 7]) rfl (LcScope.by (N:=cD) (names:=(aB cC).names) rfl rfl rfl (by decide+kernel))  (λ_ _ _ _ _=>⟨(ao 0 (show LI (["_law_one","_law_times","_law_table_here","_law_event"]:List Str)by decide+kernel)),(lS (aU dy (bh (gk hr) (bh (gk hr) (ae 2) (ae 3)) (ae 0)) bQ)),(au fI (bh (gk hr) (ae 1) (ae 0)) (bh (gk hr) (bh (gk hr) (ae 2) (ae 3)) (ae 0)))⟩) d);apply aj;exact(aD (lU (aU (mj (ji hr)) (ae 9) (dU ah)) (bR (Fj rfl) B.b_max boot_max (ag (ae 9) ah)) (lU (aU (mj (ji hr)) (ae 8) (dU ah)) (au fI (bR (Ah rfl) B.b_min boot_min (ag (ae 8) ah)) ak) ak)) (ao 10 d));apply aj;exact(aD (lU (aU (mj (ji hr)) (ae 8) (dU ah)) (bR (Ah rfl) B.b_min boot_min (ag (ae 8) ah)) (au aL (ae 10) ak)) (ao 11 d));exact aq (u4 5 (gk hr) (ae 7) (au aL (ae 10) (aO aa0 hr (ag (ae 0) (ag (au aL (ae 1) (ae 6)) (ag (au aL (au fI (ae 11) (ae 10)) ak) ah)))))))));exact aq (ax (rf kn B.b_tuple dC (ag (jl 5 (cU ["_law_event","_law_times"] cD cC (bu (ae 2)) (λd _ _ _ _ _=>⟨(ao 0 d),bF,(bh (gk hr) (ae 1) (ae 0))⟩))) ah)))))
abbrev nI:Stmt:=top 26
theorem nT (F:fU K mg "need_event" nI ["record","thing"])(aab:Cl P w K mg base 3 "is_event" 2 dG){C_NoRecord C_NoEvent C_NoWorld C_ClockError:Addr}(S:Xs K mg C_NoRecord C_NoEvent C_NoWorld C_ClockError):Cl P w K mg base 4 "need_event" 2 dZ:=
 aQ ["record","thing"] F λd f c A o s H E hr x=>(aq (bB (cK (cf (aO aab hr (ag (aE (ae 0) ak) (ag (ae 1) ah))))) (aq (kD S.o_NoEvent S.m_NoEvent)) aY))
abbrev lY:Stmt:=top 46
theorem mm (F:fU K mg "need_events" lY ["record","one","other"])(aa3:Cl P w K mg base 7 "need_record" 1 bS)(aaj:Cl P w K mg base 4 "need_event" 2 dZ):Cl P w K mg base 8 "need_events" 3 bU:=
 aQ ["record","one","other"] F λd f c A o s H E hr x=>(by(apply aj;exact(dv (aO aa3 hr (ag (ae 0) ah)));apply aj;exact(dv (aO aaj hr (ag (ae 0) (ag (ae 1) ah))));exact aq (dv (aO aaj hr (ag (ae 0) (ag (ae 2) ah))))))
abbrev pA:Stmt:=top 38
theorem p7 (F:fU K mg "is_better" pA ["best","bound","ahead"]):Cl P w K mg base 1 "is_better" 3 df:=
 aQ ["best","bound","ahead","known"] F λd f c A o s H E hr x=>(aj (aD (u7 (gk hr) (ae 0) (aE (ae 1) ak)) (ao 3 d)) (aq (ax (Cz (eE om (ae 3) bQ) (cT (eE k9 (au aL (aE (ae 2) ak) (aE (ae 1) ak)) (aE (ae 3) ak)))))))
abbrev kE:Stmt:=top 37
abbrev kN:List Str:=["limits","starts","best","moved","number","bound","ahead","walk","passed"]
theorem wO (F:fU K mg "settle" kE ["limits","starts"])(aaB:Cl P w K mg base 1 "is_better" 3 df)(B:Bl mg):Cl P w K mg base 2 "settle" 2 fL:=
 aQ kN F λd f c A o s H E hr x=>(by(apply aj;exact(xN 2 (HB hr) rfl B.b_dict d (cU ["event"] kN kE (bu (ae 1)) (λd _ _ _ _ _=>⟨(ao 0 d),bF,(cS (ag (ae 0) (ag (cS (ag ak (ag (dU ah) ah))) ah)))⟩)));apply aj;exact(aD ft (ao 3 d));apply aj;exact(wj FU (cf (ae 3)) (aj (aD ft (ao 3 d)) (aq (cA rfl (ip B.b_enumerate (ag (ae 0) ah)) (iX rfl (bV (ao 4 d) (bV (ao 5 d) gy))) (by(apply aj;exact(aD (jl 2 (u7 (gk hr) (ae 2) (aE (ae 5) ak))) (ao 6 d));apply aj;exact(bB (jQ (ik (aU om (ae 6) bQ) (fW (cK (C4 2 (cf (aO aaB hr (ag (ae 2) (ag (ae 5) (ag (ae 6) ah)))))))))) (aq C6) aY);apply aj;exact(aD (au aL (aE (ae 6) ak) (dU (ag (ae 4) ah))) (ao 7 d));apply aj;exact(C5 8 (N':=["step","limits"]) (src:=[none,some 0]) rfl (LcScope.by (N:=kN) (names:=(aB kE).names) rfl rfl rfl (by decide+kernel)) (bu (ae 7)) (λ_ _ _ _ _=>⟨(ao 0 (show LI (["step","limits"]:List Str)by decide+kernel)),bF,(aE (aE (ae 1) (ae 0)) ak)⟩) d);apply aj;exact(bB (aU (Gw (GX hr)) (aE (ae 5) ak) (ae 8)) (aq (ax (cS (ag bQ (ag (lT (ae 7) (lQ (wq (GX hr) (ae 8) (aE (ae 5) ak))) lR) ah))))) aY);apply aj;exact(u4 2 (gk hr) (aE (ae 5) ak) (cS (ag (au aL (aE (ae 6) ak) (aE (ae 5) ak)) (ag (ae 7) ah))));exact aq (aD ft (ao 3 d))))))));exact aq (iW 2 (ax (cS (ag (ae 2) (ag bQ ah)))))))
abbrev fX:Stmt:=top 40
abbrev fY:List Str:=["record","limits","places","best"]
theorem jY (F:fU K mg "greatest_world" fX ["record","limits"])(aal:Cl P w K mg base 8 "events" 1 fM)(aam:Cl P w K mg base 2 "settle" 2 fL)(B:Bl mg):Cl P w K mg base 9 "greatest_world" 2 dk:=
 aQ fY F λd f c A o s H E hr x=>(by(apply aj;exact(aD (aO aal hr (ag (ae 0) ah)) (ao 2 d));apply aj;exact(aD (aE (aO aam hr (ag (ae 1) (ag (ae 2) ah))) ak) (ao 3 d));apply aj;exact(bB (aU om (ae 3) bQ) (aq (ax bQ)) aY);exact aq (ax (rf kn B.b_tuple dC (ag (cU ["event","best"] fY fX (bu (ae 2)) (λd _ _ _ _ _=>⟨(ao 0 d),bF,(aE (bh (gk hr) (ae 1) (ae 0)) ak)⟩)) ah)))))
abbrev yc:Stmt:=top 41
theorem yP (F:fU K mg "world" yc ["record"])(aai:Cl P w K mg base 9 "greatest_world" 2 dk)(aa5:Cl P w K mg base 8 "bounds" 1 cG):Cl P w K mg base 10 "world" 1 i6:=
 aQ ["record"] F λd f c A o s H E hr x=>(aq (ax (aO aai hr (ag (ae 0) (ag (aO aa5 hr (ag (ae 0) ah)) ah)))))
abbrev pB:Stmt:=top 42
theorem p8 (F:fU K mg "has_world" pB ["record"])(aaI:Cl P w K mg base 10 "world" 1 i6):Cl P w K mg base 11 "has_world" 1 dO:=
 aQ ["record"] F λd f c A o s H E hr x=>(aq (ax (eE dy (aO aaI hr (ag (ae 0) ah)) bQ)))
abbrev nH:Stmt:=top 43
theorem nS (F:fU K mg "need_world" nH ["record"])(aac:Cl P w K mg base 11 "has_world" 1 dO){C_NoRecord C_NoEvent C_NoWorld C_ClockError:Addr}(S:Xs K mg C_NoRecord C_NoEvent C_NoWorld C_ClockError):Cl P w K mg base 12 "need_world" 1 dj:=
 aQ ["record"] F λd f c A o s H E hr x=>(aq (bB (cK (cf (aO aac hr (ag (ae 0) ah)))) (aq (kD S.o_NoWorld S.m_NoWorld)) aY))
abbrev nG:Stmt:=top 47
theorem nR (F:fU K mg "walks_from" nG ["record","one"])(aam:Cl P w K mg base 2 "settle" 2 fL)(aa5:Cl P w K mg base 8 "bounds" 1 cG):Cl P w K mg base 9 "walks_from" 2 di:=
 aQ ["record","one"] F λd f c A o s H E hr x=>(aq (ax (aE (aO aam hr (ag (aO aa5 hr (ag (ae 0) ah)) (ag (dU (ag (ae 1) ah)) ah))) ak)))
abbrev Dk:Stmt:=top 50
theorem Ep (F:fU K mg "way" Dk ["record","one","other"])(aa4:Cl P w K mg base 8 "need_events" 3 bU)(aa9:Cl P w K mg base 12 "need_world" 1 dj)(aaa:Cl P w K mg base 9 "walks_from" 2 di):Cl P w K mg base 13 "way" 3 ie:=
 aQ ["record","one","other","walks"] F λd f c A o s H E hr x=>(by(apply aj;exact(dv (aO aa4 hr (ag (ae 0) (ag (ae 1) (ag (ae 2) ah)))));apply aj;exact(dv (aO aa9 hr (ag (ae 0) ah)));apply aj;exact(aD (aO aaa hr (ag (ae 0) (ag (ae 1) ah))) (ao 3 d));exact aq (ax (lU (aU (yN (gk hr)) (ae 2) (ae 3)) (aE (bh (gk hr) (ae 3) (ae 2)) ak) bQ))))
abbrev gf:Stmt:=top 60
abbrev gh:List Str:=["_law_places","_law_row","_law_far","_law_one","_law_other","_law_most","_law_middle","_law_whole"]
theorem nV (F:fU K mg "_law_table" gf ["_law_places","_law_row"])(B:Bl mg):Cl P w K mg base 1 "_law_table" 2 fx:=
 aQ gh F λd f c A o s H E hr x=>(by(apply aj;exact(wm 2 0 (N':=["_law_one","_law_places"]) (src:=[none]) (HB hr) rfl B.b_dict d (LcScope.by (N:=gh) (names:=(aB gf).names) rfl rfl rfl (by decide+kernel)) (bu (ae 0)) (by decide) (λ_ _ _ _ _=>⟨(ao 0 (show LI (["_law_one","_law_places"]:List Str)by decide+kernel)),pv 0,D7 (HB hr) rfl B.b_dict rfl (LcScope.byN (N:=["_law_one","_law_places"]) (N':=["_law_other"]) rfl rfl (by decide+kernel) rfl) (bu (ae 1)).h (λ_ _ _ _ _=>⟨(ao 0 (show LI (["_law_other"]:List Str)by decide+kernel)).h,pv 0,rfl⟩) (λ_=>rfl)⟩));apply aj;exact(cA rfl (bu (ae 0)) (ao 3 d) (aq (lP 2 (gk hr) (ae 3) (ae 3) ak)));apply aj;exact(cA rfl (bu (ae 1)) (iX rfl (bV (ao 3 d) (bV (ao 4 d) (bV (ao 5 d) gy)))) (aq (bB (jQ (ik (aU om (jl 2 (bh (gk hr) (bh (gk hr) (ae 2) (ae 3)) (ae 4))) bQ) (fW (aU k9 (ae 5) (jl 2 (bh (gk hr) (bh (gk hr) (ae 2) (ae 3)) (ae 4))))))) (aq (lP 2 (gk hr) (ae 3) (ae 4) (ae 5))) aY)));apply aj;exact(cA rfl (bu (ae 0)) (ao 6 d) (aq (cA rfl (bu (ae 0)) (ao 3 d) (aq (cA rfl (bu (ae 0)) (ao 4 d) (aq (bB (jQ (AD (aU dy (jl 2 (bh (gk hr) (bh (gk hr) (ae 2) (ae 3)) (ae 6))) bQ) (xM (aU dy (jl 2 (bh (gk hr) (bh (gk hr) (ae 2) (ae 6)) (ae 4))) bQ)))) (aj (aD (au aL (jl 2 (bh (gk hr) (bh (gk hr) (ae 2) (ae 3)) (ae 6))) (jl 2 (bh (gk hr) (bh (gk hr) (ae 2) (ae 6)) (ae 4)))) (ao 7 d)) (aq (bB (jQ (ik (aU om (jl 2 (bh (gk hr) (bh (gk hr) (ae 2) (ae 3)) (ae 4))) bQ) (fW (aU k9 (ae 7) (jl 2 (bh (gk hr) (bh (gk hr) (ae 2) (ae 3)) (ae 4))))))) (aq (lP 2 (gk hr) (ae 3) (ae 4) (ae 7))) aY))) aY)))))));exact aq (iW 2 (ax (lU (aU (la (ji hr)) (cU ["_law_one","_law_far"] gh gf (bu (ae 0)) (λd _ _ _ _ _=>⟨(ao 0 d),(lS (aU k9 (bh (gk hr) (bh (gk hr) (ae 1) (ae 0)) (ae 0)) ak)),(ae 0)⟩)) (dU ah)) (ae 2) bQ)))))
abbrev ud:Stmt:=top 48
theorem uz (F:fU K mg "most_of" ud ["walks","other"]):Cl P w K mg base 1 "most_of" 2 kO:=
 aQ ["walks","other"] F λd f c A o s H E hr x=>(aq (ax (lU (aU (yN (gk hr)) (ae 1) (ae 0)) (aE (bh (gk hr) (ae 0) (ae 1)) ak) bQ)))
abbrev ly:Stmt:=top 49
theorem lA (F:fU K mg "most_between" ly ["record","one","other"])(aa4:Cl P w K mg base 8 "need_events" 3 bU)(aa9:Cl P w K mg base 12 "need_world" 1 dj)(aaF:Cl P w K mg base 1 "most_of" 2 kO)(aaa:Cl P w K mg base 9 "walks_from" 2 di):Cl P w K mg base 13 "most_between" 3 bA:=
 aQ ["record","one","other"] F λd f c A o s H E hr x=>(by(apply aj;exact(dv (aO aa4 hr (ag (ae 0) (ag (ae 1) (ag (ae 2) ah)))));apply aj;exact(dv (aO aa9 hr (ag (ae 0) ah)));exact aq (ax (aO aaF hr (ag (aO aaa hr (ag (ae 0) (ag (ae 1) ah))) (ag (ae 2) ah))))))
abbrev iu:Stmt:=top 33
abbrev iA:List Str:=["limits","thing"]
theorem mq (F:fU K mg "are_numbers" iu ["limits","thing"])(aa1:Cl P w K mg base 2 "is_within" 3 aX)(B:Bl mg):Cl P w K mg base 3 "are_numbers" 2 cu:=
 aQ iA F λd f c A o s H E hr x=>(aq (ax (cF (u6 B.b_isinstance B.b_list qN (ae 1)) (cT (bR (m4 rfl) B.b_all Qg (ag (cU ["part","limits"] iA iu (bu (ae 1)) (λd _ _ _ _ _=>⟨(ao 0 d),bF,(aO aa1 hr (ag (ae 0) (ag ak (ag (au fI (bR cO B.b_len K2 (ag (ae 1) ah)) ak) ah))))⟩)) ah))))))
abbrev ye:Stmt:=top 35
theorem yT (F:fU K mg "leads" ye ["limits","one","other","thing"])(aa8:Cl P w K mg base 3 "are_numbers" 2 cu):Cl P w K mg base 4 "leads" 4 gP:=
 aQ ["limits","one","other","thing","place","number"] F λd f c A o s H E hr x=>(by(apply aj;exact(bB (cK (cf (aO aa8 hr (ag (ae 0) (ag (ae 3) ah))))) (aq (ax ft)) aY);apply aj;exact(aD (ae 1) (ao 4 d));apply aj;exact(cA rfl (bu (ae 3)) (ao 5 d) (aj (bB (aU (mj (ji hr)) (aE (aE (ae 0) (ae 5)) ak) (ae 4)) (aq (ax ft)) aY) (aq (aD (aE (aE (ae 0) (ae 5)) ak) (ao 4 d)))));exact aq (ax (eE (la (ji hr)) (ae 4) (ae 2)))))
abbrev oa:Stmt:=top 34
abbrev ou:List Str:=["limits","walk"]
theorem wN (F:fU K mg "sum_of" oa ["limits","walk"])(B:Bl mg):Cl P w K mg base 1 "sum_of" 2 gH:=
 aQ ou F λd f c A o s H E hr x=>(aq (ax (bR (kr rfl) B.b_sum Qh (ag (cU ["number","limits"] ou oa (bu (ae 1)) (λd _ _ _ _ _=>⟨(ao 0 d),bF,(aE (aE (ae 1) (ae 0)) ak)⟩)) ah))))
abbrev yd:Stmt:=top 51
theorem yR (F:fU K mg "shows" yd ["record","one","other","many","thing"])(aa4:Cl P w K mg base 8 "need_events" 3 bU)(aa5:Cl P w K mg base 8 "bounds" 1 cG)(aag:Cl P w K mg base 1 "is_whole" 1 eG)(aat:Cl P w K mg base 4 "leads" 4 gP)(aan:Cl P w K mg base 1 "sum_of" 2 gH):Cl P w K mg base 9 "shows" 5 i7:=
 aQ ["record","one","other","many","thing","limits"] F λd f c A o s H E hr x=>(by(apply aj;exact(dv (aO aa4 hr (ag (ae 0) (ag (ae 1) (ag (ae 2) ah)))));apply aj;exact(aD (aO aa5 hr (ag (ae 0) ah)) (ao 5 d));exact aq (ax (cF (aO aag hr (ag (ae 3) ah)) (cF (aO aat hr (ag (ae 5) (ag (ae 1) (ag (ae 2) (ag (ae 4) ah))))) (cT (eE se (aO aan hr (ag (ae 5) (ag (ae 4) ah))) (ae 3))))))))
abbrev gB:Stmt:=top 63
abbrev gG:List Str:=["_law_record_here","_law_one","_law_other","_law_row","_law_numbers","_law_whole"]
theorem kJ (F:fU K mg "_law_is_least" gB ["_law_record_here","_law_one","_law_other","_law_row","_law_numbers"])(aau:Cl P w K mg base 9 "shows" 5 i7)(aa7:Cl P w K mg base 13 "most_between" 3 bA)(B:Bl mg):Cl P w K mg base 14 "_law_is_least" 5 bO:=
 aQ gG F λd f c A o s H E hr x=>(aj (aD (bR (kr rfl) B.b_sum Qh (ag (cU ["_law_number","_law_row"] gG gB (bu (ae 4)) (λd _ _ _ _ _=>⟨(ao 0 d),bF,(aE (aE (ae 1) (ae 0)) ak)⟩)) ah)) (ao 5 d)) (aq (ax (cF (eE (la (ji hr)) (aO aa7 hr (ag (ae 0) (ag (ae 1) (ag (ae 2) ah)))) (ae 5)) (cT (aO aau hr (ag (ae 0) (ag (ae 1) (ag (ae 2) (ag (ae 5) (ag (ae 4) ah)))))))))))
abbrev lZ:Stmt:=top 36
theorem mn (F:fU K mg "leads_round" lZ ["limits","thing"])(aat:Cl P w K mg base 4 "leads" 4 gP)(aa8:Cl P w K mg base 3 "are_numbers" 2 cu):Cl P w K mg base 5 "leads_round" 2 eJ:=
 aQ ["limits","thing","start"] F λd f c A o s H E hr x=>(by(apply aj;exact(bB (jQ (ik (cK (cf (aO aa8 hr (ag (ae 0) (ag (ae 1) ah))))) (fW (aU (la (ji hr)) (ae 1) (dU ah))))) (aq (ax ft)) aY);apply aj;exact(aD (aE (aE (ae 0) (aE (ae 1) ak)) ak) (ao 2 d));exact aq (ax (aO aat hr (ag (ae 0) (ag (ae 2) (ag (ae 2) (ag (ae 1) ah))))))))
abbrev AY:Stmt:=top 44
theorem BM (F:fU K mg "bars" AY ["record","thing"])(aa5:Cl P w K mg base 8 "bounds" 1 cG)(aar:Cl P w K mg base 5 "leads_round" 2 eJ)(aan:Cl P w K mg base 1 "sum_of" 2 gH):Cl P w K mg base 9 "bars" 2 kP:=
 aQ ["record","thing","limits"] F λd f c A o s H E hr x=>(aj (aD (aO aa5 hr (ag (ae 0) ah)) (ao 2 d)) (aq (ax (cF (aO aar hr (ag (ae 2) (ag (ae 1) ah))) (cT (eE k9 (aO aan hr (ag (ae 2) (ag (ae 1) ah))) ak))))))
abbrev kF:Stmt:=top 64
abbrev mG:List Str:=["_law_script","_law_record_here","_law_places","_law_row","_law_times","_law_when","_law_one","_law_other","_law_third","_law_told","_law_met","_law_whole","_law_at","_law_more","_law_far","_law_back"]
theorem aa6:d9 mG ["_law_script"] (aB kF):=fsc
theorem Er {f:Addr}{fd:KM}(aaJ:Fn K mg "law" kF ["_law_script"] f fd)(aas:Cl P w K mg base 4 "_law_record" 3 eK)(aal:Cl P w K mg base 8 "events" 1 fM)(aa5:Cl P w K mg base 8 "bounds" 1 cG)(aaf:Cl P w K mg base 3 "_law_drawn_world" 5 cL)(aaG:Cl P w K mg base 13 "way" 3 ie)(aac:Cl P w K mg base 11 "has_world" 1 dO)(aax:Cl P w K mg base 1 "_law_table" 2 fx)(aa0:Cl P w K mg base 2 "_law_drawn" 3 aw)(aa7:Cl P w K mg base 13 "most_between" 3 bA)(aad:Cl P w K mg base 14 "_law_is_least" 5 bO)(aau:Cl P w K mg base 9 "shows" 5 i7)(aaK:Cl P w K mg base 9 "bars" 2 kP)(B:Bl mg):Fv P w K mg base 15 f fd ["_law_script"] 1 m_law:=
 vd aaJ.fn aa6 rfl λc A o s H E hr x=>(by(apply aj;exact(aD (aO aas hr (ag (ae 0) (ag ak (ag ak ah)))) (ao 1 aa6.nd));apply aj;exact(bB (cK (cf (aO aac hr (ag (ae 1) ah)))) (aq (ax ft)) aY);apply aj;exact(aD (aO aal hr (ag (ae 1) ah)) (ao 2 aa6.nd));apply aj;exact(aD (aO aa5 hr (ag (ae 1) ah)) (ao 3 aa6.nd));apply aj;exact(aD (aO aaf hr (ag (ae 0) (ag ak (ag (ae 2) (ag (ae 3) (ag (aO aax hr (ag (ae 2) (ag (ae 3) ah))) ah)))))) (ao 4 aa6.nd));apply aj;exact(aD (AG (HB hr) rfl B.b_dict B.b_zip (ag (ae 2) (ag (ae 4) ah))) (ao 5 aa6.nd));apply aj;exact(aD (aE (ae 2) (aO aa0 hr (ag (ae 0) (ag ak (ag (bR cO B.b_len K2 (ag (ae 2) ah)) ah))))) (ao 6 aa6.nd));apply aj;exact(aD (aE (ae 2) (aO aa0 hr (ag (ae 0) (ag ak (ag (bR cO B.b_len K2 (ag (ae 2) ah)) ah))))) (ao 7 aa6.nd));apply aj;exact(aD (aE (ae 2) (aO aa0 hr (ag (ae 0) (ag ak (ag (bR cO B.b_len K2 (ag (ae 2) ah)) ah))))) (ao 8 aa6.nd));apply aj;exact(aD (aO aaG hr (ag (ae 1) (ag (ae 6) (ag (ae 7) ah)))) (ao 9 aa6.nd));apply aj;exact(bB (aU dy (ae 9) bQ) (by(apply aj;exact(aD (au aL (dU (ag (ae 6) ah)) (cU ["_law_number","_law_row"] mG kF (bu (ae 9)) (λd _ _ _ _ _=>⟨(ao 0 d),bF,(aE (aE (ae 1) (ae 0)) ak)⟩))) (ao 10 aa6.nd));apply aj;exact(bB (jQ (ik (aU (mj (ji hr)) (AE rfl (ji hr) B.b_len B.b_set (ag (ae 10) ah)) (bR cO B.b_len K2 (ag (ae 10) ah))) (fW (aU (mj (ji hr)) (aE (ae 10) (pe ak)) (ae 7))))) (aq (ax ft)) aY);apply aj;exact(aD (bR (kr rfl) B.b_sum Qh (ag (cU ["_law_number","_law_row"] mG kF (bu (ae 9)) (λd _ _ _ _ _=>⟨(ao 0 d),bF,(aE (aE (ae 1) (ae 0)) ak)⟩)) ah)) (ao 11 aa6.nd));apply aj;exact(cA rfl (cY B.b_range (ag (bR cO B.b_len K2 (ag (ae 9) ah)) ah)) (ao 12 aa6.nd) (by(apply aj;exact(bB (aU Gx (au fI (bh (gk hr) (ae 5) (aE (ae 10) (au aL (ae 12) ak))) (bh (gk hr) (ae 5) (aE (ae 10) (ae 12)))) (aE (aE (ae 3) (aE (ae 9) (ae 12))) ak)) (aq (ax ft)) aY);apply aj;exact(bB (cK (cf (aO aad hr (ag (ae 1) (ag (ae 6) (ag (aE (ae 10) (au aL (ae 12) ak)) (ag (ae 3) (ag (lT (ae 9) lR (lQ (au aL (ae 12) ak))) ah)))))))) (aq (ax ft)) aY);exact aq (bB (cK (cf (aO aad hr (ag (ae 1) (ag (aE (ae 10) (au aL (ae 12) ak)) (ag (ae 7) (ag (ae 3) (ag (lT (ae 9) (lQ (au aL (ae 12) ak)) lR) ah)))))))) (aq (ax ft)) aY))));apply aj;exact(aD (aO aaG hr (ag (ae 1) (ag (ae 7) (ag (ae 8) ah)))) (ao 13 aa6.nd));apply aj;exact(bB (aU dy (ae 13) bQ) (aj (aD (au aL (ae 11) (bR (kr rfl) B.b_sum Qh (ag (cU ["_law_number","_law_row"] mG kF (bu (ae 13)) (λd _ _ _ _ _=>⟨(ao 0 d),bF,(aE (aE (ae 1) (ae 0)) ak)⟩)) ah))) (ao 14 aa6.nd)) (aq (bB (cK (cf (aO aau hr (ag (ae 1) (ag (ae 6) (ag (ae 8) (ag (ae 14) (ag (au aL (ae 9) (ae 13)) ah)))))))) (aq (ax ft)) aY))) aY);apply aj;exact(aD (aO aaG hr (ag (ae 1) (ag (ae 7) (ag (ae 6) ah)))) (ao 15 aa6.nd));exact aq (bB (aU dy (ae 15) bQ) (aj (aD (au aL (ae 11) (bR (kr rfl) B.b_sum Qh (ag (cU ["_law_number","_law_row"] mG kF (bu (ae 15)) (λd _ _ _ _ _=>⟨(ao 0 d),bF,(aE (aE (ae 1) (ae 0)) ak)⟩)) ah))) (ao 11 aa6.nd)) (aq (bB (jQ (ik (cf (aO aaK hr (ag (ae 1) (ag (au aL (ae 9) (ae 15)) ah)))) (fW (aU k9 (ae 11) ak)))) (aq (ax ft)) aY))) aY))) aY);exact aq (ax (cF (eE (la (ji hr)) (aO aaG hr (ag (ae 1) (ag (ae 6) (ag (ae 6) ah)))) (dU ah)) (cT (eE (la (ji hr)) (aO aa7 hr (ag (ae 1) (ag (ae 6) (ag (ae 6) ah)))) ak))))))
end
@[elab_as_elim] theorem GG {α:Type} {p:List α->Prop} (h:∀a0 a1 a2 a3,p [a0,a1,a2,a3]):∀us:List α,us.length=4->p us
 | [a0,a1,a2,a3],_=>h a0 a1 a2 a3
@[elab_as_elim] theorem ze {α:Type} {p:List α->Prop} (h:∀a0 a1 a2 a3 a4,p [a0,a1,a2,a3,a4]):∀us:List α,us.length=5->p us
 | [a0,a1,a2,a3,a4],_=>h a0 a1 a2 a3 a4
theorem all_ok {l:PySem.W.OpenLaw}{w:J2}{K:II}{h:Heap}{mg:Str->Option IQ}{fa:Addr}(X:K.In h)(e0:yU asks K=xV asks top)(G:h.Ns JF mg)(hfa:mg "law" =some (.ref fa)) :
  ∃fd:KM,(∀(s:IR) (v:IQ),PB s fd ⟨[v],[]⟩ [("_law_script",v)])/\∀base:Heap,K.In base->base.Ns JF mg->qU l.prog w K mg base CX0 15 fa fd ["_law_script"] (spP K 1 m_law):=by
 have e:sj Ai K=rk Ai top:=congrArg (·.1) e0
 have B:Bl mg:=⟨dI 0 X G e rfl,dI 1 X G e rfl,dI 2 X G e rfl,dI 3 X G e rfl,dI 4 X G e rfl,dI 5 X G e rfl,dI 6 X G e rfl,dI 7 X G e rfl,dI 8 X G e rfl,dI 9 X G e rfl,dI 10 X G e rfl,dI 11 X G e rfl,dI 12 X G e rfl,dI 13 X G e rfl,dI 14 X G e rfl⟩
 have C:Cs mg:=⟨oG 0 X G e rfl,oG 1 X G e rfl,oG 2 X G e rfl,oG 3 X G e rfl,oG 4 X G e rfl,oG 5 X G e rfl⟩;obtain⟨C_ClockError,ls,xD,xl,nd⟩:=Es (GU e);obtain⟨C_NoRecord,ls0,x_NoRecord,rfl,xl0⟩:=k6 xl;obtain⟨C_NoEvent,ls1,x_NoEvent,rfl,xl1⟩:=k6 xl0;obtain⟨C_NoWorld,ls2,x_NoWorld,rfl,xl2⟩:=k6 xl1;cases Ak xl2
 have S:Xs K mg C_NoRecord C_NoEvent C_NoWorld C_ClockError:=⟨NG X G (jG x_NoRecord).1,NG X G (jG x_NoEvent).1,NG X G (jG x_NoWorld).1,NG X G (jG xD).1,ox1 x_NoRecord xD,ox1 x_NoEvent xD,ox1 x_NoWorld xD,ox0 xD,nd⟩;obtain⟨fd45,aaJ,bnd⟩:=GQ (n:="law") (i:=64) (x:="_law_script") 45 X G e rfl hfa λ_ _ _ _ _ _ _=>rfl
 refine⟨fd45,bnd,λbase _ _=> ?_⟩
 have aay:=p9 l.prog w base (cI 0 X G e) B
 have aa0:=nW l.prog w base (cI 1 X G e) aay
 have aao:=mz l.prog w base (cI 2 X G e) B
 have aap:=my l.prog w base (cI 3 X G e) aao aa0 B
 have aav:=nX l.prog w base (cI 4 X G e) aa0 B
 have aas:=mw l.prog w base (cI 5 X G e) aa0 aap aav B
 have aa2:=uB l.prog w base (cI 6 X G e) B
 have aag:=sf l.prog w base (cI 7 X G e) B
 have aa1:=pZ l.prog w base (cI 8 X G e) aag
 have aaE:=uA l.prog w base (cI 9 X G e) aa1 C
 have aaH:=yS l.prog w base (cI 10 X G e) B
 have aak:=lC l.prog w base (cI 11 X G e) aa2 aaH aa1 B C
 have aaC:=si l.prog w base (cI 12 X G e) aa2 aaE aak
 have aaw:=nU l.prog w base (cI 13 X G e) aa2 aaC B C
 have aab:=sg l.prog w base (cI 14 X G e) aa1 aa2 B
 have aaD:=sh l.prog w base (cI 15 X G e) aa1 C
 have aaz:=p6 l.prog w base (cI 16 X G e) aab aa2 aaD
 have aaq:=mr l.prog w base (cI 17 X G e) aa2 aaz B C
 have aaA:=p0 l.prog w base (cI 18 X G e) aa2 aaw aaq
 have aa3:=ml l.prog w base (cI 19 X G e) aaA S
 have aal:=wQ l.prog w base (cI 20 X G e) aa3 B
 have aah:=jF l.prog w base (cI 21 X G e) B
 have aae:=jg l.prog w base (cI 22 X G e)
 have aa5:=wR l.prog w base (cI 23 X G e) aa3 aah aae B
 have aaf:=jh l.prog w base (zy 24 X G e rfl λ_ _ _ _ _ _ us hl=>ze (λ_ _ _ _ _=>rfl) us hl) aa0 B
 have aaj:=nT l.prog w base (cI 25 X G e) aab S
 have aa4:=mm l.prog w base (cI 26 X G e) aa3 aaj
 have aaB:=p7 l.prog w base (cI 27 X G e)
 have aam:=wO l.prog w base (cI 28 X G e) aaB B
 have aai:=jY l.prog w base (cI 29 X G e) aal aam B
 have aaI:=yP l.prog w base (cI 30 X G e) aai aa5
 have aac:=p8 l.prog w base (cI 31 X G e) aaI
 have aa9:=nS l.prog w base (cI 32 X G e) aac S
 have aaa:=nR l.prog w base (cI 33 X G e) aam aa5
 have aaG:=Ep l.prog w base (cI 34 X G e) aa4 aa9 aaa
 have aax:=nV l.prog w base (cI 35 X G e) B
 have aaF:=uz l.prog w base (cI 36 X G e)
 have aa7:=lA l.prog w base (cI 37 X G e) aa4 aa9 aaF aaa
 have aa8:=mq l.prog w base (cI 38 X G e) aa1 B
 have aat:=yT l.prog w base (zy 39 X G e rfl λ_ _ _ _ _ _ us hl=>GG (λ_ _ _ _=>rfl) us hl) aa8
 have aan:=wN l.prog w base (cI 40 X G e) B
 have aau:=yR l.prog w base (zy 41 X G e rfl λ_ _ _ _ _ _ us hl=>ze (λ_ _ _ _ _=>rfl) us hl) aa4 aa5 aag aat aan
 have aad:=kJ l.prog w base (zy 42 X G e rfl λ_ _ _ _ _ _ us hl=>ze (λ_ _ _ _ _=>rfl) us hl) aau aa7 B
 have aar:=mn l.prog w base (cI 43 X G e) aat aa8
 have aaK:=BM l.prog w base (cI 44 X G e) aa5 aar aan;exact(Er l.prog w base aaJ aas aal aa5 aaf aaG aac aax aa0 aa7 aad aau aaK B).h
end G
namespace Tr
open PySem
abbrev RR (cs ls:List T):T:=.tup [.tup cs,.tup ls]
mutual
def T.pl:T->Bool
 | .scr _=>false
 | .dct _ _=>false
 | .ob _ _ _=>false
 | .tup l=>plS l
 | .lst l=>plS l
 | _=>true
def plS:List T->Bool
 | [] =>true
 | t::l=>t.pl&&plS l
end
theorem jX:∀{l:List T} {t:T},plS l=true->t∈l->t.pl=true
 | [],_,_,h=>by cases h
 | u::l,t,h,m=>by
  unfold plS at h;rw[IT]at h;rcases IW.mp m with rfl | m
  ·exact h.1
  ·exact jX h.2 m
mutual
theorem T.HL:∀(t:T),t.pl=true->t.nd=true
 | .non,_=>rfl
 | .bl _,_=>rfl
 | .int _,_=>rfl
 | .str _,_=>rfl
 | .scr _,h=>by cases h
 | .dct _ _,h=>by cases h
 | .ob _ _ _,h=>by cases h
 | .tup l,h=>by unfold T.pl at h;unfold T.nd;exact plS_nds l h
 | .lst l,h=>by unfold T.pl at h;unfold T.nd;exact plS_nds l h
theorem plS_nds:∀(l:List T),plS l=true->nds l=true
 | [],_=>rfl
 | t::l,h=>by
  unfold plS at h;rw[IT]at h;unfold nds;rw[T.HL t h.1,plS_nds l h.2];rfl
end
theorem uF {fe:En->Rs T}{h:T->T}:∀(ts:List T) (Z:En),0<Z.length->(∀t∈ts,fe (Z.set 0 (.va t))= .ok (h t))->dt (gN 0) bT fe ts Z= .ok (ts.map h)
 | [],_,_,_=>rfl
 | t::r,Z,hl,hf=>by
  unfold dt
  have e1:gN 0 t Z= .ok (Z.set 0 (.va t)):=by unfold gN;rw[if_pos hl]
  have ih:=uF r (Z.set 0 (.va t)) (by rw[J9];exact hl) (λu hu=>by rw[PQ];exact hf u (IJ _ hu))
  simp only[e1,aG,bT,if_true,hf t IL,ih,IM]
theorem oE {fc:En->Rs Bool}{fe:En->Rs T}{p:T->Bool}{h:T->T}:∀(ts:List T) (Z:En),0<Z.length->(∀t∈ts,fc (Z.set 0 (.va t))= .ok (p t)/\(p t=true->fe (Z.set 0 (.va t))= .ok (h t)))->dt (gN 0) fc fe ts Z= .ok ((ts.filter p).map h)
 | [],_,_,_=>rfl
 | t::r,Z,hl,hf=>by
  unfold dt
  have e1:gN 0 t Z= .ok (Z.set 0 (.va t)):=by unfold gN;rw[if_pos hl]
  have ih:=oE r (Z.set 0 (.va t)) (by rw[J9];exact hl) (λu hu=>by rw[PQ];exact hf u (IJ _ hu))
  obtain⟨h1,h2⟩:=hf t IL;simp only[e1,aG,h1]
  cases q:p t with
  | true=>simp only[if_true,h2 q,aG,ih,P6,q,IM]
  | false=>simp only[KJ,if_false,ih,P6,q]
theorem oU (p:T->Bool):∀l:List T,m8 (l.map λt=>T.bl (p t))=some (l.map p)
 | [] =>rfl
 | t::l=>by rw[IM,m8,oU p l];rfl
theorem all_map (p:T->Bool)(l:List T):nu [.lst (l.map λt=>T.bl (p t))] = .ok (.bl (l.all p)):=by
 simp only[nu,oU,List.all_map]
 rfl
theorem jP {α:Type}{l:List α}{k:Nat}{t:α}(h:l[k]? =some t):L2.atI l (k:Int)=some t:=by
 have hk:k<l.length:=(Jd.mp h).1
 unfold L2.atI L2.ixN;rw[if_pos (by omega),if_pos (by omega),JD]
 exact h
theorem aI {n k:Nat}(h:n<=k)(hk:autoParam (k<=1000) s_):n<=sizeLine:=by unfold sizeLine;omega
section
variable {f fa fb fc:En->Rs T}{fs:En->Rs (List T)}{b c:En->Rs Bool}{F G:En->Rs Fl}{Z Z' Z1 Z2:En}{t u r:T}{ts l m:List T}
theorem aA {g:T->T->Rs T}{x:Rs T}(ha:fa Z= .ok t)(hb:fb Z= .ok u)(hg:g t u=x):o2 g fa fb Z=x:=by unfold o2;rw[ha,hb];exact hg
theorem EK {g:T->Rs T}{x:Rs T}(ha:fa Z= .ok t)(hg:g t=x):o1 g fa Z=x:=by unfold o1;rw[ha];exact hg
theorem GO {g:T->T->Rs T}{x:Rs T}{ks vs:List T}(ha:fa Z= .ok (.dct ks vs))(hb:fb Z= .ok u)(hg:g (.dct ks vs) u=x):oD g fa fb Z=x:=by unfold oD;rw[ha];show(fb Z >>= g (.dct ks vs))=_;rw[hb];exact hg
theorem k_oL {g:T->T->Rs T}{x:Rs T}{ks:List T}(ha:fa Z= .ok (.lst ks))(hb:fb Z= .ok u)(hg:g (.lst ks) u=x):oL g fa fb Z=x:=by unfold oL;rw[ha];show(fb Z >>= g (.lst ks))=_;rw[hb];exact hg
theorem ar (h:f Z= .ok t)(hs:fs Z= .ok ts):af f fs Z= .ok (t::ts):=by unfold af;rw[h,hs];rfl
theorem aJ {g:List T->Rs T}{x:Rs T}(h:fs Z= .ok ts)(hg:g ts=x):cl g fs Z=x:=by unfold cl;rw[h];exact hg
theorem bq {k:Bool}(h:f Z= .ok (.bl k)):tb f Z= .ok k:=by unfold tb;rw[h];rfl
theorem dn {k:Bool}(h:b Z= .ok k):dS b Z= .ok (!k):=by unfold dS;rw[h];rfl
theorem sX (h:b Z= .ok true):oo b c Z= .ok true:=by unfold oo;rw[h];rfl
theorem jv {x:Rs Bool}(h:b Z= .ok false)(h2:c Z=x):oo b c Z=x:=by unfold oo;rw[h];exact h2
theorem EN (h:b Z= .ok false):tQ b c Z= .ok false:=by unfold tQ;rw[h];rfl
theorem zD {x:Rs Bool}(h:b Z= .ok true)(h2:c Z=x):tQ b c Z=x:=by unfold tQ;rw[h];exact h2
theorem iJ (h:fa Z= .ok (.bl true)):cP fa fb Z=fb Z:=by unfold cP;rw[h];rfl
theorem gW (h:fa Z= .ok (.bl false)):cP fa fb Z= .ok (.bl false):=by unfold cP;rw[h];rfl
theorem gV {p q:Bool}(h:fa Z= .ok (.bl p))(h2:p=true->fb Z= .ok (.bl q)):cP fa fb Z= .ok (.bl (p&&q)):=by
 cases p with
 | true=>rw[iJ h,h2 rfl];rfl
 | false=>rw[gW h];rfl
theorem zr (h:fa Z= .ok (.bl true)):BI fa fb Z= .ok (.bl true):=by unfold BI;rw[h];rfl
theorem zu (h:fa Z= .ok (.bl false)):BI fa fb Z=fb Z:=by unfold BI;rw[h];rfl
theorem EJ {p q:Bool}(h:fa Z= .ok (.bl p))(h2:p=false->fb Z= .ok (.bl q)):BI fa fb Z= .ok (.bl (p||q)):=by
 cases p with
 | true=>rw[zr h];rfl
 | false=>rw[zu h,h2 rfl];rfl
theorem lj {p:Bool}(h:b Z= .ok p):oK b fa fb Z=if p then fa Z else fb Z:=by unfold oK;rw[h];rfl
theorem bJ {g:T->En->Rs En}(h:f Z= .ok t)(hg:g t Z= .ok Z'):cg f g Z= .ok (.nx Z'):=by unfold cg;rw[h];show(match g t Z with | .ok Z'=>Rs.ok (Fl.nx Z') | _=> .bad)=_;rw[hg]
theorem az (h:F Z= .ok (.nx Z')):ay F G Z=G Z':=by unfold ay;rw[h];rfl
theorem dH (h:F Z= .ok (.rt t)):ay F G Z= .ok (.rt t):=by unfold ay;rw[h];rfl
theorem zq (h:F Z= .ok (.ct Z')):ay F G Z= .ok (.ct Z'):=by unfold ay;rw[h];rfl
theorem dB (h:b Z= .ok true):eR b F G Z=F Z:=by unfold eR;rw[h];rfl
theorem cH (h:b Z= .ok false):eR b F G Z=G Z:=by unfold eR;rw[h];rfl
theorem bK (h:f Z= .ok t):aR f Z= .ok (.rt t):=by unfold aR;rw[h];rfl
theorem nZ (h:f Z= .ok t):uo f Z= .ok (.nx Z):=by unfold uo;rw[h];rfl
theorem ff {fi:En->Rs (List T)}{g:T->En->Rs En}{x:Fl}(h:fi Z= .ok ts)(h2:bp g F ts Z= .ok x):eU fi g F Z= .ok x:=by unfold eU;rw[h];show(match bp g F ts Z with | .ok f=>Rs.ok f | _=> .bad)=_;rw[h2]
theorem du {g:T->En->Rs En}(h:g t Z= .ok Z1)(h2:F Z1= .ok (.nx Z2)):bp g F (t::ts) Z=bp g F ts Z2:=by rw[bp,h];show(F Z1 >>= _)=_;rw[h2];rfl
theorem BZ {g:T->En->Rs En}(h:g t Z= .ok Z1)(h2:F Z1= .ok (.ct Z2)):bp g F (t::ts) Z=bp g F ts Z2:=by rw[bp,h];show(F Z1 >>= _)=_;rw[h2];rfl
theorem vL {g:T->En->Rs En}(h:g t Z= .ok Z1)(h2:F Z1= .ok (.rt r)):bp g F (t::ts) Z= .ok (.rt r):=by rw[bp,h];show(F Z1 >>= _)=_;rw[h2];rfl
theorem zo {n:Nat}(h:c Z= .ok false):bM c F (n+1) Z= .ok (.nx Z):=by unfold bM;rw[h]
theorem sW {n:Nat}(h:c Z= .ok true)(h2:F Z= .ok (.nx Z')):bM c F (n+1) Z=bM c F n Z':=by rw[bM,h];simp only[h2]
theorem zm {n:Nat}(h:c Z= .ok true)(h2:F Z= .ok (.rt t)):bM c F (n+1) Z= .ok (.rt t):=by rw[bM,h];simp only[h2]
theorem bc {n m:Nat}(hl:ts.length=n)(h:F (bD m ts)= .ok (.rt t)):val n m F ts= .ok t:=by unfold val;rw[if_pos hl];unfold d7;rw[h];rfl
theorem qz {n m:Nat}(hl:ts.length=n)(h:F (bD m ts)= .ok (.nx Z)):val n m F ts= .ok .non:=by unfold val;rw[if_pos hl];unfold d7;rw[h];rfl
theorem mS {fi:En->Rs (List T)}{src:List (Option Nat)}{fe:En->Rs T}{h:T->T}(hi:fi Z= .ok ts)(hs:ts.length<=sizeLine)(hn:0<src.length)(hf:∀t∈ts,fe ((bH src Z).set 0 (.va t))= .ok (h t)) :
  dQ fi src (gN 0) bT fe Z= .ok (.lst (ts.map h)):=by
 have e:=uF (fe:=fe) (h:=h) ts (bH src Z) (by unfold bH;rw[IP];exact hn) hf
 unfold dQ;rw[hi,aG,if_pos hs,e]
theorem zx {fi:En->Rs (List T)}{src:List (Option Nat)}{fc:En->Rs Bool}{fe:En->Rs T}{p:T->Bool}{h:T->T}(hi:fi Z= .ok ts)(hs:ts.length<=sizeLine)(hn:0<src.length)
  (hf:∀t∈ts,fc ((bH src Z).set 0 (.va t))= .ok (p t)/\(p t=true->fe ((bH src Z).set 0 (.va t))= .ok (h t))):dQ fi src (gN 0) fc fe Z= .ok (.lst ((ts.filter p).map h)):=by
 have e:=oE (fc:=fc) (fe:=fe) (p:=p) (h:=h) ts (bH src Z) (by unfold bH;rw[IP];exact hn) hf
 unfold dQ;rw[hi,aG,if_pos hs,e]
theorem eZ (h:fs Z= .ok ts)(hl:ts.length<=sizeLine):cp fs Z= .ok (.tup ts):=by unfold cp;rw[h];show jt ts=_;unfold jt;rw[if_pos hl]
theorem iI (h:fs Z= .ok ts)(hl:ts.length<=sizeLine):cN fs Z= .ok (.lst ts):=by unfold cN;rw[h];show ju ts=_;unfold ju;rw[if_pos hl]
theorem zv {f:En->Rs (List T)}{i:Nat}(h:f Z= .ok l)(hi:i<Z.length)(hl:l.length<=1000):jq i f Z= .ok (.nx (Z.set i (.ow (.lst l)))):=by
 unfold jq;rw[h,aG,if_pos ⟨hi,aI hl (by omega)⟩]
theorem zw {i:Nat}(hi:i<Z.length):jq i ai Z= .ok (.nx (Z.set i (.ow (.lst [])))):=zv rfl hi (KP _)
theorem zC {i:Nat}(h:f Z= .ok t)(hi:Z[i]? =some (.ow (.lst l)))(hl:l.length<=1000):nN i f Z= .ok (.nx (Z.set i (.ow (.lst (l++ [t]))))):=by
 unfold nN;rw[hi];simp only[h,aG];rw[if_pos (by unfold sizeLine;omega)]
theorem zA {i:Nat}(h:f Z= .ok (.lst m))(hi:Z[i]? =some (.ow (.lst l)))(hl:l.length+m.length<=1000):md i f Z= .ok (.nx (Z.set i (.ow (.lst (l++m))))):=by
 unfold md;rw[hi];simp only[h,aG,E7];rw[if_pos (by unfold sizeLine;omega)]
theorem jw (h:f Z= .ok (.lst l)):iS f Z= .ok l:=by unfold iS;rw[h];rfl
theorem CV (h:fs Z= .ok [.lst l]):iE fs Z= .ok (dh 0 l):=by unfold iE;rw[h];rfl
theorem GR {n:Nat}(e:l[n]? =some t):aP (.tup l) (.int (n:Int))= .ok t:=by show(match L2.atI l _ with | some t=>Rs.ok t | none=> .bad)=_;rw[jP e]
theorem EM {n:Nat}(e:l[n]? =some t):aP (.lst l) (.int (n:Int))= .ok t:=by show(match L2.atI l _ with | some t=>Rs.ok t | none=> .bad)=_;rw[jP e]
theorem GS {n:Nat}(h:fa Z= .ok (.tup l))(h2:fb Z= .ok (.int (n:Int)))(e:l[n]? =some t):o2 aP fa fb Z= .ok t:=aA h h2 (GR e)
theorem sY {n:Nat}(h:fa Z= .ok (.lst l))(h2:fb Z= .ok (.int (n:Int)))(e:l[n]? =some t):o2 aP fa fb Z= .ok t:=aA h h2 (EM e)
theorem zp {fe:En->Rs T}{fl fu:En->Rs (Option Int)}{lo hi:Option Int}(h:fe Z= .ok (.lst l))(h1:fl Z= .ok lo)(h2:fu Z= .ok hi):sl fe fl fu Z= .ok (.lst (m3 l lo hi)):=by
 unfold sl;rw[h,h1,h2];rfl
theorem EI {i:Int}(h:f Z= .ok (.int i)):pS f Z= .ok (some i):=by unfold pS;rw[h];rfl
theorem Ag (l:List T)(n:Nat):m3 l none (some (n:Int))=l.take n:=by
 unfold m3;rw[HT.sIx_none,HT.sIx_nat,List.drop_zero,Nb,List.take_eq_take_iff];omega
theorem tL (l:List T)(n:Nat):m3 l (some (n:Int)) none=l.drop n:=by
 unfold m3;rw[HT.sIx_none,HT.sIx_nat]
 by_cases h:n<=l.length
 ·rw[Nat.min_eq_left h]
  exact Ly (by rw[KO];omega)
 ·rw[Nat.min_eq_right (by omega),Lx (Jc _),Lx (by omega),List.take_nil]
theorem EL {i:Nat}{o:OT}(hi:Z[i]? =some (.ow o))(h:f (disown i Z)= .ok t)(hk:t.nk o.isD=true):ln i f Z= .ok t:=by
 unfold ln;rw[hi];simp only[h,aG,hk,if_true]
theorem GP {i:Nat}{k:Bool}(h:b (disown i Z)= .ok k):Ey i b Z= .ok k:=h
theorem zB {i:Nat}{x:Rs Fl}(h:F (disown i Z)=x):mf i F Z=x:=h
end
theorem mk2 (a b:T):jt [a,b] = .ok (.tup [a,b]):=by unfold jt;rw[if_pos (aI (k:=1000) (by simp only[IV,Qp];omega))]
theorem jV (n:Nat):(rng 0 n).length=n:=by unfold rng;rw[IP,Kz];omega
end Tr
namespace Gr
variable {ν:Type}[DecidableEq ν]
abbrev bw (ν:Type):=List (ν×ν×Int)
inductive Wk (L:bw ν):ν->ν->Int->Prop
 | nil (a:ν):Wk L a a 0
 | step {a b c:ν} {m s:Int}:(a,b,m)∈L->Wk L b c s->Wk L a c (m+s)
theorem Wk.one {L:bw ν}{a b:ν}{m:Int}(h:(a,b,m)∈L):Wk L a b m:=by
 have:=Wk.step h (Wk.nil (L:=L) b)
 rwa [Int.add_zero]at this
theorem Wk.app {L:bw ν}{a b c:ν}{s t:Int}(h:Wk L a b s)(k:Wk L b c t):Wk L a c (s+t):=by
 induction h with
 | nil a=>rwa [Int.zero_add]
 | step e _ ih=>rw[Int.add_assoc];exact .step e (ih k)
def Holds (L:bw ν)(t:ν->Int):Prop:=∀a b m,(a,b,m)∈L->t b - t a<=m
theorem Holds.walk {L:bw ν}{t:ν->Int}(h:Holds L t){a b:ν}{s:Int}(w:Wk L a b s):t b - t a<=s:=by
 induction w with
 | nil a=>omega
 | step e _ ih=>have:=h _ _ _ e;omega
def dq (L:bw ν):Prop:=∀a s,Wk L a a s->0<=s
theorem Holds.Iy {L:bw ν}{t:ν->Int}(h:Holds L t):dq L:=λa s w=>by have:=h.walk w;omega
def Ch (L:bw ν):ν->List Nat->ν->Prop
 | a,[],b=>a=b
 | a,k::r,b=> ∃c m,L[k]? =some (a,c,m)/\Ch L c r b
def most (L:bw ν)(k:Nat):Int:=match L[k]? with
 | some x=>x.2.2
 | none=>0
def bZ (L:bw ν):List Nat->Int
 | [] =>0
 | k::r=>most L k+bZ L r
theorem fT (L:bw ν):∀(p q:List Nat),bZ L (p++q)=bZ L p+bZ L q
 | [],q=>by simp[bZ]
 | k::p,q=>by rw[P7,bZ,bZ,fT L p q];omega
theorem Ch.wk {L:bw ν}:∀{ks:List Nat} {a b:ν},Ch L a ks b->Wk L a b (bZ L ks)
 | [],a,b,h=>by cases h;exact .nil a
 | k::r,a,b,⟨c,m,e,h⟩=>by
  have:bZ L (k::r)=m+bZ L r:=by rw[bZ,most,e]
  rw[this];exact .step (JT e) h.wk
theorem Ch.app {L:bw ν}:∀{p q:List Nat} {a b c:ν},Ch L a p b->Ch L b q c->Ch L a (p++q) c
 | [],q,a,b,c,h,k=>by cases h;exact k
 | x::p,q,a,b,c,⟨d,m,e,h⟩,k=>⟨d,m,e,Ch.app h k⟩
theorem Ch.split {L:bw ν}:∀{p q:List Nat} {a c:ν},Ch L a (p++q) c->∃b,Ch L a p b/\Ch L b q c
 | [],q,a,c,h=>⟨a,rfl,h⟩
 | x::p,q,a,c,⟨d,m,e,h⟩=>by
  obtain⟨b,h1,h2⟩:=Ch.split (p:=p) h;exact⟨b,⟨d,m,e,h1⟩,h2⟩
theorem Ch.lt {L:bw ν}:∀{ks:List Nat} {a b:ν},Ch L a ks b->∀k∈ks,k<L.length
 | [],_,_,_,k,hk=>by simp at hk
 | x::r,a,b,⟨c,m,e,h⟩,k,hk=>by
  rcases IW.mp hk with rfl | hk
  ·exact(Jd.mp e).1
  ·exact h.lt k hk
theorem Ch.snoc {L:bw ν}{p:List Nat}{k:Nat}{a b c:ν}{m:Int}(h:Ch L a p b)(e:L[k]? =some (b,c,m)):Ch L a (p++ [k]) c:=h.app ⟨c,m,e,rfl⟩
def src (L:bw ν)(k:Nat):Option ν:=(L[k]?).map (·.1)
abbrev bW (ν:Type):=ν->Option (Int×List Nat)
def put (b:bW ν)(v:ν)(x:Int×List Nat):bW ν:=λu=>if u=v then some x else b u
theorem dW {b:bW ν}{v:ν}{x:Int×List Nat}:put b v x v=some x:=by unfold put;rw[if_pos rfl]
theorem jB {b:bW ν}{u v:ν}{x:Int×List Nat}(h:u≠v):put b v x u=b u:=by unfold put;rw[if_neg h]
def eh (L:bw ν)(ks:List Nat):List ν:=ks.filterMap (src L)
def d8 (b:bW ν)(v:ν)(d:Int):Bool:=match b v with
 | none=>true
 | some x=>decide (d<x.1)
def gE (L:bw ν)(b:bW ν)(k:Nat)(x:ν×ν×Int):Sum (Option (bW ν)) (List Nat):=match b x.1 with
 | none=> .inl none
 | some (d,w)=>if d8 b x.2.1 (d+x.2.2)=true then
   if x.2.1∈eh L (w++ [k])then .inr ((w++ [k]).drop ((eh L (w++ [k])).idxOf x.2.1))else .inl (some (put b x.2.1 (d+x.2.2,w++ [k])))
  else .inl none
def hV (L:bw ν):Nat->bw ν->bW ν->Bool->Sum (bW ν×Bool) (List Nat)
 | _,[],b,mv=> .inl (b,mv)
 | k,x::r,b,mv=>match gE L b k x with
  | .inr q=> .inr q
  | .inl none=>hV L (k+1) r b mv
  | .inl (some b')=>hV L (k+1) r b' true
def settle (L:bw ν):Nat->bW ν->Option (Sum (bW ν) (List Nat))
 | 0,_=>none
 | n+1,b=>match hV L 0 L b false with
  | .inr q=>some (.inr q)
  | .inl (b',true)=>settle L n b'
  | .inl (b',false)=>some (.inl b')
theorem pW (L:bw ν)(p q:List Nat):eh L (p++q)=eh L p++eh L q:=by unfold eh;rw[List.filterMap_append]
theorem pV {L:bw ν}{k:Nat}{x:ν×ν×Int}(e:L[k]? =some x):eh L [k] = [x.1]:=by unfold eh src;simp[e]
theorem Ch.HJ {L:bw ν}{k:Nat}{r:List Nat}{a b:ν}(h:Ch L a (k::r) b):eh L (k::r)=a::eh L r:=by
 obtain⟨c,m,e,_⟩:=h;rw[show k::r= [k] ++r from rfl,pW,pV e];rfl
theorem Ch.cut {L:bw ν}{v:ν}:∀{ks:List Nat} {a b:ν},Ch L a ks b->v∈eh L ks->Ch L a (ks.take ((eh L ks).idxOf v)) v/\Ch L v (ks.drop ((eh L ks).idxOf v)) b/\(eh L ks).idxOf v<ks.length
 | [],a,b,_,hv=>by simp[eh]at hv
 | k::r,a,b,h,hv=>by
  rw[h.HJ]at hv ⊢
  have h0:=h;obtain⟨c,m,e,h⟩:=h
  by_cases z:a=v
  ·subst z
   rw[List.idxOf_cons_self];exact⟨rfl,h0,by simp⟩
  ·have hv':v∈eh L r:=by
    rcases IW.mp hv with q | q
    ·exact absurd q.symm z
    ·exact q
   obtain⟨h1,h2,h3⟩:=h.cut hv'
   have ei:(a::eh L r).idxOf v=(eh L r).idxOf v+1:=by
    rw[Qv]
    have:(a == v)=false:=by rw[beq_eq_false_iff_ne];exact z
    rw[this];rfl
   rw[ei];exact⟨⟨c,m,e,h1⟩,h2,by simpa using h3⟩
structure Kept (L:bw ν)(S:List ν)(b:bW ν):Prop where
 walk:∀v d w,b v=some (d,w)->∃s∈S,Ch L s w v/\bZ L w=d/\v∉eh L w/\(eh L w).Nodup/\∀p q u,w=p++q->Ch L s p u->∃d' w',b u=some (d',w')/\d'<=bZ L p
 start:∀s∈S,∃d w,b s=some (d,w)/\d<=0
theorem Kept.put {L:bw ν}{S:List ν}{b:bW ν}(K:Kept L S b){k:Nat}{a c:ν}{m d:Int}{w:List Nat}(e:L[k]? =some (a,c,m))(ha:b a=some (d,w))(hb:d8 b c (d+m)=true)(hn:c∉eh L (w++ [k])) :
  Kept L S (put b c (d+m,w++ [k])):=by
 have low:∀u d' w',b u=some (d',w')->∃d'' w'',Gr.put b c (d+m,w++ [k]) u=some (d'',w'')/\d''<=d':=λu d' w' h=>by
  by_cases z:u=c
  ·subst z
   refine⟨_,_,dW,?_⟩
   unfold d8 at hb;rw[h]at hb
   have:=of_decide_eq_true hb;omega
  ·exact⟨d',w',by rw[jB z];exact h,Ke _⟩
 obtain⟨s,hs,h1,h2,h3,h4,h5⟩:=K.walk a d w ha
 have hch:Ch L s (w++ [k]) c:=h1.snoc e
 have hcost:bZ L (w++ [k])=d+m:=by rw[fT,h2,bZ,bZ,most,e];simp
 refine⟨λv d' w' h=> ?_,λs' hs'=> ?_⟩
 ·by_cases z:v=c
  ·subst z
   rw[dW]at h;cases h;refine⟨s,hs,hch,hcost,hn,?_,λp q u hpq hp=> ?_⟩
   ·rw[pW,pV e]
    exact JR.mpr ⟨h4,by simp,λx hx y hy=>by simp at hy;subst hy;exact λz=>h3 (z▸hx)⟩
   ·by_cases hq:q= []
    ·subst hq
     rw[J7]at hpq;subst hpq
     have:u=v:=by
      clear low hb hn h5
      have aux:∀{ks:List Nat} {x y z:ν},Ch L x ks y->Ch L x ks z->y=z:=by
       intro ks
       induction ks with
       | nil=>intro x y z h1 h2;cases h1;cases h2;rfl
       | cons k r ih=>
        rintro x y z ⟨c1,m1,e1,r1⟩ ⟨c2,m2,e2,r2⟩
        rw[e1]at e2;cases e2;exact ih r1 r2
      exact aux hp hch
     subst this;exact⟨_,_,dW,by rw[hcost];exact Ke _⟩
    ·have hw:∃q',w=p++q':=by
      refine⟨q.dropLast,?_⟩
      have:=congrArg List.dropLast hpq;rw[List.dropLast_concat,List.dropLast_append_of_ne_nil hq]at this;exact this
     obtain⟨q',hw⟩:=hw;obtain⟨d1,w1,e1,l1⟩:=h5 p q' u hw hp;obtain⟨d2,w2,e2,l2⟩:=low u d1 w1 e1;exact⟨d2,w2,e2,by omega⟩
  ·rw[jB z]at h
   obtain⟨s',hs',g1,g2,g3,g4,g5⟩:=K.walk v d' w' h;refine⟨s',hs',g1,g2,g3,g4,λp q u hpq hp=> ?_⟩
   obtain⟨d1,w1,e1,l1⟩:=g5 p q u hpq hp;obtain⟨d2,w2,e2,l2⟩:=low u d1 w1 e1;exact⟨d2,w2,e2,by omega⟩
 ·obtain⟨d1,w1,e1,l1⟩:=K.start s' hs'
  obtain⟨d2,w2,e2,l2⟩:=low s' d1 w1 e1;exact⟨d2,w2,e2,by omega⟩
def Bar (L:bw ν)(q:List Nat):Prop:=q≠ []/\(∃a,Ch L a q a)/\bZ L q<0/\(eh L q).Nodup
theorem Ch.HW {L:bw ν}:∀{ks:List Nat} {a b:ν} (i:Nat),Ch L a ks b->eh L (ks.drop i)=(eh L ks).drop i
 | [],_,_,i,_=>by simp[eh]
 | k::r,a,b,0,_=>rfl
 | k::r,a,b,i+1,h=>by
  have:=h;obtain⟨c,m,e,h'⟩:=this;rw[h.HJ,OL,OL,h'.HW i]
theorem Kept.round {L:bw ν}{S:List ν}{b:bW ν}(K:Kept L S b){k:Nat}{a c:ν}{m d:Int}{w:List Nat}(e:L[k]? =some (a,c,m))(ha:b a=some (d,w))(hb:d8 b c (d+m)=true)(hn:c∈eh L (w++ [k])) :
  Bar L ((w++ [k]).drop ((eh L (w++ [k])).idxOf c)):=by
 obtain⟨s,hs,h1,h2,h3,h4,h5⟩:=K.walk a d w ha
 have hch:Ch L s (w++ [k]) c:=h1.snoc e
 have hcost:bZ L (w++ [k])=d+m:=by rw[fT,h2,bZ,bZ,most,e];simp
 obtain⟨c1,c2,c3⟩:=hch.cut hn
 generalize hi:(eh L (w++ [k])).idxOf c=i at c1 c2 c3
 refine⟨λz=> ?_,⟨c,c2⟩,?_,?_⟩
 ·have:=congrArg J4 z
  rw[KO]at this
  simp at this c3
  omega
 ·have hsum:bZ L ((w++ [k]).take i)+bZ L ((w++ [k]).drop i)=d+m:=by rw[<-fT,LF,hcost]
  have hiw:i<=w.length:=by simp at c3;omega
  have ht:(w++ [k]).take i=w.take i:=by rw[List.take_append_of_le_length hiw]
  rw[ht]at c1 hsum;obtain⟨d1,w1,e1,l1⟩:=h5 (w.take i) (w.drop i) c (LF i w).symm c1;unfold d8 at hb;rw[e1]at hb
  have:=of_decide_eq_true hb;simp only at this;omega
 ·rw[hch.HW,pW,pV e]
  refine(Px _ _).nodup (JR.mpr ⟨h4,by simp,λx hx y hy=> ?_⟩)
  rw[IY.mp hy];exact λz=>h3 (by have z:x=a:=z;rw[<-z];exact hx)
def size (L:bw ν):Nat:=(L.map λx=>x.2.2.natAbs).sum
theorem jn {f:Nat->Nat}:∀{ks rs:List Nat},ks.Nodup->(∀k∈ks,k∈rs)->(ks.map f).sum<=(rs.map f).sum
 | [],rs,_,_=>by simp
 | k::ks,rs,hn,hs=>by
  have hk:k∈rs:=hs k IL;rw[Jq]at hn
  have hp:=List.perm_cons_erase hk
  have e:(rs.map f).sum=f k+((rs.erase k).map f).sum:=by
   have:=(hp.map f).sum_nat
   rwa [IM,KF]at this
  rw[e,IM,KF]
  have:=jn (f:=f) hn.2 λj hj=>by
   have h1:=hs j (IJ _ hj);exact(LS (λ(z:j=k)=>hn.1 (z▸hj))).mpr h1
  omega
theorem uj (L:bw ν):size L=((JA L.length).map λk=>(most L k).natAbs).sum:=by
 unfold size
 congr 1
 apply List.ext_getElem
 ·simp
 ·intro i h1 h2
  simp only[NR,List.getElem_range];unfold most;rw[IU (by simpa using h1)]
theorem v5 (L:bw ν):∀(ks:List Nat),(bZ L ks).natAbs<=(ks.map λk=>(most L k).natAbs).sum
 | [] =>by simp[bZ]
 | k::r=>by
  have:=v5 L r;rw[bZ,IM,KF];omega
theorem Ch.nodup {L:bw ν}:∀{ks:List Nat} {a b:ν},Ch L a ks b->(eh L ks).Nodup->ks.Nodup
 | [],_,_,_,_=>KU
 | k::r,a,b,h,hn=>by
  have h0:=h;rw[h.HJ,Jq]at hn;obtain⟨c,m,e,h⟩:=h;rw[Jq];refine⟨λhk=>hn.1 ?_,h.nodup hn.2⟩
  unfold eh src;exact J5.mpr ⟨k,hk,by rw[e];rfl⟩
theorem Ch.small {L:bw ν}{ks:List Nat}{a b:ν}(h:Ch L a ks b)(hn:(eh L ks).Nodup):(bZ L ks).natAbs<=size L:=by
 rw[uj];exact JW (v5 L ks) (jn (h.nodup hn) λk hk=>JJ.mpr (h.lt k hk))
def val (M:Nat)(b:bW ν)(v:ν):Nat:=match b v with
 | none=>2*M+1
 | some x=>(x.1+M).toNat
def left (M:Nat)(b:bW ν)(L:bw ν):Nat:=(L.map λx=>val M b x.2.1).sum
theorem vF {M:Nat}{b b':bW ν}:∀{L:bw ν},(∀x∈L,val M b' x.2.1<=val M b x.2.1)->left M b' L<=left M b L
 | [],_=>by simp[left]
 | x::L,h=>by
  have h1:=h x IL
  have h2:=vF λy hy=>h y (IJ _ hy)
  unfold left at h2 ⊢;rw[IM,KF,IM,KF];omega
theorem vE {M:Nat}{b b':bW ν}{x:ν×ν×Int}:∀{L:bw ν},x∈L->(∀x∈L,val M b' x.2.1<=val M b x.2.1)->val M b' x.2.1<val M b x.2.1->left M b' L<left M b L
 | [],hx,_,_=>by simp at hx
 | y::L,hx,h,hl=>by
  have h1:=h y IL
  have h2:=vF λy hy=>h y (IJ _ hy)
  unfold left at h2 ⊢;rw[IM,KF,IM,KF];rcases IW.mp hx with rfl | hx
  ·omega
  ·have h3:=vE hx (λy hy=>h y (IJ _ hy)) hl
   unfold left at h3;omega
theorem zf {L:bw ν}{S:List ν}{b:bW ν}(K:Kept L S b){k:Nat}{a c:ν}{m d:Int}{w:List Nat}(e:L[k]? =some (a,c,m))(ha:b a=some (d,w))(hb:d8 b c (d+m)=true)(hn:c∉eh L (w++ [k])) :
  left (size L) (put b c (d+m,w++ [k])) L<left (size L) b L:=by
 have K':=K.put e ha hb hn;obtain⟨s,hs,h1,h2,h3,h4,h5⟩:=K'.walk c (d+m) (w++ [k]) dW
 have sm:=h1.small h4;rw[h2]at sm
 have lt:val (size L) (put b c (d+m,w++ [k])) c<val (size L) b c:=by
  unfold val d8 at*;rw[dW]
  cases z:b c with
  | none=>simp only;omega
  | some y=>
   rw[z]at hb
   have hb:=of_decide_eq_true hb;simp only;omega
 refine vE (JT e) (λy _=> ?_) lt
 by_cases z:y.2.1=c
 ·rw[z];exact L8 lt
 ·unfold val;rw[jB z];exact Jc _
def An (b:bW ν)(x:ν×ν×Int):Prop:=∀d w,b x.1=some (d,w)->∃d' w',b x.2.1=some (d',w')/\d'<=d+x.2.2
theorem yb {b:bW ν}{x:ν×ν×Int}(h:∀d w,b x.1=some (d,w)->d8 b x.2.1 (d+x.2.2)=false):An b x:=λd w e=>by
 have:=h d w e;unfold d8 at this
 cases z:b x.2.1 with
 | none=>rw[z]at this;cases this
 | some y=>
  rw[z]at this
  have:=of_decide_eq_false this;exact⟨y.1,y.2,rfl,by omega⟩
theorem ir {L:bw ν}{S:List ν}:∀(r:bw ν) (k:Nat) (b:bW ν) (mv:Bool),L.drop k=r->Kept L S b->match hV L k r b mv with
  | .inr q=>Bar L q
  | .inl (b',mv')=>Kept L S b'/\(mv'=false->mv=false/\b'=b/\∀x∈r,An b x)/\left (size L) b' L<=left (size L) b L/\(mv'=true->mv=true\/left (size L) b' L<left (size L) b L)
 | [],k,b,mv,_,K=>⟨K,λh=>⟨h,rfl,λx hx=>by simp at hx⟩,Jc _,λh=> .inl h⟩
 | x::r,k,b,mv,hr,K=>by
  have e:L[k]? =some x:=by
   have:=congrArg (·[0]?) hr
   simpa using this
  have hr':L.drop (k+1)=r:=by
   have:=congrArg (List.drop 1) hr
   simpa [List.drop_drop,PJ]using this
  rw[hV];obtain⟨a,c,m⟩:=x;unfold gE
  cases z:b a with
  | none=>
   simp only[z]
   have ih:=ir r (k+1) b mv hr' K
   revert ih
   generalize hV L (k+1) r b mv=R
   cases R with
   | inr q=>exact id
   | inl p=>
    obtain⟨b',mv'⟩:=p
    rintro ⟨i1,i2,i3,i4⟩
    refine⟨i1,λh=> ?_,i3,i4⟩
    obtain⟨j1,j2,j3⟩:=i2 h;refine⟨j1,j2,λx hx=> ?_⟩
    rcases IW.mp hx with rfl | hx
    ·intro d w q;rw[z]at q;cases q
    ·exact j3 x hx
  | some y=>
   obtain⟨d,w⟩:=y;simp only[z]
   by_cases hb:d8 b c (d+m)=true
   ·rw[if_pos hb]
    by_cases hn:c∈eh L (w++ [k])
    ·rw[if_pos hn]
     exact K.round e z hb hn
    ·rw[if_neg hn]
     have K':=K.put e z hb hn
     have lt:=zf K e z hb hn
     have ih:=ir r (k+1) (put b c (d+m,w++ [k])) true hr' K'
     revert ih
     simp only
     generalize hV L (k+1) r (put b c (d+m,w++ [k])) true=R
     cases R with
     | inr q=>exact id
     | inl p=>
      obtain⟨b',mv'⟩:=p
      rintro ⟨i1,i2,i3,i4⟩
      refine⟨i1,λh=> ?_,by omega,λ_=> .inr (by omega)⟩
      obtain⟨j1,_⟩:=i2 h;cases j1
   ·rw[if_neg hb]
    have ih:=ir r (k+1) b mv hr' K
    revert ih
    simp only
    generalize hV L (k+1) r b mv=R
    cases R with
    | inr q=>exact id
    | inl p=>
     obtain⟨b',mv'⟩:=p
     rintro ⟨i1,i2,i3,i4⟩
     refine⟨i1,λh=> ?_,i3,i4⟩
     obtain⟨j1,j2,j3⟩:=i2 h;refine⟨j1,j2,λx hx=> ?_⟩
     rcases IW.mp hx with rfl | hx
     ·refine yb λd' w' q=> ?_
      simp only at q;rw[z]at q;cases q
      simpa using hb
     ·exact j3 x hx
structure Settled (L:bw ν)(S:List ν)(b:bW ν):Prop where
 walk:∀v d w,b v=some (d,w)->∃s∈S,Ch L s w v/\bZ L w=d/\v∉eh L w/\(eh L w).Nodup
 least:∀s∈S,∀v t,Wk L s v t->∃d w,b v=some (d,w)/\d<=t
theorem uk {L:bw ν}{S:List ν}{b:bW ν}(K:Kept L S b)(h:∀x∈L,An b x):Settled L S b where
 walk:=λv d w e=>by
  obtain⟨s,h1,h2,h3,h4,h5,_⟩:=K.walk v d w e;exact⟨s,h1,h2,h3,h4,h5⟩
 least:=by
  have go:∀{u v:ν} {t:Int},Wk L u v t->∀d w,b u=some (d,w)->∃d' w',b v=some (d',w')/\d'<=d+t:=by
   intro u v t hw
   induction hw with
   | nil a=>exact λd w e=>⟨d,w,e,by omega⟩
   | step e _ ih=>
    intro d w q;obtain⟨d1,w1,e1,l1⟩:=h _ e d w q;obtain⟨d2,w2,e2,l2⟩:=ih d1 w1 e1;exact⟨d2,w2,e2,by simp only at l1;omega⟩
  intro s hs v t hw;obtain⟨d,w,e,l⟩:=K.start s hs;obtain⟨d2,w2,e2,l2⟩:=go hw d w e;exact⟨d2,w2,e2,by omega⟩
theorem oh {L:bw ν}{S:List ν}:∀(n:Nat) (b:bW ν),Kept L S b->left (size L) b L<n->∃r,settle L n b=some r/\match r with
  | .inr q=>Bar L q
  | .inl b'=>Settled L S b'
 | 0,b,K,h=>by omega
 | n+1,b,K,h=>by
  have s:=ir L 0 b false rfl K;rw[settle]
  revert s
  generalize hV L 0 L b false=R
  cases R with
  | inr q=>exact λs=>⟨_,rfl,s⟩
  | inl p=>
   obtain⟨b',mv'⟩:=p
   rintro ⟨i1,i2,i3,i4⟩
   cases mv' with
   | false=>
    obtain⟨_,j2,j3⟩:=i2 rfl;subst j2
    exact⟨_,rfl,uk i1 j3⟩
   | true=>
    rcases i4 rfl with z | z
    ·cases z
    ·exact oh n b' i1 (by omega)
def start (S:List ν):bW ν:=λv=>if v∈S then some (0,[])else none
theorem mQ (L:bw ν)(S:List ν):Kept L S (start S) where
 walk:=λv d w e=>by
  unfold start at e
  split at e
  ·rename_i h
   cases e;refine⟨v,h,rfl,rfl,by simp[eh],by simp[eh],λp q u hpq hp=> ?_⟩
   obtain⟨rfl,rfl⟩:=List.append_eq_nil_iff.mp hpq.symm;cases hp;exact⟨0,[],by unfold start;rw[if_pos h],by simp[bZ]⟩
  ·cases e
 start:=λs hs=>⟨0,[],by unfold start;rw[if_pos hs],Ke _⟩
theorem zg (L:bw ν)(S:List ν):left (size L) (start S) L<=L.length*(2*size L+1):=by
 unfold left
 have:∀M:bw ν,(M.map λx=>val (size L) (start S) x.2.1).sum<=M.length*(2*size L+1):=by
  intro M
  induction M with
  | nil=>simp
  | cons x M ih=>
   rw[IM,KF,IV,Nat.succ_mul]
   have:val (size L) (start S) x.2.1<=2*size L+1:=by
    unfold val start;split
    ·exact Jc _
    ·rename_i h
     split at h
     ·cases h;simp;omega
     ·cases h
   omega
 exact this L
theorem um (L:bw ν)(S:List ν){n:Nat}(h:L.length*(2*size L+1)<n):∃r,settle L n (start S)=some r/\match r with
  | .inr q=>Bar L q
  | .inl b'=>Settled L S b':=oh n (start S) (mQ L S) (O5 (zg L S) h)
theorem Bar.neg {L:bw ν}{q:List Nat}(h:Bar L q):¬ dq L:=λn=>by
 obtain⟨_,⟨a,ha⟩,hc,_⟩:=h
 have:=n a _ ha.wk;omega
theorem Settled.holds {L:bw ν}{S:List ν}{b:bW ν}(h:Settled L S b)(hS:∀x∈L,x.1∈S/\x.2.1∈S){t:ν->Int}(ht:∀v∈S,∃w,b v=some (t v,w)):Holds L t:=λa c m hx=>by
 obtain⟨ha,hc⟩:=hS _ hx;obtain⟨w,e⟩:=ht a ha;obtain⟨s,hs,h1,h2,_⟩:=h.walk a _ _ e;obtain⟨d,w',e',l⟩:=h.least s hs c _ (h1.wk.app (.one hx));obtain⟨w2,e2⟩:=ht c hc;rw[e2]at e';cases e';omega
inductive Pth (L:bw ν):ν->List ν->ν->Int->Prop
 | one {a b:ν} {m:Int}:(a,b,m)∈L->Pth L a [] b m
 | cons {a x b:ν} {ms:List ν} {m s:Int}:(a,x,m)∈L->Pth L x ms b s->Pth L a (x::ms) b (m+s)
theorem Pth.cut {L:bw ν}{x:ν}{q:List ν}:∀{p:List ν} {a b:ν} {s:Int},Pth L a (p++x::q) b s->∃s1 s2,Pth L a p x s1/\Pth L x q b s2/\s=s1+s2
 | [],a,b,s,h=>by
  cases h with
  | cons e h=>exact⟨_,_,.one e,h,rfl⟩
 | y::p,a,b,s,h=>by
  cases h with
  | cons e h=>
   obtain⟨s1,s2,h1,h2,h3⟩:=Pth.cut h;exact⟨_,s2,.cons e h1,h2,by omega⟩
def Ft (L:bw ν)(u v:ν)(s:Int):Prop:=(u=v/\s=0)\/(u≠v/\∃ms,Pth L u ms v s/\ms.Nodup/\u∉ms/\v∉ms)
def Au (L:bw ν):Prop:=∃x ms s,Pth L x ms x s/\ms.Nodup/\x∉ms/\s<0
theorem Wk.simple {L:bw ν}{u v:ν}{s:Int}(w:Wk L u v s):Au L\/∃s',s'<=s/\Ft L u v s':=by
 induction w with
 | nil a=>exact .inr ⟨0,Ke _,.inl ⟨rfl,rfl⟩⟩
 | @step a b c m s e w ih=>
  rcases ih with ih | ⟨s',hs,ih⟩
  ·exact .inl ih
  by_cases hab:a=b
  ·subst hab
   by_cases hm:m<0
   ·exact .inl ⟨a,[],m,.one e,KU,by simp,hm⟩
   ·exact .inr ⟨s',by omega,ih⟩
  rcases ih with⟨rfl,rfl⟩ | ⟨hbc,ms,hp,hn,hb,hc⟩
  ·exact .inr ⟨m,by omega,.inr ⟨hab,[],.one e,KU,by simp,by simp⟩⟩
  by_cases hac:a=c
  ·subst hac
   by_cases hm:m+s'<0
   ·exact .inl ⟨a,b::ms,m+s',.cons e hp,Jq.mpr ⟨hb,hn⟩,by simp[hab,hc],hm⟩
   ·exact .inr ⟨0,by omega,.inl ⟨rfl,rfl⟩⟩
  by_cases ham:a∈ms
  ·obtain⟨p,q,rfl⟩:=O6 ham
   obtain⟨s1,s2,h1,h2,h3⟩:=hp.cut;rw[JR]at hn;obtain⟨n1,n2,n3⟩:=hn;rw[Jq]at n2
   have hap:a∉p:=λz=>n3 a z a IL rfl
   by_cases hm:m+s1<0
   ·refine .inl ⟨a,b::p,m+s1,.cons e h1,Jq.mpr ⟨λz=>hb (Ks _ z),n1⟩,by simp[hab,hap],hm⟩
   ·exact .inr ⟨s2,by omega,.inr ⟨hac,q,h2,n2.2,n2.1,λz=>hc (Jn _ (IJ _ z))⟩⟩
  ·refine .inr ⟨m+s',by omega,.inr ⟨hac,b::ms,.cons e hp,Jq.mpr ⟨hb,hn⟩,by simp[hab,ham],?_⟩⟩
   simp only[IW,not_or];exact⟨λz=>hbc z.symm,hc⟩
abbrev dD (ν:Type):=ν->ν->Option Int
def iN (f:dD ν)(a b:ν)(x:Int):dD ν:=λu v=>if u=a/\v=b then some x else f u v
def lF (f:dD ν)(a b:ν)(x:Int):dD ν:=match f a b with
 | none=>iN f a b x
 | some y=>if x<y then iN f a b x else f
def j8 (mid one other:ν)(f:dD ν):dD ν:=match f one mid,f mid other with
 | some x,some y=>lF f one other (x+y)
 | _,_=>f
def rq (P:List ν):dD ν:=λu v=>if u∈P/\u=v then some 0 else none
def x5 (P:List ν)(L:bw ν):dD ν:=L.foldl (λf x=>lF f x.1 x.2.1 x.2.2) (rq P)
def j9 (mid one:ν)(P:List ν)(f:dD ν):dD ν:=P.foldl (λf other=>j8 mid one other f) f
def mV (mid:ν)(Q P:List ν)(f:dD ν):dD ν:=Q.foldl (λf one=>j9 mid one P f) f
def tq (M P:List ν)(f:dD ν):dD ν:=M.foldl (λf mid=>mV mid P P f) f
def table (P:List ν)(L:bw ν):dD ν:=tq P P (x5 P L)
def Le (f g:dD ν):Prop:=∀u v x,g u v=some x->∃y,f u v=some y/\y<=x
theorem Le.refl (f:dD ν):Le f f:=λu v x h=>⟨x,h,Ke _⟩
theorem Le.trans {f g h:dD ν}(a:Le f g)(b:Le g h):Le f h:=λu v x e=>by
 obtain⟨y,e1,l1⟩:=b u v x e;obtain⟨z,e2,l2⟩:=a u v y e1;exact⟨z,e2,by omega⟩
theorem kS {f:dD ν}{a b:ν}{x:Int}:iN f a b x a b=some x:=by unfold iN;rw[if_pos ⟨rfl,rfl⟩]
theorem qF (f:dD ν)(a b:ν)(x:Int):Le (lF f a b x) f:=λu v y e=>by
 unfold lF
 cases q:f a b with
 | none=>
  by_cases z:u=a/\v=b
  ·obtain⟨rfl,rfl⟩:=z;rw[q]at e;cases e
  ·exact⟨y,by simp only;unfold iN;rw[if_neg z];exact e,Ke _⟩
 | some y0=>
  simp only;split
  ·by_cases z:u=a/\v=b
   ·obtain⟨rfl,rfl⟩:=z;rw[q]at e;cases e
    exact⟨x,kS,by omega⟩
   ·exact⟨y,by unfold iN;rw[if_neg z];exact e,Ke _⟩
  ·exact⟨y,e,Ke _⟩
theorem vU (f:dD ν)(a b:ν)(x:Int):∃y,lF f a b x a b=some y/\y<=x:=by
 unfold lF
 cases q:f a b with
 | none=>exact⟨x,kS,Ke _⟩
 | some y0=>
  simp only;split
  ·exact⟨x,kS,Ke _⟩
  ·exact⟨y0,q,by omega⟩
theorem mY {L:bw ν}{f:dD ν}{a b:ν}{x:Int}(h:∀u v y,f u v=some y->Wk L u v y)(hx:Wk L a b x):∀u v y,lF f a b x u v=some y->Wk L u v y:=λu v y e=>by
 have key:iN f a b x u v=some y->Wk L u v y:=λe'=>by
  unfold iN at e'
  by_cases z:u=a/\v=b
  ·rw[if_pos z]at e';injection e' with e';rw[z.1,z.2,<-e'];exact hx
  ·rw[if_neg z]at e';exact h u v y e'
 unfold lF at e
 cases q:f a b with
 | none=>rw[q]at e;exact key e
 | some y0=>
  rw[q]at e;simp only at e
  split at e
  ·exact key e
  ·exact h u v y e
theorem tj (mid one other:ν)(f:dD ν):Le (j8 mid one other f) f:=by
 unfold j8;split
 ·exact qF _ _ _ _
 ·exact Le.refl f
theorem zM {mid one other:ν}{f:dD ν}{x y:Int}(h1:f one mid=some x)(h2:f mid other=some y):∃z,j8 mid one other f one other=some z/\z<=x+y:=by
 unfold j8;rw[h1,h2];exact vU _ _ _ _
theorem jb {α:Type}(step:dD ν->α->dD ν)(hs:∀f a,Le (step f a) f):∀(l:List α) (f:dD ν),Le (l.foldl step f) f
 | [],f=>Le.refl f
 | a::l,f=>(jb step hs l (step f a)).trans (hs f a)
theorem mU (mid one:ν)(P:List ν)(f:dD ν):Le (j9 mid one P f) f:=jb _ (λf o=>tj mid one o f) P f
theorem tp (mid:ν)(Q P:List ν)(f:dD ν):Le (mV mid Q P f) f:=jb _ (λf o=>mU mid o P f) Q f
theorem zR (M P:List ν)(f:dD ν):Le (tq M P f) f:=jb _ (λf o=>tp o P P f) M f
theorem lM {α:Type}(step:dD ν->α->dD ν)(hs:∀f a,Le (step f a) f):∀(l:List α) (f:dD ν) (a:α),a∈l->∃g,Le g f/\Le (l.foldl step f) (step g a)
 | [],f,a,h=>by simp at h
 | b::l,f,a,h=>by
  rcases IW.mp h with rfl | h
  ·exact⟨f,Le.refl f,jb step hs l (step f a)⟩
  ·obtain⟨g,h1,h2⟩:=lM step hs l (step f b) a h
   exact⟨g,h1.trans (hs f b),h2⟩
theorem zQ {mid u v:ν}{P:List ν}{f:dD ν}{x y:Int}(hu:u∈P)(hv:v∈P)(h1:f u mid=some x)(h2:f mid v=some y):∃z,mV mid P P f u v=some z/\z<=x+y:=by
 obtain⟨g,g1,g2⟩:=lM (λf one=>j9 mid one P f) (λf o=>mU mid o P f) P f u hu
 obtain⟨g',g3,g4⟩:=lM (λf other=>j8 mid u other f) (λf o=>tj mid u o f) P g v hv
 have l:Le g' f:=g3.trans g1;obtain⟨x',e1,l1⟩:=l _ _ _ h1;obtain⟨y',e2,l2⟩:=l _ _ _ h2;obtain⟨z,e3,l3⟩:=zM e1 e2;obtain⟨z',e4,l4⟩:=(g2.trans g4) _ _ _ e3;exact⟨z',e4,by omega⟩
def Up (L:bw ν)(M:List ν)(f:dD ν):Prop:=∀u v ms s,Pth L u ms v s->ms.Nodup->(∀x∈ms,x∈M)->∃y,f u v=some y/\y<=s
theorem Pth.ends {L:bw ν}{P:List ν}(hL:∀x∈L,x.1∈P/\x.2.1∈P){u v:ν}{ms:List ν}{s:Int}(h:Pth L u ms v s):u∈P/\v∈P/\∀x∈ms,x∈P:=by
 induction h with
 | one e=>exact⟨(hL _ e).1,(hL _ e).2,by simp⟩
 | cons e _ ih=>exact⟨(hL _ e).1,ih.2.1,λx hx=>by
   rcases IW.mp hx with rfl | hx
   ·exact ih.1
   ·exact ih.2.2 x hx⟩
theorem Up.mid {L:bw ν}{P M:List ν}{f:dD ν}(hL:∀x∈L,x.1∈P/\x.2.1∈P)(h:Up L M f)(k:ν):Up L (k::M) (mV k P P f):=λu v ms s hp hn hm=>by
 by_cases hk:k∈ms
 ·obtain⟨p,q,rfl⟩:=O6 hk
  obtain⟨s1,s2,h1,h2,h3⟩:=hp.cut;rw[JR]at hn;obtain⟨n1,n2,n3⟩:=hn;rw[Jq]at n2
  have hp':∀x∈p,x∈M:=λx hx=>by
   rcases IW.mp (hm x (Ks _ hx))with rfl | z
   ·exact absurd rfl (n3 x hx x IL)
   ·exact z
  have hq':∀x∈q,x∈M:=λx hx=>by
   rcases IW.mp (hm x (Jn _ (IJ _ hx)))with rfl | z
   ·exact absurd hx n2.1
   ·exact z
  obtain⟨y1,e1,l1⟩:=h u k p s1 h1 n1 hp';obtain⟨y2,e2,l2⟩:=h k v q s2 h2 n2.2 hq';obtain⟨z,e3,l3⟩:=zQ (P:=P) (h1.ends hL).1 (h2.ends hL).2.1 e1 e2;exact⟨z,e3,by omega⟩
 ·obtain⟨y,e,l⟩:=h u v ms s hp hn λx hx=>by
   rcases IW.mp (hm x hx)with rfl | z
   ·exact absurd hx hk
   ·exact z
  obtain⟨z,e2,l2⟩:=tp k P P f u v y e;exact⟨z,e2,by omega⟩
theorem Up.Iw {L:bw ν}{P:List ν}(hL:∀x∈L,x.1∈P/\x.2.1∈P):∀(Q M:List ν) (f:dD ν),Up L M f->∃M',(∀x,x∈Q\/x∈M->x∈M')/\Up L M' (tq Q P f)
 | [],M,f,h=>⟨M,λx hx=>hx.elim (λz=>by simp at z) id,h⟩
 | k::Q,M,f,h=>by
  obtain⟨M',h1,h2⟩:=Up.Iw hL Q (k::M) (mV k P P f) (h.mid hL k);refine⟨M',λx hx=>h1 x ?_,h2⟩
  rcases hx with hx | hx
  ·rcases IW.mp hx with rfl | hx
   ·exact .inr IL
   ·exact .inl hx
  ·exact .inr (IJ _ hx)
theorem AO {P:List ν}{L:bw ν}:Up L [] (x5 P L):=λu v ms s hp hn hm=>by
 have:ms= []:=by
  cases ms with
  | nil=>rfl
  | cons x r=>exact absurd (hm x IL) (by simp)
 subst this
 cases hp with
 | one e=>
  obtain⟨g,h1,h2⟩:=lM (λ(f:dD ν) (x:ν×ν×Int)=>lF f x.1 x.2.1 x.2.2) (λf x=>qF f _ _ _) L (rq P) _ e
  obtain⟨y,e1,l1⟩:=vU g u v s;obtain⟨z,e2,l2⟩:=h2 u v y e1;exact⟨z,e2,by omega⟩
theorem fP {α:Type}{L:bw ν}(step:dD ν->α->dD ν):∀(l:List α) (f:dD ν),(∀f,∀a∈l,(∀u v y,f u v=some y->Wk L u v y)->∀u v y,step f a u v=some y->Wk L u v y)->(∀u v y,f u v=some y->Wk L u v y)->∀u v y,l.foldl step f u v=some y->Wk L u v y
 | [],f,_,h=>h
 | a::l,f,hs,h=>fP step l (step f a) (λf b hb=>hs f b (IJ _ hb)) (hs f a IL h)
theorem k8 (P:List ν)(L:bw ν):∀u v y,table P L u v=some y->Wk L u v y:=by
 unfold table tq;refine fP _ P _ (λf m _ h=> ?_) ?_
 ·unfold mV
  refine fP _ P _ (λf o _ h=> ?_) h
  unfold j9;refine fP _ P _ (λf v _ h=> ?_) h
  unfold j8
  cases e1:f o m with
  | none=>exact h
  | some x=>
   cases e2:f m v with
   | none=>exact h
   | some y=>exact mY h ((h _ _ _ e1).app (h _ _ _ e2))
 ·unfold x5
  refine fP _ L _ (λf x hx h=>mY h (.one hx)) λu v y e=> ?_
  unfold rq at e
  split at e
  ·rename_i z;obtain⟨_,rfl⟩:=z;cases e;exact .nil u
  ·cases e
theorem ro {P:List ν}{L:bw ν}(hL:∀x∈L,x.1∈P/\x.2.1∈P):∀u v ms s,Pth L u ms v s->ms.Nodup->∃y,table P L u v=some y/\y<=s:=λu v ms s hp hn=>by
 obtain⟨M',h1,h2⟩:=Up.Iw hL P [] (x5 P L) AO;exact h2 u v ms s hp hn λx hx=>h1 x (.inl ((hp.ends hL).2.2 x hx))
theorem lW {P:List ν}{L:bw ν}{u:ν}(hu:u∈P):∃y,table P L u u=some y/\y<=0:=by
 have h0:rq P u u=some 0:=by unfold rq;rw[if_pos ⟨hu,rfl⟩]
 have h1:Le (table P L) (rq P):=(zR P P _).trans (jb _ (λf x=>qF f _ _ _) L _)
 exact h1 u u 0 h0
structure gc (L:bw ν)(P:List ν)(f:dD ν):Prop where
 is:∀u v d,f u v=some d->Wk L u v d
 le:∀u∈P,∀v t,Wk L u v t->∃d,f u v=some d/\d<=t
theorem wC {P:List ν}{L:bw ν}{u:ν}{y:Int}(h:table P L u u=some y)(hy:y<0):¬ dq L:=λn=>by
 have:=n u y (k8 P L u u y h);omega
theorem rp {P:List ν}{L:bw ν}(hL:∀x∈L,x.1∈P/\x.2.1∈P)(h:∀u∈P,∀y,table P L u u=some y->0<=y):dq L/\gc L P (table P L):=by
 have nc:¬ Au L:=λ⟨x,ms,s,hp,hn,_,hs⟩=>by
  obtain⟨y,e,l⟩:=ro hL x x ms s hp hn
  have:=h x (hp.ends hL).1 y e;omega
 have le:∀u∈P,∀v t,Wk L u v t->∃d,table P L u v=some d/\d<=t:=λu hu v t w=>by
  rcases w.simple with z | ⟨s',hs,z⟩
  ·exact absurd z nc
  ·rcases z with⟨rfl,rfl⟩ | ⟨_,ms,hp,hn,_⟩
   ·obtain⟨y,e,l⟩:=lW (L:=L) hu
    exact⟨y,e,by omega⟩
   ·obtain⟨y,e,l⟩:=ro hL u v ms s' hp hn
    exact⟨y,e,by omega⟩
 refine⟨λa s w=> ?_,λu v d e=>k8 P L u v d e,le⟩
 by_cases ha:a∈P
 ·obtain⟨d,e,l⟩:=le a ha a s w
  have:=h a ha d e;omega
 ·cases w with
  | nil=>exact Ke _
  | step e _=>exact absurd (hL _ e).1 ha
end Gr
namespace G
open PySem Tr
def isI:T->Bool
 | .int _=>true
 | _=>false
theorem B9 (t:T)(h:t.pl=true):eG [t] = .ok (.bl (isI t)):=by
 cases t <;> first | rfl | (simp[T.pl]at h;done)
def bo (t:T)(a b:Int):Bool:=match t with
 | .int i=>decide (a<=i)&&decide (i<=b)
 | _=>false
theorem fh (t:T)(a b:Int)(h:t.pl=true):aX [t,.int a,.int b] = .ok (.bl (bo t a b)):=by
 refine Eq.trans (?_:_= .ok (.bl (isI t&&bo t a b))) (by cases t <;> rfl)
 refine bc rfl (bK (gV (aJ (ts:=[t]) rfl (B9 t h)) λq=> ?_))
 cases t with
 | int i=>
  show(match T.bl (decide (a<=i))with | .bl true=>Rs.ok (T.bl (decide (i<=b))) | .bl false=> .ok (.bl false) | _=> .bad)=Rs.ok (T.bl (decide (a<=i)&&decide (i<=b)))
  cases decide (a<=i) <;> rfl
 | _=>cases q
def d6 (t:T)(a b:Nat):Bool:=match t with
 | .tup l=>decide (a<=l.length)&&decide (l.length<=b)
 | _=>false
theorem jL (t:T)(a b:Nat)(h:t.pl=true):aN [t,.int a,.int b] = .ok (.bl (d6 t a b)):=by
 cases t with
 | tup l=>
  simp[aN,val,d7,o7,bD,aR,cP,o1,vr,zF,T.ty,vN,ch,cl,af,ai,cV,T.items,uO,d6]
  cases decide (a<=l.length) <;> rfl
 | scr _=>simp[T.pl]at h
 | dct _ _=>simp[T.pl]at h
 | ob _ _ _=>simp[T.pl]at h
 | _=>rfl
def pX (x y:T):Bool:=bo x 1 9&&(match x with
 | .int i=>bo y i 9
 | _=>false)
theorem Fb (x y:T)(hx:x.pl=true)(hy:y.pl=true):i9 [x,y] = .ok (.bl (pX x y)):=
 bc rfl (bK (gV (aJ (ts:=[x,.int 1,.int 9]) rfl (fh x 1 9 hx)) λq=>by
  cases x with
  | int i=>exact aJ (ts:=[y,.int i,.int 9]) rfl (fh y i 9 hy)
  | _=>cases q))
def nE:List Int->Bool
 | a::b::r=>decide (a<b)&&nE (b::r)
 | _=>true
theorem FY (a b:Int)(r:List Int):nE (a::b::r)=(decide (a<b)&&nE (b::r)):=rfl
theorem qS {fe:En->Rs T}{p:T->Bool}{l:List T}{fi:En->Rs (List T)}{src:List (Option Nat)}{Z:En}(hi:fi Z= .ok l)(hs:l.length<=sizeLine)(hn:0<src.length)(hf:∀t∈l,fe ((bH src Z).set 0 (.va t))= .ok (.bl (p t))) :
  cl nu (af (dQ fi src (gN 0) bT fe) ai) Z= .ok (.bl (l.all p)):=by
 have e:=uF l (bH src Z) (by unfold bH;rw[IP];exact hn) hf
 simp only[cl,af,ai,dQ,hi,aG,if_pos hs,e,all_map]
def kQ (l:List T):T->Bool
 | .int k=>match L2.atI l k,L2.atI l (k+1)with
  | some (.int a),some (.int b)=>decide (a<b)
  | _,_=>false
 | _=>false
theorem pK {t:T}{j:Int}(h:t∈rng 0 j):∃k:Nat,t= .int k/\(k:Int)<j:=by
 unfold rng at h;obtain⟨k,hk,e⟩:=Jh.mp h;rw[JJ]at hk;exact⟨k,by rw[<-e];simp,by omega⟩
theorem Dr:(l:List Int)->l.length<=4->(rng 0 ((l.length:Int) - 1)).all (kQ (l.map .int))=nE l
 | [],_=>rfl
 | [a],_=>rfl
 | [a,b],_=>by simp[rng,MV,kQ,L2.atI,L2.ixN,nE]
 | [a,b,c],_=>by simp[rng,MV,kQ,L2.atI,L2.ixN,nE]
 | [a,b,c,d],_=>by simp[rng,MV,kQ,L2.atI,L2.ixN,nE,Bool.and_assoc]
 | a::b::c::d::e::r,h=>absurd h (by simp only[IV];omega)
theorem Cc (l:List Int)(h:l.length<=4):i8 [.tup (l.map .int)] = .ok (.bl (nE l)):=by
 have hr:iR (af (o2 fw (cl cV (af (vr 0) ai)) (cn (.int 1))) ai) [.va (.tup (l.map .int))] = .ok (rng 0 ((l.length:Int) - 1)):=by
  have:Az ((l.length:Int) - 1)=true:=by unfold Az;rw[IT];exact⟨decide_eq_true (by omega),decide_eq_true (by omega)⟩
  simp[iR,af,ai,o2,cl,vr,cn,cV,T.items,fw,this]
 have hs:(rng 0 ((l.length:Int) - 1)).length<=sizeLine:=by
  unfold rng sizeLine;rw[IP,Kz];omega
 have e:=qS (fe:=o2 qr (o2 aP (vr 1) (vr 0)) (o2 aP (vr 1) (o2 aK (vr 0) (cn (.int 1))))) (p:=kQ (l.map .int)) (src:=[none,some 0]) hr hs (by decide) (λt ht=>by
  obtain⟨k,rfl,hk⟩:=pK ht
  have h1:(l.map T.int)[k]? =some (.int (l[k]'(by omega))):=by simp
  have h2:(l.map T.int)[k+1]? =some (.int (l[k+1]'(by omega))):=by rw[Jm,IU (by omega)];rfl
  have g1:=jP h1
  have g2:L2.atI (l.map T.int) ((k:Int)+1)=some (.int (l[k+1]'(by omega))):=jP h2
  simp[o2,vr,bH,cn,aK,aP,T.items,g1,g2,uO,kQ])
 rw[Dr l h]at e;simp only[i8,val,Kk,if_true,wg,d7,aR,bD]
 show(do let f <-(do let t <-cl nu _ [.va (.tup (l.map .int))];Rs.ok (Fl.rt t));_)=_
 rw[e]
 rfl
def j0:List T->Option (List Int)
 | [] =>some []
 | .int i::l=>match j0 l with
  | some m=>some (i::m)
  | none=>none
 | _::_=>none
def cW (t:T):Bool:=d6 t 1 4&&(match t with
 | .tup l=>l.all (λu=>bo u 0 99)&&(match j0 l with | some m=>nE m | none=>false)
 | _=>false)
theorem mE:∀{l:List T} {m:List Int},j0 l=some m->l=m.map .int
 | [],m,h=>by cases h;rfl
 | t::l,m,h=>by
  cases t with
  | int i=>
   unfold j0 at h
   cases q:j0 l with
   | none=>rw[q]at h;cases h
   | some m'=>rw[q]at h;cases h;rw[IM,<-mE q]
  | _=>cases h
theorem qc:∀{l:List T} {a b:Int},(l.all λu=>bo u a b)=true->∃m,j0 l=some m
 | [],_,_,_=>⟨[],rfl⟩
 | t::l,a,b,h=>by
  rw[List.all_cons,IT]at h
  cases t with
  | int i=>
   obtain⟨m,e⟩:=qc h.2
   exact⟨i::m,by unfold j0;rw[e]⟩
  | _=>exact absurd h.1 (by simp[bo])
theorem dg {t:T}{a b:Nat}(h:d6 t a b=true):∃l,t= .tup l/\a<=l.length/\l.length<=b:=by
 cases t with
 | tup l=>unfold d6 at h;rw[IT]at h;exact⟨l,rfl,of_decide_eq_true h.1,of_decide_eq_true h.2⟩
 | _=>cases h
theorem small {n k:Nat}(h:n<=k)(hk:autoParam (k<=1000) s_):n<=sizeLine:=by unfold sizeLine;omega
theorem uK (t:T)(h:t.pl=true):bN [t] = .ok (.bl (cW t)):=by
 have w:aN [t,.int 1,.int 4] = .ok (.bl (d6 t 1 4)):=jL t 1 4 h;unfold cW
 cases q:d6 t 1 4 with
 | false=>rw[q]at w;simp[bN,val,d7,ef,bD,ay,eR,dS,tb,sN,aR,cl,vr,cn,af,ai,w]
 | true=>
  rw[q]at w;obtain⟨l,rfl,h1,h2⟩:=dg q
  have hp:∀u∈l,u.pl=true:=λu hu=>jX (by unfold T.pl at h;exact h) hu
  have e:=qS (fe:=cl aX (af (vr 0) (af (cn (.int 0)) (af (cn (.int 99)) ai)))) (p:=λu=>bo u 0 99) (src:=[none]) (fi:=iS (vr 0)) (Z:=[.va (.tup l)]) rfl (small h2) (by decide) (λu hu=>by
   simp[cl,af,ai,vr,cn,bH,fh u 0 99 (hp u hu)])
  have w':cl aN (af (vr 0) (af (cn (.int 1)) (af (cn (.int 4)) ai))) [.va (.tup l)] = .ok (.bl true):=w
  show bN _= .ok (.bl (true&&(l.all (λu=>bo u 0 99)&&(match j0 l with | some m=>nE m | none=>false))))
  cases qa:l.all λu=>bo u 0 99 with
  | false=>
   rw[qa]at e
   simp[bN,val,d7,ef,bD,ay,eR,dS,tb,sN,aR,cP,e,w']
  | true=>
   rw[qa]at e;obtain⟨m,em⟩:=qc qa
   have el:=mE em
   have er:=Cc m (by rw[el,IP]at h2;exact h2)
   rw[<-el]at er
   have er':cl i8 (af (vr 0) ai) [.va (.tup l)] = .ok (.bl (nE m)):=er;simp[bN,val,d7,ef,bD,ay,eR,dS,tb,sN,aR,cP,e,w',er',em]
def at_ (t:T)(k:Nat):T:=match t.items with
 | some l=>l.getD k .non
 | none=> .non
def bL (t:T):Bool:=d6 t 3 3&&(match t with
 | .tup [x,y,r] =>pX x y&&cW r
 | _=>false)
theorem Ce (t:T)(h:t.pl=true):de [t] = .ok (.bl (bL t)):=by
 have w:aN [t,.int 3,.int 3] = .ok (.bl (d6 t 3 3)):=jL t 3 3 h;unfold bL
 cases q:d6 t 3 3 with
 | false=>rw[q]at w;simp[de,val,d7,g8,bD,aR,cP,cl,vr,cn,af,ai,w]
 | true=>
  rw[q]at w;obtain⟨l,rfl,h1,h2⟩:=dg q
  match l,h1,h2 with
  | [x,y,r],_,_=>
   simp[T.pl,plS]at h;obtain⟨px,py,pr⟩:=h
   have g0:aP (.tup [x,y,r]) (.int 0)= .ok x:=rfl
   have g1:aP (.tup [x,y,r]) (.int 1)= .ok y:=rfl
   have g2:aP (.tup [x,y,r]) (.int 2)= .ok r:=rfl
   have ep:=Fb x y px py
   have er:=uK r pr
   cases qp:pX x y with
   | false=>rw[qp]at ep;simp[de,val,d7,g8,bD,aR,cP,cl,vr,cn,af,ai,o2,w,g0,g1,ep,qp]
   | true=>rw[qp]at ep;simp[de,val,d7,g8,bD,aR,cP,cl,vr,cn,af,ai,o2,w,g0,g1,g2,ep,er,qp]
def bf (t:T):Bool:=d6 t 1 4&&(match t with
 | .tup l=>l.all bL
 | _=>false)
theorem z9 (t:T)(h:t.pl=true):dm [t] = .ok (.bl (bf t)):=by
 have w:aN [t,.int 1,.int 4] = .ok (.bl (d6 t 1 4)):=jL t 1 4 h;unfold bf
 cases q:d6 t 1 4 with
 | false=>rw[q]at w;simp[dm,val,d7,g9,bD,aR,cP,cl,vr,cn,af,ai,w]
 | true=>
  rw[q]at w;obtain⟨l,rfl,h1,h2⟩:=dg q
  have hp:∀u∈l,u.pl=true:=λu hu=>jX (by unfold T.pl at h;exact h) hu
  have e:=qS (fe:=cl de (af (vr 0) ai)) (p:=bL) (src:=[none]) (fi:=iS (vr 0)) (Z:=[.va (.tup l)]) rfl (small h2) (by decide) (λu hu=>by
   simp[cl,af,ai,vr,cn,bH,Ce u (hp u hu)])
  have w':cl aN (af (vr 0) (af (cn (.int 1)) (af (cn (.int 4)) ai))) [.va (.tup l)] = .ok (.bl true):=w;simp[dm,val,d7,g9,bD,aR,cP,e,w']
def fA (x y:T):Bool:=bo x 0 999&&(match x,y with
 | _,.non=>true
 | .int i,_=>bo y i 999
 | _,_=>false)
theorem Cd (x y:T)(hx:x.pl=true)(hy:y.pl=true):gQ [x,y] = .ok (.bl (fA x y)):=
 bc rfl (bK (gV (aJ (ts:=[x,.int 0,.int 999]) rfl (fh x 0 999 hx)) λq=>by
  cases x with
  | int i=>
   refine Eq.trans (EJ (p:=y.isN) (q:=bo y i 999) (aA (t:=y) (u:=.non) rfl rfl rfl) λ_=>aJ (ts:=[y,.int i,.int 999]) rfl (fh y i 999 hy)) ?_
   cases y <;> rfl
  | _=>cases q))
def reads (cs:List T)(c:Int):Nat:=if 0<=c then(match cs[c.toNat]? with
 | some (.tup [_,_,.tup r])=>r.length
 | _=>0)else 0
def bj (cs:List T)(t:T):Bool:=match t with
 | .tup [.int c,.int k] =>decide (0<=c)&&decide (c<cs.length)&&(decide (0<=k)&&decide (k<reads cs c))
 | _=>false
theorem lu {t:T}(h:bL t=true):∃x y r,t= .tup [x,y,.tup r]:=by
 unfold bL at h;rw[IT]at h;obtain⟨h1,h2⟩:=h;obtain⟨l,rfl,h3,h4⟩:=dg h1
 match l,h3,h4,h2 with
 | [x,y,r],_,_,h2=>
  simp only[IT]at h2;obtain⟨_,h5⟩:=h2;unfold cW at h5;rw[IT]at h5;obtain⟨m,rfl,_⟩:=dg h5.1;exact⟨x,y,m,rfl⟩
theorem cZ {t:T}{a b:Int}(h:bo t a b=true):∃i,t= .int i/\a<=i/\i<=b:=by
 cases t with
 | int i=>unfold bo at h;rw[IT]at h;exact⟨i,rfl,of_decide_eq_true h.1,of_decide_eq_true h.2⟩
 | _=>cases h
theorem qI (cs:List T)(t:T)(hc:bf (.tup cs)=true)(h:t.pl=true):dG [.tup cs,t] = .ok (.bl (bj cs t)):=by
 have w:aN [t,.int 2,.int 2] = .ok (.bl (d6 t 2 2)):=jL t 2 2 h
 cases q:d6 t 2 2 with
 | false=>
  rw[q]at w
  have:bj cs t=false:=by
   unfold bj;split
   ·cases q
   ·rfl
  rw[this]
  exact bc rfl (dH ((dB (sX (dn (k:=false) (bq (aJ (ts:=[t,.int 2,.int 2]) rfl w))))).trans rfl))
 | true=>
  rw[q]at w;obtain⟨l,rfl,h1,h2⟩:=dg q
  match l,h1,h2 with
  | [x,y],_,_=>
   simp[T.pl,plS]at h;obtain⟨px,py⟩:=h
   have g0:aP (.tup [x,y]) (.int 0)= .ok x:=rfl
   have g1:aP (.tup [x,y]) (.int 1)= .ok y:=rfl
   have gl:cV [.tup cs] = .ok (.int cs.length):=rfl
   have e1:=fh x 0 ((cs.length:Int) - 1) px
   cases q1:bo x 0 ((cs.length:Int) - 1)with
   | false=>
    rw[q1]at e1
    have:bj cs (.tup [x,y])=false:=by
     cases x with
     | int c=>
      cases y with
      | int k=>
       simp only[bo,Oj,decide_eq_false_iff_not]at q1;simp only[bj,Oj,decide_eq_false_iff_not]
       omega
      | _=>rfl
     | _=>rfl
    rw[this]
    exact bc rfl (dH ((dB (jv (dn (k:=true) (bq (aJ (ts:=[.tup [x,y],.int 2,.int 2]) rfl w))) (dn (k:=false) (bq (aJ (ts:=[x,.int 0,.int ((cs.length:Int) - 1)]) rfl e1))))).trans rfl))
   | true=>
    rw[q1]at e1;obtain⟨c,rfl,c1,c2⟩:=cZ q1;obtain⟨n,rfl⟩:=Jz c1
    have hn:n<cs.length:=by omega
    have hcl:bL cs[n] =true:=by
     unfold bf at hc;rw[IT]at hc;exact Jf.mp hc.2 _ (Ku hn)
    obtain⟨a,b,r,er⟩:=lu hcl
    have g2:aP (.tup cs) (.int (n:Int))= .ok (.tup [a,b,.tup r]):=by
     simp only[aP,T.items];rw[jP (IU hn),er]
    have g3:aP (.tup [a,b,.tup r]) (.int 2)= .ok (.tup r):=rfl
    have gr:cV [.tup r] = .ok (.int r.length):=rfl
    have e2:=fh y 0 ((r.length:Int) - 1) py
    have:bj cs (.tup [.int n,y])=bo y 0 ((r.length:Int) - 1):=by
     have er2:reads cs (n:Int)=r.length:=by
      unfold reads;rw[if_pos c1,JD,IU hn,er]
     cases y with
     | int k=>
      simp only[bj,bo,er2];rw[decide_eq_true c1,decide_eq_true (show(n:Int)<cs.length by omega)]
      simp only[KD]
      congr 1
      exact decide_eq_decide.mpr (by omega)
     | _=>rfl
    rw[this];exact bc rfl ((az ((cH (jv (dn (k:=true) (bq (aJ (ts:=[.tup [.int n,y],.int 2,.int 2]) rfl w))) (dn (k:=true) (bq (aJ (ts:=[.int n,.int 0,.int ((cs.length:Int) - 1)]) rfl e1))))).trans rfl)).trans (bK (aJ (ts:=[y,.int 0,.int ((r.length:Int) - 1)]) (ar rfl (ar rfl (ar (aA (t:=.int (r.length:Nat)) (u:=.int 1) (aJ (ts:=[.tup r]) (ar (aA (t:=.tup [a,b,.tup r]) (u:=.int 2) (aA (t:=.tup cs) (u:=.int n) rfl rfl g2) rfl g3) rfl) rfl) rfl rfl) rfl))) e2)))
def bP (cs:List T)(t:T):Bool:=match t with
 | .tup [a,b,x,y] =>fA x y&&(bj cs a&&(bj cs b&& !aV a b))
 | _=>false
theorem fg {cs:List T}{t:T}(h:bj cs t=true):∃c k:Int,t= .tup [.int c,.int k]:=by
 unfold bj at h
 split at h
 ·exact⟨_,_,rfl⟩
 ·cases h
theorem zZ (cs:List T)(t:T)(hc:bf (.tup cs)=true)(h:t.pl=true):eX [.tup cs,t] = .ok (.bl (bP cs t)):=by
 have w:aN [t,.int 4,.int 4] = .ok (.bl (d6 t 4 4)):=jL t 4 4 h
 cases q:d6 t 4 4 with
 | false=>
  rw[q]at w
  have:bP cs t=false:=by
   unfold bP;split
   ·cases q
   ·rfl
  rw[this]
  exact bc rfl (dH ((dB (sX (dn (k:=false) (bq (aJ (ts:=[t,.int 4,.int 4]) rfl w))))).trans rfl))
 | true=>
  rw[q]at w;obtain⟨l,rfl,h1,h2⟩:=dg q
  match l,h1,h2 with
  | [a,b,x,y],_,_=>
   simp[T.pl,plS]at h;obtain⟨pa,pb,px,py⟩:=h
   have e1:=Cd x y px py
   have w':=dn (k:=true) (bq (aJ (g:=aN) (ts:=[.tup [a,b,x,y],.int 4,.int 4]) (fs:=af (vr 1) (af (cn (.int 4)) (af (cn (.int 4)) ai))) (Z:=[.va (.tup cs),.va (.tup [a,b,x,y])]) rfl w))
   show _=Rs.ok (T.bl (fA x y&&(bj cs a&&(bj cs b&& !aV a b))))
   cases q1:fA x y with
   | false=>
    rw[q1]at e1
    exact bc rfl (dH ((dB (jv w' (dn (k:=false) (bq (aJ (ts:=[x,y]) rfl e1))))).trans rfl))
   | true=>
    rw[q1]at e1;rw[KD];refine bc rfl ((az ((cH (jv w' (dn (k:=true) (bq (aJ (ts:=[x,y]) rfl e1))))).trans rfl)).trans (bK (gV (aJ (ts:=[.tup cs,a]) rfl (qI cs a hc pa)) λq2=>gV (aJ (ts:=[.tup cs,b]) rfl (qI cs b hc pb)) λ_=>aA (t:=a) (u:=b) rfl rfl ?_)))
    obtain⟨c,k,rfl⟩:=fg q2;unfold lb;rw[if_pos (fQ (by simp[T.dep,deps]) rfl (T.HL _ pb))]
def ja (cs:List T)(t:T):Bool:=d6 t 0 8&&(match t with
 | .tup l=>l.all (bP cs)
 | _=>false)
theorem xk (cs:List T)(t:T)(hc:bf (.tup cs)=true)(h:t.pl=true):cQ [.tup cs,t] = .ok (.bl (ja cs t)):=by
 have w:aN [t,.int 0,.int 8] = .ok (.bl (d6 t 0 8)):=jL t 0 8 h;unfold ja
 cases q:d6 t 0 8 with
 | false=>rw[q]at w;simp[cQ,val,d7,gv,bD,aR,cP,cl,vr,cn,af,ai,w]
 | true=>
  rw[q]at w;obtain⟨l,rfl,h1,h2⟩:=dg q
  have hp:∀u∈l,u.pl=true:=λu hu=>jX (by unfold T.pl at h;exact h) hu
  have e:=qS (fe:=cl eX (af (vr 1) (af (vr 0) ai))) (p:=bP cs) (src:=[none,some 0]) (fi:=iS (vr 1)) (Z:=[.va (.tup cs),.va (.tup l)]) rfl (small h2) (by decide) (λu hu=>by
   simp[cl,af,ai,vr,cn,bH,zZ cs u hc (hp u hu)])
  have w':cl aN (af (vr 1) (af (cn (.int 0)) (af (cn (.int 8)) ai))) [.va (.tup cs),.va (.tup l)] = .ok (.bl true):=w;simp[cQ,val,d7,gv,bD,aR,cP,e,w']
def lq (t:T):Bool:=match t with
 | .tup [.tup cs,ls] =>bf (.tup cs)&&ja cs ls
 | _=>false
theorem zY (t:T)(h:t.pl=true):fZ [t] = .ok (.bl (lq t)):=by
 have w:aN [t,.int 2,.int 2] = .ok (.bl (d6 t 2 2)):=jL t 2 2 h
 cases q:d6 t 2 2 with
 | false=>
  rw[q]at w
  have:lq t=false:=by
   unfold lq;split
   ·cases q
   ·rfl
  rw[this]
  exact bc rfl (bK (gW (aJ (ts:=[t,.int 2,.int 2]) rfl w)))
 | true=>
  rw[q]at w;obtain⟨l,rfl,h1,h2⟩:=dg q
  match l,h1,h2 with
  | [x,y],_,_=>
   simp[T.pl,plS]at h;obtain⟨px,py⟩:=h
   have g0:aP (.tup [x,y]) (.int 0)= .ok x:=rfl
   have g1:aP (.tup [x,y]) (.int 1)= .ok y:=rfl
   have e1:=z9 x px
   cases q1:bf x with
   | false=>
    rw[q1]at e1
    have:lq (.tup [x,y])=false:=by
     cases x with
     | tup cs=>show(bf (.tup cs)&&_)=false;rw[q1];rfl
     | _=>rfl
    rw[this]
    exact bc rfl (bK ((iJ (aJ (ts:=[.tup [x,y],.int 2,.int 2]) rfl w)).trans (gW (aJ (ts:=[x]) rfl e1))))
   | true=>
    rw[q1]at e1
    cases x with
    | tup cs=>
     have e2:=xk cs y q1 py
     have:lq (.tup [.tup cs,y])=ja cs y:=by show(bf (.tup cs)&&_)=_;rw[q1];rfl
     rw[this]
     exact bc rfl (bK ((iJ (aJ (ts:=[.tup [.tup cs,y],.int 2,.int 2]) rfl w)).trans ((iJ (aJ (ts:=[.tup cs]) rfl e1)).trans (aJ (ts:=[.tup cs,y]) rfl e2))))
    | _=>cases q1
theorem fE:∀m:List Int,deps (m.map .int)=0
 | [] =>rfl
 | a::m=>by rw[IM,deps,fE m];rfl
def lG (i n:Nat):List T:=(rng 0 n).map λt=>T.tup [.int i,t]
def Dt:T->Nat
 | .tup [_,_,.tup r] =>r.length
 | _=>0
def fR:Nat->List T->List T
 | _,[] => []
 | i,c::r=>lG i (Dt c)++fR (i+1) r
theorem dR {t:T}(h:bL t=true):∃x y r,t= .tup [x,y,.tup r]/\1<=r.length/\r.length<=4:=by
 obtain⟨x,y,r,rfl⟩:=lu h
 have:cW (.tup r)=true:=by
  have h':(pX x y&&cW (.tup r))=true:=h;rw[IT]at h';exact h'.2
 unfold cW at this;rw[IT]at this;obtain⟨l,e,h1,h2⟩:=dg this.1;cases e;exact⟨x,y,r,rfl,h1,h2⟩
theorem gJ (i n:Nat):(lG i n).length=n:=by unfold lG;rw[IP,jV]
abbrev evF:En->Rs Fl:=cg (o2 aK (vr 1) (dQ (iR (af (cl cV (af (o2 aP (vr 3) (cn (.int 2))) ai)) ai)) [none,some 2] (gN 0) bT (cp (af (vr 1) (af (vr 0) ai))))) (gN 1)
abbrev evG:T->En->Rs En:=gT 2 (kR (gN 2) (kR (gN 3) vP))
theorem EV {f:En->Rs (List T)}{Z:En}{j:Int}(h:f Z= .ok [.int j])(h0:0<=j)(h1:j<=100000):iR f Z= .ok (rng 0 j):=by
 have e:Az j=true:=by unfold Az;rw[IT];exact⟨decide_eq_true (by omega),decide_eq_true (by omega)⟩
 unfold iR;rw[h]
 show(if Az j=true then _ else _)=_
 rw[e];rfl
theorem lO (l m:List T)(h:(l++m).length<=1000):aK (.lst l) (.lst m)= .ok (.lst (l++m)):=by
 show ju (l++m)=_
 unfold ju;rw[if_pos (aI h)]
theorem Cr (l m:List T)(h:(l++m).length<=1000):aK (.tup l) (.tup m)= .ok (.tup (l++m)):=by
 show jt (l++m)=_
 unfold jt;rw[if_pos (aI h)]
theorem G1 (c0 acc x y:T)(r:List T)(i:Nat)(h:r.length<=4) :
  dQ (iR (af (cl cV (af (o2 aP (vr 3) (cn (.int 2))) ai)) ai)) [none,some 2] (gN 0) bT (cp (af (vr 1) (af (vr 0) ai))) [.va c0,.va acc,.va (.int i),.va (.tup [x,y,.tup r])] = .ok (.lst (lG i r.length)):=
 mS (EV rfl (by omega) (by omega)) (aI (by rw[jV];exact h)) (by simp) λt _=>mk2 _ _
theorem B5 (c0 x y:T)(acc r:List T)(i:Nat)(h:r.length<=4)(ha:acc.length<=100):evF [.va c0,.va (.lst acc),.va (.int i),.va (.tup [x,y,.tup r])] = .ok (.nx [.va c0,.va (.lst (acc++lG i r.length)),.va (.int i),.va (.tup [x,y,.tup r])]):=
 bJ (aA rfl (G1 c0 (.lst acc) x y r i h) (lO _ _ (by rw[IX,gJ];omega))) rfl
theorem vV:∀(cs:List T) (c0:T) (acc:List T) (i:Nat) (s2 s3:Sl),(∀c∈cs,bL c=true)->acc.length+4*cs.length<=100 →
  ∃y2 y3,bp evG evF (dh i cs) [.va c0,.va (.lst acc),s2,s3] = .ok (.nx [.va c0,.va (.lst (acc++fR i cs)),y2,y3])
 | [],c0,acc,i,s2,s3,_,_=>⟨s2,s3,by simp[dh,bp,fR]⟩
 | c::cs,c0,acc,i,s2,s3,hc,hl=>by
  obtain⟨x,y,r,rfl,r1,r2⟩:=dR (hc c IL);rw[IV]at hl;obtain⟨z2,z3,ih⟩:=vV cs c0 (acc++lG i r.length) (i+1) (.va (.int i)) (.va (.tup [x,y,.tup r])) (λc h=>hc c (IJ _ h)) (by rw[IX,gJ];omega)
  refine⟨z2,z3,?_⟩
  rw[dh,du rfl (B5 c0 x y acc r i r2 (by omega)),ih,fR,JE]
  rfl
theorem cx {cs:List T}(hc:bf (.tup cs)=true):(∀c∈cs,bL c=true)/\1<=cs.length/\cs.length<=4:=by
 unfold bf at hc;rw[IT]at hc;obtain⟨l,e,h1,h2⟩:=dg hc.1;cases e;exact⟨λc h=>Jf.mp hc.2 c h,h1,h2⟩
theorem z6 (cs:List T)(hc:bf (.tup cs)=true):dA [.tup cs] = .ok (.lst (fR 0 cs)):=by
 obtain⟨ha,h1,h2⟩:=cx hc;obtain⟨y2,y3,e⟩:=vV cs (.tup cs) [] 0 .em .em ha (by simp;omega)
 rw[Kp]at e;refine bc rfl ?_
 unfold jz;rw[az (Z':=[.va (.tup cs),.va (.lst []),.em,.em]) rfl,az ((ff rfl e))]
 rfl
theorem BS {n k:Nat}(h:k<n):T.int (k:Int)∈rng 0 (n:Int):=by
 unfold rng;exact Jh.mpr ⟨k,JJ.mpr (by omega),by simp⟩
theorem kG (cs:List T)(c:Nat):reads cs (c:Int)=Dt (cs.getD c .non):=by
 unfold reads;rw[if_pos (by omega),JD,LP]
 cases cs[c]? with
 | none=>rfl
 | some t=>
  cases t with
  | tup l=>
   match l with
   | [] =>rfl
   | [_] =>rfl
   | [_,_] =>rfl
   | [_,_,z] =>cases z <;> rfl
   | _::_::z::_::_=>cases z <;> rfl
  | _=>rfl
mutual
def sm (n:Nat):T->Bool
 | .dct _ _=>false
 | .ob _ _ _=>false
 | .scr _=>false
 | .tup l=>decide (l.length<=n)&&sms n l
 | .lst l=>decide (l.length<=n)&&sms n l
 | _=>true
def sms (n:Nat):List T->Bool
 | [] =>true
 | t::l=>sm n t&&sms n l
end
mutual
theorem CI {n:Nat}:∀(t:T),sm n t=true->t.pl=true
 | .scr _,h=>by simp[sm]at h
 | .dct _ _,h=>by simp[sm]at h
 | .ob _ _ _,h=>by simp[sm]at h
 | .tup l,h=>by rw[sm,IT]at h;rw[T.pl];exact sms_pl l h.2
 | .lst l,h=>by rw[sm,IT]at h;rw[T.pl];exact sms_pl l h.2
 | .non,_=>by simp[T.pl]
 | .bl _,_=>by simp[T.pl]
 | .int _,_=>by simp[T.pl]
 | .str _,_=>by simp[T.pl]
theorem sms_pl {n:Nat}:∀(l:List T),sms n l=true->plS l=true
 | [],_=>by simp[plS]
 | t::l,h=>by rw[sms,IT]at h;rw[plS,CI t h.1,sms_pl l h.2];rfl
end
theorem vh {n:Nat}:∀{l:List T},sms n l=true↔ ∀t∈l,sm n t=true
 | [] =>by simp[sms]
 | t::l=>by rw[sms,IT,vh];simp
theorem sm_tup {n:Nat}{l:List T}:sm n (.tup l)=true↔l.length<=n/\∀t∈l,sm n t=true:=by rw[sm,IT,vh,decide_eq_true_iff]
theorem jI {i j:Int}(h:0<j):j4 (.int i) (.int j)= .ok (.int (i % j)):=by show(if _ then _ else _)=_;rw[if_pos h]
theorem lN {i j:Int}(h:0<j)(h2:j<1073741824):kc (.int i) (.int j)= .ok (.int (i / j)):=by show(if _ then _ else _)=_;rw[if_pos ⟨h,h2⟩]
theorem mI {i j:Int}(h : -18446744073709551616<i)(h2:i<18446744073709551616):cJ (.int i) (.int j)= .ok (.int (i*j)):=by
 show uE (.int i) (.int j)=_
 show(if _ then _ else _)=_
 rw[if_pos (.inl ⟨by omega,by omega⟩)]
theorem yZ {i j:Int}(h : -18446744073709551616<j)(h2:j<18446744073709551616):cJ (.int i) (.int j)= .ok (.int (i*j)):=by
 show uE (.int i) (.int j)=_
 show(if _ then _ else _)=_
 rw[if_pos (.inr ⟨by omega,by omega⟩)]
theorem Fd (ns:List Int)(k:Nat)(hn:ns.length<=63):∃c,eY [.scr ns,.int k] = .ok (.int c):=by
 have e0:o2 kC (vr 0) (cN ai) [.va (.scr ns),.va (.int k)] = .ok (.bl (jy ns [])):=by
  refine aA rfl (iI rfl (aI (Jc _))) ?_
  unfold kC;rw[if_pos (fQ (by simp[T.dep]) rfl rfl)]
  rfl
 cases ns with
 | nil=>
  refine⟨7*k,bc rfl ?_⟩
  unfold iV
  refine dH ((dB (bq e0)).trans (bK (aA rfl rfl (mI (by omega) (by omega)))))
 | cons a r=>
  have hl:(0:Int)<((a::r).length:Nat):=by simp only[IV];omega
  have hl2:(((a::r).length:Nat):Int)<1073741824:=by simp only[IV]at hn ⊢;omega
  have hi:k % (a::r).length<(a::r).length:=Nat.mod_lt _ (by simp)
  have g0:o2 j4 (vr 1) (cl cV (af (vr 0) ai)) [.va (.scr (a::r)),.va (.int k)] = .ok (.int ((k % (a::r).length:Nat):Int)):=by
   refine aA rfl ?_ (by rw[jI hl];rfl)
   refine aJ rfl ?_
   show Rs.ok (T.int (((a::r).map T.int).length:Nat))=_
   rw[IP]
  have g1:aP (.scr (a::r)) (.int ((k % (a::r).length:Nat):Int))= .ok (.int (a::r)[k % (a::r).length]):=by
   have e:((a::r).map T.int)[k % (a::r).length]? =some (.int (a::r)[k % (a::r).length]):=by rw[Jm,IU hi];rfl
   show(match L2.atI ((a::r).map T.int) ((k % (a::r).length:Nat):Int)with | some t=>Rs.ok t | none=> .bad)=_
   rw[jP e]
  have g2:o2 kc (vr 1) (cl cV (af (vr 0) ai)) [.va (.scr (a::r)),.va (.int k)] = .ok (.int ((k:Int) / ((a::r).length:Nat))):=by
   refine aA rfl ?_ (lN hl hl2)
   refine aJ rfl ?_
   show Rs.ok (T.int (((a::r).map T.int).length:Nat))=_
   rw[IP]
  refine⟨(a::r)[k % (a::r).length] +6553*((k:Int) / ((a::r).length:Nat)),bc rfl ?_⟩
  unfold iV
  show ay _ _ [.va (.scr (a::r)),.va (.int k)] =_
  refine(az ((cH (bq e0)).trans rfl)).trans ?_
  exact bK (aA (aA rfl g0 g1) (aA rfl g2 (mI (by omega) (by omega))) rfl)
theorem cX (ns:List Int)(k:Nat)(m:Int)(hn:ns.length<=63)(hm:0<m):∃r,aw [.scr ns,.int k,.int m] = .ok (.int r)/\0<=r/\r<m:=by
 obtain⟨c,hc⟩:=Fd ns k hn
 have b1:∀x:Int,0<=x % 2147483563/\x % 2147483563<2147483563:=λx=>⟨Ol _ (by omega),Nc _ (by omega)⟩
 have b2:∀x:Int,0<=x % 2147483399/\x % 2147483399<2147483399:=λx=>⟨Ol _ (by omega),Nc _ (by omega)⟩
 generalize hx:(c % 2147483563*69069+104723*((k:Int)+1)) % 2147483563=x
 have hx':=b1 (c % 2147483563*69069+104723*((k:Int)+1));rw[hx]at hx'
 generalize hy:(x*x+x / 3) % 2147483399=y
 have hy':=b2 (x*x+x / 3);rw[hy]at hy';refine⟨(y*y+y / 7) % 2147483647 / 11 % m,bc rfl ?_,Ol _ (by omega),Nc _ hm⟩
 show hI [.va (.scr ns),.va (.int k),.va (.int m),.em] =_
 unfold hI
 have s1:cg (o2 j4 (o2 aK (o2 cJ (o2 j4 (cl eY (af (vr 0) (af (vr 1) ai))) (cn (.int 2147483563))) (cn (.int 69069))) (o2 cJ (cn (.int 104723)) (o2 aK (vr 1) (cn (.int 1))))) (cn (.int 2147483563))) (gN 3) [.va (.scr ns),.va (.int k),.va (.int m),.em] = .ok (.nx [.va (.scr ns),.va (.int k),.va (.int m),.va (.int x)]):=by
  refine bJ (aA (aA (aA (aA (aJ rfl hc) rfl (jI (by omega))) rfl (yZ (by omega) (by omega))) (aA rfl rfl (mI (by omega) (by omega))) rfl) rfl ?_) rfl
  rw[jI (by omega),hx]
 have s2:cg (o2 j4 (o2 aK (o2 cJ (vr 3) (vr 3)) (o2 kc (vr 3) (cn (.int 3)))) (cn (.int 2147483399))) (gN 3) [.va (.scr ns),.va (.int k),.va (.int m),.va (.int x)] = .ok (.nx [.va (.scr ns),.va (.int k),.va (.int m),.va (.int y)]):=by
  refine bJ (aA (aA (aA rfl rfl (mI (by omega) (by omega))) (aA rfl rfl (lN (by omega) (by omega))) rfl) rfl ?_) rfl
  rw[jI (by omega),hy]
 rw[az s1,az s2];exact bK (aA (aA (aA (aA (aA rfl rfl (mI (by omega) (by omega))) (aA rfl rfl (lN (by omega) (by omega))) rfl) rfl (jI (by omega))) rfl (lN (by omega) (by omega))) rfl (jI hm))
theorem dF {ns:List Int}{k:Nat}{m r:Int}{f g h:En->Rs T}{Z:En}(e:aw [.scr ns,.int k,.int m] = .ok (.int r))(h1:f Z= .ok (.scr ns))(h2:g Z= .ok (.int k))(h3:h Z= .ok (.int m)) :
  cl aw (af f (af g (af h ai))) Z= .ok (.int r):=aJ (ar h1 (ar h2 (ar h3 rfl))) e
theorem rR:∀(l:List Int) (z y:Int),nE (l++ [z])=true->z<y->nE (l++ [z] ++ [y])=true
 | [],z,y,_,h=>by simp[nE,h]
 | [a],z,y,h,hy=>by
  simp[nE]at h ⊢
  omega
 | a::b::l,z,y,h,hy=>by
  have h':nE (a::b::(l++ [z]))=true:=h;rw[FY,IT]at h'
  have ih:=rR (b::l) z y h'.2 hy
  show nE (a::b::(l++ [z] ++ [y]))=true
  rw[FY,h'.1];exact ih
theorem mF:∀l:List Int,j0 (l.map .int)=some l
 | [] =>rfl
 | a::l=>by rw[IM,j0,mF l]
def RdOk (l:List Int):Prop:=∃(l':List Int) (z:Int),l=l'++ [z]/\nE l=true/\(∀x∈l,0<=x/\x<=5*l.length)/\z<=5*l.length
abbrev clF:En->Rs Fl:=cg (o2 aK (vr 3) (cp (af (o2 aK (o2 aK (o2 aP (vr 3) (o1 qi (cn (.int 1)))) (cn (.int 1))) (cl aw (af (vr 0) (af (o2 aK (o2 aK (vr 1) (cn (.int 3))) (vr 4)) (af (cn (.int 5)) ai))))) ai))) (gN 3)
theorem B0 (l:List T)(z:T):aP (.tup (l++ [z])) (.int (-1))= .ok z:=by
 have e:L2.atI (l++ [z]) (-1)=some z:=by
  unfold L2.atI L2.ixN;simp;rw[if_pos (by omega)]
  have q:(-1+((l.length:Int)+1)).toNat=l.length:=by omega
  show(l++ [z])[(-1+((l.length:Int)+1)).toNat]? =some z
  rw[q];simp
 show(match L2.atI (l++ [z]) (-1)with | some t=>Rs.ok t | none=> .bad)=_
 rw[e]
theorem Ck (ns:List Int)(hn:ns.length<=63)(a j:Nat)(s:T)(l:List Int)(h:RdOk l)(hl:l.length<=3):∃l2,clF [.va (.scr ns),.va (.int a),.va s,.va (.tup (l.map .int)),.va (.int j)] = .ok (.nx [.va (.scr ns),.va (.int a),.va s,.va (.tup (l2.map .int)),.va (.int j)])/\RdOk l2/\l2.length=l.length+1:=by
 obtain⟨l',z,rfl,h1,h2,h3⟩:=h;obtain⟨d,ed,d0,d1⟩:=cX ns (a+3+j) 5 hn (by omega)
 refine⟨l'++ [z] ++ [z+1+d],?_,⟨l'++ [z],z+1+d,rfl,rR l' z _ h1 (by omega),?_,?_⟩,by simp⟩
 ·refine bJ (aA rfl (eZ (ar (aA (aA (t:=.int z) (aA rfl rfl ?_) rfl rfl) (dF ed rfl ?_ rfl) rfl) rfl) (aI (k:=1) (by simp))) ?_) rfl
  ·rw[Jv];exact B0 _ _
  ·refine aA (aA rfl rfl rfl) rfl ?_
   show Rs.ok (T.int ((a:Int)+3+j))=_
   congr 2
  ·rw[Jv (l₁:=l'++ [z])]
   exact Cr _ _ (by rw[IX,IP];simp at hl ⊢;omega)
 ·intro x hx
  rcases JC.mp hx with hx | hx
  ·have:=h2 x hx
   simp only[IX,Kk]at this ⊢;omega
  ·rw[IY]at hx
   subst hx
   have hz:=h2 z (by simp)
   simp only[IX,Kk]at h3 ⊢;omega
 ·simp only[IX,Kk]at h3 ⊢
  omega
theorem v8 (ns:List Int)(hn:ns.length<=63)(a:Nat)(s:T):∀(js:List Nat) (l:List Int) (s4:Sl),RdOk l->l.length+js.length<=4->∃l2 s5,bp (gN 4) clF (js.map λ(j:Nat)=>T.int j) [.va (.scr ns),.va (.int a),.va s,.va (.tup (l.map .int)),s4] = .ok (.nx [.va (.scr ns),.va (.int a),.va s,.va (.tup (l2.map .int)),s5])/\RdOk l2/\l2.length=l.length+js.length
 | [],l,s4,h,_=>⟨l,s4,rfl,h,rfl⟩
 | j::js,l,s4,h,hl=>by
  rw[IV]at hl;obtain⟨l2,e2,h2,n2⟩:=Ck ns hn a j s l h (by omega)
  obtain⟨l3,s5,e3,h3,n3⟩:=v8 ns hn a s js l2 (.va (.int j)) h2 (by omega)
  refine⟨l3,s5,?_,h3,by rw[n3,n2,IV];omega⟩
  rw[IM,du rfl e2];exact e3
theorem lJ (n:Nat):rng 0 (n:Int)=(JA n).map λ(j:Nat)=>T.int j:=by
 unfold rng;simp
theorem RdOk.reads {l:List Int}(h:RdOk l)(hl:l.length<=4):cW (.tup (l.map .int))=true:=by
 obtain⟨l',z,rfl,h1,h2,h3⟩:=h;unfold cW;rw[IT];refine⟨?_,?_⟩
 ·simp[d6];simp at hl;omega
 ·show(((l'++ [z]).map T.int).all (λu=>bo u 0 99)&&(match j0 ((l'++ [z]).map T.int)with | some m=>nE m | none=>false))=true
  rw[mF]
  show(_&&nE (l'++ [z]))=true
  rw[h1,Bool.and_true,Jf];intro t ht;obtain⟨x,hx,rfl⟩:=Jh.mp ht
  have:=h2 x hx;simp only[bo,IT,decide_eq_true_eq];omega
theorem AZ (n:Nat)(l:List Int)(h:l.length<=n):sm n (.tup (l.map .int))=true:=sm_tup.mpr ⟨by rw[IP];exact h,λt ht=>by obtain⟨x,_,rfl⟩:=Jh.mp ht;simp[sm]⟩
theorem z8 (ns:List Int)(hn:ns.length<=63)(a:Nat):∃c,ck [.scr ns,.int a] = .ok c/\bL c=true/\sm 8 c=true:=by
 obtain⟨d1,e1,p1,q1⟩:=cX ns a 3 hn (by omega)
 obtain⟨d2,e2,p2,q2⟩:=cX ns (a+2) 6 hn (by omega)
 obtain⟨d3,e3,p3,q3⟩:=cX ns (a+1) 3 hn (by omega)
 obtain⟨d4,e4,p4,q4⟩:=cX ns (a+6) 3 hn (by omega)
 obtain⟨n3,rfl⟩:=Jz p3;obtain⟨l,s5,el,hl,nl⟩:=v8 ns hn a (.int (1+d1)) (JA n3) [d2] .em ⟨[],d2,rfl,rfl,λx hx=>by rw[IY]at hx;subst hx;simp;omega,by simp;omega⟩ (by simp;omega)
 have nl':l.length<=4:=by rw[nl];simp;omega
 have hr:=hl.reads nl';refine⟨.tup [.int (1+d1),.int (1+d1+d4),.tup (l.map .int)],bc rfl ?_,?_,?_⟩
 ·show hU [.va (.scr ns),.va (.int a),.em,.em,.em] =_
  unfold hU;rw[az (bJ (aA rfl (dF e1 rfl rfl rfl) rfl) rfl)];rw[az (bJ (eZ (ar (dF e2 rfl rfl rfl) rfl) (aI (k:=1) (by simp))) rfl)]
  rw[az ((ff (EV (ar (dF e3 rfl rfl rfl) rfl) (by omega) (by omega)) (by rw[lJ];exact el)))]
  exact bK (eZ (ar rfl (ar (aA rfl (dF e4 rfl rfl rfl) rfl) (ar rfl rfl))) (aI (k:=3) (by simp)))
 ·show(true&&(pX (.int (1+d1)) (.int (1+d1+d4))&&cW _))=true
  rw[hr];simp only[pX,bo,KD,Bool.and_true,IT,decide_eq_true_eq];omega
 ·refine sm_tup.mpr ⟨by simp,λt ht=> ?_⟩
  rcases IW.mp ht with rfl | ht
  ·simp[sm]
  ·rcases IW.mp ht with rfl | ht
   ·simp[sm]
   ·rw[IY]at ht;subst ht;exact AZ 8 l (by omega)
theorem j5 {y:T}:∀(cs:List T) (i:Nat),y∈fR i cs->∃c k:Nat,y= .tup [.int c,.int k]/\i<=c/\c<i+cs.length/\k<Dt (cs.getD (c - i) .non)
 | [],i,h=>by cases h
 | x::cs,i,h=>by
  rw[fR]at h;rcases JC.mp h with h | h
  ·unfold lG at h
   obtain⟨t,ht,rfl⟩:=Jh.mp h;obtain⟨j,rfl,hj⟩:=pK ht;refine⟨i,j,rfl,Jc _,by rw[IV];omega,?_⟩
   rw[Na]
   show j<Dt x
   omega
  ·obtain⟨c,k,e,h1,h2,h3⟩:=j5 cs (i+1) h
   refine⟨c,k,e,by omega,by rw[IV];omega,?_⟩
   have:c - i=(c - (i+1))+1:=by omega
   rw[this];exact h3
theorem zV {cs:List T}{y:T}(h:y∈fR 0 cs):bj cs y=true:=by
 obtain⟨c,k,rfl,_,h2,h3⟩:=j5 cs 0 h
 show(decide ((0:Int)<=(c:Int))&&decide ((c:Int)<(cs.length:Int))&&(decide ((0:Int)<=(k:Int))&&decide ((k:Int)<(reads cs (c:Int):Int))))=true
 rw[Nb]at h3;rw[kG];simp only[IT,decide_eq_true_eq];omega
theorem kL:∀(cs:List T) (i:Nat),(fR i cs).Nodup
 | [],i=>KU
 | x::cs,i=>by
  rw[fR,JR];refine⟨?_,kL cs (i+1),?_⟩
  ·unfold lG rng
   rw[JX];rw[LQ,Ny];refine P4.imp ?_
   intro a b hab e
   simp at e
   exact hab (by omega)
  ·intro a ha b hb e
   subst e;unfold lG at ha;obtain⟨t,ht,rfl⟩:=Jh.mp ha;obtain⟨c,k,e,h1,_,_⟩:=j5 cs (i+1) hb
   simp at e
   omega
theorem yW {l:List T}(h:l.Nodup){i j:Nat}(hi:i<l.length)(hj:j<l.length)(hij:i≠j):l[i] ≠l[j]:=by
 rw[LQ,LY]at h;rcases PR i j with q | q
 ·exact h i j hi hj q
 ·exact λe=>h j i hj hi (by omega) e.symm
theorem qH:∀(cs:List T) (i:Nat),(∀c∈cs,bL c=true)->(fR i cs).length<=4*cs.length
 | [],i,_=>Jc _
 | x::cs,i,h=>by
  obtain⟨a,b,r,rfl,_,h2⟩:=dR (h x IL)
  have:=qH cs (i+1) λc hc=>h c (IJ _ hc)
  rw[fR,IX,gJ,IV]
  show r.length+_<=_
  omega
theorem zU {cs:List T}{a b:T}(ha:bj cs a=true)(hb:bj cs b=true)(h:a≠b):aV a b=false:=by
 obtain⟨c,k,rfl⟩:=fg ha;obtain⟨c',k',rfl⟩:=fg hb;rw[Bool.eq_false_iff];intro e;simp[aV,beqTs]at e;exact h (by rw[e.1,e.2])
theorem rK {cs:List T}{a:T}(ha:bj cs a=true):sm 8 a=true:=by
 obtain⟨c,k,rfl⟩:=fg ha;simp[sm,sms]
theorem uG {l:List T}{i:Nat}(h:i<l.length):aP (.lst l) (.int (i:Int))= .ok l[i]:=by
 show(match L2.atI l (i:Int)with | some t=>Rs.ok t | none=> .bad)=_
 rw[jP (IU h)]
theorem zX (a b:Int):kC (.int a) (.int b)= .ok (.bl (a == b)):=by
 unfold kC;rw[if_pos (fQ (by simp[T.dep]) rfl rfl)]
 rfl
theorem xm (ns:List Int)(hn:ns.length<=63)(a:Nat)(cs:List T)(hc:bf (.tup cs)=true):∃r,cR [.scr ns,.int a,.tup cs] = .ok r/\(r= .non\/(bP cs r=true/\sm 8 r=true)):=by
 obtain⟨ha,h1,h4⟩:=cx hc
 have hlen:=qH cs 0 ha
 have er:=z6 cs hc
 have gl:∀s4 s5 s6 s7:Sl,cl cV (af (vr 3) ai) [.va (.scr ns),.va (.int a),.va (.tup cs),.va (.lst (fR 0 cs)),s4,s5,s6,s7] = .ok (.int ((fR 0 cs).length:Nat)):=λ_ _ _ _=>rfl
 have s1:cg (cl dA (af (vr 2) ai)) (gN 3) [.va (.scr ns),.va (.int a),.va (.tup cs),.em,.em,.em,.em,.em] = .ok (.nx [.va (.scr ns),.va (.int a),.va (.tup cs),.va (.lst (fR 0 cs)),.em,.em,.em,.em]):=bJ (aJ rfl er) rfl
 have lt:o2 qr (cl cV (af (vr 3) ai)) (cn (.int 2)) [.va (.scr ns),.va (.int a),.va (.tup cs),.va (.lst (fR 0 cs)),.em,.em,.em,.em] = .ok (.bl (decide (((fR 0 cs).length:Int)<2))):=aA (gl _ _ _ _) rfl rfl
 by_cases hs:(fR 0 cs).length<2
 ·refine⟨.non,bc rfl ?_,.inl rfl⟩
  show dE [.va (.scr ns),.va (.int a),.va (.tup cs),.em,.em,.em,.em,.em] =_
  unfold dE;rw[az s1];rw[decide_eq_true (by omega)]at lt
  exact dH ((dB (bq lt)).trans rfl)
 ·rw[decide_eq_false (by omega)]at lt
  generalize hN:(fR 0 cs).length=n at*
  obtain⟨d1,e1,p1,q1⟩:=cX ns a (n:Int) hn (by omega)
  obtain⟨d2,e2,p2,q2⟩:=cX ns (a+1) ((n:Int) - 1) hn (by omega)
  obtain⟨d3,e3,p3,q3⟩:=cX ns (a+2) 8 hn (by omega)
  obtain⟨d4,e4,p4,q4⟩:=cX ns (a+3) 3 hn (by omega)
  obtain⟨d5,e5,p5,q5⟩:=cX ns (a+4) 9 hn (by omega)
  obtain⟨i,rfl⟩:=Jz p1;obtain⟨d2,rfl⟩:=Jz p2
  have hi:i<(fR 0 cs).length:=by omega
  have hj:(i+1+d2) % n<(fR 0 cs).length:=by rw[hN];exact Nat.mod_lt _ (by omega)
  have hij:i≠(i+1+d2) % n:=by
   rcases PR (i+1+d2) n with q | q
   ·rw[P8 q];omega
   ·have:(i+1+d2) % n=i+1+d2 - n:=by
     rw[Nat.mod_eq_sub_mod q,P8 (by omega)]
    rw[this];omega
  have eA:=zV (Ku hi)
  have eB:=zV (Ku hj)
  have eN:(fR 0 cs)[i] ≠(fR 0 cs)[(i+1+d2) % n]:=yW (kL cs 0) hi hj hij
  generalize hA:(fR 0 cs)[i] =A at*
  generalize hB:(fR 0 cs)[(i+1+d2) % n] =B at*
  let y:T:=if d4 == 0 then .non else .int (d3+d5)
  refine⟨.tup [A,B,.int d3,y],bc rfl ?_,.inr ⟨?_,?_⟩⟩
  ·show dE [.va (.scr ns),.va (.int a),.va (.tup cs),.em,.em,.em,.em,.em] =_
   unfold dE;rw[az s1];rw[az ((cH (bq lt)).trans rfl)];rw[az (Z':=[.va (.scr ns),.va (.int a),.va (.tup cs),.va (.lst (fR 0 cs)),.va (.int (i:Nat)),.em,.em,.em]) (bJ (dF e1 rfl rfl (gl _ _ _ _)) rfl)];rw[az (bJ (aA (aA rfl (dF e2 rfl rfl (aA (gl _ _ _ _) rfl rfl)) rfl) (gl _ _ _ _) (jI (by omega))) rfl)]
   rw[az (Z':=[.va (.scr ns),.va (.int a),.va (.tup cs),.va (.lst (fR 0 cs)),.va (.int (i:Nat)),.va (.int ((i+1+d2) % n:Nat)),.va (.int d3),.em]) (bJ (dF e3 rfl rfl rfl) rfl)]
   have ey:oK (tb (o2 kC (cl aw (af (vr 0) (af (o2 aK (vr 1) (cn (.int 3))) (af (cn (.int 3)) ai)))) (cn (.int 0)))) (cn .non) (o2 aK (vr 6) (cl aw (af (vr 0) (af (o2 aK (vr 1) (cn (.int 4))) (af (cn (.int 9)) ai))))) [.va (.scr ns),.va (.int a),.va (.tup cs),.va (.lst (fR 0 cs)),.va (.int (i:Nat)),.va (.int ((i+1+d2) % n:Nat)),.va (.int d3),.em] = .ok y:=by
    rw[lj (bq (aA (dF e4 rfl rfl rfl) rfl (zX _ _)))]
    show _=Rs.ok (if d4 == 0 then T.non else .int (d3+d5))
    cases d4 == 0 with
    | true=>rfl
    | false=>exact aA rfl (dF e5 rfl rfl rfl) rfl
   rw[az (bJ ey rfl)];refine bK (eZ (ar (aA rfl rfl ?_) (ar (aA rfl rfl ?_) (ar rfl (ar rfl rfl)))) (aI (k:=4) (by simp)))
   ·rw[<-hA];exact uG hi
   ·rw[<-hB];exact uG hj
  ·show(fA (.int d3) y&&(bj cs A&&(bj cs B&& !aV A B)))=true
   rw[eA,eB,zU eA eB eN]
   have:fA (.int d3) y=true:=by
    show(bo (.int d3) 0 999&&(match(T.int d3),(if d4 == 0 then T.non else .int (d3+d5))with | _,.non=>true | .int i,_=>bo (if d4 == 0 then T.non else .int (d3+d5)) i 999 | _,_=>false))=true
    cases d4 == 0 with
    | true=>simp[bo];omega
    | false=>simp[bo];omega
   rw[this];rfl
  ·refine sm_tup.mpr ⟨by simp,λt ht=> ?_⟩
   have hy:sm 8 y=true:=by show sm 8 (if d4 == 0 then T.non else .int (d3+d5))=true;cases d4 == 0 <;> simp[sm]
   simp only[IW,JQ,or_false]at ht;rcases ht with rfl | rfl | rfl | rfl
   ·exact rK eA
   ·exact rK eB
   ·simp[sm]
   ·exact hy
def okv:Rs T->T
 | .ok t=>t
 | _=> .non
theorem vB (l:List T)(k:Int)(h : -(2 ^ 63)<=k/\k<2 ^ 63/\l.length*k.toNat<=sizeLine):cJ (.lst l) (.int k)= .ok (.lst (Jr k.toNat l).flatten):=by
 show uE (.lst l) (.int k)=_
 unfold uE;exact if_pos h
theorem mul_one (x:T)(b:Bool):cJ (.lst [x]) (.int (if b then 1 else 0))= .ok (.lst (if b then [x]else [])):=by
 cases b with
 | true=>exact vB [x] 1 ⟨by decide,by decide,aI (k:=1) (by simp)⟩
 | false=>exact vB [x] 0 ⟨by decide,by decide,aI (k:=1) (by simp)⟩
abbrev leF:En->Rs Fl:=ay (cg (cl cR (af (vr 0) (af (o2 aK (o2 aK (vr 1) (cn (.int 31))) (o2 cJ (cn (.int 6)) (vr 5))) (af (vr 3) ai)))) (gN 6)) (cg (o2 aK (vr 4) (o2 cJ (cN (af (vr 6) ai)) (cl zH (af (o2 da (vr 6) (cn .non)) ai)))) (gN 4))
def xG (cs ls:List T):Prop:=∀t∈ls,bP cs t=true/\sm 8 t=true
theorem BV (ns:List Int)(hn:ns.length<=63)(a j:Nat)(m:T)(cs ls:List T)(hc:bf (.tup cs)=true)(h:xG cs ls)(hl:ls.length<=100)(s6:Sl) :
  ∃ls2 s7,leF [.va (.scr ns),.va (.int a),.va m,.va (.tup cs),.va (.lst ls),.va (.int j),s6] = .ok (.nx [.va (.scr ns),.va (.int a),.va m,.va (.tup cs),.va (.lst ls2),.va (.int j),s7])/\xG cs ls2/\ls2.length<=ls.length+1:=by
 obtain⟨r,er,hr⟩:=xm ns hn (a+31+6*j) cs hc
 have e1:∀G,ay (cg (cl cR (af (vr 0) (af (o2 aK (o2 aK (vr 1) (cn (.int 31))) (o2 cJ (cn (.int 6)) (vr 5))) (af (vr 3) ai)))) (gN 6)) G [.va (.scr ns),.va (.int a),.va m,.va (.tup cs),.va (.lst ls),.va (.int j),s6] =G [.va (.scr ns),.va (.int a),.va m,.va (.tup cs),.va (.lst ls),.va (.int j),.va r]:=λG=>by
  refine az (bJ (aJ (ar rfl (ar (aA rfl (aA rfl rfl (mI (by omega) (by omega))) rfl) (ar rfl rfl))) er) rfl)
 have e2:cl zH (af (o2 da (vr 6) (cn .non)) ai) [.va (.scr ns),.va (.int a),.va m,.va (.tup cs),.va (.lst ls),.va (.int j),.va r] = .ok (.int (if !r.isN then 1 else 0)):=aJ rfl rfl
 refine⟨ls++(if !r.isN then [r]else []),.va r,?_,?_,?_⟩
 ·refine(e1 _).trans (bJ (aA rfl (aA (iI rfl (aI (k:=1) (by simp))) e2 (mul_one _ _)) (lO _ _ ?_)) rfl)
  rw[IX];cases r.isN <;> simp <;> omega
 ·intro t ht
  rcases JC.mp ht with ht | ht
  ·exact h t ht
  ·rcases hr with rfl | hr
   ·cases ht
   ·cases q:r.isN with
    | true=>rw[q]at ht;cases ht
    | false=>
     rw[q]at ht;rw[show t=r by simpa using ht]
     exact hr
 ·rw[IX]
  cases r.isN <;> simp
theorem vG (ns:List Int)(hn:ns.length<=63)(a:Nat)(m:T)(cs:List T)(hc:bf (.tup cs)=true):∀(js:List Nat) (ls:List T) (s5 s6:Sl),xG cs ls->ls.length+js.length<=100 →
  ∃ls2 t5 t6,bp (gN 5) leF (js.map λ(j:Nat)=>T.int j) [.va (.scr ns),.va (.int a),.va m,.va (.tup cs),.va (.lst ls),s5,s6] = .ok (.nx [.va (.scr ns),.va (.int a),.va m,.va (.tup cs),.va (.lst ls2),t5,t6])/\xG cs ls2/\ls2.length<=ls.length+js.length
 | [],ls,s5,s6,h,_=>⟨ls,s5,s6,rfl,h,Jc _⟩
 | j::js,ls,s5,s6,h,hl=>by
  rw[IV]at hl;obtain⟨l2,s7,e2,h2,n2⟩:=BV ns hn a j m cs ls hc h (by omega) s6
  obtain⟨l3,t5,t6,e3,h3,n3⟩:=vG ns hn a m cs hc js l2 (.va (.int j)) s7 h2 (by omega)
  refine⟨l3,t5,t6,?_,h3,by rw[IV];omega⟩
  rw[IM,du rfl e2];exact e3
theorem Fc (ns:List Int)(hn:ns.length<=63)(a m:Nat)(hm:m<=8):∃cs ls,eK [.scr ns,.int a,.int m] = .ok (RR cs ls)/\bf (.tup cs)=true/\cs.length<=3/\(∀c∈cs,sm 8 c=true)/\xG cs ls/\ls.length<=m:=by
 obtain⟨d1,e1,p1,q1⟩:=cX ns a 3 hn (by omega)
 obtain⟨d2,e2,p2,q2⟩:=cX ns (a+30) ((m:Int)+1) hn (by omega)
 obtain⟨d1,rfl⟩:=Jz p1;obtain⟨d2,rfl⟩:=Jz p2
 let hcl:T->T:=λt=>match t with
  | .int k=>okv (ck [.scr ns,.int ((a:Int)+1+8*k)])
  | _=> .non
 have hh:∀t∈rng 0 ((1+d1:Nat):Int),∃k:Nat,t= .int k/\ck [.scr ns,.int ((a+1+8*k:Nat):Int)] = .ok (hcl t)/\bL (hcl t)=true/\sm 8 (hcl t)=true:=λt ht=>by
  obtain⟨k,rfl,_⟩:=pK ht;obtain⟨c,ec,h1,h2⟩:=z8 ns hn (a+1+8*k)
  have e:hcl (.int k)=c:=by
   show okv (ck [.scr ns,.int ((a+1+8*k:Nat):Int)])=c
   rw[ec];rfl
  exact⟨k,rfl,by rw[e];exact ec,by rw[e];exact h1,by rw[e];exact h2⟩
 generalize hcs:(rng 0 ((1+d1:Nat):Int)).map hcl=cs
 have lc:cs.length=1+d1:=by rw[<-hcs,IP,jV]
 have hc:bf (.tup cs)=true:=by
  show(d6 (.tup cs) 1 4&&cs.all bL)=true
  rw[IT,Jf];refine⟨by simp[d6];omega,λc h=> ?_⟩
  rw[<-hcs]at h;obtain⟨t,ht,rfl⟩:=Jh.mp h;obtain⟨_,_,_,h1,_⟩:=hh t ht;exact h1
 have hsm:∀c∈cs,sm 8 c=true:=λc h=>by
  rw[<-hcs]at h;obtain⟨t,ht,rfl⟩:=Jh.mp h;obtain⟨_,_,_,_,h1⟩:=hh t ht;exact h1
 obtain⟨ls,t5,t6,el,hl,nl⟩:=vG ns hn a (.int m) cs hc (JA d2) [] .em .em (λt h=>by cases h) (by simp;omega)
 refine⟨cs,ls,bc rfl ?_,hc,by omega,hsm,hl,by simp at nl;omega⟩
 show gx [.va (.scr ns),.va (.int a),.va (.int m),.em,.em,.em,.em] =_
 unfold gx
 have s1:cg (cl gL (af (dQ (iR (af (o2 aK (cn (.int 1)) (cl aw (af (vr 0) (af (vr 1) (af (cn (.int 3)) ai))))) ai)) [none,some 0,some 1] (gN 0) bT (cl ck (af (vr 1) (af (o2 aK (o2 aK (vr 2) (cn (.int 1))) (o2 cJ (cn (.int 8)) (vr 0))) ai)))) ai)) (gN 3) [.va (.scr ns),.va (.int a),.va (.int m),.em,.em,.em,.em] = .ok (.nx [.va (.scr ns),.va (.int a),.va (.int m),.va (.tup cs),.em,.em,.em]):=by
  refine bJ (aJ (ar (t:=.lst cs) ?_ rfl) rfl) rfl
  rw[<-hcs];refine mS (EV (ar (aA rfl (dF e1 rfl rfl rfl) rfl) rfl) (by omega) (by omega)) (aI (k:=3) (by rw[jV];omega)) (by simp) λt ht=> ?_
  obtain⟨k,rfl,ek,_,_⟩:=hh t ht;refine aJ (ar rfl (ar (aA rfl (aA rfl rfl (mI (by omega) (by omega))) rfl) rfl)) ek
 rw[az s1];rw[az (bJ (iI rfl (aI (k:=0) (by simp))) rfl)]
 rw[az ((ff (EV (ar (dF e2 rfl rfl (aA rfl rfl rfl)) rfl) (by omega) (by omega)) (by rw[lJ];exact el)))]
 exact bK (eZ (ar rfl (ar rfl rfl)) (aI (k:=2) (by simp)))
theorem j7 {cs:List T}{t:T}(h:bP cs t=true):∃a b x y,t= .tup [a,b,x,y]/\fA x y=true/\bj cs a=true/\bj cs b=true/\aV a b=false:=by
 unfold bP at h
 split at h
 ·simp only[IT,Pw]at h
  exact⟨_,_,_,_,rfl,h.1,h.2.1,h.2.2.1,h.2.2.2⟩
 ·cases h
theorem Ds {cs ls:List T}(hc:bf (.tup cs)=true)(hs:∀c∈cs,sm 8 c=true)(hl:xG cs ls)(hn:ls.length<=8):lq (RR cs ls)=true/\sm 8 (RR cs ls)=true:=by
 refine⟨?_,?_⟩
 ·show(bf (.tup cs)&&(d6 (.tup ls) 0 8&&ls.all (bP cs)))=true
  rw[hc,KD,IT,Jf];exact⟨by simp[d6];exact hn,λt ht=>(hl t ht).1⟩
 ·refine sm_tup.mpr ⟨by simp,λt ht=> ?_⟩
  simp only[IW,JQ,or_false]at ht;rcases ht with rfl | rfl
  ·exact sm_tup.mpr ⟨by have:=(cx hc).2.2;omega,hs⟩
  ·exact sm_tup.mpr ⟨hn,λt ht=>(hl t ht).2⟩
end G
namespace Tr
open PySem
section
variable {f fa fb:En->Rs T}{fs:En->Rs (List T)}{b c:En->Rs Bool}{F G:En->Rs Fl}{Z Z' Z1 Z2:En}{t u r:T}{ts l m:List T}
mutual
theorem k4:∀(t:T),t.pl=true->aV t t=true
 | .non,_=>rfl
 | .bl a,_=>by simp[aV]
 | .int a,_=>by simp[aV]
 | .str a,_=>by simp[aV]
 | .tup l,h=>by rw[aV];exact beqTs_refl l (by unfold T.pl at h;exact h)
 | .lst l,h=>by rw[aV];exact beqTs_refl l (by unfold T.pl at h;exact h)
 | .scr _,h=>by simp[T.pl]at h
theorem beqTs_refl:∀(l:List T),plS l=true->beqTs l l=true
 | [],_=>rfl
 | t::l,h=>by
  unfold plS at h;rw[IT]at h;rw[beqTs,k4 t h.1,beqTs_refl l h.2];rfl
end
theorem BQ (hp:t.pl=true)(hd:t.dep<=60):lb t t= .ok (.bl false):=by
 unfold lb;rw[if_pos (fQ hd (T.HL _ hp) (T.HL _ hp)),k4 t hp];rfl
theorem B6 (hp:t.pl=true)(hd:t.dep<=60):kC t t= .ok (.bl true):=by
 unfold kC;rw[if_pos (fQ hd (T.HL _ hp) (T.HL _ hp)),k4 t hp]
theorem uu:∀{l:List T},(∀t∈l,t.pl=true)->plS l=true
 | [],_=>rfl
 | t::l,h=>by unfold plS;rw[h t IL,uu λu hu=>h u (IJ _ hu)];rfl
end
end Tr
namespace G
open PySem Tr
def dr (r:List Int)(k:Nat):Int:=r.getD (k+1) 0 - r.getD k 0
def pr (n:Nat)(x y:Int)(r:List Int)(k:Nat):List T:=
 [.tup [.tup [.int n,.int k],.tup [.int n,.int ((k+1:Nat):Int)],.int (dr r k*y)],.tup [.tup [.int n,.int ((k+1:Nat):Int)],.tup [.int n,.int k],.int (-dr r k*x)]]
def cB (n:Nat)(x y:Int)(r:List Int):List T:=(JA (r.length - 1)).flatMap (pr n x y r)
abbrev FE (n:Nat)(x y:Int)(r:List Int)(acc:List T)(s4 s5 s6 s7:Sl):En:=[.va (.int n),.va (.tup [.int x,.int y,.tup (r.map .int)]),.va (.tup (r.map .int)),.ow (.lst acc),s4,s5,s6,s7]
abbrev bcF:En->Rs Fl:=(ay (cg (cp (af (vr 0) (af (vr 4) ai))) (gN 5)) (ay (cg (cp (af (vr 0) (af (o2 aK (vr 4) (cn (.int 1))) ai))) (gN 6)) (ay (cg (o2 fw (o2 aP (vr 2) (o2 aK (vr 4) (cn (.int 1)))) (o2 aP (vr 2) (vr 4))) (gN 7)) (ay (nN 3 (cp (af (vr 5) (af (vr 6) (af (o2 cJ (vr 7) (o2 aP (vr 1) (cn (.int 1)))) ai))))) (nN 3 (cp (af (vr 6) (af (vr 5) (af (o2 cJ (o1 qi (vr 7)) (o2 aP (vr 1) (cn (.int 0)))) ai)))))))))
theorem vR {r:List Int}{k:Nat}(h:k<r.length):(r.map T.int)[k]? =some (.int (r.getD k 0)):=by
 rw[Jm,IU h]
 simp[h]
theorem Co (n:Nat)(x y:Int)(r:List Int)(acc:List T)(k:Nat)(s5 s6 s7:Sl)(hk:k+1<r.length)(hx:0<=x/\x<=9)(hy:0<=y/\y<=9)(ha:acc.length<=100) :
  bcF (FE n x y r acc (.va (.int k)) s5 s6 s7)= .ok (.nx (FE n x y r (acc++pr n x y r k) (.va (.int k)) (.va (.tup [.int n,.int k])) (.va (.tup [.int n,.int ((k+1:Nat):Int)])) (.va (.int (dr r k))))):=by
 have h2:([T.int n,T.int k]:List T).length<=sizeLine:=aI (k:=2) (by simp)
 have ek:((k:Int)+1)=((k+1:Nat):Int):=by omega
 refine(az (bJ (eZ rfl (aI (k:=2) (by simp))) rfl)).trans ?_
 refine(az (bJ (eZ (ar rfl (ar (aA rfl rfl (congrArg (λz=>Rs.ok (T.int z)) ek)) rfl)) (aI (k:=2) (by simp))) rfl)).trans ?_
 refine(az (bJ (aA (GS rfl (aA rfl rfl (congrArg (λz=>Rs.ok (T.int z)) ek)) (vR hk)) (GS rfl rfl (vR (by omega))) rfl) rfl)).trans ?_
 refine(az (zC (eZ (ar rfl (ar rfl (ar (aA rfl rfl (yZ (by omega) (by omega))) rfl))) (aI (k:=3) (by simp))) rfl (by omega))).trans ?_
 refine(zC (eZ (ar rfl (ar rfl (ar (aA rfl rfl (yZ (by omega) (by omega))) rfl))) (aI (k:=3) (by simp))) rfl (by rw[IX];simp;omega)).trans ?_
 rw[JE]
 rfl
theorem wb (n:Nat)(x y:Int)(r:List Int)(hx:0<=x/\x<=9)(hy:0<=y/\y<=9):∀(js:List Nat) (acc:List T) (s4 s5 s6 s7:Sl),(∀k∈js,k+1<r.length)->acc.length+2*js.length<=100 →
  ∃t4 t5 t6 t7,bp (gN 4) bcF (js.map λ(k:Nat)=>T.int k) (FE n x y r acc s4 s5 s6 s7)= .ok (.nx (FE n x y r (acc++js.flatMap (pr n x y r)) t4 t5 t6 t7))
 | [],acc,s4,s5,s6,s7,_,_=>⟨s4,s5,s6,s7,by simp[bp]⟩
 | k::js,acc,s4,s5,s6,s7,hk,hl=>by
  rw[IV]at hl
  have e:=Co n x y r acc k s5 s6 s7 (hk k IL) hx hy (by omega)
  obtain⟨t4,t5,t6,t7,ih⟩:=wb n x y r hx hy js (acc++pr n x y r k) (.va (.int k)) (.va (.tup [.int n,.int k])) (.va (.tup [.int n,.int ((k+1:Nat):Int)])) (.va (.int (dr r k))) (λj hj=>hk j (IJ _ hj)) (by rw[IX];simp[pr];omega)
  refine⟨t4,t5,t6,t7,?_⟩
  rw[IM,du rfl e,ih,Nz,JE]
theorem Ac (n:Nat)(x y:Int)(r:List Int)(hx:0<=x/\x<=9)(hy:0<=y/\y<=9)(h1:1<=r.length)(h4:r.length<=4):cj [.int n,.tup [.int x,.int y,.tup (r.map .int)]] = .ok (.lst (cB n x y r)):=by
 refine bc rfl ?_
 show ee [.va (.int n),.va (.tup [.int x,.int y,.tup (r.map .int)]),.em,.em,.em,.em,.em,.em] =_
 unfold ee;rw[az (bJ rfl rfl)];rw[az (Z':=FE n x y r [] .em .em .em .em) rfl];obtain⟨t4,t5,t6,t7,e⟩:=wb n x y r hx hy (JA (r.length - 1)) [] .em .em .em .em (λk hk=>by have:=JJ.mp hk;omega) (by simp;omega)
 have e1:iR (af (o2 fw (cl cV (af (vr 2) ai)) (cn (.int 1))) ai) (FE n x y r [] .em .em .em .em)= .ok (rng 0 ((r.length - 1:Nat):Int)):=by
  refine EV (ar (aA (t:=.int (r.length:Nat)) (aJ rfl (by show Rs.ok (T.int ((r.map T.int).length:Nat))=_;rw[IP])) rfl (congrArg (λz=>Rs.ok (T.int z)) (by omega))) rfl) (by omega) (by omega)
 rw[az ((ff (by rw[e1,lJ]) e))]
 rfl
theorem jO {t:T}(h:bL t=true):∃(x y:Int) (r:List Int),t= .tup [.int x,.int y,.tup (r.map .int)]/\(0<=x/\x<=9)/\(0<=y/\y<=9)/\1<=r.length/\r.length<=4:=by
 obtain⟨x,y,r,rfl,h1,h4⟩:=dR h
 have h':(pX x y&&cW (.tup r))=true:=h;rw[IT]at h';obtain⟨hp,hr⟩:=h';unfold pX at hp;rw[IT]at hp;obtain⟨i,rfl,i1,i2⟩:=cZ hp.1;obtain⟨j,rfl,j1,j2⟩:=cZ hp.2;unfold cW at hr;rw[IT]at hr
 have hr2:((r.all λu=>bo u 0 99)&&(match j0 r with | some m=>nE m | none=>false))=true:=hr.2
 rw[IT]at hr2;obtain⟨m,em⟩:=qc hr2.1
 have e:=mE em;subst e;rw[IP]at h1 h4;exact⟨i,j,m,rfl,⟨by omega,by omega⟩,⟨by omega,by omega⟩,h1,h4⟩
def xB (n:Nat)(t:T):List T:=match t with
 | .tup [.int x,.int y,.tup r] =>match j0 r with
  | some m=>cB n x y m
  | none=> []
 | _=> []
def bC:Nat->List T->List T
 | _,[] => []
 | i,c::r=>xB i c++bC (i+1) r
def lB (t:T):List T:=match t with
 | .tup [a,b,.int le,mo] => .tup [b,a,.int (-le)] ::(if mo.isN then []else [.tup [a,b,mo]])
 | _=> []
def FD (cs ls:List T):List T:=bC 0 cs++ls.flatMap lB
theorem ve (n:Nat)(x y:Int)(r:List Int):xB n (.tup [.int x,.int y,.tup (r.map .int)])=cB n x y r:=by
 unfold xB;simp only[mF]
theorem Fp (n:Nat)(x y:Int)(r:List Int):(cB n x y r).length=2*(r.length - 1):=by
 unfold cB;rw[List.length_flatMap]
 have:∀l:List Nat,(l.map λk=>(pr n x y r k).length).sum=2*l.length:=by
  intro l
  induction l with
  | nil=>rfl
  | cons a l ih=>rw[IM,KF,ih,IV];simp[pr];omega
 rw[this,Kz]
theorem xR {n:Nat}{t:T}(h:bL t=true):(xB n t).length<=6:=by
 obtain⟨x,y,r,rfl,_,_,h1,h4⟩:=jO h;rw[ve,Fp];omega
theorem uS:∀{cs:List T} {i:Nat},(∀c∈cs,bL c=true)->(bC i cs).length<=6*cs.length
 | [],i,_=>by simp[bC]
 | c::cs,i,h=>by
  rw[bC,IX,IV]
  have:=xR (n:=i) (h c IL)
  have:=uS (i:=i+1) λc hc=>h c (IJ _ hc)
  omega
theorem zk (t:T):(lB t).length<=2:=by
 unfold lB;split
 ·rename_i a b le mo
  cases mo.isN <;> simp
 ·simp
theorem vJ:∀(ls:List T),(ls.flatMap lB).length<=2*ls.length
 | [] =>by simp
 | t::ls=>by
  rw[Nz,IX,IV]
  have:=zk t
  have:=vJ ls;omega
theorem sT {cs:List T}{t:T}(h:bP cs t=true):∃(a b mo:T) (le:Int),t= .tup [a,b,.int le,mo]/\bj cs a=true/\bj cs b=true:=by
 obtain⟨a,b,x,y,rfl,hd,ha,hb,_⟩:=j7 h;unfold fA at hd;rw[IT]at hd;obtain⟨i,rfl,_⟩:=cZ hd.1;exact⟨a,b,y,i,rfl,ha,hb⟩
theorem xn {cs:List T}{t:T}(h:bP cs t=true):bY [t] = .ok (.lst (lB t)):=by
 obtain⟨a,b,mo,le,rfl,_,_⟩:=sT h;refine bc rfl ?_
 show dJ [.va (.tup [a,b,.int le,mo]),.em] =_
 unfold dJ;rw[az (Z':=[.va (.tup [a,b,.int le,mo]),.ow (.lst [.tup [b,a,.int (-le)]])]) (zv (ar (eZ (ar rfl (ar rfl (ar rfl rfl))) (aI (k:=3) (by simp))) rfl) (by simp) (by simp))]
 have e:∀(Z:En) l,Z= [.va (.tup [a,b,.int le,mo]),.ow (.lst l)]->o2 da (o2 aP (vr 0) (cn (.int 3))) (cn .non) Z= .ok (.bl (!mo.isN)):=λZ l z=>by subst z;rfl
 have e2:lB (.tup [a,b,.int le,mo])= .tup [b,a,.int (-le)] ::(if mo.isN then []else [.tup [a,b,mo]]):=rfl
 rw[e2]
 cases q:mo.isN with
 | true=>
  rw[az ((cH (bq (by rw[e _ _ rfl,q];rfl))).trans rfl)]
  rfl
 | false=>
  rw[az ((dB (bq (by rw[e _ _ rfl,q];rfl))).trans (zC (eZ (ar rfl (ar rfl (ar rfl rfl))) (aI (k:=3) (by simp))) rfl (by simp)))]
  rfl
abbrev bdF:En->Rs Fl:=md 1 (cl cj (af (vr 2) (af (vr 3) ai)))
abbrev bdG:T->En->Rs En:=gT 2 (kR (gN 2) (kR (gN 3) vP))
theorem wa (R:T)(s4:Sl):∀(cs:List T) (acc:List T) (i:Nat) (s2 s3:Sl),(∀c∈cs,bL c=true)->acc.length+6*cs.length<=100 →
  ∃y2 y3,bp bdG bdF (dh i cs) [.va R,.ow (.lst acc),s2,s3,s4] = .ok (.nx [.va R,.ow (.lst (acc++bC i cs)),y2,y3,s4])
 | [],acc,i,s2,s3,_,_=>⟨s2,s3,by simp[dh,bp,bC]⟩
 | c::cs,acc,i,s2,s3,hc,hl=>by
  have h0:=hc c IL
  have hx:=xR (n:=i) h0;obtain⟨x,y,r,rfl,a1,a2,a3,a4⟩:=jO h0;rw[IV]at hl;rw[ve]at hx
  have st:bdF [.va R,.ow (.lst acc),.va (.int i),.va (.tup [.int x,.int y,.tup (r.map .int)]),s4] = .ok (.nx [.va R,.ow (.lst (acc++cB i x y r)),.va (.int i),.va (.tup [.int x,.int y,.tup (r.map .int)]),s4]):=
   zA (aJ rfl (Ac i x y r a1 a2 a3 a4)) rfl (by omega)
  obtain⟨z2,z3,ih⟩:=wa R s4 cs (acc++cB i x y r) (i+1) (.va (.int i)) (.va (.tup [.int x,.int y,.tup (r.map .int)])) (λc h=>hc c (IJ _ h)) (by rw[IX];omega)
  refine⟨z2,z3,?_⟩
  rw[dh,du rfl st,ih,bC,ve,JE]
abbrev blF:En->Rs Fl:=md 1 (cl bY (af (vr 4) ai))
theorem v9 (R:T)(cs:List T)(s2 s3:Sl):∀(ls:List T) (acc:List T) (s4:Sl),(∀t∈ls,bP cs t=true)->acc.length+2*ls.length<=100 →
  ∃y4,bp (gN 4) blF ls [.va R,.ow (.lst acc),s2,s3,s4] = .ok (.nx [.va R,.ow (.lst (acc++ls.flatMap lB)),s2,s3,y4])
 | [],acc,s4,_,_=>⟨s4,by simp[bp]⟩
 | t::ls,acc,s4,hl,hn=>by
  rw[IV]at hn
  have:=zk t
  have st:blF [.va R,.ow (.lst acc),s2,s3,.va t] = .ok (.nx [.va R,.ow (.lst (acc++lB t)),s2,s3,.va t]):=zA (aJ rfl (xn (hl t IL))) rfl (by omega)
  obtain⟨y4,ih⟩:=v9 R cs s2 s3 ls (acc++lB t) (.va t) (λu h=>hl u (IJ _ h)) (by rw[IX];omega)
  refine⟨y4,?_⟩
  rw[du rfl st,ih,Nz,JE]
theorem mH {R:T}(hp:R.pl=true)(h:lq R=true):bS [R] = .ok .non:=by
 refine qz (Z:=[.va R]) rfl ?_
 show gn [.va R] =_
 unfold gn;exact(cH ((dn (k:=true) (bq (aJ rfl (by rw[zY R hp,h])))))).trans rfl
structure Good (cs ls:List T):Prop where
 c:bf (.tup cs)=true
 l:∀t∈ls,bP cs t=true
 n:ls.length<=8
 p:(RR cs ls).pl=true
theorem Good.ok {cs ls:List T}(g:Good cs ls):lq (RR cs ls)=true:=by
 show(bf (.tup cs)&&(d6 (.tup ls) 0 8&&ls.all (bP cs)))=true
 rw[g.c,KD,IT,Jf];exact⟨by simp[d6];exact g.n,g.l⟩
theorem Aa {cs ls:List T}(g:Good cs ls):cG [RR cs ls] = .ok (.lst (FD cs ls)):=by
 obtain⟨hc,c1,c4⟩:=cx g.c
 have hn:=g.n;refine bc rfl ?_
 show nC [.va (RR cs ls),.em,.em,.em,.em] =_
 unfold nC;rw[az (nZ (aJ rfl (mH g.p g.ok)))];rw[az (Z':=[.va (RR cs ls),.ow (.lst []),.em,.em,.em]) (zw (by simp))]
 obtain⟨y2,y3,e⟩:=wa (RR cs ls) .em cs [] 0 .em .em hc (by simp;omega)
 rw[az ((ff rfl e))]
 have:=uS (i:=0) hc;obtain⟨y4,e2⟩:=v9 (RR cs ls) cs y2 y3 ls ([] ++bC 0 cs) .em g.l (by rw[Kp];omega)
 rw[az ((ff rfl e2))]
 rfl
theorem Bz {l:List T}{r:Int}(h0:0<=r)(h1:r<l.length):∃t∈l,aP (.lst l) (.int r)= .ok t:=by
 obtain⟨n,rfl⟩:=Jz h0
 have hn:n<l.length:=by omega
 exact⟨l[n],Ku hn,uG hn⟩
theorem Dl {t:T}(h:sm 8 t=true):t.pl=true:=CI t h
abbrev peF:En->Rs Fl:=md 1 (dQ (iR (af (cl cV (af (o2 aP (vr 3) (cn (.int 2))) ai)) ai)) [none,some 2] (gN 0) bT (cp (af (vr 1) (af (vr 0) ai))))
theorem rZ (c0 s1:Sl)(x y:T)(r:List T)(i:Nat)(h:r.length<=4) :
  dQ (iR (af (cl cV (af (o2 aP (vr 3) (cn (.int 2))) ai)) ai)) [none,some 2] (gN 0) bT (cp (af (vr 1) (af (vr 0) ai))) [c0,s1,.va (.int i),.va (.tup [x,y,.tup r])] = .ok (.lst (lG i r.length)):=
 mS (EV rfl (by omega) (by omega)) (aI (by rw[jV];exact h)) (by simp) λt _=>mk2 _ _
theorem vp:∀(cs:List T) (c0:T) (acc:List T) (i:Nat) (s2 s3:Sl),(∀c∈cs,bL c=true)->acc.length+4*cs.length<=100 →
  ∃y2 y3,bp evG peF (dh i cs) [.va c0,.ow (.lst acc),s2,s3] = .ok (.nx [.va c0,.ow (.lst (acc++fR i cs)),y2,y3])
 | [],c0,acc,i,s2,s3,_,_=>⟨s2,s3,by simp[dh,bp,fR]⟩
 | c::cs,c0,acc,i,s2,s3,hc,hl=>by
  obtain⟨x,y,r,rfl,r1,r2⟩:=dR (hc c IL);rw[IV]at hl
  have st:peF [.va c0,.ow (.lst acc),.va (.int i),.va (.tup [x,y,.tup r])] = .ok (.nx [.va c0,.ow (.lst (acc++lG i r.length)),.va (.int i),.va (.tup [x,y,.tup r])]):=zA (rZ _ _ x y r i r2) rfl (by rw[gJ];omega)
  obtain⟨z2,z3,ih⟩:=vp cs c0 (acc++lG i r.length) (i+1) (.va (.int i)) (.va (.tup [x,y,.tup r])) (λc h=>hc c (IJ _ h)) (by rw[IX,gJ];omega)
  refine⟨z2,z3,?_⟩
  rw[dh,du rfl st,ih,fR,JE]
  rfl
theorem yL {cs ls:List T}(g:Good cs ls):fM [RR cs ls] = .ok (.lst (fR 0 cs)):=by
 obtain⟨hc,c1,c4⟩:=cx g.c;refine bc rfl ?_
 show nB [.va (RR cs ls),.em,.em,.em] =_
 unfold nB;rw[az (nZ (aJ rfl (mH g.p g.ok)))];rw[az (Z':=[.va (RR cs ls),.ow (.lst []),.em,.em]) (zw (by simp))]
 obtain⟨y2,y3,e⟩:=vp cs (RR cs ls) [] 0 .em .em hc (by simp;omega)
 rw[az ((ff rfl e))]
 rfl
theorem vA {cs ls:List T}{t:T}(g:Good cs ls)(ht:t.pl=true)(h:bj cs t=true):dZ [RR cs ls,t] = .ok .non:=by
 refine qz (Z:=[.va (RR cs ls),.va t]) rfl ?_
 show gZ [.va (RR cs ls),.va t] =_
 unfold gZ;exact(cH ((dn (k:=true) (bq (aJ rfl (by rw[qI cs t g.c ht,h])))))).trans rfl
theorem p2 {a b:En->Rs T}{t u:T}{Z:En}(ha:a Z= .ok t)(hb:b Z= .ok u):cp (af a (af b ai)) Z= .ok (.tup [t,u]):=eZ (ar ha (ar hb rfl)) (aI (k:=2) (by simp))
theorem wB {l:List T}:gL [.lst l] = .ok (.tup l):=rfl
theorem Cn {cs ls:List T}(g:Good cs ls):(FD cs ls).length<=60:=by
 unfold FD;rw[IX];obtain⟨hc,c1,c4⟩:=cx g.c
 have:=uS (i:=0) hc
 have:=vJ ls
 have:=g.n;omega
end G
namespace G
open PySem Tr Gr
structure N2 where
 c:Int
 k:Int
deriving DecidableEq
theorem N2.ext':∀{u v:N2},u.c=v.c->u.k=v.k->u=v
 | ⟨_,_⟩,⟨_,_⟩,rfl,rfl=>rfl
def en (v:N2):T:=.tup [.int v.c,.int v.k]
def eB (x:N2×N2×Int):T:=.tup [en x.1,en x.2.1,.int x.2.2]
def eN (ks:List Nat):List T:=ks.map λk=> .int (k:Nat)
def eW (x:Int×List Nat):T:=.tup [.int x.1,.lst (eN x.2)]
def ky (v:N2):List L2.Key:=[.inl v.c,.inl v.k]
theorem ba (v:N2):keyOf (en v)=some (ky v):=rfl
theorem gS {u v:N2}(h:some (ky u)=some (ky v)):u=v:=by
 injection h with h
 injection h with h1 h2
 injection h2 with h2 _
 injection h1 with h1
 injection h2 with h2
 exact N2.ext' h1 h2
theorem E9 {u v:N2}(h:en u=en v):u=v:=gS (by rw[<-ba u,<-ba v,h])
theorem qP (u v:N2):aV (en u) (en v)=decide (u=v):=by
 unfold en aV beqTs aV beqTs beqTs
 by_cases h:u=v
 ·subst h;simp[aV]
 ·have:¬ (u.c=v.c/\u.k=v.k):=λz=>h (N2.ext' z.1 z.2)
  simp[h,aV];exact λz=>λy=>this ⟨z,y⟩
theorem kh (g:N2->T)(v:N2):∀(ns:List N2),jk (ns.map en) (ns.map g) (ky v)=if v∈ns then some (g v)else none
 | [] =>rfl
 | u::ns=>by
  rw[IM,IM,jk,ba]
  by_cases h:u=v
  ·subst h;rw[if_pos rfl,if_pos IL]
  ·rw[if_neg (λz=>h (gS z)),kh g v ns]
   have:(v∈u::ns)↔v∈ns:=by rw[IW];exact⟨λz=>z.elim (λy=>absurd y.symm h) id,.inr⟩
   simp only[this]
theorem iO (x:T)(v:N2)(g:N2->T):∀(ns:List N2),v∉ns->fB (en v) x (ns.map en) (ns.map g)=(ns.map en++ [en v],ns.map g++ [x])
 | [],_=>rfl
 | u::ns,h=>by
  rw[IW,not_or]at h;rw[IM,IM,fB,ba,ba,if_neg (λz=>h.1 (gS z).symm),iO x v g ns h.2]
  rfl
theorem qJ (x:T)(v:N2)(g:N2->T):∀(ns:List N2),ns.Nodup->v∈ns->fB (en v) x (ns.map en) (ns.map g)=(ns.map en,ns.map λu=>if u=v then x else g u)
 | [],_,h=>by simp at h
 | u::ns,hn,h=>by
  rw[Jq]at hn;rw[IM,IM,IM,fB,ba,ba]
  by_cases z:u=v
  ·subst z
   rw[if_pos rfl,if_pos rfl]
   congr 2
   exact JM λw hw=>by rw[if_neg (λ(y:w=u)=>hn.1 (y▸hw))]
  ·rw[if_neg (λy=>z (gS y)),if_neg z]
   have h':v∈ns:=(IW.mp h).elim (λy=>absurd y.symm z) id
   rw[qJ x v g ns hn.2 h']
theorem i0 {α:Type}[DecidableEq α]:∀{l m:List α},l.Nodup->(∀x∈l,x∈m)->l.length<=m.length
 | [],_,_,_=>KP _
 | x::l,m,hn,h=>by
  rw[Jq]at hn
  have hx:=h x IL
  have:=i0 hn.2 λy hy=>(LS (λ(z:y=x)=>hn.1 (z▸hy))).mpr (h y (IJ _ hy))
  rw[Ma hx]at this
  have:0<m.length:=Mr hx;rw[IV];omega
def oW (o:Option (Int×List Nat)):T:=match o with
 | some x=>eW x
 | none=> .non
structure DR (P ns:List N2)(b:bW N2):Prop where
 nd:ns.Nodup
 mem:∀v,v∈ns↔(b v).isSome=true
 sub:∀v∈ns,v∈P
def dV (ns:List N2)(b:bW N2):List T:=ns.map λv=>oW (b v)
theorem DR.get {P ns:List N2}{b:bW N2}(D:DR P ns b)(v:N2):jk (ns.map en) (dV ns b) (ky v)=(b v).map eW:=by
 unfold dV;rw[kh (λv=>oW (b v))]
 have:=D.mem v
 cases q:b v with
 | none=>rw[q]at this;rw[if_neg (λz=>by simpa using this.mp z)];rfl
 | some x=>rw[q]at this;rw[if_pos (this.mpr rfl)];rfl
theorem DR.put {P ns:List N2}{b:bW N2}(D:DR P ns b){v:N2}(hv:v∈P)(y:Int×List Nat):∃ns',DR P ns' (Gr.put b v y)/\fB (en v) (eW y) (ns.map en) (dV ns b)=(ns'.map en,dV ns' (Gr.put b v y)):=by
 by_cases h:v∈ns
 ·refine⟨ns,⟨D.nd,λu=> ?_,D.sub⟩,?_⟩
  ·by_cases z:u=v
   ·subst z;rw[dW];exact⟨λ_=>rfl,λ_=>h⟩
   ·rw[jB z];exact D.mem u
  ·unfold dV
   rw[qJ _ _ _ _ D.nd h]
   congr 1
   refine JM λu _=> ?_
   by_cases z:u=v
   ·subst z;rw[if_pos rfl,dW];rfl
   ·rw[if_neg z,jB z]
 ·refine⟨ns++ [v],⟨?_,λu=> ?_,λu hu=> ?_⟩,?_⟩
  ·exact JR.mpr ⟨D.nd,by simp,λx hx y hy=>by simp at hy;subst hy;exact λz=>h (z▸hx)⟩
  ·rw[JC,IY]
   by_cases z:u=v
   ·subst z;rw[dW];exact⟨λ_=>rfl,λ_=> .inr rfl⟩
   ·rw[jB z,<-D.mem u];exact⟨λw=>w.elim id λy=>absurd y z,.inl⟩
  ·rcases JC.mp hu with w | w
   ·exact D.sub u w
   ·rw[IY.mp w];exact hv
  ·unfold dV
   rw[iO _ _ _ _ h,Jv,Jv]
   congr 1
   congr 1
   ·refine JM λu hu=> ?_
    rw[jB (λ(z:u=v)=>h (z▸hu))]
   ·simp[dW,oW]
theorem Ab {P ns:List N2}{b:bW N2}(D:DR P ns b)(x:N2×N2×Int)(d:Int)(w:List Nat) :
  df [.dct (ns.map en) (dV ns b),eB x,eW (d,w)] = .ok (.bl (d8 b x.2.1 (d+x.2.2))):=by
 refine bc rfl ?_
 show iU [.va (.dct (ns.map en) (dV ns b)),.va (eB x),.va (eW (d,w)),.em] =_
 unfold iU
 have g:oD ij (vr 0) (o2 aP (vr 1) (cn (.int 1))) [.va (.dct (ns.map en) (dV ns b)),.va (eB x),.va (eW (d,w)),.em] = .ok (oW (b x.2.1)):=by
  refine GO rfl rfl ?_
  unfold ij;rw[ba];simp only[D.get];cases b x.2.1 <;> rfl
 rw[az (bJ g rfl)];refine bK ?_
 unfold d8
 cases q:b x.2.1 with
 | none=>exact zr (aA rfl rfl rfl)
 | some y=>exact(zu (aA rfl rfl rfl)).trans (aA rfl rfl rfl)
abbrev Ay:En->Rs Fl:=(ay (cg (ln 2 (oD ij (vr 2) (o2 aP (vr 5) (cn (.int 0))))) (gN 6)) (ay (eR (oo (tb (o2 jK (vr 6) (cn .non))) (dS (Ey 2 (tb (cl df (af (vr 2) (af (vr 5) (af (vr 6) ai)))))))) FX sN) (ay (cg (o2 aK (o2 aP (vr 6) (cn (.int 1))) (cN (af (vr 4) ai))) (gN 7)) (ay (cg (dQ (iS (vr 7)) [none,some 0] (gN 0) bT (o2 aP (o2 aP (vr 1) (vr 0)) (cn (.int 0)))) (gN 8)) (ay (eR (tb (o2 FC (o2 aP (vr 5) (cn (.int 1))) (vr 8))) (aR (cp (af (cn .non) (af (sl (vr 7) (pS (oL f7 (vr 8) (o2 aP (vr 5) (cn (.int 1))))) pN) ai)))) sN) (ay (nM 2 (o2 aP (vr 5) (cn (.int 1))) (cp (af (o2 aK (o2 aP (vr 6) (cn (.int 0))) (o2 aP (vr 5) (cn (.int 2)))) (af (vr 7) ai)))) (cg (cn (.bl true)) (gN 3))))))))
abbrev Hw:T->En->Rs En:=gT 2 (kR (gN 4) (kR (gN 5) vP))
def eL (L:bw N2):T:=.lst (L.map eB)
def yf (L:bw N2)(t:T):T:=match t with
 | .int j=>match L[j.toNat]? with
  | some x=>en x.1
  | none=> .non
 | _=> .non
theorem vz {L:bw N2}:∀{ks:List Nat} {a b:N2},Ch L a ks b->(eN ks).map (yf L)=(eh L ks).map en
 | [],_,_,_=>rfl
 | k::r,a,b,h=>by
  rw[h.HJ];obtain⟨c,m,e,h⟩:=h
  show yf L (.int k)::(eN r).map (yf L)=en a::(eh L r).map en
  rw[vz h]
  congr 1
  unfold yf;simp only[JD,e]
theorem Aj (v:N2):∀(l:List N2),o5 (en v) (l.map en)=decide (v∈l)
 | [] =>rfl
 | u::l=>by
  have ih:=Aj v l;unfold o5 at ih ⊢;rw[IM,Lu,ih,qP]
  by_cases h:u=v
  ·subst h;simp
  ·have h':¬ v=u:=λz=>h z.symm
   simp[h,h']
theorem tE (v:N2):∀(l:List N2) (n:Nat),v∈l->jd (en v) (l.map en) n=some (n+l.idxOf v)
 | [],n,h=>by simp at h
 | u::l,n,h=>by
  rw[IM,jd,qP,Qv]
  by_cases z:u=v
  ·subst z;simp
  ·have h':v∈l:=(IW.mp h).elim (λy=>absurd y.symm z) id
   have zb:(u == v)=false:=by rw[beq_eq_false_iff_ne];exact z
   rw[zb,decide_eq_false z,if_neg Jo,tE v l (n+1) h'];simp only[cond_false]
   congr 1
   omega
theorem CP (v:N2):(en v).nd=true:=rfl
theorem ql {α:Type}(f:α->T)(h:∀a,(f a).nd=true):∀l:List α,nds (l.map f)=true
 | [] =>rfl
 | a::l=>by rw[IM,nds,h a,ql f h l];rfl
theorem qK (v:N2):(en v).dep<=60:=by show(T.tup [.int v.c,.int v.k]).dep<=60;simp[T.dep,deps]
theorem GV (v:N2)(l:List N2):FC (en v) (.lst (l.map en))= .ok (.bl (decide (v∈l))):=by
 show(if (_\/_)/\_/\(T.lst (l.map en)).nd=true then _ else _)=_
 rw[if_pos ⟨.inl (qK v),rfl,ql en CP l⟩,Aj]
theorem zI (v:N2)(l:List N2)(h:v∈l):f7 (.lst (l.map en)) (en v)= .ok (.int ((l.idxOf v:Nat):Int)):=by
 unfold f7;simp only;rw[if_pos ⟨.inl (qK v),rfl,ql en CP l⟩,tE v l 0 h,Oi]
theorem Fe (p q:List Nat):eN (p++q)=eN p++eN q:=by unfold eN;rw[Jv]
theorem yX (D:Bool):∀ks:List Nat,nks D (eN ks)=true
 | [] =>rfl
 | k::r=>by show nks D (.int k::eN r)=true;unfold nks;rw[yX D r];rfl
theorem Ch.len {L:bw N2}{ks:List Nat}{a b:N2}(h:Ch L a ks b)(hn:(eh L ks).Nodup):ks.length<=L.length:=by
 have:=i0 (h.nodup hn) λk hk=>JJ.mpr (h.lt k hk)
 rwa [Kz]at this
abbrev sE (L:bw N2)(st:T)(o:OT)(b:Bool)(k:Nat)(x:N2×N2×Int)(s6 s7 s8:Sl):En:=[.va (eL L),.va st,.ow o,.va (.bl b),.va (.int k),.va (eB x),s6,s7,s8]
def C1 (L:bw N2)(P ns:List N2)(b:bW N2)(k:Nat)(x:N2×N2×Int)(st:T)(mv:Bool)(s6 s7 s8:Sl):Sum (Option (bW N2)) (List Nat)->Prop
 | .inl none=> ∃s6' s7' s8',Ay (sE L st (.dct (ns.map en) (dV ns b)) mv k x s6 s7 s8)= .ok (.ct (sE L st (.dct (ns.map en) (dV ns b)) mv k x s6' s7' s8'))
 | .inl (some b')=> ∃ns' s6' s7' s8',DR P ns' b'/\Ay (sE L st (.dct (ns.map en) (dV ns b)) mv k x s6 s7 s8)= .ok (.nx (sE L st (.dct (ns'.map en) (dV ns' b')) true k x s6' s7' s8'))
 | .inr q=>Ay (sE L st (.dct (ns.map en) (dV ns b)) mv k x s6 s7 s8)= .ok (.rt (.tup [.non,.lst (eN q)]))
theorem A3 {L:bw N2}{S P ns:List N2}{b:bW N2}{k:Nat}{x:N2×N2×Int}(K:Kept L S b)(D:DR P ns b)(hL:L.length<=500)(hP:P.length<1000)(e:L[k]? =some x)(hx:x.2.1∈P)(st:T)(mv:Bool)(s6 s7 s8:Sl) :
  C1 L P ns b k x st mv s6 s7 s8 (gE L b k x):=by
 obtain⟨a,c,m⟩:=x;unfold C1
 generalize hks:ns.map en=ks
 generalize hvs:dV ns b=vs
 have get:∀s7 s8,ln 2 (oD ij (vr 2) (o2 aP (vr 5) (cn (.int 0)))) (sE L st (.dct ks vs) mv k (a,c,m) s6 s7 s8)= .ok (oW (b a)):=λs7 s8=>by
  refine EL rfl (GO rfl rfl ?_) ?_
  ·unfold ij
   rw[ba,<-hks,<-hvs];simp only[D.get];cases b a <;> rfl
  ·cases b a with
   | none=>rfl
   | some y=>show nks true [.int y.1,.lst (eN y.2)] =true;simp[nks,T.nk,yX]
 have s1:∀G,ay (cg (ln 2 (oD ij (vr 2) (o2 aP (vr 5) (cn (.int 0))))) (gN 6)) G (sE L st (.dct ks vs) mv k (a,c,m) s6 s7 s8)=G (sE L st (.dct ks vs) mv k (a,c,m) (.va (oW (b a))) s7 s8):=λG=>
  az (bJ (get s7 s8) rfl)
 cases qa:b a with
 | none=>
  rw[show gE L b k (a,c,m)= .inl none from by unfold gE;simp only[qa]]
  simp only;refine⟨.va .non,s7,s8,?_⟩
  unfold Ay;rw[s1,qa]
  exact zq (dB (sX (bq (aA rfl rfl rfl))))
 | some y=>
  obtain⟨d,w⟩:=y
  have bt:∀s7 s8,Ey 2 (tb (cl df (af (vr 2) (af (vr 5) (af (vr 6) ai))))) (sE L st (.dct ks vs) mv k (a,c,m) (.va (eW (d,w))) s7 s8)= .ok (d8 b c (d+m)):=λs7 s8=>by
   refine GP (bq (aJ rfl ?_))
   rw[<-hks,<-hvs];exact Ab D (a,c,m) d w
  have nn:tb (o2 jK (vr 6) (cn .non)) (sE L st (.dct ks vs) mv k (a,c,m) (.va (eW (d,w))) s7 s8)= .ok false:=bq (aA rfl rfl rfl)
  have cond:=jv nn (dn (bt s7 s8))
  have s1':∀G,ay (cg (ln 2 (oD ij (vr 2) (o2 aP (vr 5) (cn (.int 0))))) (gN 6)) G (sE L st (.dct ks vs) mv k (a,c,m) s6 s7 s8)=G (sE L st (.dct ks vs) mv k (a,c,m) (.va (eW (d,w))) s7 s8):=λG=>by rw[s1 G,qa];rfl
  cases hb:d8 b c (d+m)with
  | false=>
   rw[show gE L b k (a,c,m)= .inl none from by unfold gE;simp only[qa,hb];rfl]
   simp only;rw[hb]at cond;refine⟨.va (eW (d,w)),s7,s8,?_⟩
   unfold Ay;rw[s1']
   exact zq (dB cond)
  | true=>
   rw[hb]at cond;obtain⟨s,hs,h1,h2,h3,h4,h5⟩:=K.walk a d w qa
   have hch:Ch L s (w++ [k]) c:=h1.snoc e
   have hwl:w.length<=500:=JW (Ch.len h1 h4) hL
   have s2:∀G,ay (eR (oo (tb (o2 jK (vr 6) (cn .non))) (dS (Ey 2 (tb (cl df (af (vr 2) (af (vr 5) (af (vr 6) ai)))))))) FX sN) G (sE L st (.dct ks vs) mv k (a,c,m) (.va (eW (d,w))) s7 s8)=G (sE L st (.dct ks vs) mv k (a,c,m) (.va (eW (d,w))) s7 s8):=λG=>
    az ((cH cond).trans rfl)
   have wk:o2 aK (o2 aP (vr 6) (cn (.int 1))) (cN (af (vr 4) ai)) (sE L st (.dct ks vs) mv k (a,c,m) (.va (eW (d,w))) s7 s8)= .ok (.lst (eN (w++ [k]))):=by
    refine aA rfl (iI rfl (aI (k:=1) (by simp))) ?_
    show ju (eN w++eN [k])=_
    rw[<-Fe];unfold ju;rw[if_pos (aI (k:=1000) (by unfold eN;rw[IP,IX];simp;omega))]
   have s3:∀G,ay (cg (o2 aK (o2 aP (vr 6) (cn (.int 1))) (cN (af (vr 4) ai))) (gN 7)) G (sE L st (.dct ks vs) mv k (a,c,m) (.va (eW (d,w))) s7 s8)=G (sE L st (.dct ks vs) mv k (a,c,m) (.va (eW (d,w))) (.va (.lst (eN (w++ [k])))) s8):=λG=>az (bJ wk rfl)
   have ps:dQ (iS (vr 7)) [none,some 0] (gN 0) bT (o2 aP (o2 aP (vr 1) (vr 0)) (cn (.int 0))) (sE L st (.dct ks vs) mv k (a,c,m) (.va (eW (d,w))) (.va (.lst (eN (w++ [k])))) s8)= .ok (.lst ((eh L (w++ [k])).map en)):=by
    rw[<-vz hch];refine mS (jw rfl) (aI (k:=1000) (by unfold eN;rw[IP,IX];simp;omega)) (by simp) λt ht=> ?_
    unfold eN at ht;obtain⟨j,hj,rfl⟩:=Jh.mp ht
    have hjl:=hch.lt j hj;refine aA (sY rfl rfl (by rw[Jm,IU hjl];rfl)) rfl ?_
    unfold yf;simp only[JD,IU hjl]
    rfl
   have s4:∀G,ay (cg (dQ (iS (vr 7)) [none,some 0] (gN 0) bT (o2 aP (o2 aP (vr 1) (vr 0)) (cn (.int 0)))) (gN 8)) G (sE L st (.dct ks vs) mv k (a,c,m) (.va (eW (d,w))) (.va (.lst (eN (w++ [k])))) s8)=G (sE L st (.dct ks vs) mv k (a,c,m) (.va (eW (d,w))) (.va (.lst (eN (w++ [k])))) (.va (.lst ((eh L (w++ [k])).map en)))):=λG=>az (bJ ps rfl)
   have inn:tb (o2 FC (o2 aP (vr 5) (cn (.int 1))) (vr 8)) (sE L st (.dct ks vs) mv k (a,c,m) (.va (eW (d,w))) (.va (.lst (eN (w++ [k])))) (.va (.lst ((eh L (w++ [k])).map en))))= .ok (decide (c∈eh L (w++ [k]))):=
    bq (aA rfl rfl (GV c _))
   by_cases hn:c∈eh L (w++ [k])
   ·rw[show gE L b k (a,c,m)= .inr ((w++ [k]).drop ((eh L (w++ [k])).idxOf c))from by unfold gE;simp only[qa,hb,if_pos hn,if_true]]
    simp only;unfold Ay;rw[s1',s2,s3,s4];rw[decide_eq_true hn]at inn;refine dH ((dB inn).trans (bK ?_))
    have sle:sl (vr 7) (pS (oL f7 (vr 8) (o2 aP (vr 5) (cn (.int 1))))) pN (sE L st (.dct ks vs) mv k (a,c,m) (.va (eW (d,w))) (.va (.lst (eN (w++ [k])))) (.va (.lst ((eh L (w++ [k])).map en))))= .ok (.lst (eN ((w++ [k]).drop ((eh L (w++ [k])).idxOf c)))):=by
     rw[zp rfl (EI (k_oL rfl rfl (zI c _ hn))) rfl,tL];unfold eN;rw[List.map_drop]
    exact(eZ (ar rfl (ar sle rfl)) (aI (k:=2) (by simp)))
   ·rw[show gE L b k (a,c,m)= .inl (some (Gr.put b c (d+m,w++ [k])))from by unfold gE;simp only[qa,hb,if_neg hn,if_true]]
    simp only;rw[decide_eq_false hn]at inn;obtain⟨ns',D',hd⟩:=D.put hx (d+m,w++ [k]);refine⟨ns',.va (eW (d,w)),.va (.lst (eN (w++ [k]))),.va (.lst ((eh L (w++ [k])).map en)),D',?_⟩
    unfold Ay;rw[s1',s2,s3,s4];rw[az ((cH inn).trans rfl)]
    have pt:nM 2 (o2 aP (vr 5) (cn (.int 1))) (cp (af (o2 aK (o2 aP (vr 6) (cn (.int 0))) (o2 aP (vr 5) (cn (.int 2)))) (af (vr 7) ai))) (sE L st (.dct ks vs) mv k (a,c,m) (.va (eW (d,w))) (.va (.lst (eN (w++ [k])))) (.va (.lst ((eh L (w++ [k])).map en))))
      = .ok (.nx (sE L st (.dct (ns'.map en) (dV ns' (Gr.put b c (d+m,w++ [k])))) mv k (a,c,m) (.va (eW (d,w))) (.va (.lst (eN (w++ [k])))) (.va (.lst ((eh L (w++ [k])).map en))))):=by
     have ev:cp (af (o2 aK (o2 aP (vr 6) (cn (.int 0))) (o2 aP (vr 5) (cn (.int 2)))) (af (vr 7) ai)) (sE L st (.dct ks vs) mv k (a,c,m) (.va (eW (d,w))) (.va (.lst (eN (w++ [k])))) (.va (.lst ((eh L (w++ [k])).map en))))= .ok (eW (d+m,w++ [k])):=
      eZ rfl (aI (k:=2) (by simp))
     have ek:o2 aP (vr 5) (cn (.int 1)) (sE L st (.dct ks vs) mv k (a,c,m) (.va (eW (d,w))) (.va (.lst (eN (w++ [k])))) (.va (.lst ((eh L (w++ [k])).map en))))= .ok (en c):=rfl
     show(cp _ _ >>= λv=>o2 aP (vr 5) (cn (.int 1)) _ >>= λkk=>match keyOf kk with | some _=>if ks.length<1000 then Rs.ok (Fl.nx _)else .bad | none=> .bad)=_
     rw[ev,aG,ek,aG,ba]
     have hlen:ks.length<1000:=by rw[<-hks,IP];exact O5 (i0 D.nd D.sub) hP
     simp only[if_pos hlen]
     have hd1:fB (en c) (eW (d+m,w++ [k])) ks vs=(ns'.map en,dV ns' (Gr.put b c (d+m,w++ [k]))):=by rw[<-hks,<-hvs];exact hd
     rw[hd1]
     rfl
    rw[az pt];exact bJ rfl rfl
def ym (L:bw N2)(st:T)(ns:List N2)(b:bW N2)(mv:Bool)(s4 s5 s6 s7 s8:Sl):En:=[.va (eL L),.va st,.ow (.dct (ns.map en) (dV ns b)),.va (.bl mv),s4,s5,s6,s7,s8]
def Am (L:bw N2)(P:List N2)(st:T)(X:Rs Fl):Sum (bW N2×Bool) (List Nat)->Prop
 | .inr q=>X= .ok (.rt (.tup [.non,.lst (eN q)]))
 | .inl (b',mv')=> ∃ns' s4 s5 s6 s7 s8,DR P ns' b'/\X= .ok (.nx (ym L st ns' b' mv' s4 s5 s6 s7 s8))
theorem pG {L:bw N2}{S P:List N2}(hL:L.length<=500)(hP:P.length<1000)(hx:∀x∈L,x.2.1∈P)(st:T):∀(r:bw N2) (k:Nat) (b:bW N2) (mv:Bool) (ns:List N2) (s4 s5 s6 s7 s8:Sl),L.drop k=r->Kept L S b->DR P ns b →
  Am L P st (bp Hw Ay (dh k (r.map eB)) (ym L st ns b mv s4 s5 s6 s7 s8)) (hV L k r b mv)
 | [],k,b,mv,ns,s4,s5,s6,s7,s8,_,K,D=>⟨ns,s4,s5,s6,s7,s8,D,rfl⟩
 | x::r,k,b,mv,ns,s4,s5,s6,s7,s8,hr,K,D=>by
  have e:L[k]? =some x:=by
   have:=congrArg (·[0]?) hr
   simpa using this
  have hr':L.drop (k+1)=r:=by
   have:=congrArg (List.drop 1) hr
   simpa [List.drop_drop,PJ]using this
  have tg:Hw (.tup [.int k,eB x]) (ym L st ns b mv s4 s5 s6 s7 s8)= .ok [.va (eL L),.va st,.ow (.dct (ns.map en) (dV ns b)),.va (.bl mv),.va (.int k),.va (eB x),s6,s7,s8]:=rfl
  have tn:=A3 K D hL hP e (hx x (JT e)) st mv s6 s7 s8;rw[hV,IM,dh]
  cases q:gE L b k x with
  | inr w=>
   rw[q]at tn;simp only;unfold Am
   exact vL tg tn
  | inl o=>
   rw[q]at tn
   cases o with
   | none=>
    obtain⟨s6',s7',s8',tn⟩:=tn;simp only;rw[BZ tg tn]
    exact pG hL hP hx st r (k+1) b mv ns _ _ _ _ _ hr' K D
   | some b'=>
    obtain⟨ns',s6',s7',s8',D',tn⟩:=tn;simp only;rw[du tg tn];refine pG (S:=S) hL hP hx st r (k+1) b' true ns' _ _ _ _ _ hr' ?_ D'
    -- what is kept stays so
    obtain⟨a,c,m⟩:=x;unfold gE at q
    cases qa:b a with
    | none=>simp only[qa]at q;cases q
    | some y=>
     obtain⟨d,w⟩:=y;simp only[qa]at q
     split at q
     ·rename_i hb
      split at q
      ·cases q
      ·rename_i hn
       cases q;exact K.put e qa hb hn
     ·cases q
abbrev wF:En->Rs Fl:=ay (cg (cn (.bl false)) (gN 3)) (eU (iE (af (vr 0) ai)) Hw Ay)
def SetP (L:bw N2)(P:List N2)(st:T)(X:Rs Fl):Sum (bW N2) (List Nat)->Prop
 | .inr q=>X= .ok (.rt (.tup [.non,.lst (eN q)]))
 | .inl b'=> ∃ns' s4 s5 s6 s7 s8,DR P ns' b'/\X= .ok (.nx (ym L st ns' b' false s4 s5 s6 s7 s8))
theorem rN {L:bw N2}{S P:List N2}(hL:L.length<=500)(hP:P.length<1000)(hx:∀x∈L,x.2.1∈P)(st:T):∀(n:Nat) (b:bW N2) (ns:List N2) (s4 s5 s6 s7 s8:Sl) (r:Sum (bW N2) (List Nat)),Kept L S b->DR P ns b->Gr.settle L n b=some r →
  SetP L P st (bM (tb (vr 3)) wF (n+1) (ym L st ns b true s4 s5 s6 s7 s8)) r
 | 0,_,_,_,_,_,_,_,_,_,_,h=>by cases h
 | n+1,b,ns,s4,s5,s6,s7,s8,r,K,D,h=>by
  have sw:=pG hL hP hx st L 0 b false ns s4 s5 s6 s7 s8 rfl K D
  have ok:=ir L 0 b false rfl K
  have body:∀X,bp Hw Ay (dh 0 (L.map eB)) (ym L st ns b false s4 s5 s6 s7 s8)= .ok X->wF (ym L st ns b true s4 s5 s6 s7 s8)= .ok X:=λX hX=>by
   show ay _ _ _=_
   rw[az (bJ rfl rfl)];exact ff (CV rfl) hX
  have tt:tb (vr 3) (ym L st ns b true s4 s5 s6 s7 s8)= .ok true:=rfl;rw[Gr.settle]at h
  revert sw ok h
  generalize hV L 0 L b false=R
  intro h sw ok
  cases R with
  | inr q=>
   simp only at h;cases h
   exact zm tt (body _ sw)
  | inl p=>
   obtain⟨b',mv'⟩:=p;obtain⟨ns',t4,t5,t6,t7,t8,D',sw⟩:=sw;obtain⟨K',_⟩:=ok
   cases mv' with
   | true=>
    simp only at h
    have ih:=rN hL hP hx st n b' ns' t4 t5 t6 t7 t8 r K' D' h;rw[sW tt (body _ sw)]
    exact ih
   | false=>
    simp only at h;cases h;refine⟨ns',t4,t5,t6,t7,t8,D',?_⟩
    rw[sW tt (body _ sw)];exact zo rfl
theorem gK {c:En->Rs Bool}{F:En->Rs Fl}{x:Fl}:∀{n m:Nat} {Z:En},n<=m->bM c F n Z= .ok x->bM c F m Z= .ok x
 | 0,_,_,_,h=>by cases h
 | n+1,0,_,hl,_=>absurd hl (by omega)
 | n+1,m+1,Z,hl,h=>by
  unfold bM at h ⊢
  cases q:c Z with
  | bad=>rw[q]at h;cases h
  | err _=>rw[q]at h;cases h
  | ok k=>
   rw[q]at h
   cases k with
   | false=>exact h
   | true=>
    simp only at h ⊢
    cases q2:F Z with
    | bad=>rw[q2]at h;cases h
    | err _=>rw[q2]at h;cases h
    | ok f=>
     rw[q2]at h
     cases f with
     | nx Z'=>exact gK (by omega) h
     | ct Z'=>exact gK (by omega) h
     | bk Z'=>exact h
     | rt t=>exact h
theorem yA (w:T):∀S:List N2,prs (S.map λv=> .tup [en v,w])=some (S.map λv=>(en v,w))
 | [] =>rfl
 | v::S=>by rw[IM,prs,ba,yA w S];rfl
theorem tH (w:T):∀(S ns:List N2) (g:N2->T),(ns++S).Nodup->(∀v∈S,g v=w)->fS (S.map λv=>(en v,w)) (ns.map en,ns.map g)=((ns++S).map en,(ns++S).map g)
 | [],ns,g,_,_=>by rw[J7];rfl
 | v::S,ns,g,hn,hg=>by
  have hv:v∉ns:=λz=>by
   rw[JR]at hn;exact hn.2.2 v z v IL rfl
  rw[IM,fS,iO _ _ _ _ hv]
  have e1:ns.map en++ [en v] =(ns++ [v]).map en:=by rw[Jv];rfl
  have e2:ns.map g++ [w] =(ns++ [v]).map g:=by rw[Jv,<-hg v IL];rfl
  rw[e1,e2,tH w S (ns++ [v]) g (by rw[JE];exact hn) λu hu=>hg u (IJ _ hu),JE]
  rfl
theorem Ci (w:T)(S:List N2)(hn:S.Nodup)(hl:S.length<=1000):vZ [.lst (S.map λv=> .tup [en v,w])] = .ok (.dct (S.map en) (S.map λ_=>w)):=by
 unfold vZ;simp only[yA];rw[if_pos (by rw[IP];exact hl)]
 have:=tH w S [] (λ_=>w) (by simpa using hn) (λ_ _=>rfl)
 rw[Kp]at this;rw[show(([]:List T),([]:List T))=(([]:List N2).map en,([]:List N2).map λ_=>w)from rfl,this]
def eS (S:List N2):T:=.lst (S.map en)
def Cu (L:bw N2)(P:List N2)(X:Rs T):Sum (bW N2) (List Nat)->Prop
 | .inr q=>X= .ok (.tup [.non,.lst (eN q)])
 | .inl b'=> ∃ns',DR P ns' b'/\X= .ok (.tup [.dct (ns'.map en) (dV ns' b'),.non])
structure Ho (L:bw N2)(P:List N2):Prop where
 len:L.length<=500
 size:size L<=100000000
 ends:∀x∈L,x.1∈P/\x.2.1∈P
 pl:P.length<1000
def SOk (L:bw N2)(S:List N2):Sum (bW N2) (List Nat)->Prop
 | .inr q=>Bar L q
 | .inl b'=>Settled L S b'
theorem tG {L:bw N2}{S P:List N2}(F:Ho L P)(hS:S.Nodup)(hSP:∀v∈S,v∈P):∃r,Cu L P (fL [eL L,eS S]) r/\SOk L S r:=by
 have bound:L.length*(2*size L+1)<1000000000000 - 1:=by
  have h1:=F.len
  have h2:=F.size
  have:L.length*(2*size L+1)<=500*(2*100000000+1):=Nat.mul_le_mul h1 (by omega)
  omega
 obtain⟨r,hr,ok⟩:=um L S bound
 have ok':SOk L S r:=by cases r <;> exact ok
 refine⟨r,?_,ok'⟩
 have hSl:S.length<=1000:=JW (i0 hS hSP) (by have:=F.pl;omega)
 have D0:DR P S (Gr.start S):=⟨hS,λv=>by unfold Gr.start;by_cases h:v∈S <;> simp[h],hSP⟩
 have dv0:dV S (Gr.start S)=S.map λ_=>eW (0,[]):=JM λv hv=>by unfold Gr.start;rw[if_pos hv];rfl
 have w:=rN F.len F.pl (λx hx=>(F.ends x hx).2) (eS S) _ (Gr.start S) S .em .em .em .em .em r (mQ L S) D0 hr
 have lc:dQ (iS (vr 1)) [none] (gN 0) bT (cp (af (vr 0) (af (cp (af (cn (.int 0)) (af (cN ai) ai))) ai))) [.va (eL L),.va (eS S),.em,.em,.em,.em,.em,.em,.em] = .ok (.lst (S.map λv=> .tup [en v,eW (0,[])])):=by
  have:=mS (fi:=iS (vr 1)) (src:=[none]) (fe:=cp (af (vr 0) (af (cp (af (cn (.int 0)) (af (cN ai) ai))) ai))) (Z:=[.va (eL L),.va (eS S),.em,.em,.em,.em,.em,.em,.em]) (jw rfl) (aI (by rw[IP];exact hSl)) (by simp) λt _=>
   eZ (ar rfl (ar (eZ (ar rfl (ar (iI rfl (KP _)) rfl)) (aI (k:=2) (by simp))) rfl)) (aI (k:=2) (by simp))
  rw[this,JX];rfl
 have n0:oj 2 (dQ (iS (vr 1)) [none] (gN 0) bT (cp (af (vr 0) (af (cp (af (cn (.int 0)) (af (cN ai) ai))) ai)))) [.va (eL L),.va (eS S),.em,.em,.em,.em,.em,.em,.em] = .ok (.nx [.va (eL L),.va (eS S),.ow (.dct (S.map en) (dV S (Gr.start S))),.em,.em,.em,.em,.em,.em]):=by
  unfold oj;rw[lc,aG,Ci _ S hS hSl,aG,dv0]
  rfl
 have main:∀G X,bM (tb (vr 3)) wF FU (ym L (eS S) S (Gr.start S) true .em .em .em .em .em)= .ok X->iQ [.va (eL L),.va (eS S),.em,.em,.em,.em,.em,.em,.em] =G->(ay (bM (tb (vr 3)) wF FU) (mf 2 (aR (cp (af (vr 2) (af (cn .non) ai)))))) (ym L (eS S) S (Gr.start S) true .em .em .em .em .em)=G:=λG X _ h=>by
  rw[<-h];unfold iQ;rw[az n0,az (Z':=ym L (eS S) S (Gr.start S) true .em .em .em .em .em) (bJ rfl rfl)]
 cases r with
 | inr q=>
  have w':=gK (m:=FU) (by unfold FU;omega) w
  refine bc rfl ?_
  show iQ [.va (eL L),.va (eS S),.em,.em,.em,.em,.em,.em,.em] =_
  rw[<-main _ _ w' rfl]
  exact dH w'
 | inl b'=>
  obtain⟨ns',s4,s5,s6,s7,s8,D',w⟩:=w
  have w':=gK (m:=FU) (by unfold FU;omega) w
  refine⟨ns',D',bc rfl ?_⟩
  show iQ [.va (eL L),.va (eS S),.em,.em,.em,.em,.em,.em,.em] =_
  rw[<-main _ _ w' rfl,az w'];exact zB (bK (eZ rfl (aI (k:=2) (by simp))))
theorem j6 {α:Type}{f:α->T}{p:α->Prop}:∀{l:List T},(∀t∈l,∃x,t=f x/\p x)->∃L:List α,l=L.map f/\∀x∈L,p x
 | [],_=>⟨[],rfl,λ_ h=>nomatch h⟩
 | t::l,h=>by
  obtain⟨x,e,hx⟩:=h t IL;obtain⟨L,e2,h2⟩:=j6 λu hu=>h u (IJ _ hu)
  exact⟨x::L,by rw[e,e2];rfl,λy hy=>(IW.mp hy).elim (λz=>z▸hx) (h2 y)⟩
theorem uQ {t:T}(h:bL t=true):∃(x y:Int) (r:List Int),t= .tup [.int x,.int y,.tup (r.map .int)]/\(0<=x/\x<=9)/\(0<=y/\y<=9)/\∀k,0<=r.getD k 0/\r.getD k 0<=99:=by
 obtain⟨x,y,r,rfl,h1,h2,h3,h4⟩:=jO h;refine⟨x,y,r,rfl,h1,h2,λk=> ?_⟩
 have h':(pX (.int x) (.int y)&&cW (.tup (r.map .int)))=true:=h;rw[IT]at h'
 have hr:=h'.2;unfold cW at hr;rw[IT]at hr
 have hr2:(((r.map T.int).all λu=>bo u 0 99)&&(match j0 (r.map .int)with | some m=>nE m | none=>false))=true:=hr.2
 rw[IT]at hr2
 by_cases hk:k<r.length
 ·have:=Jf.mp hr2.1 (.int r[k]) (Jh.mpr ⟨_,Ku hk,rfl⟩)
  obtain⟨i,e,a,b⟩:=cZ this;cases e;simp[hk];exact⟨a,b⟩
 ·simp[hk]
theorem vC {cs:List T}{i:Nat}:∀{cs0:List T} {c k:Nat},i<=c->c<i+cs0.length->k<Dt (cs0.getD (c - i) .non)->T.tup [.int c,.int k] ∈fR i cs0:=by
 intro cs0
 induction cs0 generalizing i with
 | nil=>intro c k h1 h2;simp at h2;omega
 | cons a r ih=>
  intro c k h1 h2 h3;rw[fR,JC]
  by_cases e:c=i
  ·subst e
   rw[Na]at h3
   have h3':k<Dt a:=h3;exact .inl (Jh.mpr ⟨.int k,BS h3',rfl⟩)
  ·refine .inr (ih (by omega) (by rw[IV]at h2;omega) ?_)
   rw[show c - i=(c - (i+1))+1 by omega]at h3
   exact h3
theorem kU {cs:List T}{t:T}(h:bj cs t=true):t∈fR 0 cs:=by
 obtain⟨c,k,rfl⟩:=fg h;unfold bj at h;simp only[IT,decide_eq_true_eq]at h;obtain⟨⟨h1,h2⟩,h3,h4⟩:=h;obtain⟨c,rfl⟩:=Jz h1;obtain⟨k,rfl⟩:=Jz h3;rw[kG]at h4;exact vC (cs:=cs) (KP _) (by omega) (by rw[Nb];omega)
theorem zW {cs:List T}{t:T}(h:t∈fR 0 cs):∃v:N2,t=en v/\True:=by
 obtain⟨c,k,rfl,_⟩:=j5 cs 0 h;exact⟨⟨c,k⟩,rfl,trivial⟩
def big (x:N2×N2×Int):Prop:=x.2.2.natAbs<=999
theorem oy {a b:Int}(ha : -99<=a/\a<=99)(hb:0<=b/\b<=9):(a*b).natAbs<=999:=by
 rw[Int.natAbs_mul]
 have h1:a.natAbs<=99:=by omega
 have h2:b.natAbs<=9:=by omega
 exact JW (Nat.mul_le_mul h1 h2) (by decide)
theorem C0 {cs0:List T}:∀{cs:List T} {i:Nat},(∀c∈cs,bL c=true)->(∀c k:Nat,i<=c->c<i+cs.length->k<Dt (cs.getD (c - i) .non)->T.tup [.int c,.int k] ∈fR 0 cs0) →
  ∀t∈bC i cs,∃x,t=eB x/\(en x.1∈fR 0 cs0/\en x.2.1∈fR 0 cs0/\big x)
 | [],_,_,_,t,h=>by simp[bC]at h
 | c::cs,i,hc,hm,t,h=>by
  rw[bC,JC]at h;rcases h with h | h
  ·obtain⟨x,y,r,rfl,hx,hy,hr⟩:=uQ (hc c IL)
   have hm0:∀k,k<r.length->T.tup [.int i,.int k] ∈fR 0 cs0:=λk hk=>hm i k (Jc _) (by simp) (by rw[Na];show k<(r.map T.int).length;rw[IP];exact hk)
   rw[ve]at h;unfold cB at h;obtain⟨k,hk,hp⟩:=P9.mp h
   have hk:=JJ.mp hk
   have d : -99<=dr r k/\dr r k<=99:=by have:=hr k;have:=hr (k+1);unfold dr;omega
   unfold pr at hp;simp only[IW,JQ,or_false]at hp;rcases hp with rfl | rfl
   ·exact⟨(⟨i,k⟩,⟨i,((k+1:Nat):Int)⟩,dr r k*y),rfl,hm0 k (by omega),hm0 (k+1) (by omega),oy d hy⟩
   ·exact⟨(⟨i,((k+1:Nat):Int)⟩,⟨i,k⟩,-dr r k*x),rfl,hm0 (k+1) (by omega),hm0 k (by omega),oy (by omega) hx⟩
  ·exact C0 (λc h=>hc c (IJ _ h)) (λc k h1 h2 h3=>hm c k (by omega) (by rw[IV];omega) (by rw[show c - i=(c - (i+1))+1 by omega];exact h3)) t h
theorem GL {cs:List T}{u:T}(hu:bP cs u=true):∀t∈lB u,∃x,t=eB x/\(en x.1∈fR 0 cs/\en x.2.1∈fR 0 cs/\big x):=by
 intro t ht;obtain⟨a,b,x,y,rfl,hd,ha,hb,_⟩:=j7 hu
 have ma:=kU ha
 have mb:=kU hb;obtain⟨va,rfl,_⟩:=zW ma;obtain⟨vb,rfl,_⟩:=zW mb;unfold fA at hd;rw[IT]at hd;obtain⟨i,rfl,i1,i2⟩:=cZ hd.1
 have e2:lB (.tup [en va,en vb,.int i,y])= .tup [en vb,en va,.int (-i)] ::(if y.isN then []else [.tup [en va,en vb,y]]):=rfl
 rw[e2]at ht;rcases IW.mp ht with rfl | ht
 ·exact⟨(vb,va,-i),rfl,mb,ma,by unfold big;simp only;omega⟩
 ·cases q:y.isN with
  | true=>rw[q]at ht;simp at ht
  | false=>
   rw[q]at ht
   have ht:t= .tup [en va,en vb,y]:=by simpa using ht
   have hw:bo y i 999=true:=by
    cases y with
    | non=>cases q
    | _=>exact hd.2
   obtain⟨j,rfl,j1,j2⟩:=cZ hw;exact⟨(va,vb,j),ht,ma,mb,by unfold big;simp only;omega⟩
structure Rd (cs ls:List T)(L:bw N2)(P:List N2):Prop where
 g:Good cs ls
 b:FD cs ls=L.map eB
 e:fR 0 cs=P.map en
 f:Ho L P
 nd:P.Nodup
 pl:P.length<=16
 ll:L.length<=60
 bg:∀x∈L,big x
theorem A1 {L:bw N2}(h:∀x∈L,big x):size L<=999*L.length:=by
 unfold size
 induction L with
 | nil=>simp
 | cons x L ih=>
  rw[IM,KF,IV]
  have:=ih λy hy=>h y (IJ _ hy)
  have:=h x IL;unfold big at this;omega
theorem yV {P:List N2}(h:(P.map en).Nodup):P.Nodup:=by
 induction P with
 | nil=>exact KU
 | cons a r ih=>
  rw[IM,Jq]at h;exact Jq.mpr ⟨λz=>h.1 (Jh.mpr ⟨a,z,rfl⟩),ih h.2⟩
theorem vk {cs ls:List T}(g:Good cs ls):∃L P,Rd cs ls L P:=by
 obtain⟨hc,c1,c4⟩:=cx g.c;obtain⟨P,eP,_⟩:=j6 λt ht=>zW ht
 have key:∀t∈FD cs ls,∃x,t=eB x/\(en x.1∈fR 0 cs/\en x.2.1∈fR 0 cs/\big x):=λt ht=>by
  unfold FD at ht;rw[JC]at ht;rcases ht with h | h
  ·exact C0 hc (λc k h1 h2 h3=>vC (cs:=cs) h1 h2 h3) t h
  ·obtain⟨u,hu,h⟩:=P9.mp h
   exact GL (g.l u hu) t h
 obtain⟨L,eL,hL⟩:=j6 key
 have mem:∀v:N2,en v∈fR 0 cs->v∈P:=λv hv=>by
  rw[eP]at hv;obtain⟨u,hu,e⟩:=Jh.mp hv;rw[<-E9 e];exact hu
 have hl:=Cn g;rw[eL,IP]at hl
 have hp:=qH cs 0 hc;rw[eP,IP]at hp
 have hs:=A1 λx hx=>(hL x hx).2.2
 exact⟨L,P,g,eL,eP,⟨by omega,by omega,λx hx=>⟨mem _ (hL x hx).1,mem _ (hL x hx).2.1⟩,by omega⟩,yV (eP▸kL cs 0),by omega,hl,λx hx=>(hL x hx).2.2⟩
def CW:T->Bool
 | .lst _=>true
 | _=>false
theorem G4 (t:T)(h:t.pl=true):zF "list" t= .ok (.bl (CW t)):=by
 cases t <;> first | rfl | (simp[T.pl]at h;done)
def gg (n:Nat)(t:T):Bool:=match t with
 | .lst l=>l.all λu=>bo u 0 ((n:Int) - 1)
 | _=>false
theorem yB {l:List T}:(T.lst l).pl=plS l:=by unfold T.pl;rfl
theorem kW (L:bw N2)(t:T)(h:t.pl=true)(hl:∀l,t= .lst l->l.length<=1000):cu [eL L,t] = .ok (.bl (gg L.length t)):=by
 refine bc rfl ?_
 show gu [.va (eL L),.va t] =_
 unfold gu;refine bK ?_
 cases q:CW t with
 | false=>
  rw[gW (EK rfl (by rw[G4 t h,q]))]
  cases t <;> first | rfl | cases q
 | true=>
  cases t with
  | lst l=>
   refine(iJ (EK (t:=.lst l) rfl rfl)).trans ?_
   refine(aJ (ar ?_ rfl) (all_map _ _))
   refine mS (jw rfl) (aI (hl l rfl) (by omega)) (by simp) λu hu=> ?_
   refine aJ (ar rfl (ar rfl (ar (aA (t:=.int (L.length:Int)) (aJ rfl ?_) rfl rfl) rfl))) (fh _ _ _ (jX (yB▸h) hu))
   show Rs.ok (T.int ((L.map eB).length:Nat))=_
   rw[IP]
  | _=>cases q
theorem qe {n:Nat}{t:T}(h:gg n t=true):∃ks:List Nat,t= .lst (eN ks)/\∀k∈ks,k<n:=by
 cases t with
 | lst l=>
  have h:(l.all λu=>bo u 0 ((n:Int) - 1))=true:=h
  obtain⟨ks,e,hk⟩:=j6 (p:=λk=>k<n) λu hu=>by
   obtain⟨i,rfl,a,b⟩:=cZ (Jf.mp h u hu);obtain⟨k,rfl⟩:=Jz a;exact⟨k,rfl,by omega⟩
  exact⟨ks,by rw[e];rfl,hk⟩
 | _=>cases h
theorem mC {n:Nat}{ks:List Nat}(h:∀k∈ks,k<n):gg n (.lst (eN ks))=true:=by
 show((eN ks).all λu=>bo u 0 ((n:Int) - 1))=true
 rw[Jf];intro u hu;obtain⟨k,hk,rfl⟩:=Jh.mp hu
 have:=h k hk;unfold bo
 simp;omega
def run (L:bw N2):N2->List Nat->Option N2
 | a,[] =>some a
 | a,k::r=>match L[k]? with
  | some x=>if x.1=a then run L x.2.1 r else none
  | none=>none
theorem run_ch {L:bw N2}:∀{ks:List Nat} {a b:N2},run L a ks=some b↔Ch L a ks b
 | [],a,b=>by unfold run Ch;exact⟨λh=>JB h,λh=>by rw[h]⟩
 | k::r,a,b=>by
  unfold run Ch
  cases q:L[k]? with
  | none=>simp
  | some x=>
   obtain⟨u,v,m⟩:=x;simp only
   by_cases h:u=a
   ·subst h
    rw[if_pos rfl,run_ch];exact⟨λz=>⟨v,m,rfl,z⟩,λ⟨c,m',e,z⟩=>by cases e;exact z⟩
   ·rw[if_neg h]
    exact⟨λz=>(by cases z),λ⟨c,m',e,z⟩=>by cases e;exact absurd rfl h⟩
theorem CO (u v:N2):lb (en u) (en v)= .ok (.bl (!decide (u=v))):=by
 unfold lb;rw[if_pos (fQ (qK u) rfl rfl),qP]
theorem G3 (u v:N2):kC (en u) (en v)= .ok (.bl (decide (u=v))):=by
 unfold kC;rw[if_pos (fQ (qK u) rfl rfl),qP]
theorem nr {L:bw N2}{k:Nat}{x:N2×N2×Int}{f g:En->Rs T}{Z:En}(hf:f Z= .ok (eL L))(hg:g Z= .ok (.int (k:Nat)))(e:L[k]? =some x):o2 aP f g Z= .ok (eB x):=
 sY hf hg (by rw[Jm,e];rfl)
abbrev GK:En->Rs Fl:=(ay (eR (tb (o2 lb (o2 aP (o2 aP (vr 0) (vr 5)) (cn (.int 0))) (vr 4))) (aR (cn (.bl false))) sN) (cg (o2 aP (o2 aP (vr 0) (vr 5)) (cn (.int 1))) (gN 4)))
abbrev EA (L:bw N2)(s1 s2 s3:Sl)(a:N2)(s5:Sl):En:=[.va (eL L),s1,s2,s3,.va (en a),s5]
theorem vH (L:bw N2)(s1 s2 s3:Sl):∀(ks:List Nat) (a:N2) (s5:Sl),(∀k∈ks,k<L.length)->match run L a ks with
  | some c=> ∃s5',bp (gN 5) GK (eN ks) (EA L s1 s2 s3 a s5)= .ok (.nx (EA L s1 s2 s3 c s5'))
  | none=>bp (gN 5) GK (eN ks) (EA L s1 s2 s3 a s5)= .ok (.rt (.bl false))
 | [],a,s5,_=>⟨s5,rfl⟩
 | k::ks,a,s5,h=>by
  have hk:=h k IL
  have e:L[k]? =some L[k]:=IU hk
  unfold run;rw[e];simp only
  have c1:tb (o2 lb (o2 aP (o2 aP (vr 0) (vr 5)) (cn (.int 0))) (vr 4)) (EA L s1 s2 s3 a (.va (.int (k:Nat))))= .ok (!decide (L[k].1=a)):=
   bq (aA (aA (nr rfl rfl e) rfl rfl) rfl (CO _ _))
  by_cases q:L[k].1=a
  ·rw[if_pos q]
   have ih:=vH L s1 s2 s3 ks L[k].2.1 (.va (.int (k:Nat))) λj hj=>h j (IJ _ hj)
   have st:GK (EA L s1 s2 s3 a (.va (.int (k:Nat))))= .ok (.nx (EA L s1 s2 s3 L[k].2.1 (.va (.int (k:Nat))))):=by
    rw[decide_eq_true q]at c1;refine(az ((cH c1).trans rfl)).trans ?_
    exact bJ (aA (nr rfl rfl e) rfl rfl) rfl
   show match run L L[k].2.1 ks with
    | some c=> ∃s5',bp (gN 5) GK (.int (k:Nat)::eN ks) _=_
    | none=>bp (gN 5) GK (.int (k:Nat)::eN ks) _=_
   rw[du rfl st];exact ih
  ·rw[if_neg q]
   rw[decide_eq_false q]at c1;exact vL rfl (dH ((dB c1).trans rfl))
theorem vW {L:bw N2}{a b:N2}{t:T}(h:t.pl=true)(hl:∀l,t= .lst l->l.length<=1000):(gg L.length t=false/\gP [eL L,en a,en b,t] = .ok (.bl false)) ∨
  ∃ks,t= .lst (eN ks)/\(∀k∈ks,k<L.length)/\gP [eL L,en a,en b,t] = .ok (.bl (decide (run L a ks=some b))):=by
 cases q:gg L.length t with
 | false=>
  refine .inl ⟨rfl,bc rfl ?_⟩
  show kA [.va (eL L),.va (en a),.va (en b),.va t,.em,.em] =_
  unfold kA
  exact dH ((dB (dn (k:=false) (bq (aJ rfl (by rw[kW L t h hl,q]))))).trans rfl)
 | true=>
  obtain⟨ks,rfl,hk⟩:=qe q;refine .inr ⟨ks,rfl,hk,bc rfl ?_⟩
  show kA [.va (eL L),.va (en a),.va (en b),.va (.lst (eN ks)),.em,.em] =_
  unfold kA;rw[az ((cH (dn (k:=true) (bq (aJ rfl (by rw[kW L _ h hl,q]))))).trans rfl)]
  rw[az (Z':=EA L (.va (en a)) (.va (en b)) (.va (.lst (eN ks))) a .em) (bJ rfl rfl)]
  have lo:=vH L (.va (en a)) (.va (en b)) (.va (.lst (eN ks))) ks a .em hk
  cases r:run L a ks with
  | none=>
   rw[r]at lo
   rw[dH (ff (jw rfl) lo)];rfl
  | some c=>
   rw[r]at lo;obtain⟨s5,lo⟩:=lo;rw[az (ff (jw rfl) lo)];refine bK ((aA rfl rfl (G3 c b)).trans ?_)
   simp
theorem gF (f:Nat->Int):∀ks:List Nat,eV (ks.map λk=>T.int (f k))=some (ks.map f)
 | [] =>rfl
 | k::ks=>by rw[IM,eV,gF f ks];rfl
theorem m5 (L:bw N2):∀ks:List Nat,(ks.map (most L)).sum=bZ L ks
 | [] =>rfl
 | k::ks=>by rw[IM,KF,m5 L ks];rfl
theorem CZ {L:bw N2}{ks:List Nat}(hk:∀k∈ks,k<L.length)(hl:ks.length<=1000):gH [eL L,.lst (eN ks)] = .ok (.int (bZ L ks)):=by
 refine bc rfl ?_
 show nA [.va (eL L),.va (.lst (eN ks))] =_
 unfold nA
 have e:dQ (iS (vr 1)) [none,some 0] (gN 0) bT (o2 aP (o2 aP (vr 1) (vr 0)) (cn (.int 2))) [.va (eL L),.va (.lst (eN ks))] = .ok (.lst ((eN ks).map λt=>match t with | .int i=> .int (most L i.toNat) | _=> .non)):=
  mS (jw rfl) (aI (by unfold eN;rw[IP];exact hl) (by omega)) (by simp) λt ht=>by
   obtain⟨k,h,rfl⟩:=Jh.mp ht
   have h:=hk k h
   have e:L[k]? =some L[k]:=IU h
   refine(aA (nr rfl rfl e) rfl rfl).trans ?_
   show Rs.ok (T.int L[k].2.2)= .ok (.int (most L (k:Int).toNat))
   rw[JD,most,e]
 refine bK (aJ (ar e rfl) ?_)
 have:((eN ks).map λt=>match t with | .int i=>T.int (most L i.toNat) | _=> .non)=ks.map λk=>T.int (most L k):=by
  unfold eN;rw[JX];exact JM λk _=>by show T.int (most L (k:Int).toNat)=_;rw[JD]
 rw[this]
 show(match eV (ks.map λk=>T.int (most L k))with | some ns=>Rs.ok (T.int ns.sum) | none=> .bad)=_
 rw[gF]
 show Rs.ok (T.int (ks.map (most L)).sum)=_
 rw[m5]
def w9 (t:T):List Nat:=match t with
 | .lst l=>l.map λu=>match u with | .int i=>i.toNat | _=>0
 | _=> []
theorem f9 (ks:List Nat):w9 (.lst (eN ks))=ks:=by
 show(eN ks).map _=ks
 unfold eN;rw[JX]
 have:∀l:List Nat,l.map ((λu=>match u with | T.int i=>i.toNat | _=>0)∘λk:Nat=>T.int (k:Nat))=l:=by
  intro l
  induction l with
  | nil=>rfl
  | cons a l ih=>rw[IM,ih];rfl
 exact this ks
def FV (L:bw N2)(a b:N2)(m:Int)(t:T):Bool:=gg L.length t&&(decide (run L a (w9 t)=some b)&&decide (bZ L (w9 t)<=m))
section
variable {cs ls:List T}{L:bw N2}{P:List N2}
theorem Rd.ev (R:Rd cs ls L P){v:N2}(h:v∈P):bj cs (en v)=true:=zV (by rw[R.e];exact Jh.mpr ⟨v,h,rfl⟩)
theorem Rd.bounds (R:Rd cs ls L P):cG [RR cs ls] = .ok (eL L):=by rw[Aa R.g,R.b];rfl
theorem Rd.H0 (R:Rd cs ls L P){a b:N2}(ha:a∈P)(hb:b∈P):bU [RR cs ls,en a,en b] = .ok .non:=by
 refine qz (Z:=[.va (RR cs ls),.va (en a),.va (en b)]) rfl ?_
 show gp [.va (RR cs ls),.va (en a),.va (en b)] =_
 unfold gp;rw[az (nZ (aJ rfl (mH R.g.p R.g.ok)))];rw[az (nZ (aJ rfl (vA R.g rfl (R.ev ha))))];exact nZ (aJ rfl (vA R.g rfl (R.ev hb)))
theorem Rd.Ii (R:Rd cs ls L P){a b:N2}(ha:a∈P)(hb:b∈P){m:Int}{t:T}(h:t.pl=true)(hl:∀l,t= .lst l->l.length<=1000):i7 [RR cs ls,en a,en b,.int m,t] = .ok (.bl (FV L a b m t)):=by
 refine bc rfl ?_
 show qW [.va (RR cs ls),.va (en a),.va (en b),.va (.int m),.va t,.em] =_
 unfold qW;rw[az (nZ (aJ rfl (R.H0 ha hb)))];rw[az (bJ (aJ rfl R.bounds) rfl)];refine bK ((iJ (aJ rfl rfl)).trans ?_)
 rcases vW h hl with⟨q,e⟩ | ⟨ks,rfl,hk,e⟩
 ·rw[gW (aJ rfl e)]
  unfold FV;rw[q];rfl
 ·unfold FV
  rw[f9,mC hk,KD];exact gV (aJ rfl e) λ_=>aA (aJ rfl (CZ hk (by have:=hl _ rfl;unfold eN at this;rwa [IP]at this))) rfl rfl
end
section
variable {cs ls:List T}{L:bw N2}{P:List N2}
theorem Rd.events (R:Rd cs ls L P):fM [RR cs ls] = .ok (eS P):=by rw[yL R.g,R.e];rfl
theorem uL {ns:List N2}{b:bW N2}(D:DR P ns b){v:N2}{x:Int×List Nat}(e:b v=some x):aM (.dct (ns.map en) (dV ns b)) (en v)= .ok (eW x):=by
 unfold aM;simp only[ba];rw[D.get,e];rfl
theorem Ae {ns:List N2}{b:bW N2}(D:DR P ns b)(v:N2):xo (en v) (.dct (ns.map en) (dV ns b))= .ok (.bl (b v).isSome):=by
 unfold xo;simp only[ba];rw[D.get];cases b v <;> rfl
def Fy (P:List N2)(t:N2->Int):T:=.tup (P.map λv=> .int (t v))
def Ht (b:bW N2)(v:N2):Int:=match b v with
 | some x=>x.1
 | none=>0
def atT (t:N2->Int)(u:T):T:=match u with
 | .tup [.int c,.int k] => .int (t ⟨c,k⟩)
 | _=> .non
theorem Rd.IA (R:Rd cs ls L P):(¬dq L/\i6 [(RR cs ls)] = .ok .non)\/(dq L/\∃t b,Settled L P b/\(∀v∈P,∃w,b v=some (t v,w))/\i6 [(RR cs ls)] = .ok (Fy P t)):=by
 obtain⟨r,hr,ok⟩:=tG R.f R.nd (λv h=>h)
 have wrap:∀{w:T},dk [(RR cs ls),eL L] = .ok w->i6 [(RR cs ls)] = .ok w:=λ{w} e=>bc rfl (bK (aJ (ar rfl (ar (aJ rfl R.bounds) rfl)) e))
 have begin_:∀{x z:T} {y:Rs Fl},fL [eL L,eS P] = .ok (.tup [x,z])->((ay (eR (tb (o2 jK (vr 3) (cn .non))) (aR (cn .non)) sN) (aR (cl gL (af (dQ (iS (vr 2)) [none,some 3] (gN 0) bT (o2 aP (o2 aM (vr 1) (vr 0)) (cn (.int 0)))) ai)))) [.va (RR cs ls),.va (eL L),.va (eS P),.va x] =y)->eI [.va (RR cs ls),.va (eL L),.em,.em] =y:=λ{x z y} hs hy=>by
  unfold eI;rw[az (bJ (aJ rfl R.events) rfl)];rw[az (bJ (aA (aJ rfl hs) rfl rfl) rfl)];exact hy
 cases r with
 | inr q=>exact .inl ⟨λn=>absurd n (Bar.neg ok),wrap (bc rfl (begin_ hr (dH ((dB (bq (aA rfl rfl rfl))).trans rfl))))⟩
 | inl b=>
  obtain⟨ns,D,hr⟩:=hr
  have ok:Settled L P b:=ok
  have htm:∀v∈P,∃w,b v=some (Ht b v,w):=λv hv=>by
   obtain⟨d,w,e,_⟩:=ok.least v hv v 0 (.nil v);exact⟨w,by unfold Ht;rw[e]⟩
  refine .inr ⟨(ok.holds R.f.ends htm).Iy,Ht b,b,ok,htm,wrap (bc rfl (begin_ hr ?_))⟩
  generalize Ht b=tm at htm
  have lc:dQ (iS (vr 2)) [none,some 3] (gN 0) bT (o2 aP (o2 aM (vr 1) (vr 0)) (cn (.int 0))) [.va (RR cs ls),.va (eL L),.va (eS P),.va (.dct (ns.map en) (dV ns b))] = .ok (.lst ((P.map en).map (atT tm))):=
   mS (jw rfl) (aI (by rw[IP];exact R.pl)) (by simp) λt ht=>by
    obtain⟨v,hv,rfl⟩:=Jh.mp ht;obtain⟨w,e⟩:=htm v hv;exact aA (aA rfl rfl (uL D e)) rfl rfl
  rw[JX]at lc;rw[az ((cH (bq (aA rfl rfl rfl))).trans rfl)];exact bK (aJ (ar lc rfl) rfl)
theorem Rd.Iu (R:Rd cs ls L P):∃hw:Bool,dO [(RR cs ls)] = .ok (.bl hw)/\(hw=true↔dq L):=by
 rcases R.IA with⟨n,e⟩ | ⟨n,t,b,_,_,e⟩
 ·exact⟨false,bc rfl (bK (aA (aJ rfl e) rfl rfl)),λz=>(by cases z),λz=>absurd z n⟩
 ·exact⟨true,bc rfl (bK (aA (aJ rfl e) rfl rfl)),λ_=>n,λ_=>rfl⟩
theorem Rd.Ik (R:Rd cs ls L P)(n:dq L):dj [RR cs ls] = .ok .non:=by
 obtain⟨hw,e,i⟩:=R.Iu;rw[i.mpr n]at e;refine qz (Z:=[.va (RR cs ls)]) rfl ?_
 show gY [.va (RR cs ls)] =_
 unfold gY;exact(cH (dn (bq (aJ rfl e)))).trans rfl
theorem Rd.from_ (R:Rd cs ls L P)(n:dq L){a:N2}(ha:a∈P):∃b ns,Settled L [a] b/\DR P ns b/\di [RR cs ls,en a] = .ok (.dct (ns.map en) (dV ns b)):=by
 obtain⟨r,hr,ok⟩:=tG (S:=[a]) R.f (by simp) (λv h=>by rw[IY.mp h];exact ha)
 cases r with
 | inr q=>exact absurd n (Bar.neg ok)
 | inl b=>
  obtain⟨ns,D,hr⟩:=hr;refine⟨b,ns,ok,D,bc rfl (bK (aA (aJ (ar (aJ rfl R.bounds) (ar (iI rfl (aI (k:=1) (by simp))) rfl)) hr) rfl rfl))⟩
def wayT (o:Option (Int×List Nat)):T:=match o with
 | some x=> .lst (eN x.2)
 | none=> .non
def CQ (o:Option (Int×List Nat)):T:=match o with
 | some x=> .int x.1
 | none=> .non
theorem Rd.Ir (R:Rd cs ls L P)(n:dq L){a c:N2}(ha:a∈P)(hc:c∈P):∃b,Settled L [a] b/\ie [RR cs ls,en a,en c] = .ok (wayT (b c))/\bA [RR cs ls,en a,en c] = .ok (CQ (b c)):=by
 obtain⟨b,ns,S,D,e⟩:=R.from_ n ha;refine⟨b,S,bc rfl ?_,bc rfl ?_⟩
 ·show Av [.va (RR cs ls),.va (en a),.va (en c),.em] =_
  unfold Av;rw[az (nZ (aJ rfl (R.H0 ha hc)))];rw[az (nZ (aJ rfl (R.Ik n)))];rw[az (bJ (aJ rfl e) rfl)];refine bK ((lj (bq (aA rfl rfl (Ae D c)))).trans ?_)
  cases q:b c with
  | none=>rfl
  | some x=>exact aA (aA rfl rfl (uL D q)) rfl rfl
 ·show fV [.va (RR cs ls),.va (en a),.va (en c)] =_
  unfold fV;rw[az (nZ (aJ rfl (R.H0 ha hc)))];rw[az (nZ (aJ rfl (R.Ik n)))];refine bK (aJ (ar (aJ rfl e) rfl) (bc rfl ?_))
  refine bK ((lj (bq (aA rfl rfl (Ae D c)))).trans ?_)
  cases q:b c with
  | none=>rfl
  | some x=>exact aA (aA rfl rfl (uL D q)) rfl rfl
end
def oI (o:Option Int):T:=match o with
 | some x=> .int x
 | none=> .non
def fH (P:List N2)(f:dD N2):List (List T×List T):=P.map λu=>(P.map en,P.map λv=>oI (f u v))
def eO (P:List N2)(f:dD N2):T:=.dct (P.map en) (P.map λu=> .dct (P.map en) (P.map λv=>oI (f u v)))
abbrev je (P:List N2)(L:bw N2)(f:dD N2)(s3 s4 s5 s6 s7:Sl):En:=[.va (eS P),.va (eL L),.ow (.dd (P.map en) (fH P f)),s3,s4,s5,s6,s7]
abbrev De (P:List N2)(L:bw N2)(f:dD N2)(s3 s4 s5 s6 s7:Sl):En:=[.va (eS P),.va (eL L),.va (eO P f),s3,s4,s5,s6,s7]
section
variable {P:List N2}{L:bw N2}{f:dD N2}
theorem uM (s3 s4 s5 s6 s7:Sl):disown 2 (je P L f s3 s4 s5 s6 s7)=De P L f s3 s4 s5 s6 s7:=by
 show [Sl.va (eS P),.va (eL L),.va (OT.view (.dd (P.map en) (fH P f))),s3,s4,s5,s6,s7] =_
 have e:OT.view (.dd (P.map en) (fH P f))=eO P f:=by
  show T.dct (P.map en) ((fH P f).map λr=>T.dct r.1 r.2)=_
  unfold fH eO;rw[JX]
  rfl
 rw[e]
theorem pf {u v:N2}{a b c:En->Rs T}{Z:En}(hc:c Z= .ok (eO P f))(ha:a Z= .ok (en u))(hb:b Z= .ok (en v))(hu:u∈P)(hv:v∈P):o2 aM (o2 aM c a) b Z= .ok (oI (f u v)):=by
 refine aA (t:=.dct (P.map en) (P.map λw=>oI (f u w))) (aA hc ha ?_) hb ?_
 ·show(match jk (P.map en) (P.map λu=>T.dct (P.map en) (P.map λv=>oI (f u v))) (ky u)with | some t=>Rs.ok t | none=> .bad)=_
  rw[kh (λu=>T.dct (P.map en) (P.map λv=>oI (f u v))),if_pos hu]
 ·show(match jk (P.map en) (P.map λw=>oI (f u w)) (ky v)with | some t=>Rs.ok t | none=> .bad)=_
  rw[kh (λw=>oI (f u w)),if_pos hv]
theorem zc {u v:N2}{a b:En->Rs T}{s3 s4 s5 s6 s7:Sl}(ha:a (De P L f s3 s4 s5 s6 s7)= .ok (en u))(hb:b (De P L f s3 s4 s5 s6 s7)= .ok (en v))(hu:u∈P)(hv:v∈P):ln 2 (o2 aM (o2 aM (vr 2) a) b) (je P L f s3 s4 s5 s6 s7)= .ok (oI (f u v)):=
 EL rfl (by rw[uM];exact pf rfl ha hb hu hv) (by cases f u v <;> rfl)
theorem yn (g:N2->List T×List T)(u:N2):∀(Q:List N2),u∈Q->nQ (Q.map en) (Q.map g) (ky u)=some (g u)
 | w::Q,h=>by
  rw[IM,IM,nQ,ba]
  by_cases e:w=u
  ·subst e;rw[if_pos rfl]
  ·rw[if_neg (λz=>e (gS z)),yn g u Q ((IW.mp h).elim (λz=>absurd z.symm e) id)]
theorem yj (g:N2->List T×List T)(u:N2)(x:List T×List T):∀(Q:List N2),Q.Nodup->nP (ky u) x (Q.map en) (Q.map g)=Q.map λw=>if w=u then x else g w
 | [],_=>rfl
 | w::Q,h=>by
  rw[Jq]at h;rw[IM,IM,nP,ba,IM]
  by_cases e:w=u
  ·subst e
   rw[if_pos rfl,if_pos rfl]
   congr 1
   exact JM λz hz=>by rw[if_neg (λ(y:z=w)=>h.1 (y▸hz))]
  ·rw[if_neg (λz=>e (gS z)),if_neg e,yj g u x Q h.2]
theorem yx (nd:P.Nodup)(pl:P.length<1000){u v:N2}{x:Int}{a b c:En->Rs T}{s3 s4 s5 s6 s7:Sl}(ha:a (je P L f s3 s4 s5 s6 s7)= .ok (en u))(hb:b (je P L f s3 s4 s5 s6 s7)= .ok (en v))(hc:c (je P L f s3 s4 s5 s6 s7)= .ok (.int x))(hu:u∈P)(hv:v∈P) :
  hY 2 a b c (je P L f s3 s4 s5 s6 s7)= .ok (.nx (je P L (iN f u v x) s3 s4 s5 s6 s7)):=by
 unfold hY
 show(c (je P L f s3 s4 s5 s6 s7) >>= λw=>a (je P L f s3 s4 s5 s6 s7) >>= λz=>match(keyOf z).bind λka=>(nQ (P.map en) (fH P f) ka).map λr=>(ka,r)with
  | some (ka,r)=>b (je P L f s3 s4 s5 s6 s7) >>= λy=>if (keyOf y).isSome=true/\r.1.length<1000 then Rs.ok (Fl.nx ((je P L f s3 s4 s5 s6 s7).set 2 (.ow (.dd (P.map en) (nP ka (fB y w r.1 r.2) (P.map en) (fH P f))))))else .bad
  | none=> .bad)=_
 rw[hc,aG,ha,aG,ba]
 have e1:nQ (P.map en) (fH P f) (ky u)=some (P.map en,P.map λv=>oI (f u v)):=yn (λu=>(P.map en,P.map λv=>oI (f u v))) u P hu
 simp only[NT,e1,Og];rw[hb,aG,ba,if_pos ⟨rfl,by rw[IP];exact pl⟩,qJ (.int x) v (λv=>oI (f u v)) P nd hv]
 have e2:=yj (λu=>(P.map en,P.map λv=>oI (f u v))) u (P.map en,P.map λw=>if w=v then T.int x else oI (f u w)) P nd
 have e3:(P.map λw=>if w=u then(P.map en,P.map λw=>if w=v then T.int x else oI (f u w))else(P.map en,P.map λv=>oI (f w v)))=fH P (iN f u v x):=by
  unfold fH iN;refine JM λw _=> ?_
  by_cases e:w=u
  ·subst e
   rw[if_pos rfl]
   congr 1
   refine JM λz _=> ?_
   by_cases h:z=v
   ·rw[if_pos h,if_pos ⟨rfl,h⟩];rfl
   ·rw[if_neg h,if_neg (λq=>h q.2)]
  ·rw[if_neg e]
   congr 1
   exact JM λz _=>by rw[if_neg (λq=>e q.1)]
 show Rs.ok (Fl.nx [.va (eS P),.va (eL L),.ow (.dd (P.map en) (nP (ky u) (P.map en,P.map λw=>if w=v then T.int x else oI (f u w)) (P.map en) (fH P f))),s3,s4,s5,s6,s7])=_
 rw[show nP (ky u) (P.map en,P.map λw=>if w=v then T.int x else oI (f u w)) (P.map en) (fH P f)=fH P (iN f u v x)from e2.trans e3]
theorem zJ (nd:P.Nodup)(pl:P.length<1000){u v:N2}{x:Int}{a b c:En->Rs T}{s3 s4 s5 s6 s7:Sl}(ha:a (je P L f s3 s4 s5 s6 s7)= .ok (en u))(hb:b (je P L f s3 s4 s5 s6 s7)= .ok (en v))(ha':a (De P L f s3 s4 s5 s6 s7)= .ok (en u))(hb':b (De P L f s3 s4 s5 s6 s7)= .ok (en v))(hc:c (je P L f s3 s4 s5 s6 s7)= .ok (.int x))(hu:u∈P)(hv:v∈P) :
  eR (oo (tb (o2 jK (ln 2 (o2 aM (o2 aM (vr 2) a) b)) (cn .non))) (tb (o2 qr c (ln 2 (o2 aM (o2 aM (vr 2) a) b))))) (hY 2 a b c) sN (je P L f s3 s4 s5 s6 s7)= .ok (.nx (je P L (lF f u v x) s3 s4 s5 s6 s7)):=by
 have g:=zc ha' hb' hu hv
 have p:=yx nd pl ha hb hc hu hv;unfold lF
 cases q:f u v with
 | none=>
  rw[q]at g
  exact(dB (sX (bq (aA g rfl rfl)))).trans p
 | some y=>
  rw[q]at g
  have c2:tb (o2 qr c (ln 2 (o2 aM (o2 aM (vr 2) a) b))) (je P L f s3 s4 s5 s6 s7)= .ok (decide (x<y)):=bq (aA hc g rfl)
  by_cases h:x<y
  ·rw[decide_eq_true h]at c2
   simp only[if_pos h];exact(dB (jv (bq (aA g rfl rfl)) c2)).trans p
  ·rw[decide_eq_false h]at c2
   simp only[if_neg h];exact(cH (jv (bq (aA g rfl rfl)) c2)).trans rfl
end
section
variable {P:List N2}{L:bw N2}
theorem mL:∀(P:List N2),gI (P.map en)=true
 | [] =>rfl
 | u::P=>by
  have:=mL P;simp[gI,ba,this]
theorem EE (nd:P.Nodup):((P.map en).map keyOf).Nodup:=by
 rw[JX];exact nd.map _ λa b h e=>h (gS e)
theorem Dc (nd:P.Nodup)(pl:P.length<=1000):l9 2 0 [.va (eS P),.va (eL L),.em,.em,.em,.em,.em,.em] = .ok (.nx (je P L (λ_ _=>none) .em .em .em .em .em)):=by
 show(if (2:Nat)<8/\gI (P.map en)=true/\((P.map en).map keyOf).Nodup/\(P.map en).length<=1000 then Rs.ok (Fl.nx [.va (eS P),.va (eL L),.ow (.dd (P.map en) ((P.map en).map λ_=>(P.map en,(P.map en).map λ_=>T.non))),.em,.em,.em,.em,.em])else .bad)=_
 rw[if_pos ⟨by omega,mL P,EE nd,by rw[IP];exact pl⟩,JX,JX]
 rfl
theorem CH (nd:P.Nodup)(pl:P.length<1000):∀(Q:List N2) (f:dD N2) (s3 s4 s5 s6 s7:Sl),(∀u∈Q,u∈P)->∃s3',
  bp (gN 3) (hY 2 (vr 3) (vr 3) (cn (.int 0))) (Q.map en) (je P L f s3 s4 s5 s6 s7)= .ok (.nx (je P L (Q.foldl (λf u=>iN f u u 0) f) s3' s4 s5 s6 s7))
 | [],f,s3,s4,s5,s6,s7,_=>⟨s3,rfl⟩
 | u::Q,f,s3,s4,s5,s6,s7,h=>by
  have hu:=h u IL;rw[IM,du rfl (yx nd pl rfl rfl rfl hu hu)];exact CH nd pl Q _ _ _ _ _ _ λw hw=>h w (IJ _ hw)
theorem oM:∀(Q:List N2) (f:dD N2) (u v:N2),Q.foldl (λf u=>iN f u u 0) f u v=if u∈Q/\u=v then some 0 else f u v
 | [],f,u,v=>by rw[if_neg (λh=>nomatch h.1)];rfl
 | w::Q,f,u,v=>by
  rw[Ob,oM Q]
  by_cases e:u=v
  ·subst e
   by_cases m:u∈Q
   ·rw[if_pos ⟨m,rfl⟩,if_pos ⟨IJ _ m,rfl⟩]
   ·rw[if_neg (λz=>m z.1)]
    unfold iN
    by_cases q:u=w
    ·subst q;rw[if_pos ⟨rfl,rfl⟩,if_pos ⟨IL,rfl⟩]
    ·rw[if_neg (λz=>q z.1),if_neg (λz=>(IW.mp z.1).elim q m)]
  ·rw[if_neg (λz=>e z.2),if_neg (λz=>e z.2)]
   unfold iN;rw[if_neg (λz=>e (z.1.trans z.2.symm))]
theorem xj (P:List N2):P.foldl (λf u=>iN f u u 0) (λ_ _=>none)=rq P:=by
 funext u v
 rw[oM]
 rfl
theorem CG (nd:P.Nodup)(pl:P.length<1000):∀(M:bw N2) (f:dD N2) (s3 s4 s5 s6 s7:Sl),(∀x∈M,x.1∈P/\x.2.1∈P)->∃s3' s4' s5',
  bp (gT 3 (kR (gN 3) (kR (gN 4) (kR (gN 5) vP)))) (eR (oo (tb (o2 jK (ln 2 (o2 aM (o2 aM (vr 2) (vr 3)) (vr 4))) (cn .non))) (tb (o2 qr (vr 5) (ln 2 (o2 aM (o2 aM (vr 2) (vr 3)) (vr 4)))))) (hY 2 (vr 3) (vr 4) (vr 5)) sN) (M.map eB) (je P L f s3 s4 s5 s6 s7)= .ok (.nx (je P L (M.foldl (λf x=>lF f x.1 x.2.1 x.2.2) f) s3' s4' s5' s6 s7))
 | [],f,s3,s4,s5,s6,s7,_=>⟨s3,s4,s5,rfl⟩
 | x::M,f,s3,s4,s5,s6,s7,h=>by
  have hx:=h x IL;rw[IM,du rfl (zJ nd pl rfl rfl rfl rfl rfl hx.1 hx.2)];exact CG nd pl M _ _ _ _ _ _ λw hw=>h w (IJ _ hw)
abbrev FI:En->Rs Fl:=(eR (tQ (tb (o2 da (ln 2 (o2 aM (o2 aM (vr 2) (vr 3)) (vr 6))) (cn .non))) (tb (o2 da (ln 2 (o2 aM (o2 aM (vr 2) (vr 6)) (vr 4))) (cn .non)))) (ay (cg (o2 aK (ln 2 (o2 aM (o2 aM (vr 2) (vr 3)) (vr 6))) (ln 2 (o2 aM (o2 aM (vr 2) (vr 6)) (vr 4)))) (gN 7)) (eR (oo (tb (o2 jK (ln 2 (o2 aM (o2 aM (vr 2) (vr 3)) (vr 4))) (cn .non))) (tb (o2 qr (vr 7) (ln 2 (o2 aM (o2 aM (vr 2) (vr 3)) (vr 4)))))) (hY 2 (vr 3) (vr 4) (vr 7)) sN)) sN)
theorem AN (nd:P.Nodup)(pl:P.length<1000){mid one other:N2}(hm:mid∈P)(h1:one∈P)(h2:other∈P)(f:dD N2)(s5 s7:Sl):∃s7',
  FI (je P L f (.va (en one)) (.va (en other)) s5 (.va (en mid)) s7)= .ok (.nx (je P L (j8 mid one other f) (.va (en one)) (.va (en other)) s5 (.va (en mid)) s7')):=by
 have ga:∀s7,ln 2 (o2 aM (o2 aM (vr 2) (vr 3)) (vr 6)) (je P L f (.va (en one)) (.va (en other)) s5 (.va (en mid)) s7)= .ok (oI (f one mid)):=λs7=>zc rfl rfl h1 hm
 have gb:∀s7,ln 2 (o2 aM (o2 aM (vr 2) (vr 6)) (vr 4)) (je P L f (.va (en one)) (.va (en other)) s5 (.va (en mid)) s7)= .ok (oI (f mid other)):=λs7=>zc rfl rfl hm h2
 unfold j8 FI
 cases qa:f one mid with
 | none=>
  have ga:=ga s7;rw[qa]at ga
  exact⟨s7,(cH (EN (bq (aA ga rfl rfl)))).trans rfl⟩
 | some x=>
  have ga:=ga s7;rw[qa]at ga
  have c1:=bq (aA (g:=da) (fb:=cn .non) ga rfl rfl)
  cases qb:f mid other with
  | none=>
   have gb:=gb s7;rw[qb]at gb
   exact⟨s7,(cH (zD c1 (bq (aA gb rfl rfl)))).trans rfl⟩
  | some y=>
   have gb:=gb s7;rw[qb]at gb;refine⟨.va (.int (x+y)),(dB (zD c1 (bq (aA gb rfl rfl)))).trans ?_⟩
   rw[az (bJ (aA ga gb rfl) rfl)];exact zJ nd pl rfl rfl rfl rfl rfl h1 h2
theorem CF (nd:P.Nodup)(pl:P.length<1000){mid one:N2}(hm:mid∈P)(h1:one∈P):∀(Q:List N2) (f:dD N2) (s4 s5 s7:Sl),(∀u∈Q,u∈P)->∃s4' s7',
  bp (gN 4) FI (Q.map en) (je P L f (.va (en one)) s4 s5 (.va (en mid)) s7)= .ok (.nx (je P L (j9 mid one Q f) (.va (en one)) s4' s5 (.va (en mid)) s7'))
 | [],f,s4,s5,s7,_=>⟨s4,s7,rfl⟩
 | u::Q,f,s4,s5,s7,h=>by
  have hu:=h u IL;obtain⟨s7',e⟩:=AN nd pl hm h1 hu f s5 s7;rw[IM,du rfl e];exact CF nd pl hm h1 Q _ _ _ _ λw hw=>h w (IJ _ hw)
theorem CD (nd:P.Nodup)(pl:P.length<1000){mid:N2}(hm:mid∈P):∀(Q:List N2) (f:dD N2) (s3 s4 s5 s7:Sl),(∀u∈Q,u∈P)->∃s3' s4' s7',
  bp (gN 3) (eU (iS (vr 0)) (gN 4) FI) (Q.map en) (je P L f s3 s4 s5 (.va (en mid)) s7)= .ok (.nx (je P L (mV mid Q P f) s3' s4' s5 (.va (en mid)) s7'))
 | [],f,s3,s4,s5,s7,_=>⟨s3,s4,s7,rfl⟩
 | u::Q,f,s3,s4,s5,s7,h=>by
  have hu:=h u IL;obtain⟨s4',s7',e⟩:=CF nd pl hm hu P f s4 s5 s7 λ_ z=>z
  rw[IM,du rfl (ff rfl e)];exact CD nd pl hm Q _ _ _ _ _ λw hw=>h w (IJ _ hw)
theorem CC (nd:P.Nodup)(pl:P.length<1000):∀(Q:List N2) (f:dD N2) (s3 s4 s5 s6 s7:Sl),(∀u∈Q,u∈P)->∃s3' s4' s6' s7',
  bp (gN 6) (eU (iS (vr 0)) (gN 3) (eU (iS (vr 0)) (gN 4) FI)) (Q.map en) (je P L f s3 s4 s5 s6 s7)= .ok (.nx (je P L (tq Q P f) s3' s4' s5 s6' s7'))
 | [],f,s3,s4,s5,s6,s7,_=>⟨s3,s4,s6,s7,rfl⟩
 | u::Q,f,s3,s4,s5,s6,s7,h=>by
  have hu:=h u IL;obtain⟨s3',s4',s7',e⟩:=CD nd pl hu P f s3 s4 s5 s7 λ_ z=>z
  rw[IM,du rfl (ff rfl e)];exact CC nd pl Q _ _ _ _ _ _ λw hw=>h w (IJ _ hw)
def Cy (P:List N2)(f:dD N2):Prop:=∀u∈P,∀y,f u u=some y->0<=y
theorem Dd (hd:∀u∈P,∃y,table P L u u=some y)(pl:P.length<1000)(s3 s4 s5 s6 s7:Sl) :
  ∃t,((Cy P (table P L)/\t=eO P (table P L))\/(¬Cy P (table P L)/\t= .non))/\mf 2 (aR (oK (tb (o2 kC (dQ (iS (vr 0)) [none,some 2] (gN 0) (tb (o2 qr (o2 aM (o2 aM (vr 1) (vr 0)) (vr 0)) (cn (.int 0)))) (vr 0)) (cN ai))) (vr 2) (cn .non))) (je P L (table P L) s3 s4 s5 s6 s7)= .ok (.rt t):=by
 generalize hf:table P L=f
 rw[hf]at hd
 have lc:dQ (iS (vr 0)) [none,some 2] (gN 0) (tb (o2 qr (o2 aM (o2 aM (vr 1) (vr 0)) (vr 0)) (cn (.int 0)))) (vr 0) (De P L f s3 s4 s5 s6 s7)= .ok (.lst (((P.map en).filter λt=>P.any λu=>decide (keyOf t=some (ky u))&&(match f u u with | some y=>decide (y<0) | none=>false)).map id)):=by
  refine zx rfl (aI (k:=1000) (by rw[IP];omega)) (by simp) λt ht=> ?_
  obtain⟨u,hu,rfl⟩:=Jh.mp ht;obtain⟨y,hy⟩:=hd u hu;refine⟨?_,λ_=>rfl⟩
  have e:(P.any λw=>decide (keyOf (en u)=some (ky w))&&(match f w w with | some y=>decide (y<0) | none=>false))=decide (y<0):=by
   by_cases h:y<0
   ·rw[decide_eq_true h]
    exact MI.mpr ⟨u,hu,by rw[hy];simp[h,ba]⟩
   ·rw[decide_eq_false h,Nq]
    intro w hw
    by_cases q:w=u
    ·subst q;rw[hy];simp[h]
    ·rw[decide_eq_false (λz=>q (gS ((ba u).symm.trans z)).symm)];simp
  rw[e]
  have g:=pf (Z:=[.va (en u),.va (eO P f)]) (c:=vr 1) (a:=vr 0) (b:=vr 0) rfl rfl rfl hu hu;rw[hy]at g;exact bq (aA g rfl rfl)
 rw[Qq]at lc
 generalize hp:(λt=>P.any λu=>decide (keyOf t=some (ky u))&&(match f u u with | some y=>decide (y<0) | none=>false))=p at lc
 have pu:∀u∈P,∀y,f u u=some y->p (en u)=decide (y<0):=by
  intro u hu y hy;rw[<-hp]
  show(P.any λw=>decide (keyOf (en u)=some (ky w))&&(match f w w with | some y=>decide (y<0) | none=>false))=decide (y<0)
  by_cases h:y<0
  ·rw[decide_eq_true h]
   exact MI.mpr ⟨u,hu,by rw[hy];simp[h,ba]⟩
  ·rw[decide_eq_false h,Nq]
   intro w hw
   by_cases q:w=u
   ·subst q;rw[hy];simp[h]
   ·rw[decide_eq_false (λz=>q (gS ((ba u).symm.trans z)).symm)];simp
 have iff:(P.map en).filter p= [] ↔Cy P f:=by
  rw[List.filter_eq_nil_iff]
  constructor
  ·intro h u hu y hy
   have:=h (en u) (Jh.mpr ⟨u,hu,rfl⟩);rw[pu u hu y hy]at this
   simpa using this
  ·intro h t ht
   obtain⟨u,hu,rfl⟩:=Jh.mp ht;obtain⟨y,hy⟩:=hd u hu;rw[pu u hu y hy]
   have:=h u hu y hy
   simpa using this
 have nd:nds ((P.map en).filter p)=true:=yY λt ht=>by
  obtain⟨u,_,rfl⟩:=Jh.mp (N7.mp ht).1
  rfl
 have eq:o2 kC (dQ (iS (vr 0)) [none,some 2] (gN 0) (tb (o2 qr (o2 aM (o2 aM (vr 1) (vr 0)) (vr 0)) (cn (.int 0)))) (vr 0)) (cN ai) (De P L f s3 s4 s5 s6 s7)= .ok (.bl (aV (.lst ((P.map en).filter p)) (.lst []))):=
  aA lc (iI rfl (aI (k:=1) (by simp))) (by unfold kC;rw[if_pos (mW (by simp[T.dep,deps]) (by simpa [T.nd]using nd) rfl)])
 by_cases D:Cy P f
 ·refine⟨eO P f,.inl ⟨D,rfl⟩,?_⟩
  rw[iff.mpr D]at eq;refine zB ?_
  rw[uM];exact bK ((lj (bq eq)).trans rfl)
 ·refine⟨.non,.inr ⟨D,rfl⟩,?_⟩
  have:(P.map en).filter p≠ []:=λz=>D (iff.mp z)
  cases q:(P.map en).filter p with
  | nil=>exact absurd q this
  | cons a l=>
   rw[q]at eq;refine zB ?_
   rw[uM];exact bK ((lj (p:=false) (bq (eq.trans (by simp[aV,beqTs])))).trans rfl)
theorem Ca (nd:P.Nodup)(pl:P.length<1000)(hL:∀x∈L,x.1∈P/\x.2.1∈P) :
  ∃t,((dq L/\gc L P (table P L)/\t=eO P (table P L))\/(¬dq L/\t= .non))/\fx [eS P,eL L] = .ok t:=by
 obtain⟨a3,e1⟩:=CH nd pl P (λ_ _=>none) .em .em .em .em .em λ_ z=>z
 rw[xj]at e1;obtain⟨b3,b4,b5,e2⟩:=CG nd pl L (rq P) a3 .em .em .em .em hL;obtain⟨c3,c4,c6,c7,e3⟩:=CC nd pl P (x5 P L) b3 b4 b5 .em .em λ_ z=>z
 obtain⟨t,ht,e4⟩:=Dd (λu hu=>let ⟨y,h,_⟩:=lW (L:=L) hu;⟨y,h⟩) pl c3 c4 b5 c6 c7
 refine⟨t,ht.elim (λh=> .inl ?_) (λh=> .inr ⟨λn=>h.1 λu hu y hy=> ?_,h.2⟩),bc rfl ?_⟩
 ·have:=rp hL h.1
  exact⟨this.1,this.2,h.2⟩
 ·exact Int.not_lt.mp λz=>wC hy z n
 ·show hG [.va (eS P),.va (eL L),.em,.em,.em,.em,.em,.em] =_
  unfold hG;rw[az (Dc nd (by omega)),az (ff rfl e1),az (ff rfl e2)]
  exact(az (ff rfl e3)).trans e4
end
theorem ES (l:List T)(h:l≠ []):aP (.lst l) (.int (-1))= .ok (l.getLast h):=by
 show(match L2.atI l (-1)with | some t=>Rs.ok t | none=> .bad)=_
 have hp:0<l.length:=List.length_pos_iff.mpr h
 have e:L2.atI l (-1)=some (l.getLast h):=by
  unfold L2.atI L2.ixN;rw[if_neg (by omega),if_pos (by omega)]
  show l[((-1:Int)+l.length).toNat]? =_
  rw[List.getLast_eq_getElem,show((-1:Int)+l.length).toNat=l.length - 1 by omega,IU]
 rw[e]
section
variable {cs ls:List T}{L:bw N2}{P:List N2}{ns:List Int}
theorem A6 (hc:bf (.tup cs)=true)(c:Int):reads cs c<=4:=by
 unfold reads;split
 ·split
  ·rename_i e
   obtain⟨x,y,r,q,_,h⟩:=dR ((cx hc).1 _ (JT e));cases q;exact h
  ·omega
 ·omega
theorem BR {a:N2}{b:bW N2}{f:dD N2}(S:Settled L [a] b)(F:gc L P f)(ha:a∈P)(c:N2):CQ (b c)=oI (f a c):=by
 cases q:b c with
 | none=>
  cases e:f a c with
  | none=>rfl
  | some y=>
   obtain⟨d,w,z,_⟩:=S.least a (by simp) c y (F.is a c y e)
   rw[q]at z;cases z
 | some x=>
  obtain⟨d,w⟩:=x;obtain⟨s,hs,h1,h2,_⟩:=S.walk c d w q;rw[IY.mp hs]at h1
  have wk:Wk L a c d:=h2▸h1.wk;obtain⟨y,e,hy⟩:=F.le a ha c d wk;obtain⟨d',w',z,hd⟩:=S.least a (by simp) c y (F.is a c y e)
  rw[q]at z;cases z;rw[e]
  show T.int d= .int y
  congr 1
  omega
theorem Rd.Ij (R:Rd cs ls L P)(n:dq L){f:dD N2}(F:gc L P f){a c:N2}(ha:a∈P)(hc:c∈P):bA [(RR cs ls),en a,en c] = .ok (oI (f a c)):=by
 obtain⟨b,S,_,e⟩:=R.Ir n ha hc;rw[e,BR S F ha]
end
theorem oR (g:N2->T):∀(S ns:List N2),(ns++S).Nodup->fS ((S.map en).zip (S.map g)) (ns.map en,ns.map g)=((ns++S).map en,(ns++S).map g)
 | [],ns,_=>by rw[J7];rfl
 | v::S,ns,hn=>by
  have hv:v∉ns:=λz=>by
   rw[JR]at hn;exact hn.2.2 v z v IL rfl
  rw[IM,IM,List.zip_cons_cons,fS,iO _ _ _ _ hv]
  have e1:ns.map en++ [en v] =(ns++ [v]).map en:=by rw[Jv];rfl
  have e2:ns.map g++ [g v] =(ns++ [v]).map g:=by rw[Jv];rfl
  rw[e1,e2,oR g S (ns++ [v]) (by rw[JE];exact hn),JE]
  rfl
def G7 (P:List N2)(t:N2->Int):T:=.dct (P.map en) (P.map λv=> .int (t v))
def hB (t:N2->Int)(x:N2×N2×Int):Bool:=decide (t x.2.1 - t x.1<=x.2.2)
section
variable {cs ls:List T}{L:bw N2}{P:List N2}
theorem Rd.pos (R:Rd cs ls L P):0<P.length:=by
 obtain⟨hcl,c1,_⟩:=cx R.g.c
 have e:=congrArg J4 R.e;rw[IP]at e;rw[<-e]
 cases cs with
 | nil=>simp at c1
 | cons c cs=>
  obtain⟨x,y,r,rfl,r1,_⟩:=dR (hcl c IL);rw[fR,IX,gJ]
  show 0<r.length+_
  omega
theorem Rd.dz (R:Rd cs ls L P)(t:N2->Int):G5 [eS P,Fy P t] = .ok (G7 P t):=by
 have h0:=R.pos
 have h1:=R.pl
 show(if gI (P.map en)=true/\(P.map en).length=(P.map λv=>T.int (t v)).length/\1<=(P.map en).length/\(P.map en).length<=1000 then _ else _)=_
 rw[if_pos ⟨mL P,by rw[IP,IP],by rw[IP];omega,by rw[IP];omega⟩]
 have:=oR (λv=> .int (t v)) P [] (by simpa using R.nd)
 rw[Kp]at this;rw[show(([]:List T),([]:List T))=(([]:List N2).map en,([]:List N2).map λv=>T.int (t v))from rfl,this]
 rfl
theorem Af {t:N2->Int}{v:N2}{a b:En->Rs T}{Z:En}(ha:a Z= .ok (G7 P t))(hb:b Z= .ok (en v))(hv:v∈P):o2 aM a b Z= .ok (.int (t v)):=by
 refine aA ha hb ?_
 show(match jk (P.map en) (P.map λv=>T.int (t v)) (ky v)with | some t=>Rs.ok t | none=> .bad)=_
 rw[kh (λv=>T.int (t v)),if_pos hv]
end
theorem qv:∀(ns:List Int) (i:Int),fN i ns<=i/\∀x∈ns,fN i ns<=x
 | [],i=>⟨Ke _,λx h=>by cases h⟩
 | j::ns,i=>by
  have h:=qv ns (if j<i then j else i)
  rw[fN];refine⟨?_,λx hx=> ?_⟩
  ·have:=h.1;split at this <;> omega
  ·rcases IW.mp hx with rfl | hx
   ·have:=h.1;split at this <;> omega
   ·exact h.2 x hx
theorem sP:∀(ns:List Int) (i:Int),fN i ns=i\/fN i ns∈ns
 | [],i=> .inl rfl
 | j::ns,i=>by
  rw[fN];rcases sP ns (if j<i then j else i)with h | h
  ·rw[h]
   split
   ·exact .inr IL
   ·exact .inl rfl
  ·exact .inr (IJ _ h)
theorem vD:∀(ns:List Int) (i:Int),i<=gi i ns/\∀x∈ns,x<=gi i ns
 | [],i=>⟨Ke _,λx h=>by cases h⟩
 | j::ns,i=>by
  have h:=vD ns (if i<j then j else i)
  rw[gi];refine⟨?_,λx hx=> ?_⟩
  ·refine Int.le_trans ?_ h.1;split <;> omega
  ·rcases IW.mp hx with rfl | hx
   ·refine Int.le_trans ?_ h.1;split <;> omega
   ·exact h.2 x hx
theorem sQ:∀(ns:List Int) (i:Int),gi i ns=i\/gi i ns∈ns
 | [],i=> .inl rfl
 | j::ns,i=>by
  rw[gi];rcases sQ ns (if i<j then j else i)with h | h
  ·rw[h]
   split
   ·first | exact .inr IL | exact .inl rfl
   ·first | exact .inl rfl | exact .inr IL
  ·exact .inr (IJ _ h)
theorem jH:∀l:List Int,eV (l.map .int)=some l
 | [] =>rfl
 | x::l=>by rw[IM,eV,jH l];rfl
def deN (t:T):N2:=match t with
 | .tup [.int c,.int k] =>⟨c,k⟩
 | _=>⟨0,0⟩
theorem gX (u:N2):deN (en u)=u:=rfl
def jU (g:N2->Option Int)(t:T):Bool:=(g (deN t)).isSome
def l6 (g:N2->Option Int)(t:T):T:=match g (deN t)with
 | some x=> .int x
 | none=> .non
theorem qG (g:N2->Option Int):∀Q:List N2,((Q.map en).filter (jU g)).map (l6 g)=(Q.filterMap g).map .int
 | [] =>rfl
 | u::Q=>by
  have ih:=qG g Q;rw[IM,JZ]
  cases q:g u with
  | none=>rw[List.filter_cons_of_neg (by unfold jU;rw[gX,q];decide)];exact ih
  | some x=>
   rw[List.filter_cons_of_pos (by unfold jU;rw[gX,q];rfl),IM,ih]
   show l6 g (en u)::_=T.int x::_
   unfold l6;rw[gX,q]
theorem CU {i j:Nat}{src:List (Option Nat)}{tgt:T->En->Rs En}{fc:En->Rs Bool}{fe:En->Rs T}{Z:En}{ks ts:List T}{t:T}(hi:Z[i]? =some (.ow (.dct ks ts)))(h:dQ (iD (vr i)) src tgt fc fe (disown i Z)= .ok t)(hk:t.nk true=true)(hj:j<Z.length):pJ i j src tgt fc fe Z= .ok (.nx (Z.set j (.va t))):=by
 unfold pJ;rw[hi]
 dsimp only
 rw[h]
 dsimp only
 rw[if_pos ⟨hk,hj⟩]
theorem qh (l:List Int):(T.lst (l.map .int)).nk true=true:=by
 show(true&&nks true (l.map .int))=true
 rw[KD]
 induction l with
 | nil=>rfl
 | cons x l ih=>exact ih
theorem qk (l:List Int):lb (.lst (l.map .int)) (.lst [])= .ok (.bl (!l.isEmpty)):=by
 have pl:(T.lst (l.map .int)).pl=true:=by unfold T.pl;exact uu λu hu=>by obtain⟨k,_,rfl⟩:=Jh.mp hu;rfl
 unfold lb;rw[if_pos (mW (by simp[T.dep,deps]) (T.HL _ pl) (T.HL _ (by rfl)))]
 cases l with
 | nil=>rfl
 | cons a l=>simp[aV,beqTs]
section
variable {L:bw N2}{P:List N2}{f:dD N2}{ns:List Int}
def nF (f:dD N2)(t:N2->Int)(v u:N2):Option Int:=(f u v).map λx=>t u+x
def nY (f:dD N2)(t:N2->Int)(v u:N2):Option Int:=(f v u).map λx=>t u - x
def C3 (f:dD N2)(Q:List N2)(t:N2->Int):Prop:=∀u∈Q,∀w∈Q,∀d,f u w=some d->t w - t u<=d
def qu (lo hi:List Int):Int:=match lo with
 | x::l=>gi x l
 | [] =>match hi with
  | x::l=>fN x l - 5
  | [] =>0
def B4 (lo hi:List Int):Int:=match hi with
 | x::l=>fN x l
 | [] =>qu lo hi+5
theorem CS {Q:List N2}{t:N2->Int}{v:N2}(F:gc L P f)(hv:v∈P)(hQ:∀u∈Q,u∈P)(h:C3 f Q t) :
  qu (Q.filterMap (nY f t v)) (Q.filterMap (nF f t v))<=B4 (Q.filterMap (nY f t v)) (Q.filterMap (nF f t v))/\(∀x∈Q.filterMap (nY f t v),x<=qu (Q.filterMap (nY f t v)) (Q.filterMap (nF f t v)))/\∀x∈Q.filterMap (nF f t v),B4 (Q.filterMap (nY f t v)) (Q.filterMap (nF f t v))<=x:=by
 have key:∀x∈Q.filterMap (nY f t v),∀y∈Q.filterMap (nF f t v),x<=y:=λx hx y hy=>by
  obtain⟨u,hu,eu⟩:=J5.mp hx;obtain⟨w,hw,ew⟩:=J5.mp hy;unfold nY at eu;unfold nF at ew;obtain⟨p,hp,rfl⟩:=Kg.mp eu;obtain⟨q,hq,rfl⟩:=Kg.mp ew;obtain⟨d,hd,hle⟩:=F.le w (hQ w hw) u _ ((F.is w v q hq).app (F.is v u p hp))
  have:=h w hw u hu d hd;omega
 generalize Q.filterMap (nY f t v)=lo at key
 generalize Q.filterMap (nF f t v)=hi at key
 cases lo with
 | nil=>
  cases hi with
  | nil=>exact⟨by show(0:Int)<=0+5;omega,(λx h=>by cases h),λx h=>by cases h⟩
  | cons y hi=>
   have m:=qv hi y;refine⟨by show fN y hi - 5<=fN y hi;omega,(λx h=>by cases h),λx hx=> ?_⟩
   show fN y hi<=x
   rcases IW.mp hx with rfl | hx
   ·exact m.1
   ·exact m.2 x hx
 | cons x lo=>
  have mx:=vD lo x
  have up:∀z∈x::lo,z<=gi x lo:=λz hz=>by
   rcases IW.mp hz with rfl | hz
   ·exact mx.1
   ·exact mx.2 z hz
  cases hi with
  | nil=>exact⟨by show gi x lo<=gi x lo+5;omega,up,λx h=>by cases h⟩
  | cons y hi=>
   have m:=qv hi y;refine⟨?_,up,λz hz=> ?_⟩
   ·show gi x lo<=fN y hi
    have h1:gi x lo∈x::lo:=(sQ lo x).elim (λe=>by rw[e];exact IL) λe=>IJ _ e
    have h2:fN y hi∈y::hi:=(sP hi y).elim (λe=>by rw[e];exact IL) λe=>IJ _ e
    exact key _ h1 _ h2
   ·show fN y hi<=z
    rcases IW.mp hz with rfl | hz
    ·exact m.1
    ·exact m.2 z hz
theorem zS {Q:List N2}{t:N2->Int}{v:N2}(n:dq L)(F:gc L P f)(hv:v∈P)(hq:v∉Q)(hQ:∀u∈Q,u∈P)(h:C3 f Q t){x:Int}(h1:qu (Q.filterMap (nY f t v)) (Q.filterMap (nF f t v))<=x)(h2:x<=B4 (Q.filterMap (nY f t v)) (Q.filterMap (nF f t v))) :
  C3 f (Q++ [v]) (λu=>if u=v then x else t u):=by
 obtain⟨_,l1,l2⟩:=CS F hv hQ h;intro u hu w hw d hd
 have nv:∀u∈Q,u≠v:=λu hu z=>hq (z▸hu)
 show(if w=v then x else t w) - (if u=v then x else t u)<=d
 rcases JC.mp hu with hu | hu <;> rcases JC.mp hw with hw | hw
 ·rw[if_neg (nv u hu),if_neg (nv w hw)];exact h u hu w hw d hd
 ·rw[IY.mp hw]at hd ⊢
  rw[if_neg (nv u hu),if_pos rfl]
  have:=l2 (t u+d) (J5.mpr ⟨u,hu,by unfold nF;rw[hd];rfl⟩)
  omega
 ·rw[IY.mp hu]at hd ⊢
  rw[if_neg (nv w hw),if_pos rfl]
  have:=l1 (t w - d) (J5.mpr ⟨w,hw,by unfold nY;rw[hd];rfl⟩)
  omega
 ·rw[IY.mp hu,IY.mp hw]at hd
  rw[IY.mp hu,IY.mp hw]
  have:=n v d (F.is v v d hd);omega
theorem uN {Q:List N2}{t:N2->Int}{v:N2}{a b:En->Rs T}{Z:En}(ha:a Z= .ok (.dct (Q.map en) (Q.map λv=> .int (t v))))(hb:b Z= .ok (en v))(hv:v∈Q):o2 aM a b Z= .ok (.int (t v)):=Af ha hb hv
theorem sL (x:Int)(l:List Int):qm [.lst ((x::l).map .int)] = .ok (.int (fN x l)):=by
 show(match eV ((x::l).map .int)with | some (i::ns)=>Rs.ok (T.int (fN i ns)) | _=> .bad)=_
 rw[jH]
theorem y9 (x:Int)(l:List Int):wY [.lst ((x::l).map .int)] = .ok (.int (gi x l)):=by
 show(match eV ((x::l).map .int)with | some (i::ns)=>Rs.ok (T.int (gi i ns)) | _=> .bad)=_
 rw[jH]
theorem GN {i:Nat}{fk fv:En->Rs T}{Z:En}{ks vs:List T}{k v:T}{kk:List L2.Key}(hi:Z[i]? =some (.ow (.dct ks vs)))(hv:fv Z= .ok v)(hk:fk Z= .ok k)(e:keyOf k=some kk)(hl:ks.length<1000):nM i fk fv Z= .ok (.nx (Z.set i (.ow (.dct (fB k v ks vs).1 (fB k v ks vs).2)))):=by
 unfold nM;rw[hi]
 dsimp only
 rw[hv,aG,hk,aG,e]
 dsimp only
 rw[if_pos hl]
abbrev DW:En->Rs Fl:=(ay (pJ 5 8 [none,some 5,some 4,some 7] (gN 0) (tb (o2 da (o2 aM (o2 aM (vr 2) (vr 0)) (vr 3)) (cn .non))) (o2 aK (o2 aM (vr 1) (vr 0)) (o2 aM (o2 aM (vr 2) (vr 0)) (vr 3)))) (ay (pJ 5 9 [none,some 5,some 4,some 7] (gN 0) (tb (o2 da (o2 aM (o2 aM (vr 2) (vr 3)) (vr 0)) (cn .non))) (o2 fw (o2 aM (vr 1) (vr 0)) (o2 aM (o2 aM (vr 2) (vr 3)) (vr 0)))) (ay (cg (oK (tb (o2 lb (vr 9) (cN ai))) (cl wY (af (vr 9) ai)) (oK (tb (o2 lb (vr 8) (cN ai))) (o2 fw (cl qm (af (vr 8) ai)) (cn (.int 5))) (cn (.int 0)))) (gN 10)) (ay (cg (oK (tb (o2 lb (vr 8) (cN ai))) (cl qm (af (vr 8) ai)) (o2 aK (vr 10) (cn (.int 5)))) (gN 11)) (nM 5 (vr 7) (o2 aK (vr 10) (cl aw (af (vr 0) (af (o2 aK (vr 1) (vr 6)) (af (o2 aK (o2 fw (vr 11) (vr 10)) (cn (.int 1))) ai))))))))))
theorem Cf (hn:ns.length<=63)(n:dq L)(F:gc L P f)(pl:P.length<=16){Q:List N2}{t:N2->Int}{v:N2}(hv:v∈P)(hq:v∉Q)(hQ:∀u∈Q,u∈P)(hl:Q.length<=16)(h:C3 f Q t)(a k:Nat)(row:T)(s8 s9 s10 s11:Sl):∃x b8 b9 b10 b11,C3 f (Q++ [v]) (λu=>if u=v then x else t u) ∧
  DW [.va (.scr ns),.va (.int (a:Nat)),.va (eS P),.va row,.va (eO P f),.ow (.dct (Q.map en) (Q.map λv=> .int (t v))),.va (.int (k:Nat)),.va (en v),s8,s9,s10,s11] = .ok (.nx [.va (.scr ns),.va (.int (a:Nat)),.va (eS P),.va row,.va (eO P f),.ow (.dct ((Q++ [v]).map en) ((Q++ [v]).map λu=> .int (if u=v then x else t u))),.va (.int (k:Nat)),.va (en v),b8,b9,b10,b11]):=by
 obtain⟨lh,_,_⟩:=CS F hv hQ h
 have lch:dQ (iD (vr 5)) [none,some 5,some 4,some 7] (gN 0) (tb (o2 da (o2 aM (o2 aM (vr 2) (vr 0)) (vr 3)) (cn .non))) (o2 aK (o2 aM (vr 1) (vr 0)) (o2 aM (o2 aM (vr 2) (vr 0)) (vr 3))) (disown 5 [.va (.scr ns),.va (.int (a:Nat)),.va (eS P),.va row,.va (eO P f),.ow (.dct (Q.map en) (Q.map λv=> .int (t v))),.va (.int (k:Nat)),.va (en v),s8,s9,s10,s11])= .ok (.lst ((Q.filterMap (nF f t v)).map .int)):=by
  rw[<-qG (nF f t v) Q];refine zx rfl (aI (by rw[IP];exact hl)) (by simp) λu0 hu0=> ?_
  obtain⟨u,hu,rfl⟩:=Jh.mp hu0
  have e:=pf (a:=vr 0) (b:=vr 3) (c:=vr 2) (Z:=[.va (en u),.va (.dct (Q.map en) (Q.map λv=> .int (t v))),.va (eO P f),.va (en v)]) rfl rfl rfl (hQ u hu) hv
  have e2:=uN (a:=vr 1) (b:=vr 0) (Z:=[.va (en u),.va (.dct (Q.map en) (Q.map λv=> .int (t v))),.va (eO P f),.va (en v)]) rfl rfl hu
  refine⟨?_,λhp=> ?_⟩
  ·show _=Rs.ok (jU (nF f t v) (en u))
   refine bq ((aA e rfl rfl).trans ?_)
   unfold jU nF;rw[gX];cases f u v <;> rfl
  ·show _=Rs.ok (l6 (nF f t v) (en u))
   unfold jU nF at hp;rw[gX]at hp
   cases q:f u v with
   | none=>rw[q]at hp;cases hp
   | some d=>
    rw[q]at e;unfold l6 nF;rw[gX,q];exact aA e2 e rfl
 have lcl:dQ (iD (vr 5)) [none,some 5,some 4,some 7] (gN 0) (tb (o2 da (o2 aM (o2 aM (vr 2) (vr 3)) (vr 0)) (cn .non))) (o2 fw (o2 aM (vr 1) (vr 0)) (o2 aM (o2 aM (vr 2) (vr 3)) (vr 0))) (disown 5 [.va (.scr ns),.va (.int (a:Nat)),.va (eS P),.va row,.va (eO P f),.ow (.dct (Q.map en) (Q.map λv=> .int (t v))),.va (.int (k:Nat)),.va (en v),.va (.lst ((Q.filterMap (nF f t v)).map .int)),s9,s10,s11])= .ok (.lst ((Q.filterMap (nY f t v)).map .int)):=by
  rw[<-qG (nY f t v) Q];refine zx rfl (aI (by rw[IP];exact hl)) (by simp) λu0 hu0=> ?_
  obtain⟨u,hu,rfl⟩:=Jh.mp hu0
  have e:=pf (a:=vr 3) (b:=vr 0) (c:=vr 2) (Z:=[.va (en u),.va (.dct (Q.map en) (Q.map λv=> .int (t v))),.va (eO P f),.va (en v)]) rfl rfl rfl hv (hQ u hu)
  have e2:=uN (a:=vr 1) (b:=vr 0) (Z:=[.va (en u),.va (.dct (Q.map en) (Q.map λv=> .int (t v))),.va (eO P f),.va (en v)]) rfl rfl hu
  refine⟨?_,λhp=> ?_⟩
  ·show _=Rs.ok (jU (nY f t v) (en u))
   refine bq ((aA e rfl rfl).trans ?_)
   unfold jU nY;rw[gX];cases f v u <;> rfl
  ·show _=Rs.ok (l6 (nY f t v) (en u))
   unfold jU nY at hp;rw[gX]at hp
   cases q:f v u with
   | none=>rw[q]at hp;cases hp
   | some d=>
    rw[q]at e;unfold l6 nY;rw[gX,q];exact aA e2 e rfl
 have fm:∀{x:Int},qu (Q.filterMap (nY f t v)) (Q.filterMap (nF f t v))<=x->x<=B4 (Q.filterMap (nY f t v)) (Q.filterMap (nF f t v))->C3 f (Q++ [v]) (λu=>if u=v then x else t u):=λ{x} h1 h2=>zS n F hv hq hQ h h1 h2
 generalize Q.filterMap (nF f t v)=hi at lch lcl fm lh
 generalize Q.filterMap (nY f t v)=lo at lcl fm lh
 unfold DW;rw[az (CU rfl lch (qh _) (by simp))]
 rw[az (Z':=[.va (.scr ns),.va (.int (a:Nat)),.va (eS P),.va row,.va (eO P f),.ow (.dct (Q.map en) (Q.map λv=> .int (t v))),.va (.int (k:Nat)),.va (en v),.va (.lst (hi.map .int)),.va (.lst (lo.map .int)),s10,s11]) (CU rfl lcl (qh _) (by simp))]
 have nil_:∀(Z:En),cN ai Z= .ok (.lst []):=λZ=>iI rfl (aI (k:=1) (by simp))
 have e10:(oK (tb (o2 lb (vr 9) (cN ai))) (cl wY (af (vr 9) ai)) (oK (tb (o2 lb (vr 8) (cN ai))) (o2 fw (cl qm (af (vr 8) ai)) (cn (.int 5))) (cn (.int 0)))) [.va (.scr ns),.va (.int (a:Nat)),.va (eS P),.va row,.va (eO P f),.ow (.dct (Q.map en) (Q.map λv=> .int (t v))),.va (.int (k:Nat)),.va (en v),.va (.lst (hi.map .int)),.va (.lst (lo.map .int)),s10,s11] = .ok (.int (qu lo hi)):=by
  rw[lj (bq (aA rfl (nil_ _) (qk lo)))]
  cases lo with
  | cons x l=>exact aJ rfl (y9 x l)
  | nil=>
   show oK _ _ _ _=_
   rw[lj (bq (aA rfl (nil_ _) (qk hi)))]
   cases hi with
   | cons x l=>exact aA (aJ rfl (sL x l)) rfl rfl
   | nil=>rfl
 rw[az (Z':=[.va (.scr ns),.va (.int (a:Nat)),.va (eS P),.va row,.va (eO P f),.ow (.dct (Q.map en) (Q.map λv=> .int (t v))),.va (.int (k:Nat)),.va (en v),.va (.lst (hi.map .int)),.va (.lst (lo.map .int)),.va (.int (qu lo hi)),s11]) (bJ e10 rfl)]
 have e11:(oK (tb (o2 lb (vr 8) (cN ai))) (cl qm (af (vr 8) ai)) (o2 aK (vr 10) (cn (.int 5)))) [.va (.scr ns),.va (.int (a:Nat)),.va (eS P),.va row,.va (eO P f),.ow (.dct (Q.map en) (Q.map λv=> .int (t v))),.va (.int (k:Nat)),.va (en v),.va (.lst (hi.map .int)),.va (.lst (lo.map .int)),.va (.int (qu lo hi)),s11] = .ok (.int (B4 lo hi)):=by
  rw[lj (bq (aA rfl (nil_ _) (qk hi)))]
  cases hi with
  | cons x l=>exact aJ rfl (sL x l)
  | nil=>rfl
 rw[az (Z':=[.va (.scr ns),.va (.int (a:Nat)),.va (eS P),.va row,.va (eO P f),.ow (.dct (Q.map en) (Q.map λv=> .int (t v))),.va (.int (k:Nat)),.va (en v),.va (.lst (hi.map .int)),.va (.lst (lo.map .int)),.va (.int (qu lo hi)),.va (.int (B4 lo hi))]) (bJ e11 rfl)]
 obtain⟨r,er,r0,r1⟩:=cX ns (a+k) (B4 lo hi - qu lo hi+1) hn (by omega)
 refine⟨qu lo hi+r,.va (.lst (hi.map .int)),.va (.lst (lo.map .int)),.va (.int (qu lo hi)),.va (.int (B4 lo hi)),fm (by omega) (by omega),?_⟩
 have pv:o2 aK (vr 10) (cl aw (af (vr 0) (af (o2 aK (vr 1) (vr 6)) (af (o2 aK (o2 fw (vr 11) (vr 10)) (cn (.int 1))) ai)))) [.va (.scr ns),.va (.int (a:Nat)),.va (eS P),.va row,.va (eO P f),.ow (.dct (Q.map en) (Q.map λv=> .int (t v))),.va (.int (k:Nat)),.va (en v),.va (.lst (hi.map .int)),.va (.lst (lo.map .int)),.va (.int (qu lo hi)),.va (.int (B4 lo hi))] = .ok (.int (qu lo hi+r)):=
  aA rfl (aJ (ar rfl (ar (aA rfl rfl rfl) (ar (aA (aA rfl rfl rfl) rfl rfl) rfl))) er) rfl
 have mp:(Q.map λv=>T.int (t v))=Q.map λu=> .int (if u=v then qu lo hi+r else t u):=JM λu hu=>by rw[if_neg (show ¬u=v from λz=>hq (z▸hu))]
 rw[GN rfl pv rfl (ba v) (by rw[IP];omega),iO _ _ _ _ hq,mp]
 rw[Jv,Jv]
 show Rs.ok (Fl.nx [_,_,_,_,_,.ow (.dct (Q.map en++ [en v]) ((Q.map λu=>T.int (if u=v then qu lo hi+r else t u))++ [.int (qu lo hi+r)])),_,_,_,_,_,_])=Rs.ok (Fl.nx [_,_,_,_,_,.ow (.dct (Q.map en++ [en v]) ((Q.map λu=>T.int (if u=v then qu lo hi+r else t u))++ [.int (if v=v then qu lo hi+r else t v)])),_,_,_,_,_,_])
 rw[if_pos rfl]
theorem Cg (hn:ns.length<=63)(n:dq L)(F:gc L P f)(pl:P.length<=16)(a:Nat)(row:T):∀(rest Q:List N2) (t:N2->Int) (k:Nat) (s6 s7 s8 s9 s10 s11:Sl),(Q++rest).Nodup->(∀u∈Q++rest,u∈P)->(Q++rest).length<=16->C3 f Q t->∃t' b6 b7 b8 b9 b10 b11,C3 f (Q++rest) t' ∧
  bp (gT 2 (kR (gN 6) (kR (gN 7) vP))) DW (dh k (rest.map en)) [.va (.scr ns),.va (.int (a:Nat)),.va (eS P),.va row,.va (eO P f),.ow (.dct (Q.map en) (Q.map λv=> .int (t v))),s6,s7,s8,s9,s10,s11] = .ok (.nx [.va (.scr ns),.va (.int (a:Nat)),.va (eS P),.va row,.va (eO P f),.ow (.dct ((Q++rest).map en) ((Q++rest).map λv=> .int (t' v))),b6,b7,b8,b9,b10,b11]):=by
 intro rest
 induction rest with
 | nil=>
  intro Q t k s6 s7 s8 s9 s10 s11 _ _ _ h;refine⟨t,s6,s7,s8,s9,s10,s11,by rw[J7];exact h,?_⟩
  rw[J7]
  rfl
 | cons v rest ih=>
  intro Q t k s6 s7 s8 s9 s10 s11 nd hP hl h
  have hq:v∉Q:=λz=>by
   rw[JR]at nd;exact nd.2.2 v z v IL rfl
  have asc:Q++v::rest=Q++ [v] ++rest:=by rw[JE];rfl
  obtain⟨x,b8,b9,b10,b11,h1,e1⟩:=Cf hn n F pl (hP v (Jn _ IL)) hq (λu hu=>hP u (Ks _ hu)) (by rw[IX]at hl;omega) h a k row s8 s9 s10 s11
  rw[asc]at nd hP hl ⊢;obtain⟨t',c6,c7,c8,c9,c10,c11,h2,e2⟩:=ih (Q++ [v]) _ (k+1) (.va (.int (k:Nat))) (.va (en v)) b8 b9 b10 b11 nd hP hl h1;refine⟨t',c6,c7,c8,c9,c10,c11,h2,?_⟩
  rw[IM,dh,du rfl e1,e2]
theorem z7 (hn:ns.length<=63)(n:dq L)(F:gc L P f)(pl:P.length<=16)(nd:P.Nodup)(hL:∀x∈L,x.1∈P/\x.2.1∈P)(a:Nat)(row:T):∃t,Holds L t/\cL [.scr ns,.int (a:Nat),eS P,row,eO P f] = .ok (Fy P t):=by
 obtain⟨t,b6,b7,b8,b9,b10,b11,h,e⟩:=Cg hn n F pl a row P [] (λ_=>0) 0 .em .em .em .em .em .em (by simpa using nd) (λu hu=>by simpa using hu) (by simpa using pl) (λu hu=>by cases hu)
 rw[Kp]at h e;refine⟨t,λu v m hm=> ?_,bc rfl ?_⟩
 ·have hp:=hL _ hm
  obtain⟨d,hd,hle⟩:=F.le u hp.1 v m (Wk.one hm)
  have:=h u hp.1 v hp.2 d hd;omega
 ·show dM [.va (.scr ns),.va (.int (a:Nat)),.va (eS P),.va row,.va (eO P f),.em,.em,.em,.em,.em,.em,.em] =_
  unfold dM;rw[az rfl];refine(az (ff (CV rfl) e)).trans ?_
  refine bK (aJ (ar (EL rfl ?_ ?_) rfl) wB)
  ·refine(mS (h:=atT t) (jw rfl) (aI (by rw[IP];exact pl)) (by simp) λu0 hu0=> ?_).trans (by rw[JX];rfl)
   obtain⟨u,hu,rfl⟩:=Jh.mp hu0;exact uN rfl rfl hu
  ·have:(P.map λv=>T.int (t v))=(P.map t).map .int:=by rw[JX];rfl
   rw[this];exact qh _
end
def ug (L:bw N2)(k:Nat):N2:=match L[k]? with
 | some x=>x.1
 | none=>⟨0,0⟩
def He (L:bw N2)(ks:List Nat):Bool:=match ks with
 | [] =>false
 | k::r=>decide (run L (ug L k) (k::r)=some (ug L k))&&decide (bZ L (k::r)<0)
def Fs (L:bw N2)(t:T):Bool:=gg L.length t&&He L (w9 t)
theorem Gq (w:List Nat):∀u∈eN w,u.pl=true:=λu hu=>by obtain⟨k,_,rfl⟩:=Jh.mp hu;rfl
theorem E8 (l:List T)(h:(T.lst l).pl=true):kC (.lst l) (.lst [])= .ok (.bl l.isEmpty):=by
 unfold kC;rw[if_pos (mW (by simp[T.dep,deps]) (T.HL _ h) rfl)]
 cases l with
 | nil=>rfl
 | cons k r=>simp[aV,beqTs]
theorem gR (ks:List Nat):(eN ks).length=ks.length:=IP _
section
variable {cs ls:List T}{L:bw N2}{P:List N2}{ns:List Int}
theorem Cb {t:T}(h:t.pl=true)(hl:∀l,t= .lst l->l.length<=1000):eJ [eL L,t] = .ok (.bl (gg L.length t&&match w9 t with | [] =>false | k::r=>decide (run L (ug L k) (k::r)=some (ug L k)))):=by
 refine bc rfl ?_
 show gq [.va (eL L),.va t,.em] =_
 unfold gq
 have nm:=kW L t h hl
 cases q:gg L.length t with
 | false=>
  exact dH ((dB (sX (dn (k:=false) (bq (aJ rfl (by rw[nm,q])))))).trans rfl)
 | true=>
  obtain⟨ks,rfl,hk⟩:=qe q
  have c:=jv (dn (bq (aJ (g:=cu) (fs:=af (vr 0) (af (vr 1) ai)) (Z:=[.va (eL L),.va (.lst (eN ks)),.em]) rfl (by rw[nm,q])))) (bq (aA (fa:=vr 1) (fb:=cN ai) rfl (iI rfl (aI (k:=1) (by simp))) (E8 _ h)))
  rw[f9]
  cases ks with
  | nil=>exact dH ((dB c).trans rfl)
  | cons k r=>
   rw[az ((cH c).trans rfl)]
   have hk0:=hk k IL
   have e:L[k]? =some L[k]:=IU hk0
   have sr:ug L k=L[k].1:=by unfold ug;rw[e]
   rw[az (bJ (t:=en (ug L k)) (aA (nr rfl (sY rfl rfl rfl) e) rfl (by rw[sr];rfl)) rfl)]
   rcases vW h hl with⟨z,_⟩ | ⟨ks',ek,_,e2⟩
   ·rw[q]at z;cases z
   ·have:ks'=k::r:=by have:=congrArg w9 ek;rw[f9,f9]at this;exact this.symm
    subst this;exact bK (aJ rfl (by rw[e2,KD]))
theorem Rd.ID (R:Rd cs ls L P){t:T}(h:t.pl=true)(hl:∀l,t= .lst l->l.length<=1000):kP [RR cs ls,t] = .ok (.bl (Fs L t)):=by
 refine bc rfl ?_
 show uZ [.va (RR cs ls),.va t,.em] =_
 unfold uZ;rw[az (bJ (aJ rfl R.bounds) rfl)]
 have rd:=aJ (fs:=af (vr 2) (af (vr 1) ai)) (Z:=[.va (RR cs ls),.va t,.va (eL L)]) rfl (Cb h hl);refine bK ?_
 unfold Fs
 cases q:gg L.length t with
 | false=>rw[q]at rd;exact gW rd
 | true=>
  obtain⟨ks,rfl,hk⟩:=qe q;rw[q,f9,KD]at rd;rw[f9,KD]
  cases ks with
  | nil=>exact gW rd
  | cons k r=>exact gV rd λ_=>aA (aJ rfl (CZ hk (by have:=hl _ rfl;rwa [gR]at this))) rfl rfl
end
theorem za {g:T->En->Rs En}{F:En->Rs Fl}(J:Nat->En->Prop):∀(ts:List T) (n:Nat) (Z:En),(∀i t,ts[i]? =some t->∀Z,J (n+i) Z->∃Z1 Z2,g t Z= .ok Z1/\F Z1= .ok (.nx Z2)/\J (n+i+1) Z2)->J n Z->∃Z',bp g F ts Z= .ok (.nx Z')/\J (n+ts.length) Z'
 | [],n,Z,_,hj=>⟨Z,rfl,hj⟩
 | t::ts,n,Z,h,hj=>by
  obtain⟨Z1,Z2,a,b,c⟩:=h 0 t rfl Z hj
  obtain⟨Z',e,j⟩:=za J ts (n+1) Z2 (λi u hu Z hr=>by
   have:=h (i+1) u (by simpa using hu) Z (by rw[show n+(i+1)=n+1+i by omega];exact hr)
   rwa [show n+(i+1)+1=n+1+i+1 by omega]at this) c
  refine⟨Z',by rw[du a b];exact e,?_⟩
  rw[IV,show n+(ts.length+1)=n+1+ts.length by omega];exact j
def jM (L:bw N2)(k:Nat):N2:=match L[k]? with
 | some x=>x.2.1
 | none=>⟨0,0⟩
def qY (L:bw N2)(a:N2)(w:List Nat):List N2:=a::w.map (jM L)
section
variable {L:bw N2}{P:List N2}{f:dD N2}
theorem mh:∀{w:List Nat} {a c:N2},Ch L a w c->qY L a w=eh L w++ [c]
 | [],a,c,h=>by cases h;rfl
 | k::w,a,c,⟨b,m,e,h⟩=>by
  have e1:jM L k=b:=by unfold jM;rw[e]
  have e2:src L k=some a:=by unfold src;rw[e];rfl
  show a::(jM L k::w.map (jM L))=_
  rw[e1]
  show a::qY L b w=_
  rw[mh h];unfold eh;rw[Kl e2]
  rfl
theorem pQ (he:∀x∈L,x.1∈P/\x.2.1∈P):∀{w:List Nat} {a c:N2},Ch L a w c->a∈P->∀v∈qY L a w,v∈P
 | [],a,c,h,ha,v,hv=>by rw[IY.mp hv];exact ha
 | k::w,a,c,⟨b,m,e,h⟩,ha,v,hv=>by
  have e1:jM L k=b:=by unfold jM;rw[e]
  have hv:v∈a::(jM L k::w.map (jM L)):=hv;rw[e1]at hv;obtain rfl | hv:=IW.mp hv
  ·exact ha
  ·exact pQ he h (he _ (JT e)).2 v hv
theorem pk:∀{l P:List N2},l.Nodup->(∀v∈l,v∈P)->l.length<=P.length
 | [],P,_,_=>KP _
 | v::l,P,nd,h=>by
  obtain⟨m1,m2⟩:=Jq.mp nd
  have hv:=h v IL
  have:=pk m2 λu hu=>(LS (λz:u=v=>m1 (by rw[<-z];exact hu))).mpr (h u (IJ _ hu))
  rw[Ma hv]at this
  have:=Mr hv;rw[IV];omega
structure Wy (L:bw N2)(P:List N2)(f:dD N2)(a c:N2)(w:List Nat):Prop where
 ch:Ch L a w c
 nd:(qY L a w).Nodup
 fc:f a c=some (bZ L w)
 lt:∀k∈w,k<L.length
theorem Wy.of {a c:N2}{b:bW N2}{d:Int}{w:List Nat}(S:Settled L [a] b)(F:gc L P f)(ha:a∈P)(e:b c=some (d,w)):Wy L P f a c w:=by
 obtain⟨s,hs,hc,hd,h1,h2⟩:=S.walk c d w e;rw[IY.mp hs]at hc;refine⟨hc,?_,?_,hc.lt⟩
 ·rw[mh hc,JR]
  exact⟨h2,by simp,λx hx y hy z=>h1 (by rw[<-IY.mp hy,<-z];exact hx)⟩
 ·obtain⟨d',e1,l1⟩:=F.le a ha c _ hc.wk
  obtain⟨d2,w2,e2,l2⟩:=S.least a (by simp) c d' (F.is a c d' e1)
  rw[e]at e2;cases e2;rw[e1];congr 1;omega
theorem Wy.same {a:N2}{w:List Nat}(W:Wy L P f a a w):w= []:=by
 have h:=W.nd;rw[mh W.ch]at h
 cases w with
 | nil=>rfl
 | cons k r=>
  obtain⟨b,m,e,_⟩:=W.ch
  have e2:src L k=some a:=by unfold src;rw[e];rfl
  unfold eh at h;rw[Kl e2,P7,Jq]at h;exact absurd (Jn _ (IY.mpr rfl)) h.1
theorem Wy.cut {a c:N2}{w:List Nat}(W:Wy L P f a c w)(he:∀x∈L,x.1∈P/\x.2.1∈P)(F:gc L P f)(ha:a∈P)(i:Nat)(hi:i<=w.length):∃p,(qY L a w)[i]? =some p/\p∈P/\Ch L a (w.take i) p/\Ch L p (w.drop i) c/\f a p=some (bZ L (w.take i))/\f p c=some (bZ L (w.drop i)):=by
 have hch:=W.ch;rw[<-LF i w]at hch;obtain⟨p,c1,c2⟩:=hch.split
 have hp:(qY L a w)[i]? =some p:=by
  have e1:=mh c1
  have:(qY L a (w.take i))[i]? =some p:=by
   rw[e1]
   have hl:(eh L (w.take i)).length=i:=by
    have:=congrArg J4 e1;unfold qY at this;rw[IV,IP,IX,Kk,KN]at this;omega
   rw[K3 (by omega),hl,Na];rfl
  unfold qY at this ⊢
  cases i with
  | zero=>exact this
  | succ i=>
   rw[Kd]at this ⊢
   rw[List.map_take,List.getElem?_take]at this
   rw[if_pos (K5 i)]at this;exact this
 have pin:=pQ he W.ch ha p (JT hp)
 have ct:bZ L w=bZ L (w.take i)+bZ L (w.drop i):=by
  have:=fT L (w.take i) (w.drop i)
  rwa [LF]at this
 have fc:=W.fc;obtain⟨d1,e1,l1⟩:=F.le a ha p _ c1.wk;obtain⟨d2,e2,l2⟩:=F.le p pin c _ c2.wk;obtain⟨d3,e3,l3⟩:=F.le a ha c _ ((F.is a p d1 e1).app (F.is p c d2 e2));rw[fc]at e3;cases e3;exact⟨p,hp,pin,c1,c2,by rw[e1];congr 1;omega,by rw[e2];congr 1;omega⟩
end
theorem GF {l:List T}{f:En->Rs T}{Z:En}(h:f Z= .ok (.lst l)):cl cV (af f ai) Z= .ok (.int (l.length:Nat)):=aJ (ar h rfl) rfl
theorem uJ (ks:List Nat):(T.lst (eN ks)).pl=true:=by rw[yB];exact uu (Gq ks)
theorem vg {L:bw N2}{w:List Nat}(hw:∀k∈w,k<L.length)(h1:w.length<=1000){g:En->Rs T}{i:Nat}{Z:En}(hg:g Z= .ok (.lst (eN w)))(hE:∀s,(bH [none,some i] Z).set 0 s= [s,.va (eL L)]) :
  cl pj (af (dQ (iS g) [none,some i] (gN 0) bT (o2 aP (o2 aP (vr 1) (vr 0)) (cn (.int 2)))) ai) Z= .ok (.int (bZ L w)):=by
 have hc:dQ (iS g) [none,some i] (gN 0) bT (o2 aP (o2 aP (vr 1) (vr 0)) (cn (.int 2))) Z= .ok (.lst (w.map λk=>T.int (most L k))):=by
  refine(mS (h:=λt=>match t with | .int k=>T.int (most L k.toNat) | t=>t) (jw hg) (aI (by rw[gR];exact h1)) (by simp) λt ht=> ?_).trans (by unfold eN;rw[JX];rfl)
  obtain⟨k,hk,rfl⟩:=Jh.mp ht;rw[hE];obtain⟨⟨a,b,m⟩,e⟩:∃y,L[k]? =some y:=⟨_,IU (hw k hk)⟩
  refine(aA (nr rfl rfl e) rfl rfl).trans ?_
  show Rs.ok (T.int m)=Rs.ok (T.int (most L ((k:Int).toNat)))
  rw[JD];unfold most;rw[e]
 refine aJ (ar hc rfl) ?_
 show(match eV (w.map λk=>T.int (most L k))with | some ns=>Rs.ok (T.int ns.sum) | none=> .bad)=_
 rw[gF,<-m5]
section
variable {cs ls:List T}{L:bw N2}{P:List N2}{f:dD N2}{ns:List Int}
theorem yg {a c:N2}{w:List Nat}{m:Int}(h:Ch L a w c)(hm:bZ L w<=m):FV L a c m (.lst (eN w))=true:=by
 unfold FV;rw[mC h.lt,f9,run_ch.mpr h,decide_eq_true rfl,decide_eq_true hm];rfl
theorem Rd.isl (R:Rd cs ls L P)(n:dq L)(F:gc L P f){a c:N2}(ha:a∈P)(hc:c∈P){w:List Nat}(h:Ch L a w c)(hf:f a c=some (bZ L w))(h1:w.length<=1000):bO [RR cs ls,en a,en c,eL L,.lst (eN w)] = .ok (.bl true):=by
 refine bc rfl ?_
 show fq [.va (RR cs ls),.va (en a),.va (en c),.va (eL L),.va (.lst (eN w)),.em] =_
 unfold fq;refine(az (bJ (vg h.lt h1 rfl λs=>rfl) rfl)).trans ?_
 refine bK ((iJ (aA (aJ rfl ((R.Ij n F ha hc).trans (by rw[hf];rfl))) rfl ((zX _ _).trans (by rw[beq_self_eq_true])))).trans (aJ rfl ((R.Ii ha hc (uJ w) λl e=>by cases e;rw[gR];exact h1).trans (by rw[yg h (Ke _)]))))
theorem Rd.ev4 (R:Rd cs ls L P){v:N2}(hv:v∈P):∃c k:Nat,c<4/\k<4/\v=⟨c,k⟩:=by
 have h:=R.ev hv;obtain⟨c,k,e,h1,h2,h3⟩:=j5 cs 0 (kU h);obtain⟨hc,c1,c4⟩:=cx R.g.c
 have e1:v.c=(c:Int)/\v.k=(k:Int):=by
  have:T.tup [.int v.c,.int v.k] =T.tup [.int c,.int k]:=e
  simpa using this
 refine⟨c,k,by omega,?_,by cases v;simp at e1;rw[e1.1,e1.2]⟩
 have:=A6 R.g.c (c:Int);rw[kG]at this;rw[Nb]at h3;omega
def prN (v:N2):Nat×Nat:=(v.c.toNat,v.k.toNat)
theorem Rd.prs (R:Rd cs ls L P):∀{Q:List N2},(∀v∈Q,v∈P)->jD (Q.map en)=some (Q.map prN)
 | [],_=>rfl
 | v::Q,h=>by
  obtain⟨c,k,hc,hk,e⟩:=R.ev4 (h v IL)
  have e1:sd (en v)=some (prN v):=by
   subst e
   show(if (0:Int)<=(c:Int)/\(c:Int)<4/\(0:Int)<=(k:Int)/\(k:Int)<4 then some (((c:Int)).toNat,((k:Int)).toNat)else none)=_
   rw[if_pos ⟨by omega,by omega,by omega,by omega⟩];rfl
  rw[IM,IM,jD,e1,R.prs λu hu=>h u (IJ _ hu)]
theorem Rd.Ic (R:Rd cs ls L P){Q:List N2}(h:∀v∈Q,v∈P)(nd:Q.Nodup):sM [eS Q] = .ok (.int (Q.length:Nat)):=by
 show(match jD (Q.map en)with | some ks=>if ks.Nodup/\ks.length<=16 then Rs.ok (T.int (ks.length:Nat))else .bad | none=> .bad)=_
 rw[R.prs h]
 have pl:=R.pl
 have:=pk nd h
 have nd2:(Q.map prN).Nodup:=by
  rw[LQ,Ny];refine List.Pairwise.imp_of_mem ?_ nd
  intro u v hu hv ne z;obtain⟨c,k,_,_,rfl⟩:=R.ev4 (h u hu);obtain⟨d,m,_,_,rfl⟩:=R.ev4 (h v hv)
  have z:(((c:Int)).toNat,((k:Int)).toNat)=(((d:Int)).toNat,((m:Int)).toNat):=z
  simp at z
  exact ne (by rw[z.1,z.2])
 show(if _ then _ else _)=_
 rw[if_pos ⟨nd2,by rw[IP];omega⟩,IP]
theorem Wy.few {a c:N2}{w:List Nat}(R:Rd cs ls L P)(W:Wy L P f a c w)(ha:a∈P):w.length<=15:=by
 have:=pk W.nd (pQ R.f.ends W.ch ha)
 have pl:=R.pl;unfold qY at this;rw[IV,IP]at this;omega
theorem Ew {a:N2}{w:List Nat}(hw:∀k∈w,k<L.length)(h1:w.length<=15){Z:En}(h6:vr 6 Z= .ok (en a))(h9:vr 9 Z= .ok (.lst (eN w)))(hE:∀s,(bH [none,some 3] Z).set 0 s= [s,.va (eL L)]) :
  o2 aK (cN (af (vr 6) ai)) (dQ (iS (vr 9)) [none,some 3] (gN 0) bT (o2 aP (o2 aP (vr 1) (vr 0)) (cn (.int 1)))) Z= .ok (eS (qY L a w)):=by
 have hc:dQ (iS (vr 9)) [none,some 3] (gN 0) bT (o2 aP (o2 aP (vr 1) (vr 0)) (cn (.int 1))) Z= .ok (.lst ((w.map (jM L)).map en)):=by
  refine(mS (h:=λt=>match t with | .int k=>en (jM L k.toNat) | t=>t) (jw h9) (aI (by rw[gR];omega)) (by simp) λt ht=> ?_).trans (by unfold eN;rw[JX,JX];rfl)
  obtain⟨k,hk,rfl⟩:=Jh.mp ht;rw[hE];obtain⟨⟨a,b,m⟩,e⟩:∃y,L[k]? =some y:=⟨_,IU (hw k hk)⟩
  refine(aA (nr rfl rfl e) rfl rfl).trans ?_
  show Rs.ok (en b)=Rs.ok (en (jM L ((k:Int).toNat)))
  rw[JD];unfold jM;rw[e]
 refine(aA (iI (ar h6 rfl) (aI (k:=1) (by simp))) hc (lO _ _ (by simp;omega))).trans rfl
end
abbrev Ex (ns:List Int)(a1 a2 a3 a4 a5 a6 a7 a8 a9 a10 a11 a12 a13 a14 a15:Sl):En:=[.va (.scr ns),a1,a2,a3,a4,a5,a6,a7,a8,a9,a10,a11,a12,a13,a14,a15]
section
variable {cs ls:List T}{L:bw N2}{P:List N2}{f:dD N2}{ns:List Int}
theorem Rd.pick (R:Rd cs ls L P)(hn:ns.length<=63)(k:Nat):∃r v,v∈P/\aw [.scr ns,.int k,.int (P.length:Nat)] = .ok (.int r)/\aP (eS P) (.int r)= .ok (en v):=by
 have:=R.pos;obtain⟨r,e,r0,r1⟩:=cX ns k (P.length:Nat) hn (by omega)
 obtain⟨t,ht,e2⟩:=Bz (l:=P.map en) r0 (by rw[IP];exact r1)
 obtain⟨v,hv,rfl⟩:=Jh.mp ht;exact⟨r,v,hv,e,e2⟩
theorem qx {P:List N2}{f:En->Rs T}{Z:En}(h:f Z= .ok (eS P)):cl cV (af f ai) Z= .ok (.int (P.length:Nat)):=aJ (ar h rfl) (by show Rs.ok (T.int ((P.map en).length:Nat))=_;rw[IP])
theorem Rd.wy (R:Rd cs ls L P)(n:dq L)(F:gc L P f){a c:N2}(ha:a∈P)(hc:c∈P):(ie [RR cs ls,en a,en c] = .ok .non)\/∃w,Wy L P f a c w/\ie [RR cs ls,en a,en c] = .ok (.lst (eN w)):=by
 obtain⟨b,S,e,_⟩:=R.Ir n ha hc
 cases q:b c with
 | none=>rw[q]at e;exact .inl e
 | some y=>
  obtain⟨d,w⟩:=y;rw[q]at e;exact .inr ⟨w,Wy.of S F ha q,e⟩
theorem qQ {Q:List N2}{i:Nat}{p:N2}(e:Q[i]? =some p){f g:En->Rs T}{Z:En}(hf:f Z= .ok (eS Q))(hg:g Z= .ok (.int (i:Nat))):o2 aP f g Z= .ok (en p):=sY hf hg (by rw[Jm,e];rfl)
theorem Hg {w:List Nat}{i k:Nat}(e:w[i]? =some k){f g:En->Rs T}{Z:En}(hf:f Z= .ok (.lst (eN w)))(hg:g Z= .ok (.int (i:Nat))):o2 aP f g Z= .ok (.int (k:Nat)):=sY hf hg (by unfold eN;rw[Jm,e];rfl)
theorem B8 {a c:N2}{w:List Nat}(h:Ch L a w c):aP (eS (qY L a w)) (.int (-1))= .ok (en c):=by
 have e:qY L a w=eh L w++ [c]:=mh h
 show aP (.lst ((qY L a w).map en)) _=_
 rw[e,Jv];rw[ES _ (by simp)]
 simp
theorem Rd.Iv (R:Rd cs ls L P)(n:dq L){a:N2}{w:List Nat}(h:Ch L a w a)(h1:w.length<=1000):kP [RR cs ls,.lst (eN w)] = .ok (.bl false):=by
 rw[R.ID (uJ w) λl e=>by cases e;rw[gR];exact h1]
 unfold Fs;rw[f9]
 congr 2
 have:He L w=false:=by
  cases w with
  | nil=>rfl
  | cons k r=>
   have:=n a _ h.wk
   show(decide _&&decide (bZ L (k::r)<0))=false
   rw[decide_eq_false (p:=bZ L (k::r)<0) (by omega),OE]
 rw[this,OE]
def Nx (r:Rs Fl)(K:En->Prop):Prop:=∃Z',r= .ok (.nx Z')/\K Z'
theorem fJ {F G:En->Rs Fl}{Z Z1:En}{K:En->Prop}(h:F Z= .ok (.nx Z1))(h2:Nx (G Z1) K):Nx (ay F G Z) K:=by
 unfold Nx at*;rw[az h];exact h2
theorem CN {F:En->Rs Fl}{Z Z1:En}{K:En->Prop}(h:F Z= .ok (.nx Z1))(h2:K Z1):Nx (F Z) K:=⟨Z1,h,h2⟩
theorem Eu {fi:En->Rs (List T)}{g:T->En->Rs En}{F H:En->Rs Fl}{Z:En}{ts:List T}{K:En->Prop}(J:Nat->En->Prop)(hi:fi Z= .ok ts)(h:∀i t,ts[i]? =some t->∀Z,J i Z->∃Z1 Z2,g t Z= .ok Z1/\F Z1= .ok (.nx Z2)/\J (i+1) Z2)(hj:J 0 Z)(k:∀Z',J ts.length Z'->Nx (H Z') K):Nx (ay (eU fi g F) H Z) K:=by
 obtain⟨Z',e,j⟩:=za J ts 0 Z (λi t ht Z hr=>by
  rw[Oi]at hr ⊢;exact h i t ht Z hr) hj
 rw[Oi]at j;exact fJ (ff hi e) (k Z' j)
theorem Ad (p q:List Nat)(h:p.length+q.length<=1000):aK (.lst (eN p)) (.lst (eN q))= .ok (.lst (eN (p++q))):=by
 rw[lO _ _ (by rw[IX,gR,gR];exact h)]
 unfold eN;rw[Jv]
theorem gt_int (a b:Int):HC (.int a) (.int b)= .ok (.bl (decide (a > b))):=rfl
theorem Rd.turn (R:Rd cs ls L P)(n:dq L)(F:gc L P f){a c v:N2}(ha:a∈P)(hc:c∈P){w:List Nat}(W:Wy L P f a c w){tm:N2->Int}(hd:Holds L tm){i:Nat}(hi:i<w.length)(x11:T)(s12 s13 s14 s15:Sl){Z:En}
  (hρ:Z=Ex ns (.va (RR cs ls)) (.va (eS P)) (.va (eL L)) (.va (Fy P tm)) (.va (G7 P tm)) (.va (en a)) (.va (en c)) (.va (en v)) (.va (.lst (eN w))) (.va (eS (qY L a w))) (.va x11) (.va (.int (i:Nat))) s13 s14 s15) :
  (ay (eR (tb (o2 HC (o2 fw (o2 aM (vr 5) (o2 aP (vr 10) (o2 aK (vr 12) (cn (.int 1))))) (o2 aM (vr 5) (o2 aP (vr 10) (vr 12)))) (o2 aP (o2 aP (vr 3) (o2 aP (vr 9) (vr 12))) (cn (.int 2))))) (aR (cn (.bl false))) sN) (ay (eR (dS (tb (cl bO (af (vr 1) (af (vr 6) (af (o2 aP (vr 10) (o2 aK (vr 12) (cn (.int 1)))) (af (vr 3) (af (sl (vr 9) pN (pS (o2 aK (vr 12) (cn (.int 1))))) ai)))))))) (aR (cn (.bl false))) sN) (eR (dS (tb (cl bO (af (vr 1) (af (o2 aP (vr 10) (o2 aK (vr 12) (cn (.int 1)))) (af (vr 7) (af (vr 3) (af (sl (vr 9) (pS (o2 aK (vr 12) (cn (.int 1)))) pN) ai)))))))) (aR (cn (.bl false))) sN))) Z= .ok (.nx Z):=by
 have w15:=W.few R ha;obtain⟨p,e0,hp,_,c2,_,_⟩:=W.cut R.f.ends F ha i (by omega)
 obtain⟨q,e1,hq,d1,d2,f1,f2⟩:=W.cut R.f.ends F ha (i+1) (by omega)
 have ew:w[i]? =some w[i]:=IU hi
 rw[Ki hi]at c2;obtain⟨b,m,eL_,_⟩:=c2
 have eb:q=b:=by
  unfold qY at e1;rw[Kd,Jm,ew]at e1
  have:jM L w[i] =q:=JB e1;rw[<-this];unfold jM;rw[eL_]
 subst eb
 have hol:=hd p q m (JT eL_);subst hρ
 have a1:∀{Z:En},vr 12 Z= .ok (.int (i:Nat))->o2 aK (vr 12) (cn (.int 1)) Z= .ok (.int ((i+1:Nat):Int)):=λh=>aA h rfl rfl
 refine(az ((cH (bq (aA (u:=.int m) (aA (Af rfl (qQ e1 rfl (a1 rfl)) hq) (Af rfl (qQ e0 rfl rfl) hp) rfl) (aA (nr rfl (Hg ew rfl rfl) eL_) rfl rfl) ((gt_int _ _).trans (by rw[decide_eq_false (by omega)]))))).trans rfl)).trans ?_
 have t1:∀{Z:En},vr 9 Z= .ok (.lst (eN w))->vr 12 Z= .ok (.int (i:Nat))->sl (vr 9) pN (pS (o2 aK (vr 12) (cn (.int 1)))) Z= .ok (.lst (eN (w.take (i+1)))):=λh h2=>by rw[zp h rfl (EI (a1 h2)),Ag];unfold eN;rw[List.map_take]
 have t2:∀{Z:En},vr 9 Z= .ok (.lst (eN w))->vr 12 Z= .ok (.int (i:Nat))->sl (vr 9) (pS (o2 aK (vr 12) (cn (.int 1)))) pN Z= .ok (.lst (eN (w.drop (i+1)))):=λh h2=>by rw[zp h (EI (a1 h2)) rfl,tL];unfold eN;rw[List.map_drop]
 refine(az ((cH (dn (bq (aJ (ar rfl (ar rfl (ar (qQ e1 rfl (a1 rfl)) (ar rfl (ar (t1 rfl rfl) rfl))))) (R.isl n F ha hq d1 f1 (by rw[KN];omega)))))).trans rfl)).trans ?_
 exact(cH (dn (bq (aJ (ar rfl (ar (qQ e1 rfl (a1 rfl)) (ar rfl (ar rfl (ar (t2 rfl rfl) rfl))))) (R.isl n F hq hc d2 f2 (by rw[KO];omega)))))).trans rfl
theorem pure_law (ns:List Int)(hn:ns.length<=63):m_law [.scr ns] = .ok (.bl true):=by
 obtain⟨cs,ls,er,hc,c3,hs,hl,h5⟩:=Fc ns hn 0 5 (by omega)
 obtain⟨hR,mR⟩:=Ds hc hs hl (by omega)
 have g:Good cs ls:=⟨hc,λt ht=>(hl t ht).1,by omega,Dl mR⟩
 obtain⟨L,P,R⟩:=vk g
 have ll:=R.ll
 have pl:=R.pl;refine bc rfl ?_
 show Aw (Ex ns .em .em .em .em .em .em .em .em .em .em .em .em .em .em .em)=_
 unfold Aw;refine(az (bJ (aJ rfl er) rfl)).trans ?_
 obtain⟨h,hw,iff⟩:=R.Iu
 cases h with
 | false=>exact dH ((dB (dn (bq (aJ rfl hw)))).trans rfl)
 | true=>
  have n:dq L:=iff.mp rfl;obtain⟨t0,ht0,et⟩:=Ca R.nd (by omega) R.f.ends
  obtain⟨_,F,rfl⟩:=ht0.resolve_right λz=>z.1 n
  obtain⟨tm,hd,ed⟩:=z7 hn n F R.pl R.nd R.f.ends 80 (eL L);obtain⟨r1,a,ha,d1,i1⟩:=R.pick hn 100;obtain⟨r2,c,hc2,d2,i2⟩:=R.pick hn 101;obtain⟨r3,v,hv,d3,i3⟩:=R.pick hn 102
  have fin:∀{Z:En},vr 1 Z= .ok (RR cs ls)->vr 6 Z= .ok (en a)->aR (cP (o2 kC (cl ie (af (vr 1) (af (vr 6) (af (vr 6) ai)))) (cN ai)) (o2 kC (cl bA (af (vr 1) (af (vr 6) (af (vr 6) ai)))) (cn (.int 0)))) Z= .ok (.rt (.bl true)):=λ{Z} q1 q6=>by
   obtain⟨b,S,e,_⟩:=R.Ir n ha ha;obtain⟨d,w,eb,_⟩:=S.least a (by simp) a 0 (.nil a)
   have W:=Wy.of S F ha eb
   have w0:=W.same;subst w0
   have fa:=W.fc;rw[eb]at e
   have q:(af (vr 1) (af (vr 6) (af (vr 6) ai))) Z= .ok [RR cs ls,en a,en a]:=ar q1 (ar q6 (ar q6 rfl));exact bK ((iJ (aA (u:=.lst []) (aJ q e) (iI rfl (aI (k:=0) (by simp))) (B6 rfl (by simp[T.dep,deps])))).trans (aA (t:=.int 0) (aJ q ((R.Ij n F ha ha).trans (by rw[fa];rfl))) rfl rfl))
  refine(az ((cH (dn (bq (aJ rfl hw)))).trans rfl)).trans ?_
  refine(az (bJ (aJ rfl R.events) rfl)).trans ?_
  refine(az (bJ (aJ rfl R.bounds) rfl)).trans ?_
  refine(az (bJ (aJ (ar rfl (ar rfl (ar rfl (ar rfl (ar (aJ rfl et) rfl))))) ed) rfl)).trans ?_
  refine(az (bJ (aJ rfl (R.dz tm)) rfl)).trans ?_
  refine(az (bJ (aA rfl (aJ (ar rfl (ar rfl (ar (qx rfl) rfl))) d1) i1) rfl)).trans ?_
  refine(az (bJ (aA rfl (aJ (ar rfl (ar rfl (ar (qx rfl) rfl))) d2) i2) rfl)).trans ?_
  refine(az (bJ (aA rfl (aJ (ar rfl (ar rfl (ar (qx rfl) rfl))) d3) i3) rfl)).trans ?_
  rcases R.wy n F ha hc2 with e9 | ⟨w,W,e9⟩
  ·refine(az (bJ (aJ rfl e9) rfl)).trans ?_
   refine(az ((cH (bq (aA rfl rfl rfl))).trans rfl)).trans ?_
   exact fin rfl rfl
  ·refine(az (bJ (aJ rfl e9) rfl)).trans ?_
   have w15:=W.few R ha
   have pin:=pQ R.f.ends W.ch ha
   have seq_ex:∀{F H:En->Rs Fl} {Z:En} {x:Rs Fl},Nx (F Z) (λZ'=>H Z'=x)->ay F H Z=x:=λ⟨Z',e,h⟩=>(az e).trans h
   refine seq_ex ?_
   have if1:∀{b:En->Rs Bool} {F G:En->Rs Fl} {Z:En} {K:En->Prop},b Z= .ok true->Nx (F Z) K->Nx (eR b F G Z) K:=λh h2=>by
    unfold Nx at*;rw[dB h];exact h2
   refine if1 (bq (aA rfl rfl rfl)) ?_
   refine fJ (bJ (Ew W.ch.lt w15 rfl rfl λs=>rfl) rfl) ?_
   refine fJ ((cH (jv (bq (aA (aJ rfl (R.Ic pin W.nd)) (qx rfl) (BQ rfl (by simp[T.dep])))) (bq (aA (aA (u:=.int (-1)) rfl (EK (t:=.int 1) rfl rfl) (B8 W.ch)) rfl ((CO c c).trans (by rw[decide_eq_true rfl];rfl)))))).trans rfl) ?_
   refine fJ (bJ (vg W.ch.lt (by omega) rfl λs=>rfl) rfl) ?_
   refine Eu (λ_ Z=> ∃s,Z=Ex ns (.va (RR cs ls)) (.va (eS P)) (.va (eL L)) (.va (Fy P tm)) (.va (G7 P tm)) (.va (en a)) (.va (en c)) (.va (en v)) (.va (.lst (eN w))) (.va (eS (qY L a w))) (.va (.int (bZ L w))) s .em .em .em) (EV (ar ((GF rfl).trans (by rw[gR])) rfl) (by omega) (by omega)) ?_ ⟨_,rfl⟩ ?_
   ·intro i t ht Z hr
    obtain⟨s,rfl⟩:=hr;rw[lJ,Jm]at ht
    have hi:i<w.length:=by
     cases q:(JA w.length)[i]? with
     | none=>rw[q]at ht;cases ht
     | some j=>have:=(Jd.mp q).1;simpa using this
    rw[OI hi]at ht
    cases ht;exact⟨_,_,rfl,R.turn n F ha hc2 W hd hi _ s _ _ _ rfl,.va (.int (i:Nat)),rfl⟩
   ·intro Z hr
    obtain⟨s,rfl⟩:=hr
    have more:∀(s13 s14:Sl),Nx ((ay (cg (cl ie (af (vr 1) (af (vr 7) (af (vr 6) ai)))) (gN 15)) (eR (tb (o2 da (vr 15) (cn .non))) (ay (cg (o2 aK (vr 11) (cl pj (af (dQ (iS (vr 15)) [none,some 3] (gN 0) bT (o2 aP (o2 aP (vr 1) (vr 0)) (cn (.int 2)))) ai))) (gN 11)) (eR (oo (tb (cl kP (af (vr 1) (af (o2 aK (vr 9) (vr 15)) ai)))) (tb (o2 qr (vr 11) (cn (.int 0))))) (aR (cn (.bl false))) sN)) sN)) (Ex ns (.va (RR cs ls)) (.va (eS P)) (.va (eL L)) (.va (Fy P tm)) (.va (G7 P tm)) (.va (en a)) (.va (en c)) (.va (en v)) (.va (.lst (eN w))) (.va (eS (qY L a w))) (.va (.int (bZ L w))) s s13 s14 .em)) (λZ'=>vr 1 Z'= .ok (RR cs ls)/\vr 6 Z'= .ok (en a)):=λs13 s14=>by
     rcases R.wy n F hc2 ha with e15 | ⟨u,U,e15⟩
     ·refine fJ (bJ (aJ rfl e15) rfl) (CN ((cH (bq (aA rfl rfl rfl))).trans rfl) ⟨rfl,rfl⟩)
     ·have u15:=U.few R hc2
      have cw:Ch L a (w++u) a:=W.ch.app U.ch
      have pos:=n a _ cw.wk;rw[fT]at pos;refine fJ (bJ (aJ rfl e15) rfl) (if1 (bq (aA rfl rfl rfl)) ?_)
      refine fJ (bJ (aA rfl (vg U.ch.lt (by omega) rfl λs=>rfl) rfl) rfl) (CN ((cH (jv (bq (aJ (ar rfl (ar (aA rfl rfl (Ad w u (by omega))) rfl)) (R.Iv n cw (by rw[IX];omega)))) (bq (aA rfl rfl (show Rs.ok (T.bl (decide (bZ L w+bZ L u<0)))=_ by rw[decide_eq_false (by omega)]))))).trans rfl) ⟨rfl,rfl⟩)
    have fin2:∀{r:Rs Fl},Nx r (λZ'=>vr 1 Z'= .ok (RR cs ls)/\vr 6 Z'= .ok (en a))->Nx r (λZ'=>aR (cP (o2 kC (cl ie (af (vr 1) (af (vr 6) (af (vr 6) ai)))) (cN ai)) (o2 kC (cl bA (af (vr 1) (af (vr 6) (af (vr 6) ai)))) (cn (.int 0)))) Z'= .ok (.rt (.bl true))):=λ⟨Z',e,h⟩=>⟨Z',e,fin h.1 h.2⟩
    refine fin2 ?_
    rcases R.wy n F hc2 hv with e13 | ⟨u,U,e13⟩
    ·refine fJ (bJ (aJ rfl e13) rfl) ?_
     exact fJ ((cH (bq (aA rfl rfl rfl))).trans rfl) (more _ _)
    ·have u15:=U.few R hc2
     refine fJ (bJ (aJ rfl e13) rfl) ?_
     refine fJ ((dB (bq (aA rfl rfl rfl))).trans ((az (bJ (aA rfl (vg U.ch.lt (by omega) rfl λs=>rfl) rfl) rfl)).trans ((cH (dn (bq (aJ (ar rfl (ar rfl (ar rfl (ar rfl (ar (aA rfl rfl (Ad w u (by omega))) rfl))))) ((R.Ii ha hv (uJ _) λl e=>by cases e;rw[gR,IX];omega).trans (by rw[yg (W.ch.app U.ch) (by rw[fT];exact Ke _)])))))).trans rfl))) (more _ _)
end
end G
end
open PySem PySem.W PyProof.Rows
set_option maxRecDepth 100000 in
set_option maxHeartbeats 0 in
theorem PySem.Challenge.cw_farclocks_k33_whole_ways_holds : PySem.Challenge.rw_farclocks_k33_whole_ways.Holds := by
  w_on; o_law
  refine holds_open (q := G.vw) (loose := G.lse) (Xt := λ_ => true) (XP := λ_ _ => True) (Yf := (Tr.hookC G.asks G.top).obs) (Ya := (Tr.hookC G.asks G.top).val) (YP := (Tr.hookC G.asks G.top).says) (N := 9000) (Tr.left_of (by rfl) (by rfl) (λ_ => rfl) λw os => ?hl) (Tr.hookC G.asks G.top).of (Tr.hookC G.asks G.top).keeps (λ_ _ => trivial) (λ_ _ _ _ _ => trivial) (by rfl) (by rfl) (by rfl) (λs _ => recFacts_of (s := s) rfl) (by rfl) (by assumption) (by decide +kernel) ⟨rfl, rfl, rfl, rfl, rfl, by decide +kernel⟩ ?hw ?hc
  case hl => exact ((congrFun (congrFun (congrFun (congrFun (congrFun PySem.W.Fast.lhsz_eq w) _) _) _) os).trans (G.Iz w os)).trans (congrFun PySem.W.Fast.rhsz_eq w).symm
  case hw => w_witness2
  case hc => exact Tr.walk_c (n := 63) (k := 15) (x := "_law_script") (CX := L2.CX0) (sp := λK => Tr.spP K 1 G.m_law) rfl (by decide) rfl ⟨rfl, by decide, by decide⟩ (λw K mg fa h X e g hf => G.all_ok X e g hf) (λK H a ns hl _ hS => Tr.sp_script hS (G.pure_law ns hl)) λ_ _ _ _ z => z
