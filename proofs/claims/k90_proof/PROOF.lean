import PyProof.Rows.All
import Wide.All
import OpenK.AllK
import Wide.FinOn
import Lean
import PyProof.EqAt
import PyProof.EqKinds
import PyProof.TupleCall
import PyProof.ExcClass3
import PyProof.StationsW
import PyProof.ExcBaseAll.ValueError
import PyProof.ExcArgsOwn
import PyProof.IsiBase
import PyProof.IsiH_tuple
import PyProof.ExcAttrAll.ValueError
import PyProof.Rows.RuleN_isinstance
import PyProof.MeetsSeq
import PyProof.RulesAs
import PyProof.IsiH_list
import PyProof.AttrMiss
import KE.KDictOf
import PyProof.Rows.SumAny
import PyProof.Rows.MinMaxN
import PyProof.Rows.SortShellK
import PyProof.Rows.SortWalk
import KE.KSortTup
import PyProof.ZipIter
import PyProof.WalksMore
import PyProof.DictWalks
import PyProof.AutoSeq1
import PyProof.Rows.Range3
import PyProof.CollectWalk
import PyProof.EnumMake
import PyProof.ListRange
import KE.KRevIter
import PyProof.SetScanFacts
import PyProof.SetKind
import PyProof.DictKinds
import PyProof.FactsAll.set_0
import PyProof.FactsAll.set_1
import PyProof.FactsAll.set_2
import PyProof.FactsAll.set_3
import PyProof.FactsLen
import PyProof.TupleIter
import PyProof.Rows.SetFrom
import PyProof.Rows.SortShell
import PyProof.CallStr
import PyProof.RulesTry
import KE.KIntText
import PyProof.Conv_int
import PyProof.ReprStr
import Flt.Str
import PySem.Challenge.RW_farclocks_k90_texts
noncomputable section
open PySem.Challenge renaming pw_farclocks_k90_texts→C5,rw_farclocks_k90_texts→IC
open PyProof.Rows.F renaming plain_set_update_loop→EB,entry_set_update_loop→FM
open PySem.AutoListH renaming list___mul___list_int_3→Ji
open Array renaming all_eq_true_iff_forall_mem→Gf,getElem?_eq_some_iff→Di,getElem?_eq_getElem→EV,getElem?_eq_none→Fq,getElem?_toList→ES,length_toList→DQ,find?_toList→Jg,toList_push→Hy,toList→Ih
open PyProof.Rows renaming slot_tuple_getitem→Da,callWith_builtin1→D5,callWith_type1→ED,subscriptTail_builtinR→Ib,IntsAre→K0,entry_tuple_getitem→GS,args_tuple_getitem→G7,call_isinstance_of→JC,slicePart_none→He,tupleItemsOf_→HQ,IntsAre→Gb,AllBare→Iu,IsTup→KU
open List renaming eq_nil_of_length_eq_zero→Fh,getElem?_append_right→EK,getD_eq_getElem?_getD→FK,nodup_iff_pairwise_ne→GX,getElem?_eq_some_iff→CW,getElem?_append_left→Et,drop_eq_getElem_cons→FP,pairwise_iff_getElem→Hb,getElem?_eq_getElem→CP,getElem?_replicate→Ff,getElem?_cons_succ→HL,pairwise_mergeSort→HM,getElem?_set_self→EI,mem_append_right→C2,getElem?_eq_none→Fz,length_singleton→Gm,getElem?_toArray→Ij,singleton_append→Ik,mem_cons_of_mem→CH,mem_append_left→DC,getElem?_set_ne→Ez,mem_of_getElem?→EX,mem_of_mem_drop→IJ,filterMap_cons→Dy,map_congr_left→DU,replicate_succ→Ep,getElem_of_mem→Fg,map_eq_nil_iff→GP,getElem?_range→IW,length_reverse→IX,mergeSort_perm→IY,length_append→CF,mem_cons_self→CL,mem_singleton→C8,contains_cons→Ef,filter_append→F8,mem_filterMap→Jf,filterMap_map→Jh,pairwise_cons→Jn,size_toArray→CT,getElem?_map→Dn,append_assoc→Dq,flatten_cons→DI,reverse_cons→Gh,length_range→Gi,take_sublist→JN,ext_getElem?→JP,getElem_drop→JT,isEmpty_cons→JW,nodup_append→JX,length_cons→CJ,all_eq_true→Dc,lookup_cons→DX,not_mem_nil→Ei,length_take→EM,cons_append→Fi,getElem_mem→FR,length_drop→Kg,drop_length→Kk,isEmpty_nil→Km,filter_cons→Kn,flatten_nil→Kp,length_map→CI,mem_append→CU,append_nil→Do,length_nil→Ds,nil_append→Ew,nodup_cons→EZ,of_mem_zip→E5,map_append→F7,length_set→GL,range_succ→GO,mem_filter→Ig,foldl_cons→Kz,forIn_cons→KB,replicate→C6,mem_range→FO,mem_cons→CO,map_cons→C3,sum_cons→GB,all_cons→HK,mem_map→CY,map_map→Dd,map_nil→FY,toArray→Gn,length→Fy,lookup→GK,range→DH,Nodup→F0,foldl→Ho,Perm→FN,getD→Jj,map→Ku
open PySem.F renaming args_tuple_iterator_next_1→Gz,entry_tuple_iterator_next→GM,slot_tuple_iterator_next→EL,excBase_ValueError→GV,args_tuple_add_2→FV,entry_tuple_add→F3,plainAttrs_list→HH,slot_tuple_add→Gg,typeOf_object_class→Gp,slot_enumerate_next→Il,slot_str_partition→IK,args_str_split_2→G3,entry_str_split→Hz,args_int_rmul_2→JO,slot_tuple_rmul→JQ,plain_list_iadd→JU,entry_type_call→JV,slot_str_split→Gw,slot_tuple_mul→HU,slot_int_index→Ki,entry_int_rmul→Kj,slot_int_rmul→GJ,fills_int_mul→KA,slot_set_iter→KG,plain_set_new→KI,slot_gs_get→Jk,called_set→FA,called_int→G4
open PySem.Builtin.Slice renaming slicePartIndex→Ks,sliceApplied→EJ,slicePlaces→Dx,sliceAdjust→D8,sliceFields→G9
open PySem.Builtin.Frozenset renaming updateFrom→Kt
open PySem.Builtin.List renaming listLengthHint→GG,listExtendWith→GH,listTooLong→FW,listSameRef→Hl
open PySem renaming wpAny_newFunctionEnv_cells→Ej,wpAny_binaryOp_repeat_ref→Hf,wpAny_getItem_list_slice→HF,wpAny_callSpecial?_slot→DF,wpAny_Call_method_late→Ic,builtinLookup_eq_fast→ET,codeAny_call_function→Gr,wpAny_isTrue_Compare1→Iv,exec_Assign_Name_used→Iy,codeAny_handlers_test→Iz,pythonCodeMadeTheCall→IB,codeAny_call_builtin→Gy,wpAny_loadName_local→IL,wpAny_setFlight_none→IM,mem_of_lookup→EF,wpAny_isSubtype_exc→EH,wpAny_setEntries_of→GT,wpAny_handleBy_cons→IZ,plainExc_ValueError→Ja,wpAny_raiseNew_none→Jb,wpAny_Call_Name_kw→DO,wpAny_pyIter_tuple→Ga,wpAny_newExc_plain→JG,wpAny_newObj_type→De,foldedSetIterable→Dl,wpAny_loadPart_at→Dv,wpAny_truthy_bool→DZ,wpAny_setState_of→FI,wpAny_assign_Name→HC,wpAny_pyIter_list→HD,wpAny_sequenceKey→HE,wpAny_Return_some→JZ,wpAny_pyIter_enum→J1,wpAny_pyIter_slot→J2,wpAny_call_entry→DY,wpAny_askSetting→Fj,checkBuiltinCall→FS,wpAny_execs_cons→HV,noFill_tuple_add→HW,wpAny_isInstance→HX,wpAny_comp_letGo→HY,seqSlot_of→Kl,lookupAlong_cons→Kq,wpAny_pyRepr_str→Kr,codeAny_builtin→E7,wpAny_loadPart'→E8,wpAny_execs_nil→FC,letOwnedTupleGo→FD,leftWithCleanup→FE,pushCells_keeps→Gc,typeLookup_type→Ge,importedModules→Ir,theTreesLotGoes→Iw,wpAny_updateSeq→KN,codeAny_of_tree→KO,isSubtype_type→EC,recursionLimit→Fm,wpAny_setField→Fp,newFunctionEnv→Hg,firstArgMember→Hh,wpAny_newEntry→Hi,wpAny_holding→D0,behindInMarks→EA,attributeBase→FH,comprehension→Gd,plainId_quiet→GC,wpAny_standAt→HR,swapsWithSole→Ju,swappedStores→Jv,seq_tuple_add→Jy,evalPart_none→JA,wpAny_attempt→JB,Comprehension→JE,bootBuiltins→Dh,wpAny_typeOf→Gs,codeAny_mono→G6,codeAny_func→Ka,concat_meets→Kb,callSpecial?→Kc,mainGlobals→Dm,wpAny_field→DV,excClassObj→D2,sizeLine_eq→Ea,wpAny_of_eq→FU,sliceBounds→Gj,lookupAlong→KM,wpAny_point→KQ,wpAny_bind→Cy,wpAny_pure→CD,wpAny_mono→DP,assignEach→Es,call_meets→Fo,wpAny_rule→F1,builtinsNs→GD,typeLookup→IF,typeIs_int→IG,wpAny_Name→JY,wpAny_call→J0,compareOp→DN,cellsFrom→Ex,Str→EN,noteFrame→FQ,swapsWith→F9,pushCells→Gu,Ctx→Hm,Arguments→HA,specialOf→HG,isSubtype→IA,treeTable→Jt,numTextOf→JF,slicePick→KL,strValues→KP,numSeenOf→KR,pickOrder→KW,starEach→CV,FuncData→DB,binaryOp→Ed,NameKind→Ft,boot_len→Gk,GenState→IE,compPost→IH,Operator→Jw,bindArgs→Jx,entryFor→JD,evalArgs→Kv,callWith→Kw,intText?→Kx,Program→C4,OsState→GQ,BindsTo→HP,Shared→Cz,Around→Dj,Result→GR,IsPart→Jz,Paired→KY,Value→CB,World→Du,Scope→Fu,Model→HB,CmpOp→KJ,Drawn→KZ
open PySem.Builtin.Tuple renaming tupleItemsOf→FJ,tupleIsExact→GU,tupleExact→Dt
open PySem.Calls renaming Name_function_global→GW,callWith_builtin→HZ,evalArgs_plain→Gx,spliced_cons→F4,Constant_str→Je,spliced_nil→FF
open PySem.Builtin.SmallTypes renaming nextOf→EU
open Option renaming isSome_iff_exists→Hn,map_eq_some_iff→H0,getD_none→Kh,some→DJ
open Int renaming eq_ofNat_of_zero_le→Dw,emod_lt_of_pos→G5,toNat_natCast→Eo,emod_eq_of_lt→JS,emod_nonneg→Iq,ediv_one→J3
open PySem.Builtin.Str renaming occurrences→Fd,strKind→IT,strSub→Jd,glued→JM
open PySem.Heap renaming get?_push_of_some→CG,get?_update_other→D6,get?_update_self→DR,get?_push_size→CZ,size_push→Eu,IsSliceOf→KS,lt_size→CN,SameBut→Fb,ExtBut→KC
open PySem.W renaming cellsFrom_some→Ek,hideAll_none→FL,hideAll_get→El,codeRec_of→Fs,of_hideAll→F2,callWith_K→GY,methodObj→Hj,kitx_list→JH,kitx_dict→JI,openSeen→Kd,openGood→Ke,plainGet→Kf,kia_one→D7,topFrom→GE,hideAll→GF,instObj→Ie,keepIn→Fk,codeIn→G8,lookIn→IP,mg_of→Fe,Frag→CA,fnOf→E9,nsIn→FX
open PySem.SetTable renaming insertAt_perm→Ia,insertAt→Hw,runEnd→GN,below→CQ,probe→IR,fill→Jo,has→Ip
open PySem.Obj renaming isFreed_of_fields→EO,data_mapFields→DM,cls_mapFields→Hs,mapFields→ER,mapSeq→Hq
open Bool renaming and_eq_false_iff→Gq,and_eq_true_iff→DD,false_ne_true→C1,false_eq_true→DL,not_eq_true'→JR,and_eq_true→CC,eq_iff_iff→Fw,or_eq_true→Im,false_and→Ha,and_false→Hd,or_false→HI,true_and→Jr,and_true→Js,or_true→J6
open PySem.Around renaming under_plainId→EY,frames_deeper→II
open PySem.Heap.SameBut renaming update→EE,refl→Hk
open Nat renaming lt_of_lt_of_le→CS,eq_or_lt_of_le→Jl,eq_zero_or_pos→Jm,lt_succ_of_lt→Er,le_of_succ_le→Hr,lt_trichotomy→Hv,lt_succ_self→Gv,mod_eq_of_lt→Ko,lt_irrefl→C9,ne_of_lt→Dg,le_trans→Dk,ne_of_gt→Fc,le_of_lt→Fv,le_of_eq→FZ,lt_or_ge→G2,mul_comm→J4,lt_trans→J5,le_refl→CM,zero_le→Ey,le_succ→KH
open PySem.Str renaming ofString→DK,ofString→C0
open PySem.Heap.IsSliceOf renaming new→GZ
open PySem.Code renaming quiet_builtin→G1,isCaller→Jp
open PySem.SetTable.below renaming go→JJ
open PySem.SetTable.probe renaming go→JK
open List.Pairwise renaming nil→JL
open Option.some renaming inj→Dr
open ForInStep renaming yield→EG
open PySem.Txt renaming startswith→EW,partition→D9,split→FB
open PySem.Expr renaming Subscript→IQ,ListComp→F6,Constant→GA,Compare→J7,UnaryOp→J8,BoolOp→FT,Name→E6,Call→Hu
open PySem.NameKind renaming free→Dp,cell→Ee
open PySem.Value renaming builtin→FG,isInt→GI,none→C7,bool→Dz,type→Eh,ref→Df,int→D1,str→Eb
open PySem.Value.ref renaming inj→Jc
open PySem.ExcName renaming means→Jq
open PySem.pickOrder renaming go→J9
open PySem.Sem renaming wp_mono→HN,wp→IS
open Prod.mk renaming inj→Ky
open PySem.Scope renaming names→KD
open PySem.Stmt renaming Assign→KF
open False renaming elim→Em
open True renaming intro→ID
open And renaming intro→F5
open PySem.Env renaming scope→Ht
open PyProof.Rows.IsTup renaming new→Ii
open PySem.BoolOp renaming Or→Io
open Ne renaming symm→DG
open Iff renaming rfl→HJ
open Sum renaming inl→IU,inr→IV
open Or renaming inl→HS
set_option Elab.async false
set_option linter.all false
set_option maxRecDepth 100000
set_option maxHeartbeats 8000000
noncomputable section
abbrev nDb (x:EN):Prop:=(x == DK "__debug__")=false
theorem qr_ (h:True:=by first | exact .inl rfl | exact .inr rfl | assumption):True:=trivial
def r_:=qr_._auto_1
theorem qs_ (h:True:=by decide):True:=trivial
def s_:=qs_._auto_1
theorem qt_ (h:True:=by intro _;rfl):True:=trivial
def t_:=qt_._auto_1
theorem qu_ (h:True:=by rfl):True:=trivial
def u_:=qu_._auto_1
theorem qv_ (h:True:=by first | exact HS rfl | exact Or.inr (HS rfl) | exact Or.inr (Or.inr rfl)):True:=trivial
def v_:=qv_._auto_1
theorem qw_ (h:True:=by with_unfolding_all rfl):True:=trivial
def w_:=qw_._auto_1
theorem qx_ (h:True:=by intro _ _;rfl):True:=trivial
def x_:=qx_._auto_1
theorem qy_ (h:True:=by first | exact HS rfl | exact Or.inr rfl):True:=trivial
def y_:=qy_._auto_1
theorem qz_ (h:True:=by decide+kernel):True:=trivial
def z_:=qz_._auto_1
theorem qa_ (h:True:=by exact fsc):True:=trivial
def a_:=qa_._auto_1
theorem qb_ (h:True:=by intro x;cases x):True:=trivial
def b_:=qb_._auto_1
namespace L2
open PySem PySem.Spec PyProof.Rows
inductive V where
 | non | bl (b:Bool) | int (i:Int) | str (x:Str) | byt (b:Array UInt8) | flt (b:UInt64) | ref (a:Addr) | ty (n:String)
 deriving DecidableEq
def vT (s:Stmt)(j:Nat):Stmt:=match s with
 | .ClassDef _ _ _ body _ _ _ _ _ _ _=>body.getD j (.Pass ⟨0,0,0,0⟩)
 | _=> .Pass ⟨0,0,0,0⟩
def dM (s:Stmt):HA:=match s with
 | .FunctionDef _ a _ _ _ _ _ _ _ _=>a
 | _=> { posonlyargs:=[],args:=[],vararg:=none,kwonlyargs:=[],kw_defaults:=[],kwarg:=none,defaults:=[] }
def ba (s:Stmt):List Stmt:=match s with
 | .FunctionDef _ _ b _ _ _ _ _ _ _=>b
 | _=> []
def aj (s:Stmt):Fu:=match s with
 | .FunctionDef _ _ _ _ _ _ sc _ _ _=>sc
 | _=> { kind:=.function,names:=[],isGenerator:=false,isCoroutine:=false }
end L2
namespace Tr
open PySem PySem.Spec PyProof.Rows L2
inductive T where
 | non | bl (b:Bool) | int (i:Int) | str (x:Str) | tup (l:List T) | lst (l:List T)
 /-- the law's script: a list of ints that is only read -/
 | scr (l:List Int)
 /-- a dict: its keys,its values -/
 | dct (ks vs:List T)
 /-- an instance: its class,the names of its attributes,what they are -/
 | ob (C:Str) (ns:List Str) (ts:List T)
abbrev Ow:=Addr->Prop
inductive OT where
 | lst (l:List T) | dct (ks ts:List T) | dd (ks:List T) (rows:List (List T×List T))
 /-- an instance,its attributes own lists -/
 | ob (C:Str) (ns:List Str) (ls:List (List T))
 /-- a list of own lists -/
 | ll (ls:List (List T))
def OT.view:OT->T
 | .lst l=> .lst l
 | .dct ks ts=> .dct ks ts
 | .dd ks rows=> .dct ks (rows.map λr=> .dct r.1 r.2)
 | .ob C ns ls=> .ob C ns (ls.map T.lst)
 | .ll ls=> .lst (ls.map T.lst)
abbrev Mn:=Nat->Ow
def T.ty:T->Option String
 | .non=>some "NoneType"
 | .bl _=>some "bool"
 | .int _=>some "int"
 | .str _=>some "str"
 | .tup _=>some "tuple"
 | .lst _=>some "list"
 | .scr _=>none
 | .dct _ _=>none
 | .ob _ _ _=>none
def Mn.set (M:Mn)(i:Nat)(m:Ow):Mn:=λj=>if j=i then m else M j
def calmNames:List Str:=["__init__","__getattribute__","__getattr__","__class__"]
def rN:CB->Bool
 | .str _ _=>true
 | _=>false
end Tr
namespace Tr
def d6:List Int->List Int->Bool
 | [],[] =>false
 | [],_::_=>true
 | _::_,[] =>false
 | a::l,b::m=>if a=b then d6 l m else decide (a<b)
end Tr
namespace Tr
open PySem PySem.Spec PyProof.Rows L2 PySem.W
structure RK where
 V:Heap->CB->List Int->Prop
 inj:∀{h v a b},V h v a->V h v b->a=b
 on:∀{h h':Heap} {v a},V h v a->(∀b o,h.get? b=some o->h'.get? b=some o)->V h' v a
 b:Bool
 ty:String
 hb:(Eh ty != Eh "tuple")=b
 ht:(Eh ty == Eh ty)=true
 fst:∀{h v a},V h v a->∃ad o xs n f,v= .ref ad/\h.get? ad=some o/\o.cls= .type "tuple"/\o.data= .seq xs n/\xs[0]? =some f/\∀M,Looks M h (typeOf f) (.type ty)
 lt:∀{prog w A s E x y a c} {Q:Bool->Cz->Prop},A.units+60<cLine->V s.heap x a->V s.heap y c->Q (d6 a c) s->wpAny (model prog w) A (keyLt' (tuples' b) x y) Q E s
variable (R:RK)
open Classical in
def RK.key (h:Heap)(v:CB):Option (List Int):=if e:∃ns,R.V h v ns then some e.choose else none
variable {R:RK}
end Tr
namespace Tr
open PySem PySem.Spec PyProof.Rows L2 PySem.W
def nh (h:Heap):Frag:=(DH h.objs.size).filterMap λa=>(h.get? a).map λo=>(a,o)
def obF (K:Frag)(n:Str):Option (Str×Str×HA×FuncBody×Fu×Addr×List (Str×Addr)×CB×Addr×Bool×Bool):=match nsIn K Dm n with
 | some (some (.ref f))=>match K.lookup f with
  | some ⟨_,_,.func d,_⟩=>some (d.name,d.qualname,d.params,d.body,d.scope,d.globals,d.closure,d.defaults,d.builtins,codeIn K d.code n,keepIn K (.ref f))
  | _=>none
 | _=>none
def exF (n:Str)(st:Stmt):Option (Str×Str×HA×FuncBody×Fu×Addr×List (Str×Addr)×CB×Addr×Bool×Bool):=
 some (n,n,dM st,.stmts (ba st),aj st,Dm,[],.none,GD,true,true)
def AK (K:Frag)(N:Addr)(n:Str):Bool:=match nsIn K N n with | some none=>true | _=>false
def BA (K:Frag)(n:Str):Option Int:=match nsIn K Dm n with | some (some (.int i _))=>some i | _=>none
def oN:List CB->Bool
 | [.type a,.type b,.type c,.type d] =>a == "ValueError" &&b == "Exception" &&c == "BaseException" &&d == "object"
 | _=>false
def under (D:Option Addr)(m:List CB):Bool:=match D with
 | none=>oN m
 | some D=>match m with
  | .ref E::m=>E == D&&oN m
  | _=>false
def vF (K:Frag)(D:Option Addr)(n:Str):Option Addr:=match nsIn K Dm n with
 | some (some (.ref C))=>match K.lookup C with
  | some ⟨.type t,_,.cls c,⟨[_,_,_,_,some (.builtin b),_]⟩⟩=>match c.mro,K.lookup c.ns with
   | .ref E::m,some ⟨_,_,.dict es _,_⟩=>
    if (t == "type" &&b == "ValueError.__new__" && !c.hasDel&&(es.toList.all λe=>rN e.key)&&calmNames.all (AK K c.ns)&&E == C&&under D m)=true then some C else none
   | _,_=>none
  | _=>none
 | _=>none
def oy {α:Type}:List (Option α)->Option (List α)
 | [] =>some []
 | none::_=>none
 | some a::r=>match oy r with | some l=>some (a::l) | none=>none
def lH:List Addr->Bool
 | [] =>true
 | a::r=>(r.all λb=> !(a == b))&&lH r
def Bz (K:Frag):List Str->Bool
 | [] =>true
 | m::es=>match vF K none m with
  | some D=>match oy (es.map (vF K (some D)))with | some l=>lH (l++ [D]) | none=>false
  | none=>false
structure qN where
 tab:List (Str×Nat)
 zs:List Str
 cs:List (Str×Int)
 es:List Str
def lC (S:qN)(K:Frag):=(S.tab.map (λp=>obF K p.1),S.zs.all (AK K Dm),S.cs.map (λc=>BA K c.1),Bz K S.es)
def kS (S:qN)(top:Nat->Stmt):=(S.tab.map (λp=>exF p.1 (top p.2)),true,S.cs.map (λc=>some c.2),true)
def obM (K:Frag)(C:Addr)(m q:Str):Option (Str×Str×HA×FuncBody×Fu×Addr×List (Str×Addr)×CB×Addr×Bool×Bool×Bool):=match findIn K (.ref C) m with
 | some (some (.ref f))=>match K.lookup f with
  | some ⟨_,_,.func d,_⟩=>some (d.name,d.qualname,d.params,d.body,d.scope,d.globals,d.closure,d.defaults,d.builtins,codeIn K d.code q,keepIn K (.ref f),isFn K (.ref f))
  | _=>none
 | _=>none
def exM (m q:Str)(st:Stmt):Option (Str×Str×HA×FuncBody×Fu×Addr×List (Str×Addr)×CB×Addr×Bool×Bool×Bool):=
 some (m,q,dM st,.stmts (ba st),aj st,Dm,[],.none,GD,true,true,true)
def noAt (K:Frag)(C:Addr)(f:Str):Bool:=match findIn K (.ref C) f with | some none=>true | _=>false
def saOk (K:Frag)(C:Addr):Bool:=match findIn K (.ref C) "__setattr__" with | some (some (.builtin b))=>b == "object.__setattr__" | _=>false
def Bi (K:Frag)(C:Addr)(as:List Str):Bool:=plainGet K C Str.empty&&hasDictIn K C&&plainOver K C&&saOk K C&&makesIn K C&&keepIn K (.ref C)&&as.all (noAt K C)
structure zD where
 c:Str
 i:Nat
 as:List Str
 ms:List (Str×Str×Nat)
def obK (K:Frag)(A:zD):=match nsIn K Dm A.c with
 | some (some (.ref C))=>some (Bi K C A.as,A.ms.map λ(m:Str×Str×Nat)=>obM K C m.1 m.2.1)
 | _=>none
def exK (top:Nat->Stmt)(A:zD):=some (true,A.ms.map λ(m:Str×Str×Nat)=>exM m.1 m.2.1 (vT (top A.i) m.2.2))
structure nF where
 a:qN
 ks:List zD
def sM (S:nF)(K:Frag):=(lC S.a K,S.ks.map (obK K))
def rm (S:nF)(top:Nat->Stmt):=(kS S.a top,S.ks.map (exK top))
end Tr
namespace G
open PySem PySem.Spec PyProof.Rows L2 Tr
def top (i:Nat):Stmt:=C5.main.body.getD i (.Pass ⟨0,0,0,0⟩)
def uc:qN:=⟨([("_law_events",45),("_law_cell",42),("_law_drawn",43),("_law_wide",44),("is_long",18),("is_whole",16),("is_within",17),("is_pace",21),("rises",19),("are_readings",20),("is_clock",22),("are_clocks",23),("is_event",24),("is_delay",25),("is_letter",26)]:List (Str×Nat))++([("are_letters",27),("is_record",28),("need_record",29),("clock_text",31),("event_text",32),("letter_text",33),("record_text",34),("_law_told",47),("number_of",35),("numbers_between",36),("clock_of",37),("letter_of",38),("behind",39),("read_record",40),("law",48)]:List (Str×Nat))++([("_law_refused",46)]:List (Str×Nat)),(["ValueError","all","bool","enumerate","int","isinstance","len","range","set","sorted","str","tuple"]:List Str),[("MOST_CLOCKS",4),("MOST_LETTERS",8),("MOST_READINGS",4),("LAST_READING",99),("SLOWEST",9),("LONGEST",999)],["ClockError","NoRecord","NoEvent","NoNumber","NoWorld","Barred","Nothing","NoText"]⟩
def asks:nF:=⟨uc,[]⟩
def vw:C4:=PySem.W.view C5 [48]
def lse:List Str:=(["ClockError","NoRecord","NoEvent","NoNumber","NoWorld","Barred","Nothing","NoText","MOST_CLOCKS","MOST_LETTERS","MOST_READINGS","LAST_READING","SLOWEST","LONGEST","is_whole","is_within","is_long","rises","are_readings","is_pace"]:List Str)++(["is_clock","are_clocks","is_event","is_delay","is_letter","are_letters","is_record","need_record","clock_text","event_text","letter_text","record_text","number_of","numbers_between","clock_of","letter_of","behind","read_record","_law_cell","_law_drawn"]:List Str)++(["_law_wide","_law_events","_law_refused","_law_told"]:List Str)
def lhs (w:Du)(h:Heap)(d:KZ)(t:Nat)(os:GQ):=(GE Jt C5 w 9000 ⟨h,⟨[]⟩,d,t,os⟩).map (λs=>(Kd vw lse (Ir C5.main.body) (λ_=>true) true s,sM asks (nh s.heap)))
def rhs (w:Du):=some (Ke vw lse,rm asks top)
end G
namespace G
open PySem Tr PySem.W PyProof.Rows
def lhA (w:Du)(h:Heap)(d:KZ)(t:Nat)(os:GQ):=(GE Jt C5 w 9000 ⟨h,⟨[]⟩,d,t,os⟩).map λs=>Kd vw lse (Ir C5.main.body) (λ_=>true) true s
def rhA (_:Du):=some (Ke vw lse)
theorem lhA_r:lhA=lhA:=rfl
theorem rhA_r:rhA=rhA:=rfl
def lhB (w:Du)(h:Heap)(d:KZ)(t:Nat)(os:GQ):=(GE Jt C5 w 9000 ⟨h,⟨[]⟩,d,t,os⟩).map λs=>lC asks.a (nh s.heap)
def rhB (_:Du):=some (kS asks.a top)
theorem lhB_r:lhB=lhB:=rfl
theorem rhB_r:rhB=rhB:=rfl
def lhC (w:Du)(h:Heap)(d:KZ)(t:Nat)(os:GQ):=(GE Jt C5 w 9000 ⟨h,⟨[]⟩,d,t,os⟩).map λs=>asks.ks.map (obK (nh s.heap))
def rhC (_:Du):=some (asks.ks.map (exK top))
theorem lhC_r:lhC=lhC:=rfl
theorem rhC_r:rhC=rhC:=rfl
theorem join3 {α β γ δ:Type}{o:Option α}{f:α->β}{g:α->γ}{k:α->δ}{a:β}{b:γ}{c:δ}(h1:o.map f=some a)(h2:o.map g=some b)(h3:o.map k=some c):o.map (λs=>(f s,g s,k s))=some (a,b,c):=by
 cases o with
 | none=>cases h1
 | some s=>cases h1;cases h2;cases h3;rfl
end G
lay_quick G.lhA G.rhA G.lhB G.rhB G.lhC G.rhC
name_quick lhAz for G.lhA by G.lhA_r
name_quick rhAz for G.rhA by G.rhA_r
name_quick lhBz for G.lhB by G.lhB_r
name_quick rhBz for G.rhB by G.rhB_r
name_quick lhCz for G.lhC by G.lhC_r
name_quick rhCz for G.rhC by G.rhC_r
section
open PySem PySem.W PyProof.Rows
set_option maxRecDepth 100000 in
theorem G.Ci (w:Du)(os:GQ):PySem.W.Fast.lhAz w (boot_heap w.params) boot_drawn boot_toks os=PySem.W.Fast.rhAz w:=by kernel_rfl
set_option maxRecDepth 100000 in
theorem G.Cp (w:Du)(os:GQ):PySem.W.Fast.lhBz w (boot_heap w.params) boot_drawn boot_toks os=PySem.W.Fast.rhBz w:=by kernel_rfl
set_option maxRecDepth 100000 in
theorem G.Cg (w:Du)(os:GQ):PySem.W.Fast.lhCz w (boot_heap w.params) boot_drawn boot_toks os=PySem.W.Fast.rhCz w:=by kernel_rfl
theorem G.Cj (w:Du)(os:GQ):G.lhs w (boot_heap w.params) boot_drawn boot_toks os=G.rhs w:=G.join3 (((congrFun (congrFun (congrFun (congrFun (congrFun PySem.W.Fast.lhAz_eq w) _) _) _) os).trans (G.Ci w os)).trans (congrFun PySem.W.Fast.rhAz_eq w).symm) (((congrFun (congrFun (congrFun (congrFun (congrFun PySem.W.Fast.lhBz_eq w) _) _) _) os).trans (G.Cp w os)).trans (congrFun PySem.W.Fast.rhBz_eq w).symm) (((congrFun (congrFun (congrFun (congrFun (congrFun PySem.W.Fast.lhCz_eq w) _) _) _) os).trans (G.Cg w os)).trans (congrFun PySem.W.Fast.rhCz_eq w).symm)
end
namespace L2
open PySem PySem.Spec PyProof.Rows
abbrev jV:=Sum Int Str
def xc:jV->CB->Bool
 | .inl k,v=>GI k v
 | .inr x,v=>Value.isStrOf x v
def keyH (w:Du):jV->Int
 | .inl k=>hashInt k
 | .inr x=>hashStr w x
theorem bB:∀{k:jV} {v:CB},xc k v=true->(∃i t,k=IU i/\v=D1 i t)\/(∃x t,k=IV x/\v=Eb x t)
 | .inl i,v,h=>by
  obtain⟨t,e⟩:=Value.isInt_shape (k:=i) (v:=v) h
  exact .inl ⟨i,t,rfl,e⟩
 | .inr x,v,h=>by
  obtain⟨t,e⟩:=Value.isStrOf_shape (x:=x) (v:=v) h;exact .inr ⟨x,t,rfl,e⟩
theorem yQ (a b:Int):decide ((IU a:jV)=IU b)=(a == b):=by
 by_cases e:a=b
 ·subst e;simp
 ·have h:¬ (IU a:jV)=IU b:=λq=>e (IU.inj q)
  rw[decide_eq_false h];exact(beq_eq_false_iff_ne.mpr e).symm
theorem yN (a b:Str):decide ((IV a:jV)=IV b)=decide (a=b):=by
 by_cases e:a=b
 ·subst e;simp
 ·have h:¬ (IV a:jV)=IV b:=λq=>e (IV.inj q)
  rw[decide_eq_false h,decide_eq_false e]
theorem yP (a:Int)(b:Str):decide ((IU a:jV)=IV b)=false:=decide_eq_false (λq=>nomatch q)
theorem yO (a:Str)(b:Int):decide ((IV a:jV)=IU b)=false:=decide_eq_false (λq=>nomatch q)
def pd (prog:C4)(w:Du):PySem.KeyKind prog w jV where
 is:=xc
 hash:=keyH w
 inj:=λv a b ha hb=>by
  rcases bB ha with⟨i,t,rfl,rfl⟩ | ⟨x,t,rfl,rfl⟩
  ·rcases bB hb with⟨j,u,rfl,e⟩ | ⟨y,u,rfl,e⟩
   ·injection e with e1 _;rw[e1]
   ·exact nomatch e
  ·rcases bB hb with⟨j,u,rfl,e⟩ | ⟨y,u,rfl,e⟩
   ·exact nomatch e
   ·injection e with e1 _;rw[e1]
 byValue:=λk v h=>by
  rcases bB h with⟨i,t,rfl,rfl⟩ | ⟨x,t,rfl,rfl⟩ <;> rfl
 pyHash:=λhv h=>by
  rcases bB hv with⟨i,t,rfl,rfl⟩ | ⟨x,t,rfl,rfl⟩
  ·exact wpAny_pyHash_int h
  ·exact wpAny_pyHash_str h
 eqBool:=λhu hv h=>by
  rcases bB hu with⟨i,t,rfl,rfl⟩ | ⟨x,t,rfl,rfl⟩
  ·rcases bB hv with⟨j,u,rfl,rfl⟩ | ⟨y,u,rfl,rfl⟩
   ·rw[yQ]at h;exact wpAny_eqBool_int h
   ·rw[yP]at h;exact SeqAt.EqAt.int_str i t y u _ _ _ _ h
  ·rcases bB hv with⟨j,u,rfl,rfl⟩ | ⟨y,u,rfl,rfl⟩
   ·rw[yO]at h;exact SeqAt.EqAt.str_int x t j u _ _ _ _ h
   ·rw[yN]at h;exact wpAny_eqBool_str h
 «strs»:=λk x t v h=>by
  rcases bB h with⟨i,u,rfl,e⟩ | ⟨y,u,rfl,e⟩
  ·exact nomatch e
  ·injection e with e1 _
   subst e1;cases v <;> rfl
def RelV:V->CB->Prop
 | .non,u=>u=C7
 | .bl b,u=>u=Dz b
 | .int i,u=> ∃t,u=D1 i t
 | .str x,u=> ∃t,u=Eb x t
 | .byt b,u=> ∃t,u=Value.bytes b t
 | .flt b,u=> ∃t,u=Value.float b t
 | .ref a,u=>u=Df a
 | .ty n,u=>u=Eh n
abbrev Vals:List V->List CB->Prop:=KY RelV
theorem Vals.length {xs:List V}{us:List CB}(r:Vals xs us):xs.length=us.length:=Paired.length r
theorem Vals.get:∀{xs:List V} {us:List CB} {i:Nat} {x:V},Vals xs us->xs[i]? =some x->∃u,us[i]? =some u/\RelV x u
 | _,_,_,_,.nil,e=>by simp at e
 | _,_,0,_,.cons r _,e=>by simp at e;subst e;exact⟨_,rfl,r⟩
 | _,_,i+1,x,.cons _ t,e=>by
  obtain⟨u,h1,h2⟩:=Vals.get (i:=i) (x:=x) t (by simpa using e)
  exact⟨u,by simpa using h1,h2⟩
theorem Vals.append:∀{xs ys:List V} {us ws:List CB},Vals xs us->Vals ys ws->Vals (xs++ys) (us++ws)
 | _,_,_,_,.nil,s=>s
 | _,_,_,_,.cons r t,s=> .cons r (Vals.append t s)
theorem Vals.take:∀{xs:List V} {us:List CB} (n:Nat),Vals xs us->Vals (xs.take n) (us.take n)
 | _,_,0,_=> .nil
 | _,_,_+1,.nil=> .nil
 | _,_,n+1,.cons r t=> .cons r (Vals.take n t)
theorem Vals.drop:∀{xs:List V} {us:List CB} (n:Nat),Vals xs us->Vals (xs.drop n) (us.drop n)
 | _,_,0,r=>r
 | _,_,_+1,.nil=> .nil
 | _,_,n+1,.cons _ t=>Vals.drop n t
def zA:Option V->Option CB->Prop
 | some v,some u=>RelV v u
 | none,none=>True
 | _,_=>False
def KV {κ:Type}:List (κ×V)->List (κ×CB)->Prop:=KY λ(p:κ×V) (q:κ×CB)=>p.1=q.1/\RelV p.2 q.2
def kV:jV->V
 | .inl i=> .int i
 | .inr x=> .str x
inductive HO where
 /-- a list -/
 | lst (xs:List V)
 /-- a tuple (never changes) -/
 | tup (xs:List V)
 /-- a dict whose keys are ints and texts;one whose keys are tuples of ints and texts (the empty one is both) -/
 | dK (kvs:List (jV×V)) | dT (kvs:List (List jV×V))
 /-- a set of ints: its members,its size -/
 | set (S:Int->Bool) (n:Nat)
 /-- an instance of the class at C,its dict at dx,its attributes -/
 | ins (C dx:Addr) (fs:List (Str×V))
 /-- the dict of the instance at x -/
 | own (x:Addr)
 /-- the dict of an exception -/
 | xd (fs:List (Str×V))
 /-- a bound method,f of x -/
 | met (f x:Addr)
 /-- a range object lo,lo+1,.. below hi -/
 | rng (lo hi:Int)
 /-- a thing that is known to the object (the script;a dict while a loop walks it): read,never written while it is so -/
 | frz (o:Obj) (u:HO)
 /-- a code object's table -/
 | tbl (ps:Array CB)
 /-- any other thing,by what is true of its one object (a def of one's own: SetO a S n:=HO.ext λh=> ..) -/
 | ext (φ:Heap->Prop)
abbrev Hp:=Addr->Option HO
def dE (H:Hp)(a:Addr)(o:HO):Hp:=λb=>if b=a then some o else H b
theorem aU {H:Hp}{a:Addr}{o:HO}:dE H a o a=some o:=by unfold dE;rw[if_pos rfl]
theorem aD {H:Hp}{a b:Addr}{o:HO}(h:b≠a):dE H a o b=H b:=by unfold dE;rw[if_neg h]
theorem bt {H:Hp}{a b:Addr}{o:HO}(h:H a=some o)(h':H b=none):a≠b:=by
 intro e;subst e;rw[h]at h';cases h'
section
variable (P:C4)(w:Du)
def ObjOk (H:Hp)(h:Heap)(a:Addr):HO->Prop
 | .lst xs=>xs.length<=sizeLine/\∃(its:List CB) (n:Nat),Vals xs its/\h.get? a=some { cls:=.type "list",data:=.seq its.toArray n }
 | .tup xs=>xs.length<=sizeLine/\∃its:List CB,Vals xs its/\KU h a its.toArray
 | .dK kvs=>kvs.length<=sizeLine/\(a == sysModules)=false/\∃vs,KV kvs vs/\h.DictOf (pd P w) a vs
 | .dT kvs=>kvs.length<=sizeLine/\(a == sysModules)=false/\∃xs:List (List jV×Addr×CB),
   KY (λ(p:List jV×V) (q:List jV×Addr×CB)=>p.1=q.1/\H q.2.1=some (.tup (p.1.map kV))/\RelV p.2 q.2.2) kvs xs ∧
   ∃o es ep,h.get? a=some o/\o.ExactDict/\o.data= .dict es ep/\es.toList=xs.map (entryOfKey (tupleKind (pd P w)))/\(xs.map (·.1)).Nodup
 | .set S n=>h.SetOf (intKind P w) a S n
 | .ins C dx fs=>H dx=some (.own a)/\fs.length<=1000/\dx≠a/\h.get? a=some (Ie C dx) ∧
   ∃mA,h.Ns1 dx mA/\(∀f,zA (fs.lookup f) (mA f))/\PySem.Within mA (fs.map (·.1))
 | .own _=> ∃o,h.get? a=some o
 | .xd fs=> ∃mA,h.Ns1 a mA/\∀f,zA (fs.lookup f) (mA f)
 | .rng lo hi=> ∃t u v,h.get? a=some { cls:=.type "range",data:=.fields #[.int lo t,.int hi u,.int 1 v] }
 | .frz o u=>h.get? a=some o/\ObjOk H h a u
 | .tbl ps=>h.get? a=some { cls:=.none,data:=.fields ps }
 | .met f x=>h.get? a=some (Hj (.ref f) (.ref x))
 | .ext φ=>φ h/\(∃o,h.get? a=some o)/\∀h1 h2:Heap,φ h1->(∀o,h1.get? a=some o->h2.get? a=some o)->φ h2
def HOk (H:Hp)(h:Heap):Prop:=∀a o,H a=some o->ObjOk P w H h a o
end
section
variable {P:C4}{w:Du}{H H':Hp}{h h':Heap}{a:Addr}{o:HO}
theorem ObjOk.lt (x:ObjOk P w H h a o):a<h.objs.size:=by
 cases o with
 | lst xs=>obtain⟨_,_,_,_,e⟩:=x;exact CN e
 | tup xs=>obtain⟨_,_,_,p⟩:=x;exact p.lt
 | dK kvs=>obtain⟨_,_,_,_,o,_,_,e,_⟩:=x;exact CN e
 | dT kvs=>obtain⟨_,_,_,_,o,_,_,e,_⟩:=x;exact CN e
 | set S n=>obtain⟨o,_,_,_,e,_⟩:=x;exact CN e
 | ins C dx fs=>obtain⟨_,_,_,e,_⟩:=x;exact CN e
 | own y=>obtain⟨_,e⟩:=x;exact CN e
 | xd fs=>obtain⟨_,⟨_,_,_,e,_⟩,_⟩:=x;exact CN e
 | rng lo hi=>obtain⟨_,_,_,e⟩:=x;exact CN e
 | frz ob u=>obtain⟨e,_⟩:=x;exact CN e
 | tbl ps=>exact CN (show h.get? a=some _ from x)
 | met f y=>exact CN (show h.get? a=some _ from x)
 | ext φ=>obtain⟨_,⟨_,e⟩,_⟩:=x;exact CN e
theorem Paired.Cq {α β:Type}{F G:α->β->Prop}:∀{l₁:List α} {l₂:List β},KY F l₁ l₂->(∀a b,F a b->G a b)->KY G l₁ l₂
 | _,_,.nil,_=> .nil
 | _,_,.cons r t,f=> .cons (f _ _ r) (Paired.Cq t f)
theorem ObjOk.BW (x:ObjOk P w H h a o)(k:∀b u,(b=a\/H b=some (.own a))->h.get? b=some u->h'.get? b=some u)
  (ho:∀b,H b=some (.own a)->H' b=some (.own a)) (ht:∀b xs,H b=some (.tup xs)->H' b=some (.tup xs)):ObjOk P w H' h' a o:=by
 induction o with
 | lst xs=>obtain⟨z,its,n,r,e⟩:=x;exact⟨z,its,n,r,k _ _ (.inl rfl) e⟩
 | tup xs=>obtain⟨z,its,r,ob,e,c⟩:=x;exact⟨z,its,r,ob,k _ _ (.inl rfl) e,c⟩
 | dK kvs=>obtain⟨z,y,vs,r,ob,es,ep,e,c⟩:=x;exact⟨z,y,vs,r,ob,es,ep,k _ _ (.inl rfl) e,c⟩
 | dT kvs=>
  obtain⟨z,y,xs,r,ob,es,ep,e,c⟩:=x
  exact⟨z,y,xs,Paired.Cq r λp q z=>⟨z.1,ht _ _ z.2.1,z.2.2⟩,ob,es,ep,k _ _ (.inl rfl) e,c⟩
 | set S n=>obtain⟨ob,es,ep,t,e,c⟩:=x;exact⟨ob,es,ep,t,k _ _ (.inl rfl) e,c⟩
 | ins C dx fs=>
  obtain⟨d,z,ne,e,mA,⟨od,es,ep,e2,c⟩,r⟩:=x
  exact⟨ho _ d,z,ne,k _ _ (.inl rfl) e,mA,⟨od,es,ep,k _ _ (.inr d) e2,c⟩,r⟩
 | own y=>obtain⟨ob,e⟩:=x;exact⟨ob,k _ _ (.inl rfl) e⟩
 | xd fs=>obtain⟨mA,⟨od,es,ep,e,c⟩,r⟩:=x;exact⟨mA,⟨od,es,ep,k _ _ (.inl rfl) e,c⟩,r⟩
 | rng lo hi=>obtain⟨t,u,v,e⟩:=x;exact⟨t,u,v,k _ _ (.inl rfl) e⟩
 | frz ob u ih=>obtain⟨e,q⟩:=x;exact⟨k _ _ (.inl rfl) e,ih q⟩
 | tbl ps=>
  have e:h.get? a=some { cls:=.none,data:=.fields ps }:=x
  show h'.get? a=some { cls:=.none,data:=.fields ps }
  exact k a _ (.inl rfl) e
 | met f y=>
  have e:h.get? a=some (Hj (.ref f) (.ref y)):=x
  show h'.get? a=some (Hj (.ref f) (.ref y))
  exact k a _ (.inl rfl) e
 | ext φ=>obtain⟨p,⟨o,e⟩,st⟩:=x;exact⟨st _ _ p λo q=>k _ _ (.inl rfl) q,⟨o,k _ _ (.inl rfl) e⟩,st⟩
theorem HOk.lt (x:HOk P w H h)(e:H a=some o):a<h.objs.size:=(x a o e).lt
theorem HOk.fresh (x:HOk P w H h)(e:h.objs.size<=a):H a=none:=by
 cases q:H a with
 | none=>rfl
 | some u=>exact absurd (CS (x.lt q) e) (C9 _)
theorem HOk.kept (x:HOk P w H h)(k:∀b u,h.get? b=some u->h'.get? b=some u):HOk P w H h':=λa o e=>
 (x a o e).BW (λb u _ q=>k b u q) (λ_ q=>q) λ_ _ q=>q
theorem HOk.laid (x:HOk P w H h)(k:∀b u,h.get? b=some u->h'.get? b=some u)(hp:h.objs.size<=a)(new:ObjOk P w (dE H a o) h' a o):HOk P w (dE H a o) h':=λb u e=>by
 have hn:=x.fresh hp
 by_cases hb:b=a
 ·subst hb;rw[aU]at e;cases e;exact new
 ·rw[aD hb]at e
  exact(x b u e).BW (λc v _ q=>k c v q) (λc q=>by rw[aD (bt q hn)];exact q) λc xs q=>by rw[aD (bt q hn)];exact q
end
def Rd (H:Hp)(a:Addr)(u:HO):Prop:=H a=some u\/∃o,H a=some (.frz o u)
theorem Rd.ok {P:C4}{w:Du}{H:Hp}{h:Heap}{a:Addr}{u:HO}(r:Rd H a u)(x:HOk P w H h):ObjOk P w H h a u:=by
 rcases r with r | ⟨o,r⟩
 ·exact x a u r
 ·obtain⟨_,q⟩:=x a _ r
  exact q
def BF:Option HO->Prop
 | some (.lst _)=>True
 | some (.dK _)=>True
 | some (.dT _)=>True
 | some (.set _ _)=>True
 | some (.ins _ _ _)=>True
 | some (.ext _)=>True
 | _=>False
section
variable {P:C4}{w:Du}{H:Hp}{h h':Heap}{x e:Addr}{o':HO}
theorem HOk.write (ok:HOk P w H h)(mu:BF (H x))(he:e=x\/H e=some (.own x))(k:∀b u,b≠e->h.get? b=some u->h'.get? b=some u)(heo:∃u,h'.get? e=some u)
  (new:ObjOk P w (dE H x o') h' x o'):HOk P w (dE H x o') h':=λb u q=>by
 have nown:∀c y,H c=some (.own y)->c≠x:=λc y r z=>by subst z;rw[r]at mu;exact mu
 have ntup:∀c xs,H c=some (.tup xs)->c≠x:=λc xs r z=>by subst z;rw[r]at mu;exact mu
 by_cases hb:b=x
 ·subst hb;rw[aU]at q;cases q;exact new
 ·rw[aD hb]at q
  by_cases hbe:b=e
  ·have q':H b=some (.own x):=by
    rcases he with z | z
    ·exact absurd (hbe.trans z) hb
    ·rw[hbe];exact z
   rw[q]at q';cases q';obtain⟨v,hv⟩:=heo;exact⟨v,by rw[hbe];exact hv⟩
  ·refine(ok b u q).BW (λc v hc r=>k c v ?_ r) (λc r=>by rw[aD (nown c b r)];exact r) λc xs r=>by rw[aD (ntup c xs r)];exact r
   rcases hc with rfl | hc
   ·exact hbe
   ·rintro rfl
    rcases he with z | z
    ·exact nown c b hc z
    ·rw[hc]at z;cases z;exact hb rfl
end
structure Un (fs ex:List Addr)(H H':Hp)(h h':Heap):Prop where
 keep:∀b o,h.get? b=some o->H b=none->b∉fs->b∉ex->h'.get? b=some o
 slot:∀b o,h.get? b=some o->H b=none->b∈fs->b∉ex->∃sl,h'.get? b=some { o with slots:=sl }
 free:∀b o,h.get? b=some o->H b=none->b∉ex->H' b=none
 there:∀b o,h.get? b=some o->b∉ex->∃o',h'.get? b=some o'
 tups:∀b xs,H b=some (.tup xs)->H' b=some (.tup xs)
 frzs:∀b o u,H b=some (.frz o u)->H' b=some (.frz o u)
 tbls:∀b ps,H b=some (.tbl ps)->∃more,H' b=some (.tbl (ps++more))
section
variable {fs fs' ex ex':List Addr}{H H1 H2:Hp}{h h1 h2 h':Heap}{a x e:Addr}{o:HO}
theorem Un.any (u:Un fs ex H H1 h h1){b:Addr}{ob:Obj}(q:h.get? b=some ob)(n:H b=none)(hx:b∉ex):∃sl,h1.get? b=some { ob with slots:=sl }:=by
 by_cases hb:b∈fs
 ·exact u.slot b ob q n hb hx
 ·exact⟨ob.slots,u.keep b ob q n hb hx⟩
theorem Un.kept (k:∀b u,h.get? b=some u->h'.get? b=some u):Un fs ex H H h h':=
 ⟨λb ob q _ _ _=>k b ob q,λb ob q _ _ _=>⟨ob.slots,k b ob q⟩,λ_ _ _ n _=>n,λb ob q _=>⟨ob,k b ob q⟩,λ_ _ q=>q,λ_ _ _ q=>q,λ_ ps q=>⟨#[],by rw[q];simp⟩⟩
theorem Un.refl:Un fs ex H H h h:=Un.kept λ_ _ q=>q
theorem Un.laid (k:∀b u,h.get? b=some u->h'.get? b=some u)(hp:h.objs.size<=a)(hn:H a=none):Un fs ex H (dE H a o) h h' where
 keep:=λb u q _ _ _=>k b u q
 slot:=λb u q _ _ _=>⟨u.slots,k b u q⟩
 free:=λb u q n _=>by rw[aD (Dg (CS (CN q) hp))];exact n
 there:=λb u q _=>⟨u,k b u q⟩
 tups:=λb xs q=>by rw[aD (bt q hn)];exact q
 frzs:=λb u xs q=>by rw[aD (bt q hn)];exact q
 tbls:=λb ps q=>⟨#[],by rw[aD (bt q hn),q];simp⟩
theorem Un.write (mu:BF (H x))(he:e=x\/H e=some (.own x))(k:∀b u,b≠e->h.get? b=some u->h'.get? b=some u)(heo:∃u,h'.get? e=some u):Un fs ex H (dE H x o) h h':=by
 have hx:∀b,H b=none->b≠x:=λb n z=>by subst z;rw[n]at mu;exact mu
 have hb:∀b,H b=none->b≠e:=λb n z=>by
  subst z;rcases he with r | r
  ·exact hx b n r
  ·rw[n]at r;cases r
 have hm:∀b u,H b=some u->¬ BF (some u)->b≠x:=λb u q nm z=>by subst z;rw[q]at mu;exact nm mu
 refine⟨λb u q n _ _=>k b u (hb b n) q,λb u q n _ _=>⟨u.slots,k b u (hb b n) q⟩,λb u q n _=>by rw[aD (hx b n)];exact n,λb u q _=> ?_,
  λb xs q=>by rw[aD (hm b _ q λz=>z)];exact q,λb u xs q=>by rw[aD (hm b _ q λz=>z)];exact q,λb ps q=>⟨#[],by rw[aD (hm b _ q λz=>z),q];simp⟩⟩
 by_cases hbe:b=e
 ·subst hbe;exact heo
 ·exact⟨u,k b u hbe q⟩
end
def trk (h:Heap)(H:Hp):List Addr:=(DH h.objs.size).filter λa=>(H a).isSome
def lS (h:Heap)(H:Hp):Heap:=GF h (trk h H)
theorem qA (h:Heap)(H:Hp):(lS h H).objs.size=h.objs.size:=PySem.W.hideAll_size _ _
theorem tK {h:Heap}{H:Hp}{b:Addr}{o:Obj}(e:h.get? b=some o)(n:H b=none):(lS h H).get? b=some o:=
 El _ e λhm=>by
  have q:(H b).isSome=true:=(Ig.mp hm).2;rw[n]at q;simp at q
theorem vE {h:Heap}{H:Hp}{b:Addr}{o:Obj}(e:(lS h H).get? b=some o):h.get? b=some o/\H b=none:=by
 have e':h.get? b=some o:=F2 (trk h H) e;refine⟨e',?_⟩
 cases q:H b with
 | none=>rfl
 | some x=>
  have hm:b∈trk h H:=Ig.mpr ⟨FO.mpr (CN e'),by simp[q]⟩
  have z:(lS h H).get? b=none:=FL (trk h H) hm;rw[z]at e;cases e
def wJ (g h:Heap)(L:Addr):List (Addr×Obj):=(DH h.objs.size).filterMap λa=>if a=L\/(g.get? a).isSome=true then none else(h.get? a).map λo=>(a,o)
def rest (g h:Heap)(L d:Addr):List (Addr×Obj):=(wJ g h L).filter λp=>decide (p.1≠d)
structure Mod (K:CA)(mg:Str->Option CB)(base:Heap):Prop where
 kin:K.In base
 glob:base.Ns Dm mg
 blt:∃mb,base.Ns GD mb/\∀x:Str,x≠ "__name__"->mb x=Dh x
 nolimit:base.NoLimit
structure Cx where
 prog:C4
 w:Du
 K:CA
 mg:Str->Option CB
 base:Heap
 A:Dj
 N:List Str
 s₀:Cz
 H₀:Hp
 env:Env
 outer:List Env
 stack:List Env
 ex:List Addr
 fn:Str->Bool
 calm:Bool
 pn:List (Addr×Obj)
 xe:CB->Cz->Prop
def gx (l:List Env):List Addr:=l.filterMap (·.frame)
abbrev Cx.fs (X:Cx):List Addr:=gx X.outer
def qK (sc:Fu)(x:Str):Prop:=sc.names.lookup x=some .local\/sc.names.lookup x=some .cell\/sc.names.lookup x=some .free
def Loc (sc:Fu)(x:Str):Prop:=sc.names.lookup x=some .local\/sc.names.lookup x=some .cell
def Look (env:Env)(h:Heap)(m:Str->Option CB)(x:Str)(u:CB):Prop:=
 (env.kindOf x=some .local/\m x=some u)\/((env.kindOf x=some .cell\/env.kindOf x=some .free)/\∃c,env.cells.lookup x=some c/\h.IsCell c (some u))
structure Cx.Ok (X:Cx):Prop where
 mod:Mod X.K X.mg X.base
 kind:X.env.scope.kind= .function
 glob:X.env.globals=Dm
 blt:X.env.builtins=GD
 above:X.s₀.heap.objs.size<=X.env.locals
 inj:∀x y c,X.env.cells.lookup x=some c->X.env.cells.lookup y=some c->x=y
 has:∀x,(X.env.kindOf x=some .cell\/X.env.kindOf x=some .free)->∃c,X.env.cells.lookup x=some c
 cab:∀x c,X.fn x=true->X.env.cells.lookup x=some c->X.s₀.heap.objs.size<=c
 hd:X.calm=true->X.A.handled=none
 frames:X.A.frames=some X.stack
 stk:X.stack=X.outer\/(X.stack=X.env::X.outer/\X.env.frame=some X.env.locals)
 exf:∀b∈X.ex,b≠X.env.locals/\∀x c,X.env.cells.lookup x=some c->c≠b
 bs:∀b o,X.base.get? b=some o->X.s₀.heap.get? b=some o/\X.H₀ b=none
 bsz:X.base.objs.size<=X.s₀.heap.objs.size
 noex:∀b o,X.base.get? b=some o->b∉X.ex
 exfs:∀b∈X.ex,b∉X.fs
 funs:X.s₀.heap.FunFrames X.base X.outer
 frf:∀b∈X.fs,X.H₀ b=none
structure Inv (X:Cx)(pins:List (Addr×Obj))(σ:List (Option V))(H:Hp)(s:Cz):Prop where
 ok:X.Ok
 os:s.os=X.s₀.os
 bare:Iu s.gens
 base:Un X.fs X.ex X.H₀ H X.s₀.heap s.heap
 loc:∃m,s.heap.Ns X.env.locals m/\∀(i:Nat) (x:Str) (v:V),X.N[i]? =some x->σ[i]? =some (some v)->qK X.env.scope x->∃u,RelV v u/\Look X.env s.heap m x u
 cell:∀x c,X.env.cells.lookup x=some c->∃v,s.heap.IsCell c v
 free:H X.env.locals=none
 freeC:∀x c,X.env.cells.lookup x=some c->H c=none
 pin:∀p∈X.pn++pins,s.heap.get? p.1=some p.2/\H p.1=none/\p.1≠X.env.locals/\p.1∉X.fs/\∀v,p.2.data≠ .cell v
 hok:HOk X.prog X.w H s.heap
 len:σ.length=X.N.length
section
variable {X:Cx}{pins:List (Addr×Obj)}{σ:List (Option V)}{H H':Hp}{s:Cz}{h':Heap}
theorem Cx.Ok.Cv (ok:X.Ok){b:Addr}{o:Obj}(e:X.base.get? b=some o):b∉X.fs:=λhb=>by
 have:=(ok.funs.mem hb).1;rw[e]at this;cases this
theorem Inv.bs (I:Inv X pins σ H s):∀b o,X.base.get? b=some o->s.heap.get? b=some o/\H b=none:=λb o e=>
 ⟨I.base.keep b o (I.ok.bs b o e).1 (I.ok.bs b o e).2 (I.ok.Cv e) (I.ok.noex b o e),I.base.free b o (I.ok.bs b o e).1 (I.ok.bs b o e).2 (I.ok.noex b o e)⟩
theorem Inv.bk (I:Inv X pins σ H s):∀b o,X.base.get? b=some o->s.heap.get? b=some o:=λb o e=>(I.bs b o e).1
theorem Inv.mod (I:Inv X pins σ H s):Mod X.K X.mg X.base:=I.ok.mod
theorem Inv.kIn (I:Inv X pins σ H s):X.K.In s.heap:=I.ok.mod.kin.keeps I.bk
theorem Inv.lt (I:Inv X pins σ H s):X.env.locals<s.heap.objs.size:=let ⟨_,hn,_⟩:=I.loc;hn.lt
theorem Inv.sz (I:Inv X pins σ H s):X.s₀.heap.objs.size<=s.heap.objs.size:=Dk I.ok.above (Fv I.lt)
theorem Inv.Cu (I:Inv X pins σ H s){a:Addr}(h:s.heap.objs.size<=a):a∉X.fs:=λhb=>by
 obtain⟨_,o,ho,_⟩:=I.ok.funs.mem hb;exact absurd (CS (CN ho) (Dk I.sz h)) (C9 _)
theorem Inv.cne (I:Inv X pins σ H s):∀x c,X.env.cells.lookup x=some c->c≠X.env.locals:=λx c e z=>by
 obtain⟨v,o,ho,hd⟩:=I.cell x c e;obtain⟨m,⟨o',es,ep,ho',hd',_⟩,_⟩:=I.loc;rw[z,ho']at ho;cases ho;rw[hd']at hd;cases hd
theorem Inv.funs (I:Inv X pins σ H s):s.heap.FunFrames X.base X.outer:=by
 have all:∀(l:List Env),(∀b∈gx l,b∈X.fs)->X.s₀.heap.FunFrames X.base l->s.heap.FunFrames X.base l:=by
  intro l
  induction l with
  | nil=>intro _ _;trivial
  | cons env r ih=>
   intro hs hl;obtain⟨hk,⟨L,o,hf,hn,ho,hd⟩,hr⟩:=hl
   have hL:L∈X.fs:=hs L (by unfold gx;rw[Dy,hf];exact CL)
   obtain⟨sl,e⟩:=I.base.slot L o ho (I.ok.frf L hL) hL λz=>I.ok.exfs L z hL
   exact⟨hk,⟨L,_,hf,hn,e,hd⟩,ih (λb hb=>hs b (by unfold gx;rw[Dy,hf];exact CH _ hb)) hr⟩
 exact all X.outer (λ_ hb=>hb) I.ok.funs
theorem Inv.stack (I:Inv X pins σ H s):s.heap.FunFrames X.base X.stack:=by
 rcases I.ok.stk with e | ⟨e,hf⟩
 ·rw[e];exact I.funs
 ·rw[e]
  obtain⟨m,hn,_⟩:=I.loc;refine .cons (by rw[I.ok.kind];decide) hf hn ?_ I.funs
  exact Heap.get?_none_of_le (Dk I.ok.bsz I.ok.above)
theorem Inv.B0 (I:Inv X pins σ H s):∀b∈gx X.stack,b∈X.env.locals::X.fs:=λb hb=>by
 rcases I.ok.stk with e | ⟨e,hf⟩
 ·rw[e]at hb;exact CH _ hb
 ·rw[e]at hb
  unfold gx at hb;rw[Dy,hf]at hb;exact hb
theorem Inv.BQ (I:Inv X pins σ H s):∀b∈gx X.stack,H b=none:=λb hb=>by
 rcases CO.mp (I.B0 b hb)with e | hb
 ·rw[e];exact I.free
 ·obtain⟨_,o,ho,_⟩:=I.ok.funs.mem hb
  exact I.base.free b o ho (I.ok.frf b hb) λz=>I.ok.exfs b z hb
theorem Inv.step {g':Array IE}{t':Nat}{d':KZ}{ch:List Addr}(I:Inv X pins σ H s)
  (hch:∀b∈ch,(b∈X.ex\/X.s₀.heap.objs.size<=b)/\b≠X.env.locals/\(∀x c,X.env.cells.lookup x=some c->c≠b)/\∀p∈X.pn++pins,p.1≠b)
  (keep:∀b o,b≠X.env.locals->b∉X.fs->b∉ch->s.heap.get? b=some o->H b=none->h'.get? b=some o)
  (slot:∀b o,b≠X.env.locals->b∈X.fs->b∉ch->s.heap.get? b=some o->H b=none->∃sl,h'.get? b=some { o with slots:=sl }) (free:∀b o,b∉ch->s.heap.get? b=some o->H b=none->H' b=none)
  (there:∀b o,b∉ch->s.heap.get? b=some o->∃o',h'.get? b=some o')
  (tups:∀b xs,H b=some (.tup xs)->H' b=some (.tup xs)) (frzs:∀b o u,H b=some (.frz o u)->H' b=some (.frz o u)) (tbls:∀b ps,H b=some (.tbl ps)->∃more,H' b=some (.tbl (ps++more)))
  (ns:∀m,s.heap.Ns X.env.locals m->h'.Ns X.env.locals m) (hok:HOk X.prog X.w H' h') (hg:Iu g') :
  Inv X pins σ H' { s with heap:=h',gens:=g',drawn:=d',toks:=t' }:=by
 have neL:∀b o,X.s₀.heap.get? b=some o->b≠X.env.locals:=λb o e=>Dg (CS (CN e) I.ok.above)
 have neC:∀b o,X.s₀.heap.get? b=some o->b∉X.ex->b∉ch:=λb o e hx hb=>by
  rcases(hch b hb).1 with z | z
  ·exact hx z
  ·exact absurd (CS (CN e) z) (C9 _)
 have cellK:∀x c,X.env.cells.lookup x=some c->∀v,s.heap.IsCell c v->h'.IsCell c v:=λx c e v hh_=>by
  obtain⟨o,ho,hd⟩:=hh_
  have nch:c∉ch:=λz=>(hch c z).2.2.1 x c e rfl
  by_cases hc:c∈X.fs
  ·obtain⟨sl,q⟩:=slot c o (I.cne x c e) hc nch ho (I.freeC x c e)
   exact⟨_,q,hd⟩
  ·exact⟨o,keep c o (I.cne x c e) hc nch ho (I.freeC x c e),hd⟩
 refine⟨I.ok,I.os,hg,⟨λb o e n hb hx=> ?_,λb o e n hb hx=> ?_,λb o e n hx=> ?_,λb o e hx=> ?_,λb xs e=>tups b xs (I.base.tups b xs e),λb o xs e=>frzs b o xs (I.base.frzs b o xs e),λb ps e=> ?_⟩,?_,λx c e=> ?_,?_,λx c e=> ?_,λp hp=> ?_,hok,I.len⟩
 ·exact keep b o (neL b o e) hb (neC b o e hx) (I.base.keep b o e n hb hx) (I.base.free b o e n hx)
 ·obtain⟨sl,e1⟩:=I.base.slot b o e n hb hx
  obtain⟨sl',e2⟩:=slot b _ (neL b o e) hb (neC b o e hx) e1 (I.base.free b o e n hx);exact⟨sl',e2⟩
 ·obtain⟨o',e1⟩:=I.base.there b o e hx
  exact free b o' (neC b o e hx) e1 (I.base.free b o e n hx)
 ·obtain⟨o',e1⟩:=I.base.there b o e hx
  exact there b o' (neC b o e hx) e1
 ·obtain⟨m1,e1⟩:=I.base.tbls b ps e
  obtain⟨m2,e2⟩:=tbls b _ e1;exact⟨m1++m2,by rw[e2,Array.append_assoc]⟩
 ·obtain⟨m,hn,hl⟩:=I.loc
  refine⟨m,ns m hn,λi x v e1 e2 e3=> ?_⟩
  obtain⟨u,r,l⟩:=hl i x v e1 e2 e3;refine⟨u,r,?_⟩
  rcases l with l | ⟨k,c,e,z⟩
  ·exact .inl l
  ·exact .inr ⟨k,c,e,cellK x c e _ z⟩
 ·obtain⟨v,z⟩:=I.cell x c e
  exact⟨v,cellK x c e v z⟩
 ·obtain⟨m,⟨o,_,_,ho,_⟩,_⟩:=I.loc
  exact free _ o (λz=>(hch _ z).2.1 rfl) ho I.free
 ·obtain⟨v,o,ho,hd⟩:=I.cell x c e
  exact free c o (λz=>(hch c z).2.2.1 x c e rfl) ho (I.freeC x c e)
 ·obtain⟨e,n,ne,nf,d⟩:=I.pin p hp
  have nch:p.1∉ch:=λz=>(hch p.1 z).2.2.2 p hp rfl
  exact⟨keep p.1 p.2 ne nf nch e n,free p.1 p.2 nch e n,ne,nf,d⟩
theorem Inv.un {t':Nat}(I:Inv X pins σ H s)(u:Un X.fs [] H H' s.heap h')(hok:HOk X.prog X.w H' h'):Inv X pins σ H' { s with heap:=h',toks:=t' }:=by
 obtain⟨m,⟨o,es,ep,ho,r⟩,_⟩:=id I.loc;obtain⟨sl,hL⟩:=u.any ho I.free (by simp)
 exact I.step (g':=s.gens) (d':=s.drawn) (ch:=[]) (λ_ z=>nomatch z) (λb o _ hb _ e n=>u.keep b o e n hb (by simp)) (λb o _ hb _ e n=>u.slot b o e n hb (by simp)) (λb o _ e n=>u.free b o e n (by simp)) (λb o _ e=>u.there b o e (by simp)) u.tups u.frzs u.tbls (λm' hm=>by
  obtain⟨o',es',ep',ho',r'⟩:=hm;rw[ho]at ho';cases ho';exact⟨_,es',ep',hL,r'⟩) hok I.bare
theorem Inv.call {g':Array IE}{t':Nat}{d':KZ}{ch:List Addr}(I:Inv X pins σ H s)(u:Un (gx X.stack) ch H H' s.heap h')(hok:HOk X.prog X.w H' h')(hg:Iu g')
  (hch:∀b∈ch,(b∈X.ex\/X.s₀.heap.objs.size<=b)/\b≠X.env.locals/\(∀x c,X.env.cells.lookup x=some c->c≠b)/\∀p∈X.pn++pins,p.1≠b) :
  Inv X pins σ H' { s with heap:=h',gens:=g',drawn:=d',toks:=t' }:=by
 obtain⟨m,⟨o,es,ep,ho,r⟩,_⟩:=id I.loc;obtain⟨sl,hL⟩:=u.any ho I.free λz=>(hch _ z).2.1 rfl
 exact I.step (ch:=ch) hch (λb o hL hb hc e n=>u.keep b o e n (λz=>(CO.mp (I.B0 b z)).elim hL hb) hc) (λb o _ _ hc e n=>u.any e n hc) (λb o hc e n=>u.free b o e n hc) (λb o hc e=>u.there b o e hc) u.tups u.frzs u.tbls (λm' hm=>by
  obtain⟨o',es',ep',ho',r'⟩:=hm;rw[ho]at ho';cases ho';exact⟨_,es',ep',hL,r'⟩) hok hg
theorem Inv.turned {t':Nat}{it:Addr}(I:Inv X pins σ H s)(k:∀b o,b≠it->s.heap.get? b=some o->h'.get? b=some o)(hn:H it=none)(hL:it≠X.env.locals)
  (h1:it∈X.ex\/X.s₀.heap.objs.size<=it) (h2:∀x c,X.env.cells.lookup x=some c->c≠it) (h3:∀p∈X.pn++pins,p.1≠it):Inv X pins σ H { s with heap:=h',toks:=t' }:=by
 have nit:∀b u,H b=some u->b≠it:=λb u e z=>by rw[z,hn]at e;cases e
 refine I.step (g':=s.gens) (d':=s.drawn) (ch:=[it]) (λb hb=> ?_) (λb o _ _ hc e _=>k b o (λz=>hc (by simp[z])) e) (λb o _ _ hc e _=>⟨o.slots,k b o (λz=>hc (by simp[z])) e⟩) (λ_ _ _ _ n=>n)
  (λb o hc e=>⟨o,k b o (λz=>hc (by simp[z])) e⟩) (λ_ _ e=>e) (λ_ _ _ e=>e) (λb ps e=>⟨#[],by rw[e];simp⟩) (λm hm=> ?_) (λb u e=> ?_) I.bare
 ·have e:b=it:=by simpa using hb
  subst e;exact⟨h1,hL,h2,h3⟩
 ·obtain⟨o,es,ep,ho,r⟩:=hm
  exact⟨o,es,ep,k _ o (DG hL) ho,r⟩
 ·refine(I.hok b u e).BW (λc v hc q=>k c v ?_ q) (λ_ q=>q) λ_ _ q=>q
  rcases hc with z | z
  ·rw[z];exact nit b u e
  ·exact nit c _ z
theorem Inv.tok (I:Inv X pins σ H s)(t:Nat):Inv X pins σ H { s with toks:=t }:=I.un (h':=s.heap) (t':=t) Un.refl I.hok
theorem Inv.kept {t':Nat}(I:Inv X pins σ H s)(k:∀b u,s.heap.get? b=some u->h'.get? b=some u):Inv X pins σ H { s with heap:=h',toks:=t' }:=I.un (Un.kept k) (I.hok.kept k)
theorem Inv.laid {a:Addr}{o:HO}{t':Nat}(I:Inv X pins σ H s)(k:∀b u,s.heap.get? b=some u->h'.get? b=some u)(hp:s.heap.objs.size<=a)(new:ObjOk X.prog X.w (dE H a o) h' a o) :
  Inv X pins σ (dE H a o) { s with heap:=h',toks:=t' }:=I.un (Un.laid k hp (I.hok.fresh hp)) (I.hok.laid k hp new)
theorem Inv.write {x e:Addr}{o:HO}{t':Nat}(I:Inv X pins σ H s)(mu:BF (H x))(he:e=x\/H e=some (.own x))(k:∀b u,b≠e->s.heap.get? b=some u->h'.get? b=some u)(heo:∃u,h'.get? e=some u)
  (new:ObjOk X.prog X.w (dE H x o) h' x o):Inv X pins σ (dE H x o) { s with heap:=h',toks:=t' }:=I.un (Un.write mu he k heo) (I.hok.write mu he k heo new)
theorem Inv.B5 {pins':List (Addr×Obj)}(I:Inv X pins σ H s)(h:∀p∈pins',s.heap.get? p.1=some p.2/\H p.1=none/\p.1≠X.env.locals/\p.1∉X.fs/\∀v,p.2.data≠ .cell v):Inv X pins' σ H s:=
 ⟨I.ok,I.os,I.bare,I.base,I.loc,I.cell,I.free,I.freeC,λp hp=>(CU.mp hp).elim (λz=>I.pin p (DC _ z)) (h p),I.hok,I.len⟩
theorem mT {N:List Str}(hN:N.Nodup){i j:Nat}{x:Str}(a:N[i]? =some x)(b:N[j]? =some x):i=j:=by
 obtain⟨h1,e1⟩:=CW.mp a
 obtain⟨h2,e2⟩:=CW.mp b
 exact(List.getElem_inj hN).mp (e1.trans e2.symm)
theorem hV {M:HB}{A:Dj}{E:CB->Cz->Prop}{i:Nat}{x:Str}{v:V}{u:CB}{Q:Unit->Cz->Prop}(I:Inv X pins σ H s)(hN:X.N.Nodup)(hi:X.N[i]? =some x)(hx:Loc X.env.scope x)(r:RelV v u)
  (h:∀s',Inv X pins (σ.set i (some v)) H s'->(∃a,Fb a s.heap s'.heap/\(a=X.env.locals\/X.env.cells.lookup x=some a))->Q () s') (hf:autoParam (X.fn x=true\/X.env.scope.names.lookup x=some .local) r_):wpAny M A (storeName X.env x u) Q E s:=by
 obtain⟨m,hn,hl⟩:=id I.loc
 have hcls:(X.env.scope.kind == .class||(X.env.scope.kind == .module&&X.env.locals != X.env.globals))=false:=by rw[I.ok.kind];rfl
 have hiσ:i<σ.length:=by rw[I.len];exact(CW.mp hi).1
 have cne:=I.cne
 have tracked:∀{a:Addr} {h':Heap},(∃o,s.heap.get? a=some o/\H a=none)->Fb a s.heap h'->HOk X.prog X.w H h':=λ{a h'} ha hs b ob e=>by
  obtain⟨_,_,hfree⟩:=ha;refine(I.hok b ob e).BW (λc w' hc q=>(hs.2 c ?_).trans q) (λ_ q=>q) λ_ _ q=>q
  rintro rfl
  rcases hc with rfl | hc
  ·rw[hfree]at e;cases e
  ·rw[hfree]at hc;cases hc
 rcases hx with hk | hk
 ·refine wpAny_storeName_local hk hn (λh' hn' hs=> ?_) hcls
  obtain⟨oL,_,_,hoL,_⟩:=id hn;refine h _ ⟨I.ok,I.os,I.bare,⟨λb o e n hb hx=> ?_,λb o e n hb hx=> ?_,I.base.free,λb o e hx=> ?_,I.base.tups,I.base.frzs,I.base.tbls⟩,⟨_,hn',λj y v' e1 e2 e3=> ?_⟩,λy c e=> ?_,I.free,I.freeC,λp hp=> ?_,tracked ⟨oL,hoL,I.free⟩ hs,by simpa using I.len⟩ ⟨_,hs,.inl rfl⟩
  ·exact(hs.2 b (Dg (CS (CN e) I.ok.above))).trans (I.base.keep b o e n hb hx)
  ·obtain⟨sl,e1⟩:=I.base.slot b o e n hb hx
   exact⟨sl,(hs.2 b (Dg (CS (CN e) I.ok.above))).trans e1⟩
  ·obtain⟨o',e1⟩:=I.base.there b o e hx
   exact⟨o',(hs.2 b (Dg (CS (CN e) I.ok.above))).trans e1⟩
  ·by_cases hj:j=i
   ·subst hj
    rw[hi]at e1;cases e1;rw[EI hiσ]at e2
    cases e2;exact⟨u,r,.inl ⟨hk,by simp⟩⟩
   ·rw[Ez (DG hj)]at e2
    obtain⟨u',r',q⟩:=hl j y v' e1 e2 e3;refine⟨u',r',?_⟩
    rcases q with⟨k,e⟩ | ⟨k,c,e,z⟩
    ·refine .inl ⟨k,?_⟩
     have:y≠x:=λe=>hj (mT hN e1 (e▸hi))
     simp[this,e]
    ·exact .inr ⟨k,c,e,z.sameBut hs (cne y c e)⟩
  ·obtain⟨w',z⟩:=I.cell y c e
   exact⟨w',z.sameBut hs (cne y c e)⟩
  ·obtain⟨e,n,ne,nf,d⟩:=I.pin p hp
   exact⟨(hs.2 p.1 ne).trans e,n,ne,nf,d⟩
 ·have hfn:X.fn x=true:=by
   rcases hf with z | z
   ·exact z
   ·rw[z]at hk;cases hk
  obtain⟨c,hc⟩:=I.ok.has x (.inl hk);obtain⟨w',z⟩:=I.cell x c hc;refine wpAny_storeName_cell I.ok.kind hk hc z (λh' hc' hs=> ?_)
  obtain⟨oc,hoc,hocd⟩:=id z;refine h { s with heap:=h' } ⟨I.ok,I.os,I.bare,⟨λb o e n hb hx=> ?_,λb o e n hb hx=> ?_,I.base.free,λb o e hx=> ?_,I.base.tups,I.base.frzs,I.base.tbls⟩,⟨m,hn.sameBut hs (DG (cne x c hc)),λj y v' e1 e2 e3=> ?_⟩,λy c' e=> ?_,I.free,I.freeC,λp hp=> ?_,tracked ⟨oc,hoc,I.freeC x c hc⟩ hs,by simpa using I.len⟩ ⟨c,hs,.inr hc⟩
  ·exact(hs.2 b (Dg (CS (CN e) (I.ok.cab x c hfn hc)))).trans (I.base.keep b o e n hb hx)
  ·obtain⟨sl,e1⟩:=I.base.slot b o e n hb hx
   exact⟨sl,(hs.2 b (Dg (CS (CN e) (I.ok.cab x c hfn hc)))).trans e1⟩
  ·obtain⟨o',e1⟩:=I.base.there b o e hx
   exact⟨o',(hs.2 b (Dg (CS (CN e) (I.ok.cab x c hfn hc)))).trans e1⟩
  ·by_cases hj:j=i
   ·subst hj
    rw[hi]at e1;cases e1;rw[EI hiσ]at e2
    cases e2;exact⟨u,r,.inr ⟨.inl hk,c,hc,hc'⟩⟩
   ·rw[Ez (DG hj)]at e2
    obtain⟨u',r',q⟩:=hl j y v' e1 e2 e3;refine⟨u',r',?_⟩
    rcases q with q | ⟨k,c',e,z'⟩
    ·exact .inl q
    ·refine .inr ⟨k,c',e,z'.sameBut hs ?_⟩
     rintro rfl
     exact hj (mT hN e1 (I.ok.inj _ _ _ e hc▸hi))
  ·by_cases hcc:c'=c
   ·subst hcc;exact⟨_,hc'⟩
   ·obtain⟨w2,z2⟩:=I.cell y c' e
    exact⟨w2,z2.sameBut hs hcc⟩
  ·obtain⟨e,n,ne,nf,d⟩:=I.pin p hp
   refine⟨(hs.2 p.1 ?_).trans e,n,ne,nf,d⟩
   intro q;rw[q,hoc]at e
   have q':oc=p.2:=Dr e;exact d w' (by rw[<-q'];exact hocd)
theorem je {M:HB}{A:Dj}{E:CB->Cz->Prop}{i:Nat}{x:Str}{v:V}{u:CB}{Q:Unit->Cz->Prop}(I:Inv X pins σ H s)(hN:X.N.Nodup)(hi:X.N[i]? =some x)(hx:Loc X.env.scope x)(r:RelV v u)
  (h:∀s',Inv X pins (σ.set i (some v)) H s'->Q () s') (hf:autoParam (X.fn x=true\/X.env.scope.names.lookup x=some .local) r_):wpAny M A (storeName X.env x u) Q E s:=
 hV I hN hi hx r (λs' I' _=>h s' I') hf
theorem Inv.B4 {s':Cz}{ch:List Addr}(I:Inv X pins σ H s)(ho:s'.os=s.os)(u:Un (gx X.stack) ch H H' s.heap s'.heap)(hok:HOk X.prog X.w H' s'.heap)(hg:Iu s'.gens)
  (hch:∀b∈ch,(b∈X.ex\/X.s₀.heap.objs.size<=b)/\b≠X.env.locals/\(∀x c,X.env.cells.lookup x=some c->c≠b)/\∀p∈X.pn++pins,p.1≠b):Inv X pins σ H' s':=by
 obtain⟨h',g',d',t',o'⟩:=s'
 have e:o'=s.os:=ho;subst e;exact I.call (g':=g') (t':=t') (d':=d') u hok hg hch
end
abbrev XK:=CB->Option Addr->Hp->Prop
abbrev St:=List (Option V)
abbrev VK:=V->Hp->Prop
abbrev TE:=St->Hp->VK->Prop
abbrev TT:=St->Hp->(Bool->Hp->Prop)->Prop
abbrev TA:=St->Hp->(List V->Hp->Prop)->Prop
structure Ends where
 nx:St->Hp->Prop
 rt:VK
 bk:St->Hp->Prop:=λ_ _=>False
 ct:St->Hp->Prop:=λ_ _=>False
abbrev TS:=Ends->St->Hp->Prop
def EP (X:Cx)(pins:List (Addr×Obj))(σ:St)(Q:VK)(u:CB)(s':Cz):Prop:=∃v H',Inv X pins σ H' s'/\RelV v u/\Q v H'
def TP (X:Cx)(pins:List (Addr×Obj))(σ:St)(Q:Bool->Hp->Prop)(b:Bool)(s':Cz):Prop:=∃H',Inv X pins σ H' s'/\Q b H'
def AP (X:Cx)(pins:List (Addr×Obj))(σ:St)(Q:List V->Hp->Prop)(us:List CB)(s':Cz):Prop:=∃vs H',Inv X pins σ H' s'/\Vals vs us/\Q vs H'
def SP (X:Cx)(pins:List (Addr×Obj))(D:Ends)(f:Flow)(s':Cz):Prop:=
 match f with
 | .next=> ∃σ' H',Inv X pins σ' H' s'/\D.nx σ' H'
 | .brk=> ∃σ' H',Inv X pins σ' H' s'/\D.bk σ' H'
 | .cont=> ∃σ' H',Inv X pins σ' H' s'/\D.ct σ' H'
 | .ret u=> ∃v σ' H',Inv X pins σ' H' s'/\RelV v u/\D.rt v H'
def PE (X:Cx)(e:Expr)(t:TE):Prop:=
 ∀(pins:List (Addr×Obj)) (s:Cz) (σ:St) (H:Hp) (Q:VK),Inv X pins σ H s->t σ H Q->wpAny (model X.prog X.w) X.A (eval e X.env) (EP X pins σ Q) X.xe s
def PT (X:Cx)(e:Expr)(t:TT):Prop:=
 ∀(pins:List (Addr×Obj)) (s:Cz) (σ:St) (H:Hp) (Q:Bool->Hp->Prop),Inv X pins σ H s->t σ H Q->wpAny (model X.prog X.w) X.A (isTrue e X.env (eval e X.env)) (TP X pins σ Q) X.xe s
def PW (X:Cx)(e:Expr)(t:TT):Prop:=
 ∀(whole:Sem CB) (pins:List (Addr×Obj)) (s:Cz) (σ:St) (H:Hp) (Q:Bool->Hp->Prop),Inv X pins σ H s->t σ H Q->wpAny (model X.prog X.w) X.A (isTrue e X.env whole) (TP X pins σ Q) X.xe s
theorem PW.pt {X:Cx}{e:Expr}{t:TT}(h:PW X e t):PT X e t:=h _
def PA (X:Cx)(es:List Expr)(t:TA):Prop:=
 ∀(pos:Pos) (pins:List (Addr×Obj)) (s:Cz) (σ:St) (H:Hp) (Q:List V->Hp->Prop),Inv X pins σ H s->t σ H Q->wpAny (model X.prog X.w) X.A (spliced (backTo pos (CV es X.env))) (AP X pins σ Q) X.xe s
def PS (X:Cx)(st:Stmt)(t:TS):Prop:=
 ∀(pins:List (Addr×Obj)) (s:Cz) (σ:St) (H:Hp) (D:Ends),Inv X pins σ H s->t D σ H->wpAny (model X.prog X.w) X.A (exec st X.env) (SP X pins D) X.xe s
def PSs (X:Cx)(st:List Stmt)(t:TS):Prop:=
 ∀(pins:List (Addr×Obj)) (s:Cz) (σ:St) (H:Hp) (D:Ends),Inv X pins σ H s->t D σ H->wpAny (model X.prog X.w) X.A (execs st X.env) (SP X pins D) X.xe s
theorem bF {α:Type}{t:Sem α}{Q Q':α->Cz->Prop}{M:HB}{A:Dj}{E:CB->Cz->Prop}{s:Cz}(h:wpAny M A t Q E s)(hQ:∀a s,Q a s->Q' a s):wpAny M A t Q' E s:=DP h hQ λ_ _ x=>x
section
variable {X:Cx}
def rG (i:Nat):TE:=λσ H Q=> ∃v,σ[i]? =some (some v)/\Q v H
def tC (v:V):TE:=λ_ H Q=>Q v H
theorem jm {i:Nat}{x:Str}{pos:Pos}(hN:X.N[i]? =some x)(hv:qK X.env.scope x)(hd:autoParam ((x == ("__debug__" : Str))=false) s_)(hcd:autoParam ((x == ("__classdict__" : Str))=false) s_):PE X (.Name x pos) (rG i):=by
 intro pins s σ H Q I h;obtain⟨v,e,h⟩:=h;obtain⟨m,hn,hl⟩:=I.loc;obtain⟨u,r,l⟩:=hl i x v hN e hv
 have fin:EP X pins σ Q u s:=⟨v,H,I,r,h⟩;rcases l with⟨hk,hm⟩ | ⟨hk,c,hc,hcell⟩
 ·exact JY (IL I.ok.kind hk hn hm fin) hd
 ·rcases hk with hk | hk
  ·exact JY (wpAny_loadName_cell I.ok.kind hk hc hcell fin) hd
  ·exact JY (wpAny_loadName_free I.ok.kind hk hc hcell fin hcd) hd
theorem n4 {i j pos}:PE X (.Constant (.int i) j pos) (tC (.int i)):=λ_ _ _ H _ I h=>wpAny_Constant_int ⟨.int i,H,I.tok _,⟨_,rfl⟩,h⟩
theorem sA {b j pos}:PE X (.Constant (.bool b) j pos) (tC (.bl b)):=λ_ _ _ H _ I h=>Constant_bool ⟨.bl b,H,I,rfl,h⟩
theorem yq {j pos}:PE X (.Constant .none j pos) (tC .non):=λ_ _ _ H _ I h=>Constant_none ⟨.non,H,I,rfl,h⟩
theorem sk {x j pos}:PE X (.Constant (.str x) j pos) (tC (.str x)):=λ_ _ _ H _ I h=>Je ⟨.str x,H,I.tok _,⟨_,rfl⟩,h⟩
def Gl (X:Cx)(x:Str):Prop:=X.env.kindOf x=some .globalImplicit
theorem fh {E:CB->Cz->Prop}{pins:List (Addr×Obj)}{s:Cz}{σ:St}{H:Hp}{x:Str}{u:CB}{pos:Pos}{Q:CB->Cz->Prop}(I:Inv X pins σ H s)(hg:Gl X x)(hm:X.mg x=some u)(h:Q u s)
  (hd:autoParam ((x == ("__debug__" : Str))=false) s_):wpAny (model X.prog X.w) X.A (eval (.Name x pos) X.env) Q E s:=
 GW I.ok.kind hg (Calls.loadGlobal_global (by rw[I.ok.glob];exact I.mod.glob.keeps I.bk) hm h) hd
theorem dA {E:CB->Cz->Prop}{pins:List (Addr×Obj)}{s:Cz}{σ:St}{H:Hp}{x:Str}{u:CB}{pos:Pos}{Q:CB->Cz->Prop}(I:Inv X pins σ H s)(hg:Gl X x)(hm:X.mg x=none)(hv:Dh x=some u)(h:Q u s)
  (hn:autoParam (x≠ "__name__") s_) (hd:autoParam ((x == ("__debug__" : Str))=false) s_):wpAny (model X.prog X.w) X.A (eval (.Name x pos) X.env) Q E s:=by
 obtain⟨mb,h1,h2⟩:=I.mod.blt;exact GW I.ok.kind hg (Calls.loadGlobal_builtin (by rw[I.ok.glob];exact I.mod.glob.keeps I.bk) hm (by rw[I.ok.blt];exact h1.keeps I.bk) ((h2 x hn).trans hv) h) hd
theorem o5 {x:Str}{v:V}{u:CB}{pos:Pos}(hg:Gl X x)(hm:X.mg x=some u)(r:RelV v u)(hd:autoParam ((x == ("__debug__" : Str))=false) s_):PE X (.Name x pos) (tC v):=
 λ_ _ _ H _ I h=>fh I hg hm ⟨v,H,I,r,h⟩ hd
theorem o7 {x:Str}{v:V}{u:CB}{pos:Pos}(hg:Gl X x)(hm:X.mg x=none)(hv:Dh x=some u)(r:RelV v u)(hn:autoParam (x≠ "__name__") s_)(hd:autoParam ((x == ("__debug__" : Str))=false) s_):PE X (.Name x pos) (tC v):=
 λ_ _ _ H _ I h=>dA I hg hm hv ⟨v,H,I,r,h⟩ hn hd
variable {a b:Expr}{ta tb:TE}{pos:Pos}
def tB (t:TE):TT:=λσ H Q=>t σ H λx H1=> ∃c,x= .bl c/\Q c H1
theorem sd {e:Expr}{t:TE}(h:PE X e t)(he:autoParam (∀whole,isTrue e X.env whole=(do let v <-whole;standAt e.pos;holding [v] (truthy v))) t_):PT X e (tB t):=by
 intro pins s σ H Q I hw;refine isTrue_plain (bF (h pins s σ H _ I hw) λv s1 ⟨x,H1,I1,r1,q1⟩=> ?_) (he _)
 obtain⟨d,rfl,q⟩:=q1;cases r1;exact DZ ⟨H1,I1,q⟩
variable {tA tB':TT}{rest:List Expr}
def tOr (t u:TT):TT:=λσ H Q=>t σ H λc H1=>if c=true then Q true H1 else u σ H1 Q
def tNot (t:TT):TT:=λσ H Q=>t σ H λc H1=>Q (!c) H1
theorem r9 (ha:PT X a tA):PW X (.BoolOp .Or [a] pos) tA:=by
 intro wh pins s σ H Q I h;refine isTrue_or (bF (ha pins s σ H Q I h) λc s1 e=> ?_)
 cases c with
 | false=>exact isTrue_or_nil e
 | true=>exact e
theorem wZ (ha:PT X a tA)(hb:PW X (.BoolOp .Or (b::rest) pos) tB'):PW X (.BoolOp .Or (a::b::rest) pos) (tOr tA tB'):=by
 intro wh pins s σ H Q I h;refine isTrue_or (bF (ha pins s σ H _ I h) λc s1 hh_=> ?_)
 obtain⟨H1,I1,q1⟩:=hh_
 cases c with
 | true=>exact⟨H1,I1,q1⟩
 | false=>exact hb wh pins s1 σ H1 Q I1 q1
theorem se (ha:PT X a tA):PT X (.UnaryOp .Not a pos) (tNot tA):=by
 intro pins s σ H Q I h;exact isTrue_not (ha pins s σ H (λc H1=>Q (!c) H1) I h)
def z7 (ta tb:TE):TE:=λσ H Q=>ta σ H λx H1=> ∃c,x= .bl c/\if c=true then tb σ H1 Q else Q (.bl false) H1
def tOrV (ta tb:TE):TE:=λσ H Q=>ta σ H λx H1=> ∃c,x= .bl c/\if c=true then Q (.bl true) H1 else tb σ H1 Q
def zW (ta:TE):TE:=λσ H Q=>ta σ H λx H1=> ∃c,x= .bl c/\Q (.bl (!c)) H1
theorem yo {op}{t:TE}(h:PE X a t):PE X (.BoolOp op [a] pos) t:=λpins s σ H Q I hw=>BoolOp_one (h pins s σ H Q I hw)
theorem yu (ha:PE X a ta)(hb:PE X (.BoolOp .And (b::rest) pos) tb):PE X (.BoolOp .And (a::b::rest) pos) (z7 ta tb):=by
 intro pins s σ H Q I h;refine BoolOp_and (bF (ha pins s σ H _ I h) λv s1 hh_=> ?_)
 obtain⟨x,H1,I1,r1,q1⟩:=hh_;obtain⟨c,rfl,q1⟩:=q1;cases r1;refine DZ ?_
 cases c with
 | true=>exact hb pins s1 σ H1 Q I1 q1
 | false=>exact⟨.bl false,H1,I1,rfl,q1⟩
theorem Ay (ha:PE X a ta)(hb:PE X (.BoolOp .Or (b::rest) pos) tb):PE X (.BoolOp .Or (a::b::rest) pos) (tOrV ta tb):=by
 intro pins s σ H Q I h;refine BoolOp_or (bF (ha pins s σ H _ I h) λv s1 hh_=> ?_)
 obtain⟨x,H1,I1,r1,q1⟩:=hh_;obtain⟨c,rfl,q1⟩:=q1;cases r1;refine DZ ?_
 cases c with
 | false=>exact hb pins s1 σ H1 Q I1 q1
 | true=>exact⟨.bl true,H1,I1,rfl,q1⟩
theorem yp (ha:PE X a ta):PE X (.UnaryOp .Not a pos) (zW ta):=by
 intro pins s σ H Q I h;refine UnaryOp_ (bF (ha pins s σ H _ I h) λv s1 hh_=> ?_)
 obtain⟨x,H1,I1,r1,q1⟩:=hh_;obtain⟨c,rfl,q1⟩:=q1;cases r1;exact not_of (DZ ⟨.bl (!c),H1,I1,rfl,q1⟩)
def tIf (t:TT)(ta tb:TE):TE:=λσ H Q=>t σ H λc H1=>if c=true then ta σ H1 Q else tb σ H1 Q
theorem sy {c:Expr}(hc:PT X c tA)(ha:PE X a ta)(hb:PE X b tb):PE X (.IfExp c a b pos) (tIf tA ta tb):=by
 intro pins s σ H Q I h;refine wpAny_IfExp (bF (hc pins s σ H _ I h) λd s1 hh_=> ?_)
 obtain⟨H1,I1,q1⟩:=hh_
 cases d with
 | true=>exact ha pins s1 σ H1 Q I1 q1
 | false=>exact hb pins s1 σ H1 Q I1 q1
end
def SqL (K:CA)(H:Hp)(a:Addr)(xs:List V):Prop:=
 Rd H a (.lst xs) ∨
  ∃(o:Obj) (its:Array CB) (n:Nat),K.lookup a=some o/\o.cls= .type "list"/\o.dict=none/\o.data= .seq its n/\its.size<=sizeLine/\Vals xs its.toList
def SqT (K:CA)(H:Hp)(a:Addr)(xs:List V):Prop:=
 Rd H a (.tup xs) ∨
  ∃(o:Obj) (its:Array CB) (n:Nat),K.lookup a=some o/\o.cls= .type "tuple"/\o.data= .seq its n/\its.size<=sizeLine/\Vals xs its.toList
def absV:CB->Option V
 | .none=>some .non
 | .bool b=>some (.bl b)
 | .int i _=>some (.int i)
 | .str x _=>some (.str x)
 | .bytes b _=>some (.byt b)
 | .float b _=>some (.flt b)
 | .ref a=>some (.ref a)
 | .type n=>some (.ty n)
 | _=>none
theorem RelV.abs {x:V}{u:CB}(r:RelV x u):absV u=some x:=by
 cases x with
 | non=>cases r;rfl
 | bl _=>cases r;rfl
 | int _=>obtain⟨t,rfl⟩:=r;rfl
 | str _=>obtain⟨t,rfl⟩:=r;rfl
 | byt _=>obtain⟨t,rfl⟩:=r;rfl
 | flt _=>obtain⟨t,rfl⟩:=r;rfl
 | ref _=>cases r;rfl
 | ty _=>cases r;rfl
theorem RelV.inj {x y:V}{u:CB}(r:RelV x u)(q:RelV y u):x=y:=Dr (r.abs.symm.trans q.abs)
theorem Vals.inj:∀{xs ys:List V} {us:List CB},Vals xs us->Vals ys us->xs=ys
 | _,_,_,.nil,.nil=>rfl
 | _,_,_,.cons r t,.cons r' t'=>by rw[r.inj r',Vals.inj t t']
section
variable {X:Cx}{pins:List (Addr×Obj)}{σ:St}{H:Hp}{s:Cz}{a:Addr}{xs ys:List V}
theorem SqL.of {K:CA}(h:H a=some (.lst xs)):SqL K H a xs:=.inl (.inl h)
theorem SqT.of {K:CA}(h:H a=some (.tup xs)):SqT K H a xs:=.inl (.inl h)
theorem Inv.list (I:Inv X pins σ H s)(h:SqL X.K H a xs):∃its:List CB,Vals xs its/\PlainL s.heap a its.toArray/\xs.length<=sizeLine:=by
 rcases h with h | ⟨o,its,n,hk,hc,hd,hs,hz,r⟩
 ·obtain⟨z,its,n,r,e⟩:=h.ok I.hok
  exact⟨its,r,⟨_,n,e,rfl,rfl,rfl⟩,z⟩
 ·refine⟨its.toList,r,⟨o,n,I.kIn a o hk,hc,hd,by simpa using hs⟩,?_⟩
  have e:=r.length;simp only[DQ]at e;omega
theorem Inv.tuple (I:Inv X pins σ H s)(h:SqT X.K H a xs):∃its:List CB,Vals xs its/\KU s.heap a its.toArray/\xs.length<=sizeLine:=by
 rcases h with h | ⟨o,its,n,hk,hc,hs,hz,r⟩
 ·obtain⟨z,its,r,p⟩:=h.ok I.hok
  exact⟨its,r,p,z⟩
 ·refine⟨its.toList,r,⟨o,I.kIn a o hk,hc,n,by simpa using hs⟩,?_⟩
  have e:=r.length;simp only[DQ]at e;omega
theorem Inv.B2 (I:Inv X pins σ H s)(h:SqL X.K H a xs)(h':SqL X.K H a ys):xs=ys:=by
 obtain⟨its,r,⟨o,n,e,_,_,d⟩,_⟩:=I.list h;obtain⟨its',r',⟨o',n',e',_,_,d'⟩,_⟩:=I.list h';rw[e]at e';cases e';rw[d]at d';injection d' with d1 _
 have:its=its':=by simpa using congrArg Ih d1
 subst this;exact r.inj r'
theorem Inv.BY (I:Inv X pins σ H s)(h:SqT X.K H a xs)(h':SqT X.K H a ys):xs=ys:=by
 obtain⟨its,r,⟨o,e,_,n,d⟩,_⟩:=I.tuple h;obtain⟨its',r',⟨o',e',_,n',d'⟩,_⟩:=I.tuple h';rw[e]at e';cases e';rw[d]at d';injection d' with d1 _
 have:its=its':=by simpa using congrArg Ih d1
 subst this;exact r.inj r'
end
abbrev Cx.BM (X:Cx)(E:CB->Cz->Prop):Cx:={ X with xe:=E }
abbrev Cx.nox (X:Cx):Cx:=X.BM λ_ _=>False
theorem Cx.Ok.BM {X:Cx}(ok:X.Ok)(E:CB->Cz->Prop):(X.BM E).Ok:=
 ⟨ok.mod,ok.kind,ok.glob,ok.blt,ok.above,ok.inj,ok.has,ok.cab,ok.hd,ok.frames,ok.stk,ok.exf,ok.bs,ok.bsz,ok.noex,ok.exfs,ok.funs,ok.frf⟩
theorem Cx.Ok.BR {X:Cx}{E:CB->Cz->Prop}(ok:(X.BM E).Ok):X.Ok:=
 ⟨ok.mod,ok.kind,ok.glob,ok.blt,ok.above,ok.inj,ok.has,ok.cab,ok.hd,ok.frames,ok.stk,ok.exf,ok.bs,ok.bsz,ok.noex,ok.exfs,ok.funs,ok.frf⟩
section
variable {X:Cx}{pins:List (Addr×Obj)}{σ:St}{H:Hp}{s:Cz}{E:CB->Cz->Prop}
theorem Inv.BM (I:Inv X pins σ H s)(E:CB->Cz->Prop):Inv (X.BM E) pins σ H s:=⟨I.ok.BM E,I.os,I.bare,I.base,I.loc,I.cell,I.free,I.freeC,I.pin,I.hok,I.len⟩
theorem Inv.BR (I:Inv (X.BM E) pins σ H s):Inv X pins σ H s:=⟨I.ok.BR,I.os,I.bare,I.base,I.loc,I.cell,I.free,I.freeC,I.pin,I.hok,I.len⟩
theorem SP.BR {D:Ends}{f:Flow}{s':Cz}(h:SP (X.BM E) pins D f s'):SP X pins D f s':=by
 cases f with
 | next=>obtain⟨σ',H',I,q⟩:=h;exact⟨σ',H',I.BR,q⟩
 | brk=>obtain⟨σ',H',I,q⟩:=h;exact⟨σ',H',I.BR,q⟩
 | cont=>obtain⟨σ',H',I,q⟩:=h;exact⟨σ',H',I.BR,q⟩
 | ret u=>obtain⟨v,σ',H',I,r,q⟩:=h;exact⟨v,σ',H',I.BR,r,q⟩
theorem PSs.nox {st:List Stmt}{t:TS}(h:PSs X.nox st t):PSs X st t:=λpins s σ H D I hw=>
 DP (h pins s σ H D (I.BM _) hw) (λ_ _ q=>q.BR) λ_ _ z=>Em z
end
section
variable {X:Cx}{st:Stmt}{rest:List Stmt}{t u:TS}{e:Expr}{te:TE}{pos:Pos}
def zX:TS:=λD σ H=>D.nx σ H
def zT (t u:TS):TS:=λD σ H=>t { D with nx:=u D } σ H
theorem oZ:PSs X [] zX:=λ_ _ σ H _ I h=>FC ⟨σ,H,I,h⟩
theorem gL (h1:PS X st t)(h2:PSs X rest u):PSs X (st::rest) (zT t u):=by
 intro pins s σ H D I h;refine HV (bF (h1 pins s σ H { D with nx:=u D } I h) λf s1 q=> ?_)
 cases f with
 | next=>
  obtain⟨σ',H',I',q⟩:=q
  exact h2 pins s1 σ' H' D I' q
 | ret v=>exact q
 | brk=>exact q
 | cont=>exact q
theorem dH (h1:PS X st t):PSs X [st] t:=by
 intro pins s σ H D I h;refine HV (bF (h1 pins s σ H D I h) λf s1 q=> ?_)
 cases f with
 | next=>exact FC q
 | ret v=>exact q
 | brk=>exact q
 | cont=>exact q
theorem Inv.quiet {pins:List (Addr×Obj)}{σ:St}{H:Hp}{s:Cz}(I:Inv X pins σ H s):interactive X.env=false:=by simp[interactive,I.ok.kind]
def zZ (te:TE):TS:=λD σ H=>te σ H λ_ H1=>D.nx σ H1
theorem vj (he:PE X e te)(hs:autoParam (F9 e none pos.line X.env=pure false) u_):PS X (.Expr e pos) (zZ te):=by
 intro pins s σ H D I h;exact wpAny_Expr_any (bF (he pins s σ H _ I h) λv s1 ⟨x,H1,I1,r1,q1⟩=>⟨σ,H1,I1,q1⟩) I.quiet hs
def zU (te:TE):TS:=λD σ H=>te σ H D.rt
theorem fE (he:PE X e te):PS X (.Return (some e) pos) (zU te):=by
 intro pins s σ H D I h;exact JZ (bF (he pins s σ H _ I h) λv s1 ⟨x,H1,I1,r1,q1⟩=>⟨x,σ,H1,I1,r1,q1⟩)
def zY (c:TT)(t u:TS):TS:=λD σ H=>c σ H λb H1=>if b=true then t D σ H1 else u D σ H1
theorem w4 {c:Expr}{a b:List Stmt}{tc:TT}(hc:PT X c tc)(ha:PSs X a t)(hb:PSs X b u):PS X (.If c a b pos) (zY tc t u):=by
 intro pins s σ H D I h;refine wpAny_If (bF (hc pins s σ H _ I h) λd s1 hh_=> ?_)
 obtain⟨H1,I1,q1⟩:=hh_
 cases d with
 | true=>exact ha pins s1 σ H1 D I1 q1
 | false=>exact hb pins s1 σ H1 D I1 q1
def xI:TS:=λ_ _ _=>False
theorem sg:PS X st xI:=λ_ _ _ _ _ _ h=>h.elim
end
abbrev TG:=V->St->Hp->(St->Hp->Prop)->Prop
abbrev wK:=List V->St->Hp->(St->Hp->Prop)->Prop
def PG (X:Cx)(target:Expr)(t:TG):Prop:=
 ∀(pins:List (Addr×Obj)) (s:Cz) (σ:St) (H:Hp) (v:V) (u:CB) (Q:St->Hp->Prop),Inv X pins σ H s->RelV v u->t v σ H Q →
  wpAny (model X.prog X.w) X.A (assign target X.env u) (λ_ s'=> ∃σ' H',Inv X pins σ' H' s'/\Q σ' H') X.xe s
def PGs (X:Cx)(ts:List Expr)(t:wK):Prop:=
 ∀(pins:List (Addr×Obj)) (s:Cz) (σ:St) (H:Hp) (vs:List V) (us:List CB) (Q:St->Hp->Prop),Inv X pins σ H s->Vals vs us->t vs σ H Q →
  wpAny (model X.prog X.w) X.A (assignInOrder ((Es ts X.env).map (·.2)) us) (λ_ s'=> ∃σ' H',Inv X pins σ' H' s'/\Q σ' H') X.xe s
section
variable {X:Cx}{pos:Pos}
def pD (i:Nat):TG:=λv σ H Q=>Q (σ.set i (some v)) H
theorem vz {i:Nat}{x:Str}(hN:X.N.Nodup)(hi:X.N[i]? =some x)(hx:Loc X.env.scope x)(hf:autoParam (X.fn x=true\/X.env.scope.names.lookup x=some .local) r_):PG X (.Name x pos) (pD i):=by
 intro pins s σ H v u Q I r h;exact HC (je I hN hi hx r (λs' I'=>⟨_,H,I',h⟩) hf)
def gNil:wK:=λvs σ H Q=>vs= []/\Q σ H
def A5 (t:TG)(u:wK):wK:=λvs σ H Q=> ∃v r,vs=v::r/\t v σ H λσ' H'=>u r σ' H' Q
theorem vt:PGs X [] gNil:=by
 intro pins s σ H vs us Q I r h;obtain⟨e,h⟩:=h;subst e;cases r;exact assignInOrder_nil ⟨σ,H,I,h⟩
theorem si {e:Expr}{es:List Expr}{t:TG}{u:wK}(h1:PG X e t)(h2:PGs X es u)
  (hs:autoParam ((Es (e::es) X.env).map (·.2)=assign e X.env::(Es es X.env).map (·.2)) u_):PGs X (e::es) (A5 t u):=by
 intro pins s σ H vs us Q I r h;obtain⟨v,vr,e1,h⟩:=h;subst e1
 cases r with
 | cons r rr=>
  rw[hs];refine assignInOrder_cons (bF (h1 pins s σ H _ _ _ I r h) λ_ s1 hh_=> ?_)
  obtain⟨σ1,H1,I1,q1⟩:=hh_;exact h2 pins s1 σ1 H1 _ _ Q I1 rr q1
def gTup (K:CA)(n:Nat)(t:wK):TG:=λv σ H Q=> ∃a xs,v= .ref a/\SqT K H a xs/\xs.length=n/\t xs σ H Q
theorem yn {es:List Expr}{k:Nat}{t:wK}{n:Nat}(hc:X.calm=true)(h:PGs X es t)
  (hn:autoParam ((Es es X.env).length=n) u_) (hst:autoParam ((Es es X.env).findIdx? (·.1)=none) u_):PG X (.Tuple es k pos) (gTup X.K n t):=by
 intro pins s σ H v u Q I r hw;obtain⟨a,xs,e1,hq,hl,hw⟩:=hw;subst e1;cases r;obtain⟨its,rv,ht,hz⟩:=I.tuple hq;refine assign_Tuple_tuple (I.ok.hd hc) ht (by simp[hn,<-hl,rv.length]) hst λh' hx=> ?_
 have I1:Inv X pins σ H { s with heap:=h' }:=I.kept (t':=s.toks) λb o e=>hx b o (Dg (CN e)) e
 exact h pins _ σ H xs _ Q I1 (by simpa using rv) hw
def rJ (te:TE)(g:TG):TS:=λD σ H=>te σ H λx H1=>g x σ H1 D.nx
theorem yk {tg e:Expr}{te:TE}{g:TG}(he:PE X e te)(hg:PG X tg g)(hs:autoParam (Ju [tg] e pos.line X.env=pure false) u_)(hw:autoParam (Jv [tg] e X.env=pure none) u_)
  (h1:autoParam ((Es [tg] X.env).map (·.2)= [assign tg X.env]) u_):PS X (.Assign [tg] e pos) (rJ te g):=by
 intro pins s σ H D I h;refine wpAny_Assign_stores (bF (he pins s σ H _ I h) λv s1 ⟨x,H1,I1,r1,q1⟩=> ?_) hs hw
 rw[h1];exact bF (hg pins s1 σ H1 x v _ I1 r1 q1) λ_ s2 q=>q
theorem sf {i:Nat}{x:Str}{e:Expr}{te:TE}{pos':Pos}(hN:X.N.Nodup)(hi:X.N[i]? =some x)(hx:Loc X.env.scope x)(he:PE X e te)(hs:autoParam (F9 e (some (.Name x pos')) pos.line X.env=pure false) u_)(hf:autoParam (X.fn x=true\/X.env.scope.names.lookup x=some .local) r_) :
  PS X (.Assign [.Name x pos'] e pos) (rJ te (pD i)):=by
 intro pins s σ H D I h;refine wpAny_Assign_Name (bF (he pins s σ H _ I h) λv s1 ⟨y,H1,I1,r1,q1⟩=> ?_) hs
 exact je I1 hN hi hx r1 (λs2 I2=>⟨_,H1,I2,q1⟩) hf
end
structure It where
 go:Nat->Hp->Prop
 yld:Nat->Hp->V->Hp->Prop
 stop:Nat->Hp->Prop
def iU (X:Cx)(pins:List (Addr×Obj))(H:Hp)(b:Addr):Prop:=
 H b=none/\b≠X.env.locals/\b∉X.fs/\(b∈X.ex\/X.s₀.heap.objs.size<=b)/\(∀x c,X.env.cells.lookup x=some c->c≠b)/\∀p∈X.pn++pins,p.1≠b
theorem Inv.B8 {X:Cx}{pins:List (Addr×Obj)}{σ:St}{H H':Hp}{s:Cz}{b:Addr}(I:Inv X pins σ H s)(hb:s.heap.objs.size<=b)(hn:H' b=none):iU X pins H' b:=by
 refine⟨hn,Fc (CS I.lt hb),I.Cu hb,.inr (Dk I.sz hb),λx c e z=> ?_,λp hp z=> ?_⟩
 ·obtain⟨v,q⟩:=I.cell x c e
  exact absurd (CS q.lt (by rw[z];exact hb)) (C9 _)
 ·exact absurd (CS (CN (I.pin p hp).1) (by rw[z];exact hb)) (C9 _)
structure uf (P:C4)(w:Du)(K:CA)(tg:Expr)(J:It)(fp:List Addr)(it:Addr)(tn:Nat->Heap->Prop):Prop where
 mem:it∈fp
 obj:∀i h,tn i h->∀b∈fp,∃o,h.get? b=some o/\∀v,o.data≠ .cell v
 keep:∀i h h',tn i h->(∀b∈fp,∀o,h.get? b=some o->h'.get? b=some o)->tn i h'
 item:∀(X:Cx),X.prog=P->X.w=w->X.K=K->X.calm=true->∀(i:Nat) (pins:List (Addr×Obj)) (s:Cz) (σ:St) (H:Hp) (E:CB->Cz->Prop),Inv X pins σ H s->(∀b∈fp,iU X pins H b)->tn i s.heap->J.go i H →
  wpAny (model P w) X.A (pyNext (.ref it)) (λr s1=> ∃u,r=some u ∧
   wpAny (model P w) X.A (FD tg (.ref it) u) (λ_ s2=> ∃x H',Inv X pins σ H' s2/\RelV x u/\J.yld i H x H'/\tn (i+1) s2.heap/\∀b∈fp,H' b=none) E s1) E s
 done:∀(X:Cx),X.prog=P->X.w=w->X.K=K->X.calm=true->∀(i:Nat) (pins:List (Addr×Obj)) (s:Cz) (σ:St) (H:Hp) (E:CB->Cz->Prop),Inv X pins σ H s->(∀b∈fp,iU X pins H b)->tn i s.heap->J.stop i H →
  wpAny (model P w) X.A (pyNext (.ref it)) (λr s1=>r=none/\Inv X pins σ H s1) E s
 self:∀(A:Dj) (i:Nat) (s:Cz) (Q:CB->Cz->Prop) (E:CB->Cz->Prop),tn i s.heap->Q (.ref it) s->wpAny (model P w) A (pyIter (.ref it)) Q E s
abbrev TI:=St->Hp->(It->Hp->Prop)->Prop
def PIE (X:Cx)(pins:List (Addr×Obj))(σ:St)(tg:Expr)(R:It->Hp->Prop)(itv:CB)(s2:Cz):Prop:=
 ∃(it:Addr) (fp:List Addr) (tn:Nat->Heap->Prop) (J:It) (H':Hp),itv= .ref it/\Inv X pins σ H' s2/\uf X.prog X.w X.K tg J fp it tn/\tn 0 s2.heap/\(∀b∈fp,iU X pins H' b)/\R J H'
def PI (X:Cx)(tg iter:Expr)(wi:TI):Prop:=
 ∀(pins:List (Addr×Obj)) (s:Cz) (σ:St) (H:Hp) (R:It->Hp->Prop),Inv X pins σ H s->wi σ H R →
  wpAny (model X.prog X.w) X.A (eval iter X.env) (λv s1=>wpAny (model X.prog X.w) X.A (pyIter v) (PIE X pins σ tg R) X.xe s1) X.xe s
theorem tL {M:HB}{A:Dj}{E:CB->Cz->Prop}{s:Cz}{tg:Expr}{it:Addr}{u:CB}{o:Obj}{n:String}{vs:Array CB}{Q:Unit->Cz->Prop}(ho:s.heap.get? it=some o)(hc:o.cls= .type n)(hd:o.data= .fields vs)
  (hn:["enumerate","zip","dict_itemiterator","dict_reverseitemiterator","odict_iterator","itertools.zip_longest","itertools.pairwise"].contains n=false) (hQ:Q () s):wpAny M A (FD tg (.ref it) u) Q E s:=by
 unfold FD
 cases tg <;> first
  | exact CD hQ
  | (cases u <;> first
    | exact CD hQ
    | (refine Cy (wpAny_load ho ?_)
       rw[hc,hd]
       show wpAny M A (if (["enumerate","zip","dict_itemiterator","dict_reverseitemiterator","odict_iterator","itertools.zip_longest","itertools.pairwise"].contains n&&vs[0]? == some (rawInt _))=true then _ else _) Q E s
       rw[if_neg (by intro h;rw[hn,Ha]at h;cases h)]
       exact CD hQ))
def Itl (K:CA)(a:Addr):It:=
 ⟨λi H=> ∃xs x,SqL K H a xs/\xs[i]? =some x,λi H x H'=>H'=H/\∀xs,SqL K H a xs->xs[i]? =some x,λi H=> ∃xs,SqL K H a xs/\xs.length<=i⟩
def Itt (K:CA)(a:Addr):It:=
 ⟨λi H=> ∃xs x,SqT K H a xs/\xs[i]? =some x,λi H x H'=>H'=H/\∀xs,SqT K H a xs->xs[i]? =some x,λi H=> ∃xs,SqT K H a xs/\xs.length<=i⟩
def Itr (lo:Int)(n:Nat):It:=⟨λi _=>i<n,λi H x H'=>H'=H/\x= .int (lo+i),λi _=>n<=i⟩
theorem p0 {P:C4}{w:Du}{K:CA}{tg:Expr}(a it:Addr):uf P w K tg (Itl K a) [it] it (λi h=>h.IsListIter it a i) where
 mem:=by simp
 obj:=λi h st b hb=>by
  have e:b=it:=by simpa using hb
  subst e;obtain⟨o,e,c,d⟩:=st;exact⟨o,e,λv z=>by rw[d]at z;cases z⟩
 keep:=λi h h' st k=>st.at λo e=>k it (by simp) o e
 item:=by
  intro X hP hw hK hc i pins s σ H E I hf st hg;subst hP hw hK;obtain⟨xs,x,hq,hx⟩:=hg;obtain⟨its,rv,p,hz⟩:=I.list hq;obtain⟨u,hu,ru⟩:=rv.get hx;obtain⟨f0,f1,f2,f3,f4,f5⟩:=hf it (by simp)
  refine wpAny_pyNext_list_item st p.isList (x:=u) (by simpa using hu) λh' st' sb=> ?_
  have I1:Inv X pins σ H { s with heap:=h' }:=I.turned (t':=s.toks) (λb o hb e=>(sb.2 b hb).trans e) f0 f1 f3 f4 f5
  obtain⟨o,e,c,d⟩:=id st';exact⟨u,rfl,tL (s:={ s with heap:=h' }) e c d (by decide) ⟨x,H,I1,ru,⟨rfl,λys hy=>by rw[I.B2 hy hq];exact hx⟩,st',λb hb=>(hf b hb).1⟩⟩
 done:=by
  intro X hP hw hK hc i pins s σ H E I hf st hg;subst hP hw hK;obtain⟨xs,hq,hx⟩:=hg;obtain⟨its,rv,p,hz⟩:=I.list hq;obtain⟨f0,f1,f2,f3,f4,f5⟩:=hf it (by simp)
  have hl:=rv.length;exact wpAny_pyNext_list_end (I.ok.hd hc) st p.isList (by simp;omega) λh' eb=>⟨rfl,I.turned (t':=s.toks) (λb o hb e=>eb b o hb e) f0 f1 f3 f4 f5⟩
 self:=λ_ _ _ _ _ st h=>wpAny_pyIter_listiter st h
theorem nM {P:C4}{w:Du}{K:CA}{tg:Expr}(a it:Addr):uf P w K tg (Itt K a) [it] it (λi h=>h.IsTupleIter it a i) where
 mem:=by simp
 obj:=λi h st b hb=>by
  have e:b=it:=by simpa using hb
  subst e;obtain⟨o,e,c,d⟩:=st;exact⟨o,e,λv z=>by rw[d]at z;cases z⟩
 keep:=λi h h' st k=>st.at λo e=>k it (by simp) o e
 item:=by
  intro X hP hw hK hc i pins s σ H E I hf st hg;subst hP hw hK;obtain⟨xs,x,hq,hx⟩:=hg;obtain⟨its,rv,p,hz⟩:=I.tuple hq;obtain⟨u,hu,ru⟩:=rv.get hx;obtain⟨f0,f1,f2,f3,f4,f5⟩:=hf it (by simp)
  refine wpAny_pyNext_tuple_item st (show s.heap.IsTuple a its.toArray from p) (x:=u) (by simpa using hu) λh' st' sb=> ?_
  have I1:Inv X pins σ H { s with heap:=h' }:=I.turned (t':=s.toks) (λb o hb e=>(sb.2 b hb).trans e) f0 f1 f3 f4 f5
  obtain⟨o,e,c,d⟩:=id st';exact⟨u,rfl,tL (s:={ s with heap:=h' }) e c d (by decide) ⟨x,H,I1,ru,⟨rfl,λys hy=>by rw[I.BY hy hq];exact hx⟩,st',λb hb=>(hf b hb).1⟩⟩
 done:=by
  intro X hP hw hK hc i pins s σ H E I hf st hg;subst hP hw hK;obtain⟨xs,hq,hx⟩:=hg;obtain⟨its,rv,p,hz⟩:=I.tuple hq;obtain⟨f0,f1,f2,f3,f4,f5⟩:=hf it (by simp)
  have hl:=rv.length;exact wpAny_pyNext_tuple_end (I.ok.hd hc) st (show s.heap.IsTuple a its.toArray from p) (by simp;omega) λh' eb=>⟨rfl,I.turned (t':=s.toks) (λb o hb e=>eb b o hb e) f0 f1 f3 f4 f5⟩
 self:=λ_ _ _ _ _ st h=>wpAny_pyIter_tupleiter st h
theorem nN {P:C4}{w:Du}{K:CA}{tg:Expr}(it:Addr)(lo:Int)(n:Nat):uf P w K tg (Itr lo n) [it] it (λi h=>IsRangeIter h it (lo+(i:Nat)*1) ((n:Int) - (i:Nat)) 1) where
 mem:=by simp
 obj:=λi h st b hb=>by
  have e:b=it:=by simpa using hb
  subst e
  exact⟨_,st,λv z=>by
   have z':Data.fields _=Data.cell v:=z;cases z'⟩
 keep:=λi h h' st k=>k it (by simp) _ st
 item:=by
  intro X hP hw hK hc i pins s σ H E I hf st hg;subst hP hw hK;obtain⟨f0,f1,f2,f3,f4,f5⟩:=hf it (by simp)
  have W:=Walks.range (prog:=X.prog) (w:=X.w) (I.ok.hd hc) it lo 1 n;refine W.item i s _ _ hg st λv h' tk hv st' kk=> ?_
  obtain⟨t,rfl⟩:=hv
  have I1:Inv X pins σ H { s with heap:=h',toks:=tk }:=I.turned (λb o hb e=>kk b o (by simpa using hb) e) f0 f1 f3 f4 f5
  refine⟨_,rfl,tL (s:={ s with heap:=h',toks:=tk }) (n:="range_iterator") st' rfl rfl (by decide) ⟨.int (lo+i),H,I1,⟨t,?_⟩,⟨rfl,rfl⟩,st',λb hb=>(hf b hb).1⟩⟩
  rw[Int.mul_one]
 done:=by
  intro X hP hw hK hc i pins s σ H E I hf st hg;subst hP hw hK;obtain⟨f0,f1,f2,f3,f4,f5⟩:=hf it (by simp)
  exact wpAny_pyNext_range_end (I.ok.hd hc) st (by have:n<=i:=hg;omega) λh' eb=>⟨rfl,I.turned (t':=s.toks) (λb o hb e=>eb b o hb e) f0 f1 f3 f4 f5⟩
 self:=λ_ _ _ _ _ st h=>wpAny_pyIter_rangeiter st h
section
variable {X:Cx}{tg:Expr}
def A4 (K:CA)(tl:TE):TI:=λσ H R=>tl σ H λx H1=> ∃a,x= .ref a/\(∃xs,SqL K H1 a xs)/\R (Itl K a) H1
def iTup (K:CA)(tl:TE):TI:=λσ H R=>tl σ H λx H1=> ∃a,x= .ref a/\(∃xs,SqT K H1 a xs)/\R (Itt K a) H1
theorem vp {l:Expr}{tl:TE}(hl:PE X l tl):PI X tg l (A4 X.K tl):=by
 intro pins s σ H R I h;refine bF (hl pins s σ H _ I h) λv s1 hh_=> ?_
 obtain⟨x,H1,I1,r1,q1⟩:=hh_;obtain⟨a,e,⟨xs,hq⟩,q⟩:=q1;subst e;cases r1;obtain⟨its,rv,p,hz⟩:=I1.list hq;refine HD p.isList ?_
 refine⟨s1.heap.objs.size,[s1.heap.objs.size],_,_,H1,rfl,I1.kept (t':=s1.toks) λb o e=>CG _ e,p0 a _,⟨_,CZ _ rfl,rfl,rfl⟩,λb hb=> ?_,q⟩
 have e:b=s1.heap.objs.size:=by simpa using hb
 subst e;exact I1.B8 (CM _) (I1.hok.fresh (CM _))
theorem ym {l:Expr}{tl:TE}(hl:PE X l tl):PI X tg l (iTup X.K tl):=by
 intro pins s σ H R I h;refine bF (hl pins s σ H _ I h) λv s1 hh_=> ?_
 obtain⟨x,H1,I1,r1,q1⟩:=hh_;obtain⟨a,e,⟨xs,hq⟩,q⟩:=q1;subst e;cases r1;obtain⟨its,rv,p,hz⟩:=I1.tuple hq;refine Ga (show s1.heap.IsTuple a its.toArray from p) ?_
 refine⟨s1.heap.objs.size,[s1.heap.objs.size],_,_,H1,rfl,I1.kept (t':=s1.toks) λb o e=>CG _ e,nM a _,⟨_,CZ _ rfl,rfl,rfl⟩,λb hb=> ?_,q⟩
 have e:b=s1.heap.objs.size:=by simpa using hb
 subst e;exact I1.B8 (CM _) (I1.hok.fresh (CM _))
theorem mI {pins:List (Addr×Obj)}{σ:St}{H:Hp}{s:Cz}{R:It->Hp->Prop}{E:CB->Cz->Prop}{lo hi:Int}{t u v:Tok}{tk:Nat}(I:Inv X pins σ H s)(h1 : -(2 ^ 62)<=lo)(h2:lo<2 ^ 62)(h3 : -(2 ^ 62)<=hi)(h4:hi<2 ^ 62)
  (q:R (Itr lo (hi - lo).toNat) H):wpAny (model X.prog X.w) X.A (pyIter (.ref s.heap.objs.size)) (PIE X pins σ tg R) E { s with heap:=s.heap.push { cls:=.type "range",data:=.fields #[.int lo t,.int hi u,.int 1 v] },toks:=tk }:=by
 refine wpAny_pyIter_range (IsRange.new ..) (small_one h1 h2 h3 h4) ?_
 have I1:Inv X pins σ H { s with heap:=s.heap.push { cls:=.type "range",data:=.fields #[.int lo t,.int hi u,.int 1 v] },toks:=tk }:=I.kept λb o e=>CG _ e
 refine⟨(s.heap.push { cls:=.type "range",data:=.fields #[.int lo t,.int hi u,.int 1 v] }).objs.size,[(s.heap.push { cls:=.type "range",data:=.fields #[.int lo t,.int hi u,.int 1 v] }).objs.size],_,_,H,rfl,
  I1.kept (t':=tk) λb o e=>CG _ e,nN _ lo (hi - lo).toNat,?_,λb hb=> ?_,q⟩
 ·have e1:lo+((0:Nat):Int)*1=lo:=by simp
  have e2:(((hi - lo).toNat:Nat):Int) - ((0:Nat):Int)=Builtin.Range.rangeSize lo hi 1:=by rw[rangeSize_one];split <;> omega
  show IsRangeIter _ _ (lo+((0:Nat):Int)*1) ((((hi - lo).toNat:Nat):Int) - ((0:Nat):Int)) 1
  rw[e1,e2];exact CZ _ rfl
 ·have e:b=(s.heap.push { cls:=.type "range",data:=.fields #[.int lo t,.int hi u,.int 1 v] }).objs.size:=by simpa using hb
  subst e;exact I1.B8 (CM _) (I1.hok.fresh (CM _))
def tFor (wi:TI)(g:TG)(tb:TS):TS:=λD σ H=>wi σ H λJ H1=> ∃W:Nat->Nat->St->Hp->Prop,(∃m,W 0 m σ H1)/\∀i m σ H,W i m σ H →
 (J.stop i H/\D.nx σ H)\/(J.go i H/\∃N:St->Hp->Prop,(∀σ' H',N σ' H'->∃m',m'<m/\W (i+1) m' σ' H')/\∀x H',J.yld i H x H'->g x σ H' λσ2 H2=>tb { D with nx:=N,ct:=N,bk:=D.nx } σ2 H2)
def ig (fp:List Addr)(h:Heap):List (Addr×Obj):=fp.filterMap λb=>(h.get? b).map λo=>(b,o)
theorem dh {fp:List Addr}{h:Heap}{b:Addr}{o:Obj}(hb:b∈fp)(e:h.get? b=some o):(b,o)∈ig fp h:=Jf.mpr ⟨b,hb,by rw[e];rfl⟩
theorem qj {fp:List Addr}{h:Heap}{p:Addr×Obj}(hp:p∈ig fp h):p.1∈fp/\h.get? p.1=some p.2:=by
 obtain⟨b,hb,e⟩:=Jf.mp hp
 cases q:h.get? b with
 | none=>rw[q]at e;cases e
 | some o=>
  rw[q]at e
  have e':(b,o)=p:=Dr e;subst e';exact⟨hb,q⟩
theorem Inv.pinned {pins:List (Addr×Obj)}{σ:St}{H:Hp}{s:Cz}{fp:List Addr}(I:Inv X pins σ H s)(hf:∀b∈fp,iU X pins H b)(ho:∀b∈fp,∃o,s.heap.get? b=some o/\∀v,o.data≠ .cell v):Inv X (pins++ig fp s.heap) σ H s:=
 I.B5 λp hp=>(CU.mp hp).elim (λz=>I.pin p (C2 _ z)) λz=>by
  obtain⟨hb,e⟩:=qj z;obtain⟨f0,f1,f2,_⟩:=hf p.1 hb;obtain⟨o,e',d⟩:=ho p.1 hb;rw[e]at e';cases e';exact⟨e,f0,f1,f2,d⟩
theorem Inv.BS {pins pl:List (Addr×Obj)}{σ:St}{H:Hp}{s:Cz}(I:Inv X (pins++pl) σ H s):Inv X pins σ H s:=I.B5 λp hp=>I.pin p (C2 _ (DC _ hp))
end
abbrev R2:=V->V->Hp->VK->Prop
def jY (X:Cx)(f:CB->CB->Sem CB)(r:R2):Prop:=
 ∀(pins:List (Addr×Obj)) (s:Cz) (σ:St) (H:Hp) (x y:V) (v u:CB) (Q:VK),Inv X pins σ H s->RelV x v->RelV y u->r x y H Q →
  wpAny (model X.prog X.w) X.A (f v u) (EP X pins σ Q) X.xe s
def UnR (X:Cx)(f:CB->Sem CB)(r:V->Hp->VK->Prop):Prop:=
 ∀(pins:List (Addr×Obj)) (s:Cz) (σ:St) (H:Hp) (x:V) (v:CB) (Q:VK),Inv X pins σ H s->RelV x v->r x H Q →
  wpAny (model X.prog X.w) X.A (f v) (EP X pins σ Q) X.xe s
def CallR (X:Cx)(f:CB)(r:List V->Hp->VK->Prop):Prop:=
 ∀(pins:List (Addr×Obj)) (s:Cz) (σ:St) (H:Hp) (xs:List V) (us:List CB) (Q:VK),Inv X pins σ H s->Vals xs us->r xs H Q →
  wpAny (model X.prog X.w) X.A (call f us) (EP X pins σ Q) X.xe s
def tOp (r:R2)(ta tb:TE):TE:=λσ H Q=>ta σ H λx H1=>tb σ H1 λy H2=>r x y H2 Q
def tUn (r:V->Hp->VK->Prop)(ta:TE):TE:=λσ H Q=>ta σ H λx H1=>r x H1 Q
def rI (C:Int->Int->Prop)(g:Int->Int->V):R2:=λx y H Q=> ∃i j,x= .int i/\y= .int j/\C i j/\Q (g i j) H
def wY (g:Int->Int->V):R2:=λx y H Q=> ∃i j,x= .int i/\y= .int j/\Q (g i j) H
def rU (g:Int->V):V->Hp->VK->Prop:=λx H Q=> ∃i,x= .int i/\Q (g i) H
section
variable {X:Cx}{a b c:Expr}{ta tb tc:TE}{pos:Pos}
theorem binT (ha:PE X a ta)(hb:PE X b tb){pins:List (Addr×Obj)}{s:Cz}{σ:St}{H:Hp}{R:V->V->Hp->Prop}(I:Inv X pins σ H s)
  (h:ta σ H λx H1=>tb σ H1 λy H2=>R x y H2) {Q:CB->Cz->Prop} {f:CB->CB->Sem CB}
  (hf:∀v u s2 x y H2,Inv X pins σ H2 s2->RelV x v->RelV y u->R x y H2->wpAny (model X.prog X.w) X.A (f v u) Q X.xe s2) :
  wpAny (model X.prog X.w) X.A (eval a X.env) (λv s₁=>wpAny (model X.prog X.w) X.A (eval b X.env) (λu s₂=>wpAny (model X.prog X.w) X.A (f v u) Q X.xe s₂) X.xe s₁) X.xe s:=by
 refine bF (ha pins s σ H _ I h) λv s1 hh_=> ?_
 obtain⟨x,H1,I1,r1,q1⟩:=hh_;refine bF (hb pins s1 σ H1 _ I1 q1) λu s2 hh_=> ?_
 obtain⟨y,H2,I2,r2,q2⟩:=hh_;exact hf v u s2 x y H2 I2 r1 r2 q2
theorem Az {op:Jw}{r:R2}(ho:jY X (Ed op) r)(ha:PE X a ta)(hb:PE X b tb):PE X (.BinOp a op b pos) (tOp r ta tb):=by
 intro pins s σ H Q I h;exact wpAny_BinOp (binT ha hb I h λv u s2 x y H2 I2 rx ry q=>ho pins s2 σ H2 x y v u Q I2 rx ry q)
theorem Ax {op:UnaryOp}{r:V->Hp->VK->Prop}(ho:UnR X (unaryOp op) r)(ha:PE X a ta):PE X (.UnaryOp op a pos) (tUn r ta):=by
 intro pins s σ H Q I h;exact UnaryOp_ (bF (ha pins s σ H _ I h) λv s1 ⟨x,H1,I1,r1,q1⟩=>ho pins s1 σ H1 x v Q I1 r1 q1)
theorem opI {f:CB->CB->Sem CB}{C:Int->Int->Prop}{g:Int->Int->Int}
  (rule:∀(i j:Int) (t u:Tok) (s:Cz) (Q:CB->Cz->Prop) (E:CB->Cz->Prop),C i j->Q (.int (g i j) s.toks) { s with toks:=s.toks+1 }->wpAny (model X.prog X.w) X.A (f (.int i t) (.int j u)) Q E s) :
  jY X f (rI C λi j=> .int (g i j)):=by
 intro pins s σ H x y v u Q I rx ry h;obtain⟨i,j,rfl,rfl,hc,q⟩:=h;obtain⟨t,rfl⟩:=rx;obtain⟨t',rfl⟩:=ry;exact rule i j t t' s _ _ hc ⟨.int (g i j),H,I.tok _,⟨_,rfl⟩,q⟩
theorem AJ {f:CB->CB->Sem CB}{g:Int->Int->Int}
  (rule:∀(i j:Int) (t u:Tok) (s:Cz) (Q:CB->Cz->Prop) (E:CB->Cz->Prop),Q (.int (g i j) s.toks) { s with toks:=s.toks+1 }->wpAny (model X.prog X.w) X.A (f (.int i t) (.int j u)) Q E s) :
  jY X f (wY λi j=> .int (g i j)):=by
 intro pins s σ H x y v u Q I rx ry h;obtain⟨i,j,rfl,rfl,q⟩:=h;obtain⟨t,rfl⟩:=rx;obtain⟨t',rfl⟩:=ry;exact rule i j t t' s _ _ ⟨.int (g i j),H,I.tok _,⟨_,rfl⟩,q⟩
theorem yD {f:CB->CB->Sem CB}{g:Int->Int->Bool}
  (rule:∀(i j:Int) (t u:Tok) (s:Cz) (Q:CB->Cz->Prop) (E:CB->Cz->Prop),Q (.bool (g i j)) s->wpAny (model X.prog X.w) X.A (f (.int i t) (.int j u)) Q E s) :
  jY X f (wY λi j=> .bl (g i j)):=by
 intro pins s σ H x y v u Q I rx ry h;obtain⟨i,j,rfl,rfl,q⟩:=h;obtain⟨t,rfl⟩:=rx;obtain⟨t',rfl⟩:=ry;exact rule i j t t' s _ _ ⟨.bl (g i j),H,I,rfl,q⟩
def CDiv (i j:Int):Prop:=0<j/\j<1073741824
def CMul (i j:Int):Prop:=(-(2 ^ 64)<i/\i<2 ^ 64)\/(-(2 ^ 64)<j/\j<2 ^ 64)
theorem CMul.ok {i j:Int}(h:CMul i j):IntMulOk i j:=by
 rcases h with⟨h1,h2⟩ | ⟨h1,h2⟩
 ·exact .of_left (intBits_le_64 h1 h2)
 ·exact .of_right (intBits_le_64 h1 h2)
theorem yC:jY X (Ed .Add) (wY λi j=> .int (i+j)):=AJ λ_ _ _ _ _ _ _ q=>add_int q
theorem yx:jY X (Ed .Sub) (wY λi j=> .int (i - j)):=AJ λ_ _ _ _ _ _ _ q=>sub_int q
theorem yz:jY X (Ed .Mult) (rI CMul λi j=> .int (i*j)):=opI λ_ _ _ _ _ _ _ hc q=>mul_int q hc.ok
theorem vC:jY X (Ed .FloorDiv) (rI CDiv λi j=> .int (i / j)):=opI λi j _ _ _ _ _ hc q=>by
 have h1:(0:Int)<j:=hc.1
 have h2:j<1073741824:=hc.2;exact floordiv_int (by omega) (by rw[Int.fdiv_eq_ediv_of_nonneg i (by omega)];exact q) (.inl (PyProof.noPylong_small (by omega)))
theorem yA:jY X (Ed .Mod) (rI (λ_ j=>0<j) λi j=> .int (i % j)):=opI λi j _ _ _ _ _ hc q=>by
 have h1:(0:Int)<j:=hc;exact mod_int' (by omega) (by rw[Int.fmod_eq_emod_of_nonneg i (by omega)];exact q)
theorem unI {f:CB->Sem CB}{g:Int->Int}
  (rule:∀(i:Int) (t:Tok) (s:Cz) (Q:CB->Cz->Prop) (E:CB->Cz->Prop),Q (.int (g i) s.toks) { s with toks:=s.toks+1 }->wpAny (model X.prog X.w) X.A (f (.int i t)) Q E s) :
  UnR X f (rU λi=> .int (g i)):=by
 intro pins s σ H x v Q I rx h;obtain⟨i,rfl,q⟩:=h;obtain⟨t,rfl⟩:=rx;exact rule i t s _ _ ⟨.int (g i),H,I.tok _,⟨_,rfl⟩,q⟩
theorem xC:UnR X (unaryOp .USub) (rU λi=> .int (-i)):=unI λ_ _ _ _ _ q=>neg_int q
end
def scal:V->V->Bool
 | .non,.non=>true | .non,.int _=>true | .int _,.non=>true | .non,.bl _=>true | .bl _,.non=>true | .non,.str _=>true | .str _,.non=>true
 | .int _,.int _=>true | .bl _,.bl _=>true | .str _,.str _=>true | .byt _,.byt _=>true
 | .int _,.str _=>true | .str _,.int _=>true | .bl _,.str _=>true | .str _,.bl _=>true
 | _,_=>false
def rNe:R2:=λx y H Q=>scal x y=true/\Q (.bl (!decide (x=y))) H
theorem wo {i j:Int}:decide (V.int i=V.int j)=(i == j):=by
 rw[Fw];simp
theorem zp {i j:Bool}:decide (V.bl i=V.bl j)=(i == j):=by
 rw[Fw];simp
theorem wm {i j:Str}:decide (V.str i=V.str j)=(i == j):=by
 rw[Fw];simp
theorem wq {i j:Array UInt8}:decide (V.byt i=V.byt j)=(i.toList == j.toList):=by
 rw[Fw];cases i;cases j;simp
section
variable {X:Cx}{a b c:Expr}{ta tb tc:TE}{pos:Pos}
theorem cv {pins:List (Addr×Obj)}{σ:St}{H:Hp}{s:Cz}{Q:VK}{k k':Bool}(I:Inv X pins σ H s)(q:Q (.bl k) H)(e:k=k'):EP X pins σ Q (.bool k') s:=by
 subst e;exact⟨.bl k,H,I,rfl,q⟩
theorem AF:jY X (DN .NotEq) rNe:=by
 intro pins s σ H x y v u Q I rx ry h;obtain⟨hs,q⟩:=h
 cases x with
 | non=>
  cases rx
  cases y with
  | non=>cases ry;exact PySem.EqNone.ne_none_none (cv I q (by simp))
  | bl j=>cases ry;exact PySem.EqNone.ne_none_bool (cv I q (by simp))
  | int j=>obtain⟨t',rfl⟩:=ry;exact PySem.EqNone.ne_none_int (cv I q (by simp))
  | str j=>obtain⟨t',rfl⟩:=ry;exact PySem.EqNone.ne_none_str (cv I q (by simp))
  | _=>exact absurd (show false=true from hs) C1
 | bl i=>
  cases rx
  cases y with
  | non=>cases ry;exact PySem.EqNone.ne_bool_none (cv I q (by simp))
  | bl j=>cases ry;exact ne_bool (cv I q (congrArg not zp))
  | str j=>obtain⟨t',rfl⟩:=ry;exact PySem.EqMixed.ne_bool_str (cv I q (by simp))
  | _=>exact absurd (show false=true from hs) C1
 | int i=>
  obtain⟨t,rfl⟩:=rx
  cases y with
  | non=>cases ry;exact PySem.EqNone.ne_int_none (cv I q (by simp))
  | int j=>obtain⟨t',rfl⟩:=ry;exact ne_int (cv I q (congrArg not wo))
  | str j=>obtain⟨t',rfl⟩:=ry;exact PySem.EqMixed.ne_int_str (cv I q (by simp))
  | _=>exact absurd (show false=true from hs) C1
 | str i=>
  obtain⟨t,rfl⟩:=rx
  cases y with
  | non=>cases ry;exact PySem.EqNone.ne_str_none (cv I q (by simp))
  | bl j=>cases ry;exact PySem.EqMixed.ne_str_bool (cv I q (by simp))
  | int j=>obtain⟨t',rfl⟩:=ry;exact PySem.EqMixed.ne_str_int (cv I q (by simp))
  | str j=>obtain⟨t',rfl⟩:=ry;exact ne_str (cv I q (congrArg not wm))
  | _=>exact absurd (show false=true from hs) C1
 | byt i=>
  obtain⟨t,rfl⟩:=rx
  cases y with
  | byt j=>obtain⟨t',rfl⟩:=ry;exact PySem.W.ne_bytes (cv I q (congrArg not wq))
  | _=>exact absurd (show false=true from hs) C1
 | _=>cases y <;> exact absurd (show false=true from hs) C1
theorem AG:jY X (DN .Lt) (wY λi j=> .bl (decide (i<j))):=yD λ_ _ _ _ _ _ _ q=>lt_int q
theorem AH:jY X (DN .LtE) (wY λi j=> .bl (decide (i<=j))):=yD λ_ _ _ _ _ _ _ q=>le_int q
theorem AI:jY X (DN .Gt) (wY λi j=> .bl (decide (j<i))):=yD λ_ _ _ _ _ _ _ q=>gt_int q
theorem yB:jY X (DN .Is) (λx y H Q=>y= .non/\Q (.bl (decide (x= .non))) H):=by
 intro pins s σ H x y v u Q I rx ry h;obtain⟨rfl,q⟩:=h;cases ry;refine is_none_gen (cv I q ?_)
 cases x <;> first
  | (cases rx;rfl)
  | (obtain⟨t,rfl⟩:=rx;rfl)
theorem yI (b:Expr){op:KJ}(h:autoParam (op≠ .In) s_)(h2:autoParam (op≠ .NotIn) s_):EA op b=false:=by
 have e1:(op == CmpOp.In)=false:=by cases op <;> first | rfl | exact absurd rfl h
 have e2:(op == CmpOp.NotIn)=false:=by cases op <;> first | rfl | exact absurd rfl h2
 cases b <;> simp[EA,e1,e2]
def zS (t:TE):TT:=λσ H Q=>t σ H λx H'=> ∃k,x= .bl k/\Q k H'
theorem vh {op:KJ}{r:R2}(ho:jY X (DN op) r)(ha:PE X a ta)(hb:PE X b tb)(hm:EA op b=false):PT X (.Compare a [op] [b] pos) (zS (tOp r ta tb)):=by
 intro pins s σ H Q I h
 refine Iv (bF (ha pins s σ H _ I h) λv s1 ⟨x,H1,I1,r1,q1⟩=>bF (hb pins s1 σ H1 _ I1 q1) λu s2 ⟨y,H2,I2,r2,q2⟩=>
  bF (ho pins s2 σ H2 x y v u _ I2 r1 r2 q2) λc s3 ⟨z,H3,I3,r3,k,e,q3⟩=> ?_) hm
 subst e;cases r3;exact DZ ⟨H3,I3,q3⟩
theorem jA:(sizeLine:Nat)<2 ^ 63:=by rw[Ea];decide
theorem n5:jY X (Ed .Add) (λx y H Q=> ∃i j,x= .str i/\y= .str j/\i.length+j.length<=sizeLine/\Q (.str (i++j)) H):=by
 intro pins s σ H x y v u Q I rx ry h;obtain⟨i,j,rfl,rfl,hz,q⟩:=h;obtain⟨t,rfl⟩:=rx;obtain⟨t',rfl⟩:=ry;exact add_str (λt' tk=>⟨.str (i++j),H,I.tok _,⟨_,rfl⟩,q⟩) hz
theorem iC {x:V}{us:List CB}(r:Vals [x] us):∃u,us= [u]/\RelV x u:=by
 cases r with
 | cons r1 r2=>cases r2;exact⟨_,rfl,r1⟩
theorem rk {x y:V}{us:List CB}(r:Vals [x,y] us):∃u w',us= [u,w']/\RelV x u/\RelV y w':=by
 cases r with
 | cons r1 r2=>
  cases r2 with
  | cons r3 r4=>cases r4;exact⟨_,_,rfl,r1,r3⟩
theorem qI:CallR X (.type "int") (λxs H Q=>(∃i,xs= [.int i]/\Q (.int i) H)\/∃k,xs= [.bl k]/\Q (.int (if k then 1 else 0)) H):=by
 intro pins s σ H xs us Q I r h;rcases h with⟨i,rfl,q⟩ | ⟨k,rfl,q⟩
 ·obtain⟨u,rfl,t,rfl⟩:=iC r
  exact call_int_int ⟨.int i,H,I,⟨_,rfl⟩,q⟩
 ·obtain⟨u,rfl,r1⟩:=iC r
  cases r1;exact call_int_bool ⟨.int (if k then 1 else 0),H,I.tok _,⟨_,rfl⟩,q⟩
end
structure ObjM (h:Heap)(x dx C:Addr)(mA:Str->Option CB):Prop where
 obj:h.get? x=some (Ie C dx)
 ns:h.Ns1 dx mA
 ne:dx≠x
theorem qt {h:Heap}{dx:Addr}{mA:Str->Option CB}(n:h.Ns1 dx mA):∃od,h.get? dx=some od/\∀name,IP name od=some (mA name):=by
 obtain⟨o,es,ep,ho,hd,hk,_,hm⟩:=n;refine⟨o,ho,λname=> ?_⟩
 have e:=hm name;unfold nsFind findBy at e;rw[<-Jg]at e
 unfold IP;rw[hd]
 dsimp only
 split
 ·rename_i y q
  rw[q]at e;exact congrArg some e
 ·rename_i q
  rw[q]at e
  have a:es.toList.any (·.refKey)=false:=by
   rw[List.any_eq_false];intro y hy;obtain⟨z,t,hkey⟩:=hk y (Array.mem_toList_iff.mp hy);simp[DictEntry.refKey,hkey]
  have a':¬ es.toList.any (·.refKey)=true:=by rw[a];exact C1
  rw[if_neg a'];exact congrArg some e
theorem ObjM.look {h:Heap}{x dx C:Addr}{mA:Str->Option CB}(I:ObjM h x dx C mA):∃od,PySem.W.InstAt h x (Ie C dx) C (some od)/\∀name,IP name od=some (mA name):=
 let ⟨od,ho,hl⟩:=qt I.ns
 ⟨od,⟨I.obj,rfl,rfl,ho⟩,hl⟩
section
variable {P:C4}{w:Du}{H H':Hp}{h h':Heap}{a C dx:Addr}{fs fs':List (Str×V)}
theorem vS (hok:HOk P w H h)(e:H a=some (.ins C dx fs)):∃mA,ObjM h a dx C mA/\(∀f,zA (fs.lookup f) (mA f))/\PySem.Within mA (fs.map (·.1))/\fs.length<=1000/\H dx=some (.own a):=by
 obtain⟨d,z,ne,ob,mA,n,r,q⟩:=(show ObjOk P w H h a (.ins C dx fs)from hok a _ e)
 exact⟨mA,⟨ob,n,ne⟩,r,q,z,d⟩
end
structure Cls (K:CA)(C:Addr):Prop where
 pg:Kf K C Str.empty=true
 hd:PySem.W.hasDictIn K C=true
 po:PySem.W.plainOver K C=true
 sa:PySem.W.findIn K (.ref C) "__setattr__" =some (some (.builtin "object.__setattr__"))
theorem Cls.get {K:CA}{C:Addr}(c:Cls K C)(f:Str):Kf K C f=true:=c.pg
section
variable {X:Cx}{pins:List (Addr×Obj)}{σ:St}{H:Hp}{s:Cz}{A:Dj}{E:CB->Cz->Prop}{Q:CB->Cz->Prop}{c:CB}{b:Bool}
inductive iy (K:CA) (H:Hp):V->CB->Prop where
 | non:iy K H .non (.type "NoneType")
 | bl (x:Bool):iy K H (.bl x) (.type "bool")
 | int (i:Int):iy K H (.int i) (.type "int")
 | str (x:Str):iy K H (.str x) (.type "str")
 | flt (x:UInt64):iy K H (.flt x) (.type "float")
 | lst {a:Addr} {xs:List V} (e:H a=some (.lst xs)):iy K H (.ref a) (.type "list")
 | frz {a:Addr} {o:Obj} {xs:List V} (e:H a=some (.frz o (.lst xs))):iy K H (.ref a) (.type "list")
 | tup {a:Addr} {xs:List V} (e:H a=some (.tup xs)):iy K H (.ref a) (.type "tuple")
 | dK {a:Addr} {kvs:List (jV×V)} (e:H a=some (.dK kvs)):iy K H (.ref a) (.type "dict")
 | dT {a:Addr} {kvs:List (List jV×V)} (e:H a=some (.dT kvs)):iy K H (.ref a) (.type "dict")
 | ins {a C dx:Addr} {fs:List (Str×V)} (e:H a=some (.ins C dx fs)) (cl:Cls K C) (ha:PySem.W.findIn K (.ref C) "__class__" =some (some (.builtin "object.__class__")))
   (hn:PySem.W.specialIn K (.builtin "object.__class__") "__get__" =some (some (.builtin "getset_descriptor.__get__"))) (htk:PySem.W.takesIn K (.builtin "object.__class__")=some true)
   (hm:PySem.W.mroIn K C (.type "object")=some true):iy K H (.ref a) (.ref C)
theorem qx {x:V}{u t:CB}(I:Inv X pins σ H s)(rx:RelV x u)(ty:iy X.K H x t)(e:PySem.W.kitOne X.K t c=some b)(h:∀tk,Q (.bool b) { s with toks:=tk }) :
  wpAny (model X.prog X.w) A (call (.builtin "isinstance") [u,c]) Q E s:=by
 cases ty with
 | non=>cases (show u=C7 from rx);exact D7 PySem.W.kitx_none I.kIn ID e (λz=>nomatch z) h
 | bl y=>cases (show u=Dz y from rx);exact D7 PySem.W.kitx_bool I.kIn ID e (λz=>nomatch z) h
 | int i=>obtain⟨t,q⟩:=(show ∃t,u=D1 i t from rx);cases q;exact D7 PySem.W.kitx_int I.kIn ID e (λz=>nomatch z) h
 | str y=>obtain⟨t,q⟩:=(show ∃t,u=Eb y t from rx);cases q;exact D7 PySem.W.kitx_str I.kIn ID e (λz=>nomatch z) h
 | flt y=>obtain⟨t,q⟩:=(show ∃t,u=Value.float y t from rx);cases q;exact D7 PySem.W.kitx_float I.kIn ID e (λz=>nomatch z) h
 | @lst a xs ea=>
  cases (show u=Df a from rx)
  obtain⟨_,_,n,_,h1⟩:=(show ObjOk X.prog X.w H s.heap a (.lst xs)from I.hok a _ ea)
  exact D7 JH I.kIn ⟨_,h1,rfl⟩ e (λz=>nomatch z) h
 | @frz a ob xs ea=>
  cases (show u=Df a from rx)
  obtain⟨_,_,_,n,_,h1⟩:=(show ObjOk X.prog X.w H s.heap a (.frz ob (.lst xs))from I.hok a _ ea)
  exact D7 JH I.kIn ⟨_,h1,rfl⟩ e (λz=>nomatch z) h
 | @tup a xs ea=>
  cases (show u=Df a from rx)
  obtain⟨_,_,_,p⟩:=(show ObjOk X.prog X.w H s.heap a (.tup xs)from I.hok a _ ea)
  obtain⟨o,h1,h2,_⟩:=p
  exact D7 PySem.W.kitx_tuple I.kIn ⟨o,h1,h2⟩ e (λz=>nomatch z) h
 | @dK a kvs ea=>
  cases (show u=Df a from rx)
  obtain⟨_,_,vs,_,p⟩:=(show ObjOk X.prog X.w H s.heap a (.dK kvs)from I.hok a _ ea)
  obtain⟨o,es,ep,h1,h2,_⟩:=p
  exact D7 JI I.kIn ⟨o,h1,h2.1⟩ e (λz=>nomatch z) h
 | @dT a kvs ea=>
  cases (show u=Df a from rx)
  obtain⟨_,_,xs,_,o,es,ep,h1,h2,_⟩:=(show ObjOk X.prog X.w H s.heap a (.dT kvs)from I.hok a _ ea)
  exact D7 JI I.kIn ⟨o,h1,h2.1⟩ e (λz=>nomatch z) h
 | @ins a C dx fs ea cl ha hn htk hm=>
  cases (show u=Df a from rx)
  obtain⟨mA,O,_⟩:=vS I.hok ea;obtain⟨od,J,_⟩:=O.look;exact D7 (PySem.W.kitx_own (cl.get _) cl.hd ha hn htk hm) I.kIn J e (λz=>nomatch z) h
end
structure Room (k:Nat)(A:Dj):Prop where
 hd:A.handled=none
 dp:A.depth+3*k+5<Fm
 un:A.units+16*k+200<cLine
theorem Room.mono {j k:Nat}{A:Dj}(r:Room k A)(h:j<=k):Room j A:=⟨r.hd,by have:=r.dp;omega,by have:=r.un;omega⟩
theorem Room.deeper {k:Nat}{A:Dj}(r:Room (k+1) A)(env:Env):Room k (A.deeper env):=
 ⟨r.hd,by have:=r.dp;show A.depth+1+3*k+5<_;omega,by have:=r.un;show A.units+3+16*k+200<_;omega⟩
theorem Room.depth {k:Nat}{A:Dj}(r:Room k A):A.depth<Fm:=by have:=r.dp;omega
def rH:TA:=λ_ H Q=>Q [] H
def gH (ta:TE)(tr:TA):TA:=λσ H Q=>ta σ H λx H1=>tr σ H1 λxs H2=>Q (x::xs) H2
section
variable {X:Cx}{e:Expr}{es:List Expr}{te:TE}{t:TA}{pos:Pos}
theorem eK:PA X [] rH:=λ_ _ _ _ H Q I h=>FF ⟨[],H,I,.nil,h⟩
theorem bu (ha:PE X e te)(hr:PA X es t)(hs:autoParam (CV (e::es) X.env=(false,eval e X.env)::CV es X.env) u_):PA X (e::es) (gH te t):=by
 intro pos pins s σ H Q I h;rw[hs]
 show wpAny _ _ (spliced ((false,eval e X.env)::backTo pos (CV es X.env))) _ _ s
 refine F4 (bF (ha pins s σ H _ I h) λu s1 hh_=> ?_)
 obtain⟨x,H1,I1,r1,q1⟩:=hh_;exact bF (hr pos pins s1 σ H1 _ I1 q1) λus s2 ⟨xs,H2,I2,r2,q2⟩=>⟨x::xs,H2,I2,.cons r1 r2,q2⟩
def zQ (t:TA):TE:=λσ H Q=>t σ H λxs H1=>xs.length<=sizeLine/\∀p,H1 p=none->Q (.ref p) (dE H1 p (.tup xs))
def tLst (t:TA):TE:=λσ H Q=>t σ H λxs H1=>xs.length<=sizeLine/\∀p,H1 p=none->Q (.ref p) (dE H1 p (.lst xs))
theorem sj {x1}(h:PA X es t):PE X (.Tuple es x1 pos) (zQ t):=by
 intro pins s σ H Q I hq;refine wpAny_Tuple_spliced (bF (h pos pins s σ H _ I hq) λus s1 ⟨xs,H1,I1,r,z,q⟩=>⟨by rw[<-r.length];exact z,?_⟩)
 have hf:H1 s1.heap.objs.size=none:=I1.hok.fresh (CM _);refine⟨.ref s1.heap.objs.size,dE H1 s1.heap.objs.size (.tup xs),I1.laid (t':=s1.toks) (λb u e=>CG _ e) (CM _) ?_,rfl,q _ hf⟩
 exact⟨z,us,r,⟨_,CZ _ rfl,rfl,_,rfl⟩⟩
theorem nZ (h:PA X es t):PE X (.List es pos) (tLst t):=by
 intro pins s σ H Q I hq;refine wpAny_List_spliced (bF (h pos pins s σ H _ I hq) λus s1 ⟨xs,H1,I1,r,z,q⟩=>⟨by rw[<-r.length];exact z,?_⟩)
 have hf:H1 s1.heap.objs.size=none:=I1.hok.fresh (CM _);refine⟨.ref s1.heap.objs.size,dE H1 s1.heap.objs.size (.lst xs),I1.laid (t':=s1.toks) (λb u e=>CG _ e) (CM _) ?_,rfl,q _ hf⟩
 exact⟨z,us,0,r,CZ _ rfl⟩
end
abbrev Sp:=List V->Hp->VK->XK->Prop
abbrev qM:=List Env->Hp->Cz->XK->CB->Cz->Prop
structure kd (P:C4)(w:Du)(K:CA)(mg:Str->Option CB)(base:Heap)(A:Dj)(outer:List Env)(s:Cz)(H:Hp):Prop where
 frames:A.frames=some outer
 mod:Mod K mg base
 bs:∀b o,base.get? b=some o->s.heap.get? b=some o/\H b=none
 bsz:base.objs.size<=s.heap.objs.size
 funs:s.heap.FunFrames base outer
 frf:∀b∈gx outer,H b=none
 hok:HOk P w H s.heap
 bare:Iu s.gens
def CE (outer:List Env)(P:C4)(w:Du)(H:Hp)(s:Cz)(Q:VK)(u:CB)(s':Cz):Prop:=
 ∃v H',s'.os=s.os/\Iu s'.gens/\Un (gx outer) [] H H' s.heap s'.heap/\HOk P w H' s'.heap/\RelV v u/\Q v H'
def CR (CX:qM)(outer:List Env)(P:C4)(w:Du)(H:Hp)(s:Cz)(Q:VK)(E:XK)(r:GR)(s':Cz):Prop:=
 match r with
 | .ok (.ret u)=>CE outer P w H s Q u s'
 | .ok _=>False
 | .error e=>CX outer H s E e s'
structure qL (P:C4)(w:Du)(K:CA)(mg:Str->Option CB)(base:Heap)(CX:qM)(k:Nat)(f:Addr)(fd:DB)(ps:List Str)(sp:Sp):Prop where
 len:∀vs H Q E,sp vs H Q E->vs.length=ps.length
 run:∀(A:Dj) (outer:List Env) (s:Cz) (H:Hp) (args:Args) (us:List CB) (vs:List V) (Q:VK) (E:XK),Room k A->kd P w K mg base A outer s H->HP s fd args (ps.zip us)->Vals vs us->sp vs H Q E →
  codeAny (model P w) A (.call (.ref f) args) (CR CX outer P w H s Q E) s
section
variable {X:Cx}{pins:List (Addr×Obj)}{σ:St}{H:Hp}{s s':Cz}
theorem Inv.B6 (I:Inv X pins σ H s):kd X.prog X.w X.K X.mg X.base X.A X.stack s H:=
 ⟨I.ok.frames,I.ok.mod,I.bs,Dk I.ok.bsz I.sz,I.stack,I.BQ,I.hok,I.bare⟩
theorem Inv.after {Q:VK}{u:CB}(I:Inv X pins σ H s)(h:CE X.stack X.prog X.w H s Q u s'):EP X pins σ Q u s':=by
 obtain⟨v,H',os,bare,un,hok,r,q⟩:=h;obtain⟨hh,g,d,t,os'⟩:=s';obtain rfl:os'=s.os:=os;exact⟨v,H',I.call (h':=hh) (g':=g) (d':=d) (t':=t) (ch:=[]) un hok bare (λb z=>absurd z (by simp)),r,q⟩
end
def z6 (sp:Sp)(dvs:List V)(E:XK)(t:TA):TE:=λσ H Q=>t σ H λvs H1=>sp (vs++dvs) H1 Q E
def Binds (K:CA)(fd:DB)(ps:List Str)(ds:List CB):Prop:=
 ∀(s:Cz) (us:List CB),K.In s.heap->(us++ds).length=ps.length->HP s fd ⟨us,[]⟩ (ps.zip (us++ds))
theorem Binds.all {K:CA}{fd:DB}{ps:List Str}(h:∀us:List CB,us.length=ps.length->Jx fd ⟨us,[]⟩=pure (ps.zip us)):Binds K fd ps []:=λs us _ hl=>by
 rw[Do]at hl ⊢;exact .of_eq (h us hl)
def ma (CX:qM)(X:Cx)(E:XK):Prop:=∀(pins:List (Addr×Obj)) (σ:St) (H:Hp) (s:Cz) (e:CB) (s':Cz),Inv X pins σ H s->CX X.stack H s E e s'->X.xe e s'
section
variable {X:Cx}{CX:qM}{k:Nat}{f C:Addr}{fd:DB}{ps:List Str}{sp:Sp}{dvs:List V}{ds:List CB}{E:XK}{x m:Str}{p pos apos:Pos}{e o:Expr}{es:List Expr}{ta:TE}{t:TA}
theorem xT {pins:List (Addr×Obj)}{σ:St}{H:Hp}{s:Cz}{Q:VK}{us:List CB}{vs:List V}(F:qL X.prog X.w X.K X.mg X.base CX k f fd ps sp)(hr:Room k X.A)(hb:Binds X.K fd ps ds)(hd:Vals dvs ds)(hx:ma CX X E)
  (I:Inv X pins σ H s) (r:Vals vs us) (h:sp (vs++dvs) H Q E):wpAny (model X.prog X.w) X.A (call (.ref f) us) (EP X pins σ Q) X.xe s:=by
 have r2:Vals (vs++dvs) (us++ds):=r.append hd
 have hl:(us++ds).length=ps.length:=by rw[<-r2.length];exact F.len _ _ _ _ h
 refine J0 (G6 (F.run X.A X.stack s H ⟨us,[]⟩ (us++ds) (vs++dvs) Q E hr I.B6 (hb s us I.kIn hl) r2 h) λr s' hq=> ?_)
 cases r with
 | error e=>exact hx pins σ H s e s' I hq
 | ok fl=>
  cases fl with
  | ret u=>exact I.after hq
  | next=>exact Em hq
  | brk=>exact Em hq
  | cont=>exact Em hq
theorem o6 (F:qL X.prog X.w X.K X.mg X.base CX k f fd ps sp)(hr:Room k X.A)(hg:Gl X x)(hm:X.mg x=some (.ref f))(hk:Fk X.K (.ref f)=true)(hb:Binds X.K fd ps ds)(hd:Vals dvs ds)(hx:ma CX X E)
  (ha:PA X (e::es) t) (hdb:autoParam ((x == ("__debug__" : Str))=false) s_) (he:autoParam (CV (e::es) X.env=(false,eval e X.env)::CV es X.env) u_) (hpl:autoParam ((backTo pos (CV es X.env)).any (·.1)=false) u_) :
  PE X (.Call (.Name x p) (e::es) [] pos) (z6 sp dvs E t):=by
 intro pins s σ H Q I h;refine DO (fh I hg hm ?_ hdb)
 refine GY (h₀:=X.base) I.ok.mod.kin hk (bF (ha pos pins s σ H _ I h) λus s1 ⟨vs,H1,I1,r,q⟩=>⟨I1.kIn,?_⟩) he hpl
 exact xT F hr hb hd hx I1 r q
end
structure bq (N P:List Str)(sc:Fu):Prop where
 kind:sc.kind= .function
 co:sc.isCoroutine=false
 gen:sc.isGenerator=false
 nd:N.Nodup
 pre:N.take P.length=P
 par:∀x∈P,sc.names.lookup x=some .local\/sc.names.lookup x=some .cell
 nofree:∀y∈sc.names,y.2≠ .free
theorem kJ {kindOf:Str->Option Ft}{x:Str}:∀{binds:List (Str×CB)} {m:Str->Option CB},(∀v,(x,v)∉binds)->bindL kindOf binds m x=m x
 | [],_,_=>rfl
 | (n,v)::r,m,h=>by
  unfold bindL;rw[kJ λw hw=>h w (CH _ hw)]
  split
  ·have:x≠n:=by rintro rfl;exact h v CL
   simp[this]
  ·rfl
theorem kL {kindOf:Str->Option Ft}{x:Str}:∀{binds:List (Str×CB)} {m:Str->Option CB},(∀v,(x,v)∉binds)->bindC kindOf binds m x=m x
 | [],_,_=>rfl
 | (n,v)::r,m,h=>by
  unfold bindC;rw[kL λw hw=>h w (CH _ hw)]
  split
  ·rfl
  ·have:x≠n:=by rintro rfl;exact h v CL
   simp[this]
theorem kK {kindOf:Str->Option Ft}{x:Str}{v:CB}:∀{P:List Str} {vs:List CB} {i:Nat} {m:Str->Option CB},P.Nodup->P[i]? =some x->vs[i]? =some v->kindOf x=some .local →
  bindL kindOf (P.zip vs) m x=some v
 | [],_,_,_,_,h,_,_=>by simp at h
 | _::_,[],_,_,_,_,h,_=>by simp at h
 | p::P,w::vs,0,m,nd,h1,h2,hk=>by
  simp at h1 h2;subst h1;subst h2
  show bindL kindOf ((p,w)::P.zip vs) m p=_
  unfold bindL;rw[kJ λv hv=>(EZ.mp nd).1 (E5 hv).1,if_pos hk]
  simp
 | p::P,w::vs,i+1,m,nd,h1,h2,hk=>by
  show bindL kindOf ((p,w)::P.zip vs) m x=_
  unfold bindL;exact kK (i:=i) (EZ.mp nd).2 (by simpa using h1) (by simpa using h2) hk
theorem kM {kindOf:Str->Option Ft}{x:Str}{v:CB}:∀{P:List Str} {vs:List CB} {i:Nat} {m:Str->Option CB},P.Nodup->P[i]? =some x->vs[i]? =some v->kindOf x≠some .local →
  bindC kindOf (P.zip vs) m x=some v
 | [],_,_,_,_,h,_,_=>by simp at h
 | _::_,[],_,_,_,_,h,_=>by simp at h
 | p::P,w::vs,0,m,nd,h1,h2,hk=>by
  simp at h1 h2;subst h1;subst h2
  show bindC kindOf ((p,w)::P.zip vs) m p=_
  unfold bindC;rw[kL λv hv=>(EZ.mp nd).1 (E5 hv).1,if_neg hk]
  simp
 | p::P,w::vs,i+1,m,nd,h1,h2,hk=>by
  show bindC kindOf ((p,w)::P.zip vs) m x=_
  unfold bindC;exact kM (i:=i) (EZ.mp nd).2 (by simpa using h1) (by simpa using h2) hk
def start (N:List Str)(vs:List V):St:=vs.map some++C6 (N.length - vs.length) none
def dN (CX:qM)(P:C4)(w:Du)(K:CA)(mg:Str->Option CB)(base:Heap)(N:List Str)(qual:Str)(scope:Fu)(f:Addr)(cd:CB)(A:Dj)(outer:List Env)(s:Cz)(H:Hp)(E:XK):Cx where
 prog:=P
 w:=w
 K:=K
 mg:=mg
 base:=base
 A:=A.deeper (envOfC qual scope s.heap.objs.size f cd)
 N:=N
 s₀:=s
 H₀:=H
 env:=envOfC qual scope s.heap.objs.size f cd
 outer:=outer
 stack:=envOfC qual scope s.heap.objs.size f cd::outer
 ex:=[]
 calm:=true
 fn:=λ_=>true
 pn:=[]
 xe:=λe s'=>wpAny (model P w) (A.deeper (envOfC qual scope s.heap.objs.size f cd)) (leaving (envOfC qual scope s.heap.objs.size f cd) e) (λ_ s''=>CX outer H s E e s'') (λe' s''=>CX outer H s E e' s'') s'
theorem nv {sc:Fu}{n:Nat}{x:Str}(h:sc.names.lookup x=some .cell):∃c,(Ex n sc.names []).lookup x=some c:=by
 have q:=Ek sc.names n [] (.inl h);exact Hn.mp q
theorem eZ {CX:qM}{P:C4}{w:Du}{K:CA}{mg:Str->Option CB}{base:Heap}{N ps:List Str}{qual:Str}{scope:Fu}{f:Addr}{cd:CB}{A:Dj}{outer:List Env}{s s1:Cz}{H:Hp}{E:XK}{us:List CB}{vs:List V}
  (S:bq N ps scope) (hd:A.handled=none) (e0:kd P w K mg base A outer s H) (hl:vs.length=ps.length) (r:Vals vs us)
  (x:InCallC s s.heap.objs.size (bindL (envOfC qual scope s.heap.objs.size f cd).kindOf (ps.zip us) λ_=>none) (Ex (s.heap.objs.size+1) scope.names []) (bindC (envOfC qual scope s.heap.objs.size f cd).kindOf (ps.zip us) λ_=>none) s1) :
  Inv (dN CX P w K mg base N qual scope f cd A outer s H E) [] (start N vs) H s1:=by
 have hpl:ps.length<=N.length:=by have:=congrArg Fy S.pre;rw[EM]at this;omega
 obtain⟨h1,tk,rfl,hk⟩:=x.done
 have noA:∀b:Addr,b∉(dN CX P w K mg base N qual scope f cd A outer s H E).ex:=λb z=>absurd (show b∈([]:List Addr)from z) (by simp)
 refine⟨⟨e0.mod,S.kind,rfl,rfl,CM _,λy z c h1 h2=> ?_,λy hy=> ?_,λy c _ h=> ?_,λ_=>hd,II e0.frames,.inr ⟨rfl,rfl⟩,λb z=>absurd z (noA b),e0.bs,e0.bsz,λb _ _=>noA b,λb z=>absurd z (noA b),e0.funs,e0.frf⟩,
  rfl,e0.bare,Un.kept hk,⟨_,x.toInCall.ns,λi y v h1 h2 h3=> ?_⟩,λy c h=>⟨_,x.cell y c h⟩,e0.hok.fresh (CM _),λy c h=> ?_,λp hp=>absurd (show p∈([]:List (Addr×Obj))from hp) (by simp),e0.hok.kept hk,?_⟩
 ·exact name_of_addr x.apart (EF h1) (EF h2)
 ·have hy:scope.names.lookup y=some .cell\/scope.names.lookup y=some .free:=hy
  rcases hy with hy | hy
  ·exact nv hy
  ·exact absurd rfl (S.nofree _ (EF hy))
 ·exact Fv (x.above y c (EF h))
 ·have hi:i<vs.length:=by
   unfold start at h2
   by_cases hi:i<vs.length
   ·exact hi
   ·rw[EK (by simpa using hi)]at h2
    rw[Ff]at h2
    split at h2 <;> cases h2
  have ha:vs[i]? =some v:=by
   unfold start at h2;rw[Et (by simpa using hi),Dn]at h2
   cases e:vs[i]? with
   | none=>rw[e]at h2;cases h2
   | some a=>rw[e]at h2;cases h2;rfl
  obtain⟨u,hu,rv⟩:=r.get ha
  have hp:ps[i]? =some y:=by
   rw[<-S.pre,List.getElem?_take_of_lt (by omega)];exact h1
  have ndP:ps.Nodup:=by rw[<-S.pre];exact S.nd.sublist (JN _ _)
  refine⟨u,rv,?_⟩
  rcases S.par y (EX hp)with k | k
  ·exact .inl ⟨k,kK ndP hp hu k⟩
  ·obtain⟨c,e⟩:=nv (n:=s.heap.objs.size+1) k
   refine .inr ⟨.inl k,c,e,?_⟩
   have q:=x.cell y c e;rw[kM ndP hp hu (by show scope.names.lookup y≠_;rw[k];decide)]at q
   exact q
 ·exact e0.hok.fresh (Fv (x.above y c (EF h)))
 ·unfold start
  show _=N.length
  rw[CF,CI,List.length_replicate];omega
theorem A7 {CX:qM}{P:C4}{w:Du}{K:CA}{mg:Str->Option CB}{base:Heap}{k:Nat}{f:Addr}{name qual:Str}{params:HA}{body:List Stmt}{scope:Fu}{dV kV doc pm cdv ct oc:CB}{an od:Option Addr}
  {osl:Array (Option CB)} {N ps:List Str} {sp:Sp} (lk:K.lookup f=some ⟨oc,od,.func (E9 name qual params body scope dV kV doc pm an cdv ct),osl⟩) (hcd:G8 K cdv qual=true) (S:bq N ps scope)
  (len:∀vs H Q E,sp vs H Q E->vs.length=ps.length)
  (hbody:∀(A:Dj) (outer:List Env) (s:Cz) (H:Hp) (vs:List V) (Q:VK) (E:XK),Room k (A.deeper (envOfC qual scope s.heap.objs.size f cdv))->sp vs H Q E →
   ∃t,PSs (dN CX P w K mg base N qual scope f cdv A outer s H E) body t/\t { nx:=λ_ H'=>Q .non H',rt:=Q } (start N vs) H) :
  qL P w K mg base CX (k+1) f (E9 name qual params body scope dV kV doc pm an cdv ct) ps sp:=by
 refine⟨len,λA outer s H args us vs Q E hr e0 hb r hsp=> ?_⟩
 have hl:=len _ _ _ _ hsp
 have KX:K.In s.heap:=e0.mod.kin.keeps λb o e=>(e0.bs b o e).1
 have lim:s.heap.NoLimit:=e0.mod.nolimit.keeps λb o e=>(e0.bs b o e).1
 have hkind:∀y∈ps.zip us,scope.names.lookup y.1=some .local\/(scope.names.lookup y.1=some .cell/\((Ex (s.heap.objs.size+1) scope.names []).lookup y.1).isSome=true):=λ⟨n,v⟩ hy=>by
  rcases S.par n (E5 hy).1 with q | q
  ·exact .inl q
  ·exact .inr ⟨q,Ek _ _ _ (.inl q)⟩
 refine Gr hr.depth (KX _ _ lk) rfl S.co S.gen rfl (Fs KX hcd) (hb _ _ _ _ ?_)
 refine Ej S.kind hkind λenv he s1 x=> ?_
 subst he;refine⟨lim.keeps x.toInCall.keep,Ka ?_⟩
 obtain⟨t,ht,hq⟩:=hbody A outer s H vs Q E (hr.deeper _) hsp
 have I:Inv (dN CX P w K mg base N qual scope f cdv A outer s H E) [] (start N vs) H s1:=eZ S hr.hd e0 hl r x;refine DP (ht [] s1 (start N vs) H _ I hq) (λfl s' hs=> ?_) λe s' hs=>hs
 have fin:∀{σ':St} {H':Hp} {v:V} {u:CB},Inv (dN CX P w K mg base N qual scope f cdv A outer s H E) [] σ' H' s'->RelV v u->Q v H'->CE outer P w H s Q u s':=
  λ{σ' H' v u} J rv q=>⟨v,H',J.os,J.bare,J.base,J.hok,rv,q⟩
 cases fl with
 | ret u=>
  obtain⟨v,σ',H',J,rv,q⟩:=hs
  exact fin J rv q
 | next=>
  obtain⟨σ',H',J,q⟩:=hs
  exact fin (v:=V.non) (u:=C7) J rfl q
 | brk=>
  obtain⟨_,_,_,q⟩:=hs
  exact Em q
 | cont=>
  obtain⟨_,_,_,q⟩:=hs;exact Em q
end L2
namespace HT
open PySem PyProof.Rows
section
variable {prog:C4}{w:Du}{A:Dj}{E:CB->Cz->Prop}{s:Cz}
theorem cat_tup {t b:Addr}{vs ws:List CB}{Q:CB->Cz->Prop}(ht:KU s.heap t vs.toArray)(hb:KU s.heap b ws.toArray)(hv:vs≠ [])
  (h1:ws= []->Q (.ref t) s) (h2:ws≠ []->Q (.ref s.heap.objs.size) { s with heap:=s.heap.push { cls:=.type "tuple",data:=.seq (vs++ws).toArray } })
  (hsz:vs.length+ws.length<=sizeLine):wpAny (model prog w) A (Ed .Add (.ref t) (.ref b)) Q E s:=by
 obtain⟨⟨cls,dd,data,sl⟩,ho,hc,n,hd⟩:=id ht;obtain⟨⟨cls2,dd2,data2,sl2⟩,ho2,hc2,n2,hd2⟩:=id hb;simp only at hc hd hc2 hd2;subst hc hd hc2 hd2
 have e:vs.toArray++ws.toArray=(vs++ws).toArray:=by simp
 by_cases hw:ws= []
 ·exact Kb ⟨_,ho,rfl⟩ ⟨_,ho2,rfl⟩ HW Jy Gg F3 (FV _ _)
   (tuple_addW1 t b vs.toArray ws.toArray n n2 dd dd2 sl sl2 (by simpa using hv) (by simp[hw])) ⟨ho,ho2,h1 hw⟩
 ·refine Kb ⟨_,ho,rfl⟩ ⟨_,ho2,rfl⟩ HW Jy Gg F3 (FV _ _)
   (tuple_addW2 t b vs.toArray ws.toArray n n2 dd dd2 sl sl2 (by simpa using hv) (by simpa using hw) (by rw[CT,CT];exact hsz)) ⟨ho,ho2,?_⟩
  rw[e];exact h2 hw
def sIx (n d:Nat):Option Int->Nat
 | none=>d
 | some v=>if v<0 then(v+(n:Int)).toNat else min v.toNat n
theorem sIx_none (n d:Nat):sIx n d none=d:=rfl
theorem sIx_nat (n d k:Nat):sIx n d (some (k:Int))=min k n:=by
 show(if (k:Int)<0 then((k:Int)+(n:Int)).toNat else min (k:Int).toNat n)=min k n
 rw[if_neg (by omega),Eo]
theorem xS (n d:Nat)(hd:d<=n)(o:Option Int):sIx n d o<=n:=by
 cases o with
 | none=>exact hd
 | some v=>
  show(if v<0 then(v+(n:Int)).toNat else min v.toNat n)<=n
  by_cases hv:v<0
  ·rw[if_pos hv];omega
  ·rw[if_neg hv];exact Nat.min_le_right _ _
theorem pQ (v:Int)(n d:Nat):(if v<0 then max (v+(n:Int)) 0 else min v (n:Int))=((sIx n d (some v):Nat):Int):=by
 show(if v<0 then max (v+(n:Int)) 0 else min v (n:Int))=(((if v<0 then(v+(n:Int)).toNat else min v.toNat n):Nat):Int)
 by_cases hv:v<0
 ·simp only[if_pos hv];omega
 ·simp only[if_neg hv];omega
theorem oA (lo hi:Option Int)(n:Nat):D8 lo hi 1 (n:Int)=(((sIx n 0 lo:Nat):Int),((sIx n n hi:Nat):Int)):=by
 have h1:¬ ((1:Int)<0):=by omega
 unfold D8;simp only[h1,if_false];refine Prod.ext ?_ ?_
 ·cases lo with
  | none=>rfl
  | some v=>exact pQ v n 0
 ·cases hi with
  | none=>rfl
  | some v=>exact pQ v n n
theorem nY (i j:Nat):Dx (i:Int) (j:Int) 1=j - i:=by
 unfold Dx
 have h1:(1:Int) > 0:=by omega
 simp only[h1,if_true,J3]
 split <;> omega
theorem jh {v:CB}{o:Option Int}{Q:Option Int->Cz->Prop}(p:Jz v o)(h:Q o s):wpAny (model prog w) A (Ks v) Q E s:=by
 cases p with
 | none=>exact He h
 | int i t=>exact slicePart_int h
theorem eU {sl:Addr}{vl vu:CB}{lo hi:Option Int}{n:Nat}{Q:Int×Int×Nat->Cz->Prop}(hs:s.heap.IsSliceOf sl vl vu .none)(pl:Jz vl lo)(pu:Jz vu hi)
  (h:Q (((sIx n 0 lo:Nat):Int),1,sIx n n hi - sIx n 0 lo) s):wpAny (model prog w) A (EJ (.ref sl) (pure (n:Int))) Q E s:=by
 obtain⟨os,hos,hcs,hds⟩:=id hs;unfold EJ G9;refine Cy (Cy (DV hos hds (x:=vl) rfl (Cy (DV hos hds (x:=vu) rfl (Cy (DV hos hds (x:=.none) rfl (CD ?_)))))))
 refine Cy (He ?_)
 show wpAny _ _ (if ((1:Int) == 0)=true then _ else _) _ _ s
 rw[if_neg (by decide)]
 refine Cy (jh pl (Cy (jh pu (Cy (CD ?_)))))
 show wpAny _ _ (match D8 lo hi 1 (n:Int)with | (lo,hi)=>pure (lo,(1:Int),Dx lo hi 1)) _ _ s
 rw[oA lo hi n]
 show wpAny _ _ (pure (((sIx n 0 lo:Nat):Int),(1:Int),Dx ((sIx n 0 lo:Nat):Int) ((sIx n n hi:Nat):Int) 1)) _ _ s
 rw[nY];exact CD h
theorem sh (xs:Array CB)(i k:Nat):((DH k).filterMap λ(m:Nat)=>xs[((i:Int)+(m:Int)*1).toNat]?).toArray=((xs.toList.drop i).take k).toArray:=by
 have e:(λ(m:Nat)=>xs[((i:Int)+(m:Int)*1).toNat]?)=λm=>xs[i+m]?:=by
  funext m
  have:((i:Int)+(m:Int)*1).toNat=i+m:=by omega
  rw[this]
 rw[e]
 have:=pick_run xs i k;rw[Jh]at this
 have e2:((λx=>xs[x]?)∘λx=>i+x)=λm=>xs[i+m]?:=rfl
 rw[e2]at this;rw[this]
theorem getItem_tuple_cut {t sl:Addr}{items:Array CB}{vl vu:CB}{lo hi:Option Int}{Q:CB->Cz->Prop}(ht:KU s.heap t items)(hs:s.heap.IsSliceOf sl vl vu .none)(pl:Jz vl lo)(pu:Jz vu hi)
  (hw:¬ (sIx items.size 0 lo=0/\sIx items.size items.size hi=items.size))
  (h:Q (.ref s.heap.objs.size) { s with heap:=s.heap.push { cls:=.type "tuple",data:=.seq ((items.toList.drop (sIx items.size 0 lo)).take (sIx items.size items.size hi - sIx items.size 0 lo)).toArray } })
  (hsz:items.size<=sizeLine):wpAny (model prog w) A (getItem (.ref t) (.ref sl)) Q E s:=by
 have htake:sizeOk (.seq ((items.toList.drop (sIx items.size 0 lo)).take (sIx items.size items.size hi - sIx items.size 0 lo)).toArray):=by
  show((items.toList.drop (sIx items.size 0 lo)).take (sIx items.size items.size hi - sIx items.size 0 lo)).toArray.size<=sizeLine
  rw[CT,EM,Kg,DQ];omega
 have hj:sIx items.size items.size hi<=items.size:=xS _ _ (CM _) hi;obtain⟨os,hos,hcs,hds⟩:=id hs
 have hTs:s.TypeIs (.ref sl) "slice":=⟨os,hos,hcs⟩;unfold getItem
 try with_reducible refine D0 ?_
 first | refine Cy (CD ?_) | skip
 refine Cy (HE ht.typeIs (by decide) ?_)
 refine Cy (DF (name:=C0 "__getitem__") ht.typeIs Da
  (DY Da ht.typeIs GS ?_ (G7 _ _)))
 show wpAny _ _ (FJ (.ref t) >>= _) _ _ s
 refine Cy (HQ ht ?_)
 refine Cy (Gs hTs ?_)
 rw[if_pos (by decide)]
 refine Cy (eU hs pl pu ?_)
 have hno:¬ ((((sIx items.size 0 lo:Nat):Int) == 0&&(1:Int) == 1&&(sIx items.size items.size hi - sIx items.size 0 lo) == items.size)=true):=by
  intro q;rw[CC,CC]at q
  have q1:((sIx items.size 0 lo:Nat):Int)=0:=eq_of_beq q.1.1
  have q2:sIx items.size items.size hi - sIx items.size 0 lo=items.size:=eq_of_beq q.2;exact hw ⟨by omega,by omega⟩
 show wpAny _ _ (if (((sIx items.size 0 lo:Nat):Int) == 0&&(1:Int) == 1&&(sIx items.size items.size hi - sIx items.size 0 lo) == items.size)=true then _ else _) _ _ s
 rw[if_neg hno,sh]
 first
  | exact Cy (m:=Dt _) (De (CD ⟨_,rfl,CD h⟩) htake)
  | exact Cy (m:=Dt _) (De (Cy (CD (CD ⟨_,rfl,CD h⟩))) htake)
  | exact Cy (Cy (m:=Dt _) (De (CD (CD ⟨_,rfl,CD h⟩)) htake))
  | exact Cy (Cy (m:=Dt _) (De (CD ⟨_,rfl,CD h⟩) htake))
end
end HT
namespace L2
open PySem PySem.Spec PyProof.Rows
abbrev TO:=St->Hp->(Option Int->Hp->Prop)->Prop
def PO (X:Cx)(e:Option Expr)(t:TO):Prop:=
 ∀(pins:List (Addr×Obj)) (s:Cz) (σ:St) (H:Hp) (Q:Option Int->Hp->Prop),Inv X pins σ H s->t σ H Q →
  wpAny (model X.prog X.w) X.A (evalPart e X.env) (λu s'=> ∃o H',Inv X pins σ H' s'/\Jz u o/\Q o H') X.xe s
def uK:TO:=λ_ H Q=>Q none H
def zV (t:TE):TO:=λσ H Q=>t σ H λx H1=> ∃i,x= .int i/\Q (some i) H1
theorem oo {ns:List Int}:∀{us:List CB},Vals (ns.map V.int) us->Gb us ns:=by
 induction ns with
 | nil=>intro us r;rw[FY]at r;cases r;exact .nil
 | cons n ns ih=>
  intro us r;rw[C3]at r
  cases r with
  | cons r1 r2=>
   obtain⟨t,e⟩:=r1;subst e;exact .cons n t (ih r2)
section
variable {X:Cx}{e:Expr}{te:TE}{lo hi:Option Expr}{tl th:TO}{pos p2:Pos}
theorem vm:PO X none uK:=by
 intro pins s σ H Q I h;rw[JA];exact CD ⟨none,H,I,.none,h⟩
theorem vk (h:PE X e te):PO X (some e) (zV te):=by
 intro pins s σ H Q I hw;rw[evalPart_some];refine bF (h pins s σ H _ I hw) λu s1 hh_=> ?_
 obtain⟨x,H1,I1,r1,q1⟩:=hh_;obtain⟨i,rfl,q⟩:=q1;obtain⟨t,rfl⟩:=r1;exact⟨some i,H1,I1,.int i t,q⟩
def SlR (X:Cx)(r:V->Option Int->Option Int->Hp->VK->Prop):Prop:=
 ∀(pins:List (Addr×Obj)) (s:Cz) (σ:St) (H:Hp) (x:V) (v vl vu:CB) (lo hi:Option Int) (sl:Addr) (Q:VK),Inv X pins σ H s->RelV x v->s.heap.IsSliceOf sl vl vu .none->Jz vl lo->Jz vu hi->r x lo hi H Q →
  ∃T id,IF (.type T) "__getitem__" =pure (some (.builtin id))/\s.TypeIs v T/\wpAny (model X.prog X.w) X.A (getItem v (.ref sl)) (EP X pins σ Q) X.xe s
theorem SlR.or {r r':V->Option Int->Option Int->Hp->VK->Prop}(h:SlR X r)(h':SlR X r'):SlR X (λx lo hi H Q=>r x lo hi H Q\/r' x lo hi H Q):=by
 intro pins s σ H x v vl vu lo hi sl Q I rx hs pl pu q;rcases q with q | q
 ·exact h pins s σ H x v vl vu lo hi sl Q I rx hs pl pu q
 ·exact h' pins s σ H x v vl vu lo hi sl Q I rx hs pl pu q
def tSl (r:V->Option Int->Option Int->Hp->VK->Prop)(te:TE)(tl th:TO):TE:=λσ H Q=>te σ H λx H1=>tl σ H1 λl H2=>th σ H2 λu H3=>r x l u H3 Q
theorem sr {r:V->Option Int->Option Int->Hp->VK->Prop}(hr:SlR X r)(he:PE X e te)(hl:PO X lo tl)(hu:PO X hi th):PE X (.Subscript e (.Slice lo hi none p2) pos) (tSl r te tl th):=by
 intro pins s σ H Q I h;refine Subscript_ (bF (he pins s σ H _ I h) λv s1 hh_=> ?_)
 obtain⟨x,H1,I1,r1,q1⟩:=hh_;refine wpAny_Slice (bF (hl pins s1 σ H1 _ I1 q1) λvl s2 ⟨l,H2,I2,pl,q2⟩=>bF (hu pins s2 σ H2 _ I2 q2) λvu s3 hh_=> ?_)
 obtain⟨u,H3,I3,pu,q3⟩:=hh_;rw[JA];refine CD ?_
 have I4:Inv X pins σ H3 { s3 with heap:=s3.heap.push { cls:=.type "slice",data:=.fields #[vl,vu,.none] } }:=I3.kept (t':=s3.toks) λb ob q=>CG _ q
 obtain⟨T,id,hT,ht,hg⟩:=hr pins { s3 with heap:=s3.heap.push { cls:=.type "slice",data:=.fields #[vl,vu,.none] } } σ H3 x v vl vu l u s3.heap.objs.size Q I4 r1 (GZ ..) pl pu q3
 show wpAny (model X.prog X.w) X.A (subscriptTail e (.Slice lo hi none p2) v (.ref s3.heap.objs.size)) (EP X pins σ Q) X.xe { s3 with heap:=s3.heap.push { cls:=.type "slice",data:=.fields #[vl,vu,.none] } }
 exact tail_any (ops:=[.ref s3.heap.objs.size,v]) ht hT hg (by with_unfolding_all rfl)
def nr (xs:List V)(lo hi:Option Int):List V:=(xs.drop (HT.sIx xs.length 0 lo)).take (HT.sIx xs.length xs.length hi - HT.sIx xs.length 0 lo)
theorem iI (xs:List V)(lo hi:Option Int):(nr xs lo hi).length<=xs.length:=by
 unfold nr;rw[EM,Kg];omega
def rSlT (K:CA):V->Option Int->Option Int->Hp->VK->Prop:=λx lo hi H Q=> ∃a xs,x= .ref a/\SqT K H a xs ∧
 ¬(HT.sIx xs.length 0 lo=0/\HT.sIx xs.length xs.length hi=xs.length)/\∀p,H p=none->Q (.ref p) (dE H p (.tup (nr xs lo hi)))
theorem sl_tup:SlR X (rSlT X.K):=by
 intro pins s σ H x v vl vu lo hi sl Q I rx hs pl pu h;obtain⟨a,xs,rfl,hx,hw,q⟩:=h;cases rx;obtain⟨its,r,ht,hz⟩:=I.tuple hx
 have hlen:its.toArray.size=xs.length:=by rw[CT];exact r.length.symm
 refine⟨"tuple",_,Da.lookup,ht.typeIs,?_⟩
 refine HT.getItem_tuple_cut ht hs pl pu (by rw[hlen];exact hw) ?_ (by rw[hlen];exact hz)
 rw[hlen];refine⟨.ref s.heap.objs.size,_,I.laid (t':=s.toks) (o:=.tup (nr xs lo hi)) (λb ob q=>CG _ q) (CM _) ?_,rfl,q _ (I.hok.fresh (CM _))⟩
 exact⟨Dk (iI xs lo hi) hz,_,(r.drop (HT.sIx xs.length 0 lo)).take (HT.sIx xs.length xs.length hi - HT.sIx xs.length 0 lo),Ii _ _⟩
def Ad (K:CA):R2:=λx y H Q=> ∃a b xs ys,x= .ref a/\y= .ref b/\SqT K H a xs/\SqT K H b ys/\xs≠ []/\xs.length+ys.length<=sizeLine ∧
 (ys= []->Q (.ref a) H)/\(ys≠ []->∀p,H p=none->Q (.ref p) (dE H p (.tup (xs++ys))))
theorem Vals.BI {xs:List V}{us:List CB}(r:Vals xs us):us= [] ↔xs= []:=by
 cases r with
 | nil=>simp
 | cons _ _=>simp
theorem vD:jY X (Ed .Add) (Ad X.K):=by
 intro pins s σ H x y v u Q I rx ry h;obtain⟨a,b,xs,ys,rfl,rfl,ha,hb,hx,hz,q1,q2⟩:=h;cases rx;cases ry;obtain⟨its,r1,p1,_⟩:=I.tuple ha;obtain⟨its2,r2,p2,_⟩:=I.tuple hb;refine HT.cat_tup p1 p2 (λz=>hx (r1.BI.mp z)) (λz=>⟨.ref a,H,I,rfl,q1 (r2.BI.mp z)⟩) (λz=> ?_) (by rw[<-r1.length,<-r2.length];exact hz)
 refine⟨.ref s.heap.objs.size,_,I.laid (t':=s.toks) (o:=.tup (xs++ys)) (λb ob q=>CG _ q) (CM _) ?_,rfl,q2 (λw=>z (r2.BI.mpr w)) _ (I.hok.fresh (CM _))⟩
 exact⟨by rw[CF];exact hz,_,r1.append r2,Ii _ _⟩
end
def ixN (n:Nat)(i:Int):Option Nat:=if 0<=i then(if i<n then some i.toNat else none)else if -(n:Int)<=i then some (i+n).toNat else none
def atI {α:Type}(xs:List α)(i:Int):Option α:=(ixN xs.length i).bind λj=>xs[j]?
theorem vQ {n:Nat}{i:Int}{j:Nat}(h:ixN n i=some j):seqIndex? i n=some j/\j<n/\-(n:Int)<=i/\i<n:=by
 unfold ixN at h
 by_cases h0:0<=i
 ·rw[if_pos h0]at h
  by_cases h1:i<n
  ·rw[if_pos h1]at h
   have e:i.toNat=j:=Dr h;exact⟨by rw[seqIndex_of h0 h1,e],by omega,by omega,h1⟩
  ·rw[if_neg h1]at h;cases h
 ·rw[if_neg h0]at h
  by_cases h1 : -(n:Int)<=i
  ·rw[if_pos h1]at h
   have e:(i+n).toNat=j:=Dr h;exact⟨by rw[seqIndex_neg (by omega) h1,e],by omega,h1,by omega⟩
  ·rw[if_neg h1]at h;cases h
theorem l5 {α:Type}{xs:List α}{i:Int}{v:α}(h:atI xs i=some v):∃j,seqIndex? i xs.length=some j/\xs[j]? =some v/\j<xs.length/\-(xs.length:Int)<=i/\i<xs.length:=by
 unfold atI at h
 cases e:ixN xs.length i with
 | none=>rw[e]at h;cases h
 | some j=>
  rw[e]at h;obtain⟨h1,h2,h3,h4⟩:=vQ e;exact⟨j,h1,h,h2,h3,h4⟩
def pU (b:Expr):Prop:=∀o i,subscripted b false o i=operate [o,i] (getItem o i)
def IxR (X:Cx)(r:R2):Prop:=
 ∀(value slice:Expr) (pins:List (Addr×Obj)) (s:Cz) (σ:St) (H:Hp) (x y:V) (v u:CB) (Q:VK),Inv X pins σ H s->RelV x v->RelV y u->r x y H Q →
  subscripted slice false v u=operate [v,u] (getItem v u)->wpAny (model X.prog X.w) X.A (subscriptTail value slice v u) (EP X pins σ Q) X.xe s
def MtR (X:Cx)(id:String)(r:V->List V->Hp->VK->Prop):Prop:=
 ∀(pins:List (Addr×Obj)) (s:Cz) (σ:St) (H:Hp) (x:V) (xs:List V) (v:CB) (us:List CB) (Q:VK),Inv X pins σ H s->RelV x v->Vals xs us->r x xs H Q →
  wpAny (model X.prog X.w) X.A (call (.builtin id) (v::us)) (EP X pins σ Q) X.xe s
section
variable {X:Cx}{a b:Expr}{ta tb:TE}{pos:Pos}
theorem IxR.or {r r':R2}(h:IxR X r)(h':IxR X r'):IxR X (λx y H Q=>r x y H Q\/r' x y H Q):=by
 intro value slice pins s σ H x y v u Q I rx ry q hs;rcases q with q | q
 ·exact h value slice pins s σ H x y v u Q I rx ry q hs
 ·exact h' value slice pins s σ H x y v u Q I rx ry q hs
def Ac (K:CA):R2:=λx y H Q=> ∃p xs i v,x= .ref p/\y= .int i/\SqL K H p xs/\atI xs i=some v/\Q v H
def Aa (K:CA):R2:=λx y H Q=> ∃p xs i v,x= .ref p/\y= .int i/\SqT K H p xs/\atI xs i=some v/\Q v H
def Ab:R2:=λx y H Q=> ∃z i c,x= .str z/\y= .int i/\z.length<=sizeLine/\atI z.cps.toList i=some c/\Q (.str ⟨#[c]⟩) H
theorem ix_list:IxR X (Ac X.K):=by
 intro value slice pins s σ H x y v u Q I rx ry h hs;obtain⟨p,xs,i,z,rfl,rfl,hq,he,q⟩:=h;cases rx;obtain⟨t,rfl⟩:=ry;obtain⟨its,r,pl,hz⟩:=I.list hq;obtain⟨j,h1,h2,h3,h4,h5⟩:=l5 he;obtain⟨w,ew,rw'⟩:=r.get h2
 have hl:=r.length
 have hn:=jA
 have fin:EP X pins σ Q w s:=⟨z,H,I,rw',q⟩
 by_cases h0:0<=i
 ·have hj:i.toNat=j:=by
   rw[seqIndex_of h0 h5]at h1;exact Dr h1
  exact item_listR pl.isList h0 (by omega) (by rw[hj];simpa using ew) fin hs
 ·have hj:(i+(its.toArray.size:Int)).toNat=j:=by
   rw[seqIndex_neg (by omega) h4]at h1
   rw[CT,<-hl];exact Dr h1
  exact Ib (x:=w) pl.isList.typeIs slot_list_getitem.lookup
   (wpAny_getItem_list_neg (Q:=λr s'=>r=w/\EP X pins σ Q r s') pl.isList (by omega) (by rw[CT] <;> omega) (by omega) (by rw[hj];simpa using ew) ⟨rfl,fin⟩) hs
theorem ix_tup:IxR X (Aa X.K):=by
 intro value slice pins s σ H x y v u Q I rx ry h hs;obtain⟨p,xs,i,z,rfl,rfl,hq,he,q⟩:=h;cases rx;obtain⟨t,rfl⟩:=ry;obtain⟨its,r,pl,hz⟩:=I.tuple hq;obtain⟨j,h1,h2,h3,h4,h5⟩:=l5 he;obtain⟨w,ew,rw'⟩:=r.get h2
 have hl:=r.length
 have hn:=jA
 have fin:EP X pins σ Q w s:=⟨z,H,I,rw',q⟩
 exact Ib (x:=w) pl.typeIs slot_tuple_getitem.lookup
  (getItem_tuple (j:=j) (Q:=λr s'=>r=w/\EP X pins σ Q r s') pl (by omega) (by omega) (by rw[CT,<-hl];exact h1) (by simpa using ew) ⟨rfl,fin⟩) hs
theorem yX:IxR X Ab:=by
 intro value slice pins s σ H x y v u Q I rx ry h hs;obtain⟨z,i,c,rfl,rfl,hz,he,q⟩:=h;obtain⟨t,rfl⟩:=rx;obtain⟨t',rfl⟩:=ry;obtain⟨j,h1,h2,h3,h4,h5⟩:=l5 he
 have hl:z.cps.toList.length=z.length:=by simp[Str.length]
 rw[hl]at h1 h4 h5
 have hn:=jA
 exact tail_any (typeIs_str s z t) slot_str_getitem.lookup (getItem_str (c:=c) (by
  have e1:decide (i< -(2 ^ 63:Int))=false:=decide_eq_false (by omega)
  have e2:decide (i ≥ 2 ^ 63)=false:=decide_eq_false (by omega)
  rw[e1,e2,HI]) (by rw[h1];simpa using h2) ⟨.str ⟨#[c]⟩,H,I.tok _,⟨_,rfl⟩,q⟩) hs
def rIx (K:CA):R2:=λx y H Q=>Ac K x y H Q\/Aa K x y H Q\/Ab x y H Q
theorem yY:IxR X (rIx X.K):=ix_list.or (ix_tup.or yX)
theorem k8 (lo hi:Option Int)(n:Nat):(Gj lo hi none n).1=((HT.sIx n 0 lo:Nat):Int)/\(Gj lo hi none n).2.1=((HT.sIx n n hi:Nat):Int)/\(Gj lo hi none n).2.2=1:=by
 refine⟨?_,?_,rfl⟩
 ·cases lo with
  | none=>simp[Gj,HT.sIx]
  | some i=>
   simp only[Gj,HT.sIx,Kh,show(1:Int) > 0 by decide,if_true]
   by_cases h:i<0
   ·simp only[h,if_true] <;> omega
   ·simp only[h,if_false] <;> omega
 ·cases hi with
  | none=>simp[Gj,HT.sIx]
  | some i=>
   simp only[Gj,HT.sIx,Kh,show(1:Int) > 0 by decide,if_true]
   by_cases h:i<0
   ·simp only[h,if_true] <;> omega
   ·simp only[h,if_false] <;> omega
theorem j2 (its:List CB)(lo hi:Option Int):KL its.toArray lo hi none=((its.drop (HT.sIx its.length 0 lo)).take (HT.sIx its.length its.length hi - HT.sIx its.length 0 lo)).toArray:=by
 obtain⟨h1,h2,h3⟩:=k8 lo hi its.toArray.size;unfold KL;rw[h1,h2,h3];simp only[sliceRange_one,pick_run,CT] <;> rfl
def rSlL (K:CA):V->Option Int->Option Int->Hp->VK->Prop:=λx lo hi H Q=> ∃a xs,x= .ref a/\SqL K H a xs/\∀p,H p=none->Q (.ref p) (dE H p (.lst (nr xs lo hi)))
theorem uN:SlR X (rSlL X.K):=by
 intro pins s σ H x v vl vu lo hi sl Q I rx hs pl pu h;obtain⟨a,xs,rfl,hx,q⟩:=h;cases rx;obtain⟨its,r,ht,hz⟩:=I.list hx
 have hlen:=r.length;refine⟨"list",_,slot_list_getitem.lookup,ht.isList.typeIs,?_⟩
 refine HF ht.isList hs pl pu .none (by simp) ?_ (by rw[CT] <;> omega)
 rw[j2,<-hlen];refine⟨.ref s.heap.objs.size,_,I.laid (t':=s.toks) (o:=.lst (nr xs lo hi)) (λb ob q=>CG _ q) (CM _) ?_,rfl,q _ (I.hok.fresh (CM _))⟩
 exact⟨Dk (iI xs lo hi) hz,_,0,(r.drop (HT.sIx xs.length 0 lo)).take (HT.sIx xs.length xs.length hi - HT.sIx xs.length 0 lo),CZ _ rfl⟩
theorem call_len_seq:CallR X (.builtin "len") (λxs H Q=> ∃p ys,xs= [.ref p]/\(SqL X.K H p ys\/SqT X.K H p ys)/\Q (.int ys.length) H):=by
 intro pins s σ H xs us Q I r h;obtain⟨p,ys,rfl,hq,q⟩:=h;obtain⟨u,rfl,rx⟩:=iC r;cases rx
 have hn:=jA;rcases hq with hq | hq
 ·obtain⟨its,r',pl,hz⟩:=I.list hq
  have hlen:=r'.length;exact Calls.call_len_list pl.isList (by simp only[CT] <;> omega) ⟨.int ys.length,H,I.tok _,⟨s.toks+1,by rw[CT,hlen]⟩,q⟩
 ·obtain⟨its,r',pl,hz⟩:=I.tuple hq
  have hlen:=r'.length;exact len_tuple pl (by simp only[CT] <;> omega) ⟨.int ys.length,H,I.tok _,⟨s.toks+1,by rw[CT,hlen]⟩,q⟩
theorem lZ:CallR X (.builtin "len") (λxs H Q=> ∃z,xs= [.str z]/\z.length<=sizeLine/\Q (.int z.length) H):=by
 intro pins s σ H xs us Q I r h;obtain⟨z,rfl,hz,q⟩:=h;obtain⟨u,rfl,t,rfl⟩:=iC r
 have hn:=jA;exact len_str (by omega) ⟨.int z.length,H,I.tok _,⟨_,rfl⟩,q⟩
theorem CallR.or {f:CB}{r r':List V->Hp->VK->Prop}(h:CallR X f r)(h':CallR X f r'):CallR X f (λxs H Q=>r xs H Q\/r' xs H Q):=by
 intro pins s σ H xs us Q I rs q;rcases q with q | q
 ·exact h pins s σ H xs us Q I rs q
 ·exact h' pins s σ H xs us Q I rs q
theorem kb:CallR X (.type "tuple") (λxs H Q=> ∃p ys,xs= [.ref p]/\((SqL X.K H p ys/\∀l,H l=none->Q (.ref l) (dE H l (.tup ys)))\/(SqT X.K H p ys/\Q (.ref p) H))):=by
 intro pins s σ H xs us Q I r h;obtain⟨p,ys,rfl,h⟩:=h;obtain⟨u,rfl,rx⟩:=iC r;cases rx;rcases h with⟨hq,q⟩ | ⟨hq,q⟩
 ·obtain⟨its,r',pl,hz⟩:=I.list hq
  have hlen:=r'.length;refine call_tuple_list pl.isList (λh' kp=> ?_) (by simp only[CT] <;> omega)
  have I1:Inv X pins σ H { s with heap:=h' }:=I.kept (t':=s.toks) kp
  have I2:Inv X pins σ (dE H h'.objs.size (.tup ys)) { s with heap:=h'.push { cls:=.type "tuple",data:=.seq its.toArray } }:=
   I1.laid (t':=s.toks) (λb o e=>CG _ e) (CM _) (show ObjOk X.prog X.w _ _ _ (.tup ys)from⟨hz,its,r',Ii _ _⟩)
  exact⟨.ref h'.objs.size,_,I2,rfl,q _ (I1.hok.fresh (CM _))⟩
 ·obtain⟨its,r',pl,hz⟩:=I.tuple hq
  exact call_tuple_same pl ⟨.ref p,H,I,rfl,q⟩
def tyV (K:CA)(T:String)(x:V)(H:Hp):Prop:=match x with
 | .str _=>T= "str"
 | .int _=>T= "int"
 | .ref p=>(T= "list"/\∃xs,SqL K H p xs)\/(T= "tuple"/\∃o,K.lookup p=some o/\o.cls= .type "tuple"/\o.dict=none) ∨
   (T= "dict"/\((∃kvs,H p=some (.dK kvs))\/∃kvs,H p=some (.dT kvs)))\/(T= "set"/\∃S n,H p=some (.set S n))
 | _=>False
theorem xF {pins:List (Addr×Obj)}{σ:St}{H:Hp}{s:Cz}{T:String}{x:V}{v:CB}(I:Inv X pins σ H s)(r:RelV x v)(ty:tyV X.K T x H) :
  s.TypeIs v T/\∀a,v= .ref a->∃ob,s.heap.get? a=some ob/\ob.dict=none:=by
 cases x with
 | str z=>
  obtain⟨t,rfl⟩:=r;cases (show T= "str" from ty)
  exact⟨typeIs_str s z t,λ_ e=>nomatch e⟩
 | int i=>
  obtain⟨t,rfl⟩:=r;cases (show T= "int" from ty)
  exact⟨IG s i t,λ_ e=>nomatch e⟩
 | ref p=>
  cases r;rcases ty with⟨rfl,xs,hq⟩ | ⟨rfl,o,hk,hc,hd⟩ | ⟨rfl,hk⟩ | ⟨rfl,S,n,hk⟩
  ·obtain⟨its,_,pl,_⟩:=I.list hq
   refine⟨pl.isList.typeIs,λa e=> ?_⟩
   cases e;obtain⟨o,n,e,c,hd,_⟩:=pl;exact⟨o,e,hd⟩
  ·refine⟨⟨o,I.kIn p o hk,hc⟩,λa e=> ?_⟩
   cases e;exact⟨o,I.kIn _ o hk,hd⟩
  ·have z:∃o,s.heap.get? p=some o/\o.ExactDict:=by
    rcases hk with⟨kvs,hk⟩ | ⟨kvs,hk⟩
    ·obtain⟨_,_,_,_,o,_,_,e,ex,_⟩:=I.hok p _ hk
     exact⟨o,e,ex⟩
    ·obtain⟨_,_,_,_,o,_,_,e,ex,_⟩:=I.hok p _ hk
     exact⟨o,e,ex⟩
   obtain⟨o,e,ex⟩:=z;refine⟨⟨o,e,ex.1⟩,λa e2=> ?_⟩
   cases e2;exact⟨o,e,ex.2.1⟩
  ·obtain⟨o,_,_,_,e,ex,_⟩:=I.hok p _ hk
   refine⟨⟨o,e,ex.1⟩,λa e2=> ?_⟩
   cases e2
   exact⟨o,e,ex.2.1⟩
 | _=>exact Em ty
def tBM (K:CA)(T:String)(r:V->List V->Hp->VK->Prop)(to:TE)(t:TA):TE:=λσ H Q=>to σ H λx H1=>tyV K T x H1/\t σ H1 λxs H2=>r x xs H2 Q
variable {o e:Expr}{es:List Expr}{to:TE}{t:TA}{name:Str}{apos cpos:Pos}{T id:String}{r:V->List V->Hp->VK->Prop}
theorem w6 (pa:PlainAttrs T)(slot:Slot T name id)(hty:typeOf (.builtin id)=pure (.type "method_descriptor"))(hm:MtR X id r)(ho:PE X o to)(ha:PA X (e::es) t)
  (hbase:autoParam (FH o name X.env (eval o X.env)=eval o X.env) u_)
  (hfew:((backTo cpos (CV (e::es) X.env)).all (λx=> !x.1)&&(backToKw cpos (keywordEach [] X.env)).all (λx=>x.1.isSome)
   &&decide ((e::es).length+([]:List Keyword).length+(if ([]:List Keyword).isEmpty then 0 else 1)<30))=true:=by rfl)
  (hline:autoParam ((apos.endLine == cpos.line)=true) u_) (hs:autoParam (CV (e::es) X.env=(false,eval e X.env)::CV es X.env) u_) (hplain:autoParam ((backTo cpos (CV es X.env)).any (·.1)=false) u_) :
  PE X (.Call (.Attribute o name apos) (e::es) [] cpos) (tBM X.K T r to t):=by
 intro pins s σ H Q I h;refine Ic hbase hfew hline rfl (bF (ho pins s σ H _ I h) λv s1 hh_=> ?_)
 obtain⟨x,H1,I1,r1,ty,q1⟩:=hh_;obtain⟨h1,h2⟩:=xF I1 r1 ty;refine⟨T,id,pa,slot,hty,h1,h2,?_⟩
 have hA:=ha cpos pins s1 σ H1 _ I1 q1;rw[hs]at hA ⊢;refine HZ (by show(false||(backTo cpos (CV es X.env)).any (·.1))=false;rw[hplain] <;> rfl) (Gx ?_)
 exact bF hA λus s2 ⟨vs,H2,I2,r2,q2⟩=>hm pins s2 σ H2 x vs v us Q I2 r1 r2 q2
end
def MtM (X:Cx)(id:String)(r:V->List V->Hp->VK->Prop):Prop:=
 ∀(pins:List (Addr×Obj)) (s:Cz) (σ:St) (H:Hp) (x:V) (xs:List V) (v:CB) (us:List CB) (Q:VK),Inv X pins σ H s->RelV x v->Vals xs us->r x xs H Q →
  wpAny (model X.prog X.w) X.A (call (.builtin id) (v::us)) (EP X pins σ Q) X.xe s
theorem Vals.one:∀{x:V} {us:List CB},Vals [x] us->∃u,us= [u]/\RelV x u
 | _,_,.cons r .nil=>⟨_,rfl,r⟩
theorem Vals.reverse {xs:List V}{us:List CB}(h:Vals xs us):Vals xs.reverse us.reverse:=by
 induction h with
 | nil=>exact .nil
 | cons r t ih=>rw[Gh,Gh];exact Vals.append ih (.cons r .nil)
theorem Vals.rep {xs:List V}{us:List CB}(h:Vals xs us):∀k:Nat,Vals (C6 k xs).flatten (C6 k us).flatten
 | 0=> .nil
 | k+1=>by
  rw[Ep,Ep,DI,DI];exact Vals.append h (Vals.rep h k)
theorem foldl_rep (its:List CB):∀(k:Nat) (acc:List CB),
  Ho (λx1 x2=>x1++x2) acc.toArray (C6 k its.toArray)=(acc++(C6 k its).flatten).toArray
 | 0,acc=>by simp
 | k+1,acc=>by
  have e:acc.toArray++its.toArray=(acc++its).toArray:=by simp
  have e2:(acc++its)++(C6 k its).flatten=acc++(C6 (k+1) its).flatten:=by
   rw[Ep,DI,Dq]
  rw[<-e2,<-foldl_rep its k (acc++its),<-e,Ep,Kz]
section
variable {X:Cx}{pins:List (Addr×Obj)}{σ:St}{H:Hp}{s:Cz}{l b:Addr}{xs ys zs:List V}
theorem Inv.Cw {its its':List CB}{n:Nat}{f:Array CB->Array CB}{t':Nat}(I:Inv X pins σ H s)(hH:H l=some (.lst xs))
  (e:s.heap.get? l=some { cls:=.type "list",data:=.seq its.toArray n }) (hf:f its.toArray=its'.toArray) (hv:Vals ys its') (hz:ys.length<=sizeLine) :
  Inv X pins σ (dE H l (.lst ys)) { s with heap:=s.heap.update l (Hq f),toks:=t' }:=by
 have q:=PySem.IsL.update e f;rw[hf]at q;refine I.write (x:=l) (e:=l) (by rw[hH];exact trivial) (.inl rfl) (λb' u hb hu=>(D6 s.heap (Hq f) (DG hb)).trans hu) ⟨_,q⟩ ?_
 exact⟨hz,its',_,hv,q⟩
theorem Inv.B7 {its:List CB}{t':Nat}(I:Inv X pins σ H s)(hv:Vals ys its)(hz:ys.length<=sizeLine) :
  Inv X pins σ (dE H s.heap.objs.size (.lst ys)) { s with heap:=s.heap.push { cls:=.type "list",data:=.seq its.toArray },toks:=t' }:=
 I.laid (λ_ _ q=>CG _ q) (CM _) ⟨hz,its,0,hv,CZ _ rfl⟩
theorem Inv.fresh (I:Inv X pins σ H s):H s.heap.objs.size=none:=I.hok.fresh (CM _)
theorem Inv.B1 (I:Inv X pins σ H s)(hH:H l=some (.lst xs)):xs.length<=sizeLine/\∃(its:List CB) (n:Nat),Vals xs its/\xs.length=its.length/\s.heap.get? l=some { cls:=.type "list",data:=.seq its.toArray n }:=by
 obtain⟨z,its,n,r,e⟩:=I.hok l _ hH;exact⟨z,its,n,r,r.length,e⟩
theorem sP {n:Nat}(h:n<=sizeLine):FW n=false:=by
 unfold FW;exact decide_eq_false (by omega)
end
section
variable {X:Cx}
def uT:V->List V->Hp->VK->Prop:=λx vs H Q=> ∃l xs y,x= .ref l/\vs= [y]/\H l=some (.lst xs)/\xs.length<sizeLine/\Q .non (dE H l (.lst (xs++ [y])))
theorem kv:MtM X "list.append" uT:=by
 intro pins s σ H x vs v us Q I rx rv h;obtain⟨l,xs,y,rfl,rfl,hH,hz,q⟩:=h;cases rx;obtain⟨u,rfl,ru⟩:=rv.one;obtain⟨z,its,n,r,hl,e⟩:=I.B1 hH;refine Fo F.slot_list_append ⟨_,e,rfl⟩ F.entry_list_append (F.args_list_append_2 _ _) (PySem.list_append l its.toArray n u (by rw[CT];omega)) ⟨e,?_⟩
 refine⟨.non,_,I.Cw (its':=its++ [u]) hH e (by simp) (r.append (.cons ru .nil)) ?_,rfl,q⟩
 rw[CF,Gm];omega
def rCat:R2:=λx y H Q=> ∃l b xs zs,x= .ref l/\y= .ref b/\H l=some (.lst xs)/\H b=some (.lst zs)/\xs.length+zs.length<=sizeLine/\∀p,H p=none->Q (.ref p) (dE H p (.lst (xs++zs)))
theorem sI:jY X (Ed .Add) rCat:=by
 intro pins s σ H x y v u Q I rx ry h;obtain⟨l,b,xs,zs,rfl,rfl,hH,hB,hz,q⟩:=h;cases rx;cases ry;obtain⟨z,its,n,r,hl,e⟩:=I.B1 hH;obtain⟨z2,its2,n2,r2,hl2,e2⟩:=I.B1 hB;refine PySem.P.add_list e e2 ?_ (by rw[CT,CT];omega)
 have ea:its.toArray++its2.toArray=(its++its2).toArray:=by simp
 rw[ea];exact⟨.ref _,_,I.B7 (t':=s.toks) (r.append r2) (by rw[CF];omega),rfl,q _ I.fresh⟩
def rRep:R2:=λx y H Q=> ∃l k xs,x= .ref l/\y= .int k/\H l=some (.lst xs)/\-(2 ^ 63)<=k/\k<2 ^ 63/\xs.length*k.toNat<=sizeLine ∧
 ∀p,H p=none->Q (.ref p) (dE H p (.lst (C6 k.toNat xs).flatten))
theorem len_rep {α:Type}(xs:List α)(k:Nat):(C6 k xs).flatten.length=k*xs.length:=by
 induction k with
 | zero=>simp
 | succ k ih=>rw[Ep,DI,CF,ih,Nat.succ_mul,Nat.add_comm]
theorem yy:jY X (Ed .Mult) rRep:=by
 intro pins s σ H x y v u Q I rx ry h;obtain⟨l,k,xs,rfl,rfl,hH,h1,h2,hz,q⟩:=h;cases rx;obtain⟨t,rfl⟩:=ry;obtain⟨z,its,n,r,hl,e⟩:=I.B1 hH
 have hlen:its.toArray.size*k.toNat<=sizeLine:=by rw[CT,<-hl];exact hz
 have hcap:¬ its.toArray.size*k.toNat > (2 ^ 63 - 1) / 8:=by
  have:(sizeLine:Nat)<=(2 ^ 63 - 1) / 8:=by decide
  omega
 have hfit:¬ (!Builtin.List.listFitsIndex k)=true:=by
  rw[fitsIndex_both h1 h2];exact C1
 have hlong:¬ FW (its.toArray.size*k.toNat)=true:=by
  rw[sP hlen];exact C1
 have hnew:Ho (λx1 x2=>x1++x2) #[] (C6 (if its.toArray.isEmpty=true then 0 else k.toNat) its.toArray)=(C6 k.toNat its).flatten.toArray:=by
  have f0:∀m:Nat,Ho (λx1 x2=>x1++x2) #[] (C6 m its.toArray)=(C6 m its).flatten.toArray:=λm=>by
   have:=foldl_rep its m [];rw[Ew]at this;exact this
  rw[f0]
  cases its with
  | nil=>simp
  | cons a r'=>rw[if_neg (by simp)]
 refine Hf (T:="list") (U:="int") (by decide) ⟨_,e,rfl⟩ (λs'=>IG s' k t) noFill_list_mul KA GJ repeat_list Ki.lookup
  (Fo GJ (IG s k t) Kj (JO _ _) (int___rmul___int_list k t l its.toArray n)
   ⟨e,rfl,⟨_,e,rfl⟩,Fo F.slot_list_mul ⟨_,e,rfl⟩ F.entry_list_mul (F.args_list_mul_2 _ _) (Ji l its.toArray n k t hfit hcap hlong) ⟨e,?_⟩⟩)
 rw[hnew];exact⟨.ref _,_,I.B7 (t':=s.toks) (r.rep k.toNat) (by rw[len_rep,J4];exact hz),rfl,q _ I.fresh⟩
end
end L2
namespace Att
open PySem PySem.W PySem.Calls PyProof.Rows
theorem iP {P:Params}{h:Heap}:∀(ns:List Int) (vs:List CB),WellAll P h vs (ns.map WData.int)->Gb vs ns:=by
 intro ns
 induction ns with
 | nil=>
  intro vs w;rw[FY]at w;cases w
  exact .nil
 | cons n ns ih=>
  intro vs w;rw[C3]at w
  cases w with
  | cons a b=>
   cases a;exact .cons _ _ (ih _ b)
theorem script_of {l:OpenLaw}{n:Nat}(hn:l.most=some n){P:Params}{h:Heap}{args:List WData}{vals:List CB}
  (hpre:l.row.toRowW.claim.pre args=true) (hwl:WellAll P h vals args) :
  ∃a vs ns,vals= [Df a]/\args= [WData.list (ns.map WData.int)]/\h.get? a=some { cls:=.type "list",data:=.seq vs.toArray }/\Gb vs ns/\ns.length<=n:=by
 have hsh:WShape.hasAll [] args [.list .int] =true:=(pre_splitW hpre).1
 have hc:l.pre.holds [] { args:=args }=true:=(pre_splitW hpre).2;obtain⟨d,r,rfl,h1,h2⟩:=hasAllW_cons hsh;obtain rfl:=hasAllW_nil h2;obtain⟨xs,rfl,h3⟩:=hasW_list h1;obtain⟨ns,rfl⟩:=items_int h3
 have hlen:ns.length<=n:=by
  unfold OpenLaw.pre at hc
  have h4:(WTm.not (.lt (.lit (.int (n:Int))) (.len (.arg 0)))).holds [] { args:=[.list (ns.map .int)] }=true:=by
   have h4:=(holds_andW hc).1;rw[hn]at h4;exact h4
  have h5:=condW_of h4 (w_not (w_lt w_lit (w_len_list (w_arg rfl))));rw[CI]at h5;refine Nat.le_of_not_lt λq=> ?_
  have q':(n:Int)<((ns.length:Nat):Int):=by omega
  first
   | (rw[decide_eq_true q']at h5;exact absurd h5 (by decide))
   | (simp at h5;omega)
 cases hwl with
 | cons w1 w2=>
  cases w2
  cases w1 with
  | list ho hall=>exact⟨_,_,ns,rfl,rfl,ho,iP ns _ hall,hlen⟩
theorem post_true (l:OpenLaw)(args:List WData):l.row.toRowW.claim.post args (.bool true) args=true:=
 postW_of (r:=l.row.toRowW) (X:=(true == true))
  (show WShape.has [] (.bool true) .bool=true by first | rfl | decide | simp[WShape.has,WShape.arms,WShape.armsAll])
  (show(WTm.eq .res (.lit (.bool true))).value [] { args:=args,res:=some (.bool true),after:=args }=some (.bool (true == true))from w_eq_bool (w_res rfl) w_lit) rfl
end Att
namespace L2
open PySem PySem.Spec PyProof.Rows
theorem hG:∀{vs:List CB} {ns:List Int},Gb vs ns->Vals (ns.map V.int) vs
 | _,_,.nil=> .nil
 | _,_,.cons n t h=> .cons ⟨t,rfl⟩ (hG h)
def zB (H:Hp):Prop:=∀b,H b=none\/∃o xs,H b=some (.frz o (.lst xs))
abbrev CX0:qM:=λ_ _ _ _ _ _=>False
abbrev E0:XK:=λ_ _ _=>False
theorem sC {X:Cx}:ma CX0 X E0:=λ_ _ _ _ _ _ _ h=>h.elim
structure Fun (K:CA)(x qual:Str)(st:Stmt)(f:Addr)(fd:DB):Prop where
 ex:∃(oc:CB) (od:Option Addr) (kV doc pm:CB) (an:Option Addr) (cdv ct:CB) (osl:Array (Option CB)),
  fd=E9 x qual (dM st) (ba st) (aj st) .none kV doc pm an cdv ct/\K.lookup f=some ⟨oc,od,.func fd,osl⟩/\G8 K cdv qual=true
 kp:Fk K (.ref f)=true
section
variable {P:C4}{w:Du}{K:CA}{mg:Str->Option CB}{base:Heap}
theorem Fun.ok {x qual:Str}{st:Stmt}{f:Addr}{fd:DB}{N ps:List Str}{k:Nat}{sp:Sp}(F:Fun K x qual st f fd)(S:bq N ps (aj st))(len:∀vs H Q E,sp vs H Q E->vs.length=ps.length)
  (hbody:∀(cdv:CB) (A:Dj) (outer:List Env) (s:Cz) (H:Hp) (vs:List V) (Q:VK) (E:XK),Room k (A.deeper (envOfC qual (aj st) s.heap.objs.size f cdv))->sp vs H Q E →
   ∃t,PSs (dN CX0 P w K mg base N qual (aj st) f cdv A outer s H E).nox (ba st) t/\t { nx:=λ_ H'=>Q .non H',rt:=Q } (start N vs) H):qL P w K mg base CX0 (k+1) f fd ps sp:=by
 obtain⟨oc,od,kV,doc,pm,an,cdv,ct,osl,rfl,lk,hcd⟩:=F.ex;refine A7 lk hcd S len λA outer s H vs Q E hr hsp=> ?_
 obtain⟨t,h,q⟩:=hbody cdv A outer s H vs Q E hr hsp;exact⟨t,h.nox,q⟩
theorem Fun.binds {x qual:Str}{st:Stmt}{f:Addr}{fd:DB}{ps:List Str}(F:Fun K x qual st f fd)
  (h:∀(kV doc pm:CB) (an:Option Addr) (cdv ct:CB) (us:List CB),us.length=ps.length->Jx (E9 x qual (dM st) (ba st) (aj st) .none kV doc pm an cdv ct) ⟨us,[]⟩=pure (ps.zip us)):Binds K fd ps []:=by
 obtain⟨oc,od,kV,doc,pm,an,cdv,ct,osl,rfl,lk,hcd⟩:=F.ex;exact .all (h kV doc pm an cdv ct)
theorem y1 {x qual:Str}{st:Stmt}{f:Addr}{oc:CB}{od an:Option Addr}{osl:Array (Option CB)}{kV doc pm cdv ct:CB}(l:K.lookup f=some ⟨oc,od,.func (E9 x qual (dM st) (ba st) (aj st) .none kV doc pm an cdv ct),osl⟩)
  (c:G8 K cdv qual=true) (k:Fk K (.ref f)=true):Fun K x qual st f (E9 x qual (dM st) (ba st) (aj st) .none kV doc pm an cdv ct):=⟨⟨oc,od,kV,doc,pm,an,cdv,ct,osl,rfl,l,c⟩,k⟩
end
section
variable {X:Cx}
theorem pv (i:Nat){x:Str}{pos:Pos}(hN:autoParam (X.N[i]? =some x) u_)(hv:autoParam (qK X.env.scope x) v_)(hd:autoParam ((x == ("__debug__" : Str))=false) s_)
  (hcd:autoParam ((x == ("__classdict__" : Str))=false) s_):PE X (.Name x pos) (rG i):=jm hN hv hd hcd
end
theorem iteF {A B:Prop}(h:B):if false=true then A else B:=by
 rw[if_neg C1];exact h
theorem iteT {A B:Prop}(h:A):if true=true then A else B:=by
 rw[if_pos rfl];exact h
def Same (H H':Hp):Prop:=∀b o,H b=some o->H' b=some o
theorem Same.refl (H:Hp):Same H H:=λ_ _ h=>h
theorem Same.trans {H H1 H2:Hp}(a:Same H H1)(b:Same H1 H2):Same H H2:=λc o h=>b c o (a c o h)
theorem gA {env:Env}:∀(names:List (Str×Ft)) (acc:List (Str×Addr)),
  (∀x,(x,Dp)∈names->∃c,env.cells.lookup x=some c) →
  (∀x c,acc.lookup x=some c->env.cells.lookup x=some c) →
  ∃cl,(forIn (m:=Sem) names acc (λx cs=>(if (x.2 == Dp)=true then do let a <-cellOf env x.1;pure (EG ((x.1,a)::cs))else pure (EG cs))))=pure cl ∧
   (∀x c,cl.lookup x=some c->env.cells.lookup x=some c) ∧
   (∀x,(x,Dp)∈names->∃c,cl.lookup x=some c)/\(∀x c,acc.lookup x=some c->∃c',cl.lookup x=some c')
 | [],acc,_,h=>⟨acc,rfl,h,λx hx=>by simp at hx,λx c e=>⟨c,e⟩⟩
 | (n,k)::r,acc,hf,h=>by
  by_cases hk:k=Dp
  ·subst hk
   obtain⟨c,hc⟩:=hf n (by simp)
   have h':∀x c',((n,c)::acc).lookup x=some c'->env.cells.lookup x=some c':=λx c' e=>by
    rw[DX]at e
    cases q:x == n with
    | true=>
     rw[q]at e
     have e2:c=c':=Dr e
     have e3:x=n:=by simpa using q
     rw[<-e2,e3];exact hc
    | false=>rw[q]at e;exact h x c' e
   obtain⟨cl,e1,e2,e3,e4⟩:=gA r ((n,c)::acc) (λx hx=>hf x (CH _ hx)) h'
   refine⟨cl,?_,e2,λx hx=> ?_,λx c' e=> ?_⟩
   ·rw[KB]
    simp only[beq_self_eq_true,if_true,cellOf,hc,pure_bind];exact e1
   ·rcases CO.mp hx with z | z
    ·have z1:x=n:=by injection z
     subst z1;exact e4 x c (by simp[DX])
    ·exact e3 x z
   ·cases q:x == n with
    | true=>exact e4 x c (by simp[DX,q])
    | false=>exact e4 x c' (by simp[DX,q,e])
  ·have hb:(k == Dp)=false:=by simpa using hk
   obtain⟨cl,e1,e2,e3,e4⟩:=gA r acc (λx hx=>hf x (CH _ hx)) h
   refine⟨cl,?_,e2,λx hx=> ?_,e4⟩
   ·rw[KB]
    simp only[hb,DL,if_false,pure_bind];exact e1
   ·rcases CO.mp hx with z | z
    ·have z1:Dp=k:=by injection z
     exact absurd z1.symm hk
    ·exact e3 x z
theorem jM {env:Env}{scope:Fu}(hf:∀x,(x,Dp)∈scope.names->∃c,env.cells.lookup x=some c) :
  ∃cl,closureFor scope env=pure cl/\(∀x c,cl.lookup x=some c->env.cells.lookup x=some c)/\(∀x,(x,Dp)∈scope.names->∃c,cl.lookup x=some c):=by
 obtain⟨cl,e1,e2,e3,_⟩:=gA scope.names [] hf (λx c e=>by simp at e)
 refine⟨cl,?_,e2,e3⟩
 unfold closureFor;refine Eq.trans ?_ (congrArg (λz=>z >>= pure) e1|>.trans (by simp))
 rfl
theorem lY {pr:C4}{wd:Du}{Ar:Dj}{Rz:GR->Cz->Prop}{s0:Cz}{el tg it0:Expr}{cs:List Expr}{sc:Fu}{ps:Pos}{itv av:CB}{ev:Env}(W:Nat->Cz->Prop)
  (go:∀k st,W k st->wpAny (model pr wd) Ar (pyNext itv) (λr s1=>match r with
   | none=>Rz (.ok .next) s1
   | some v=>wpAny (model pr wd) Ar (FD tg itv v) (λ_ s2=>wpAny (model pr wd) Ar (assign tg ev v) (λ_ s3=>
     wpAny (model pr wd) Ar (forIn cs true λc b=>if b=true then do let z <-isTrue c ev (eval c ev);pure (EG z)else pure (EG b)) (λz s4=>
      if z=true then wpAny (model pr wd) Ar (eval el ev) (λy s5=>
       wpAny (model pr wd) Ar (call (.builtin "list.append") [av,y]) (λ_ s6=> ∃m,m<k/\W m s6) (λ_ _=>False) s5) (λ_ _=>False) s4
      else ∃m,m<k/\W m s4) (λ_ _=>False) s3) (λ_ _=>False) s2) (λ_ _=>False) s1) (λ_ _=>False) st)
  (k:Nat) (hk:W k s0):codeAny (model pr wd) Ar (.compLoop (.ListComp el [⟨tg,it0,cs,0⟩] sc ps) 0 itv av ev) Rz s0:=by
 refine codeAny_loop rfl W (λk st hw=> ?_) k hk
 show wpAny (model pr wd) Ar ((compTurn (.ListComp el [⟨tg,it0,cs,0⟩] sc ps) 0 itv av ev).onRaise (λz=>do FQ z ev;Iw z)) _ _ st
 refine wpAny_noted ?_
 rw[compTurn_list]
 have no:∀{α:Type} {t:Sem α} {Q Q':α->Cz->Prop} {E':CB->Cz->Prop} {x:Cz},wpAny (model pr wd) Ar t Q (λ_ _=>False) x->(∀y z,Q y z->Q' y z)->wpAny (model pr wd) Ar t Q' E' x:=λh f=>DP h f λ_ _ z=>z.elim
 refine Cy (HR (Cy (no (go k st hw) λr s1 g1=> ?_)))
 cases r with
 | none=>exact CD g1
 | some v=>
  refine Cy (no g1 λ_ s2 g2=>Cy (no g2 λ_ s3 g3=>Cy (no g3 λz s4 g4=> ?_)))
  cases z with
  | false=>exact CD (F5 rfl g4)
  | true=>exact Cy (Cy (no g4 λy s5 g5=>Cy (no g5 λ_ s6 g6=>CD (CD (F5 rfl g6)))))
def aT (X:Cx)(scope:Fu)(cl:List (Str×Addr))(N':List Str)(C:Addr)(s₀:Cz)(H₀:Hp)(fp:List Addr):Cx:=
 { X with N:=N',s₀:=s₀,H₀:=H₀,env:=compEnvC scope cl C X.env,outer:=X.stack,stack:=X.stack,ex:=fp,fn:=λx=>scope.names.lookup x == some .cell,xe:=λ_ _=>False }
def ck (src:List (Option Nat))(σ:St):St:=src.map λo=>match o with
 | some i=>(σ[i]?).join
 | none=>none
theorem dZ {env:Env}:∀{names:List (Str×Ft)} {x:Str} {k:Ft},
  (names.map λ(n,k)=>if (k == Dp&&env.scope.kind == .function&&env.kindOf n == some .cell)then(n,Ee)else(n,k)).lookup x=some k →
  ∃k',names.lookup x=some k'/\(k=k'\/k'= .free)
 | [],_,_,h=>by simp at h
 | (n,k0)::r,x,k,h=>by
  have ih:=@dZ env r x k
  have h':GK x ((if (k0 == Dp&&env.scope.kind == .function&&env.kindOf n == some .cell)=true then(n,Ee)else(n,k0))::(r.map λ(n,k)=>if (k == Dp&&env.scope.kind == .function&&env.kindOf n == some .cell)then(n,Ee)else(n,k)))=some k:=h
  by_cases hc:(k0 == Dp&&env.scope.kind == .function&&env.kindOf n == some .cell)=true
  ·rw[if_pos hc]at h'
   rw[DX]at h' ⊢
   cases hx:x == n with
   | true=>
    refine⟨k0,rfl,.inr ?_⟩
    have:=DD.mp hc|>.1
    have:=DD.mp this|>.1
    simpa using this
   | false=>rw[hx]at h';exact ih h'
  ·rw[if_neg hc]at h'
   rw[DX]at h' ⊢
   cases hx:x == n with
   | true=>rw[hx]at h';exact⟨k0,rfl,.inl (Dr h').symm⟩
   | false=>rw[hx]at h';exact ih h'
theorem cP {names:List (Str×Ft)}{x:Str}{k:Ft}(h:names.lookup x=some k):(x,k)∈names:=EF h
theorem dB {env:Env}:∀{names:List (Str×Ft)} {x:Str},names.lookup x=some .free →
  (names.map λ(n,k)=>if (k == Dp&&env.scope.kind == .function&&env.kindOf n == some .cell)then(n,Ee)else(n,k)).lookup x=some .cell ∨
  (names.map λ(n,k)=>if (k == Dp&&env.scope.kind == .function&&env.kindOf n == some .cell)then(n,Ee)else(n,k)).lookup x=some .free
 | [],_,h=>by simp at h
 | (n,k0)::r,x,h=>by
  have ih:=@dB env r x
  show GK x ((if (k0 == Dp&&env.scope.kind == .function&&env.kindOf n == some .cell)=true then(n,Ee)else(n,k0))::_)=_\/GK x ((if (k0 == Dp&&env.scope.kind == .function&&env.kindOf n == some .cell)=true then(n,Ee)else(n,k0))::_)=_
  rw[DX]at h
  by_cases hc:(k0 == Dp&&env.scope.kind == .function&&env.kindOf n == some .cell)=true
  ·rw[if_pos hc]
   rw[DX]
   cases hx:x == n with
   | true=>exact .inl rfl
   | false=>rw[hx]at h;exact ih h
  ·rw[if_neg hc]
   rw[DX]
   cases hx:x == n with
   | true=>rw[hx]at h;exact .inr h
   | false=>rw[hx]at h;exact ih h
section
variable {X:Cx}
structure LcScope (X:Cx)(scope:Fu)(N':List Str)(src:List (Option Nat)):Prop where
 kind:scope.kind= .function
 cel:∀y∈scope.names,y.2= .cell->scope.names.lookup y.1=some .cell
 loc:∀y∈scope.names,y.2= .local->scope.names.lookup y.1=some .local
 len:src.length=N'.length
 from_:∀(j i:Nat) (x:Str),src[j]? =some (some i)->N'[j]? =some x->X.N[i]? =some x/\scope.names.lookup x=some .free
 free:∀x,(x,Dp)∈scope.names->X.env.kindOf x=some .cell\/X.env.kindOf x=some .free
def xJ (K:CA)(wi:TI)(src:List (Option Nat))(g:TG)(tc:TT)(te:TE):TE:=λσ H Q=>wi σ H λJ H1=> ∀D,H1 D=none->K.lookup D=none →
 ∃W:Nat->Nat->St->List V->Hp->Prop,(∃m,W 0 m (ck src σ) [] (dE H1 D (.lst [])))/\∀i m σ ys H,W i m σ ys H->H D=some (.lst ys) ∧
  ((J.stop i H/\Q (.ref D) H)\/(J.go i H/\ys.length<sizeLine/\∀x H',J.yld i H x H'->g x σ H' λσ2 H2=>tc σ2 H2 λb H3=>
   if b=true then te σ2 H3 λv H4=>H4 D=some (.lst ys)/\∃m',m'<m/\W (i+1) m' σ2 (ys++ [v]) (dE H4 D (.lst (ys++ [v])))else ∃m',m'<m/\W (i+1) m' σ2 ys H3))
def nH (X:Cx)(ifs:List Expr)(t:TT):Prop:=
 ∀(pins:List (Addr×Obj)) (s:Cz) (σ:St) (H:Hp) (Q:Bool->Hp->Prop),Inv X pins σ H s->t σ H Q →
  wpAny (model X.prog X.w) X.A (forIn ifs true λc r=>if r=true then do let ok <-isTrue c X.env (eval c X.env);pure (EG ok)else pure (EG r)) (TP X pins σ Q) X.xe s
def zR:TT:=λ_ H Q=>Q true H
theorem vo:nH X [] zR:=λ_ _ _ H _ I h=>wpAny_tests_nil ⟨H,I,h⟩
theorem vn {c:Expr}{t:TT}(h:PT X c t):nH X [c] t:=λpins s σ H Q I q=>wpAny_tests_one (h pins s σ H Q I q)
theorem fZ:∀(names:List (Str×Ft)) (h:Heap) (acc:List (Str×Addr)),(∀x y c,acc.lookup x=some c->acc.lookup y=some c->x=y)->(∀x c,acc.lookup x=some c->c<h.objs.size) →
  (∀x c,(Ex h.objs.size names acc).lookup x=some c->acc.lookup x=some c\/(h.objs.size<=c/\(Gu h names).IsCell c none)) ∧
  (∀x y c,(Ex h.objs.size names acc).lookup x=some c->(Ex h.objs.size names acc).lookup y=some c->x=y) ∧
  (∀x,(x,Ee)∉names->(Ex h.objs.size names acc).lookup x=acc.lookup x) ∧
  (∀x,((x,Ee)∈names\/∃c,acc.lookup x=some c)->∃c,(Ex h.objs.size names acc).lookup x=some c) ∧
  (∀x c,(x,Ee)∈names->(Ex h.objs.size names acc).lookup x=some c->h.objs.size<=c)
 | [],h,acc,hi,_=>⟨λ_ _ e=> .inl e,hi,λ_ _=>rfl,λx e=>e.elim (λz=>absurd z Ei) id,λ_ _ z=>absurd z Ei⟩
 | (n,k)::r,h,acc,hi,hl=>by
  unfold Ex Gu
  by_cases hk:k= .cell
  ·subst hk
   rw[if_pos (by rfl),if_pos (by rfl)]
   have hz:(h.push { cls:=.type "cell",data:=.cell none }).objs.size=h.objs.size+1:=Eu ..
   have lk:∀x,((n,h.objs.size)::acc).lookup x=if x=n then some h.objs.size else acc.lookup x:=λx=>by
    rw[DX]
    by_cases e:x=n
    ·rw[if_pos e,beq_iff_eq.mpr e]
    ·rw[if_neg e,beq_eq_false_iff_ne.mpr e]
   obtain⟨c1,c2,c3,c4,c5⟩:=fZ r (h.push { cls:=.type "cell",data:=.cell none }) ((n,h.objs.size)::acc) (λx y c e1 e2=>by
     rw[lk]at e1 e2
     by_cases q1:x=n
     ·by_cases q2:y=n
      ·rw[q1,q2]
      ·rw[if_pos q1]at e1;rw[if_neg q2]at e2
       cases e1;exact absurd (hl _ _ e2) (C9 _)
     ·rw[if_neg q1]at e1
      by_cases q2:y=n
      ·rw[if_pos q2]at e2
       cases e2;exact absurd (hl _ _ e1) (C9 _)
      ·rw[if_neg q2]at e2;exact hi x y c e1 e2) (λx c e=>by
     rw[lk]at e;rw[hz]
     by_cases q:x=n
     ·rw[if_pos q]at e;cases e;exact Gv _
     ·rw[if_neg q]at e;exact Er (hl x c e))
   rw[hz]at c1 c2 c3 c4 c5;refine⟨λx c e=> ?_,c2,λx hx=> ?_,λx hx=> ?_,λx c hx e=> ?_⟩
   ·rcases c1 x c e with z | z
    ·rw[lk]at z
     by_cases q:x=n
     ·rw[if_pos q]at z;cases z
      exact .inr ⟨CM _,_,Gc r _ _ _ (CZ _ rfl),rfl⟩
     ·rw[if_neg q]at z;exact .inl z
    ·exact .inr ⟨Hr z.1,z.2⟩
   ·rw[c3 x λz=>hx (CH _ z),lk,if_neg λz=>hx (by rw[z];exact CL)]
   ·refine c4 x ?_
    rcases hx with hx | hx
    ·rcases CO.mp hx with z | z
     ·cases z
      exact .inr ⟨_,by rw[lk,if_pos rfl]⟩
     ·exact .inl z
    ·by_cases q:x=n
     ·exact .inr ⟨_,by rw[lk,if_pos q]⟩
     ·exact .inr (by rw[lk,if_neg q];exact hx)
   ·rcases CO.mp hx with z | z
    ·have q:x=n:=(Ky z).1
     rcases c1 x c e with y | y
     ·rw[lk,if_pos q]at y;cases y;exact CM _
     ·exact Hr y.1
    ·exact Hr (c5 x c z e)
  ·have hb:¬ (k == Ee)=true:=λz=>hk (by simpa using z)
   rw[if_neg hb,if_neg hb];obtain⟨c1,c2,c3,c4,c5⟩:=fZ r h acc hi hl;exact⟨c1,c2,λx hx=>c3 x λz=>hx (CH _ z),λx hx=>c4 x (hx.imp (λz=>(CO.mp z).resolve_left λz=>hk (Ky z).2.symm) id),λx c hx=>c5 x c ((CO.mp hx).resolve_left λz=>hk (Ky z).2.symm)⟩
theorem ku {M:HB}{A:Dj}{E:CB->Cz->Prop}{s:Cz}{scope:Fu}{globals:Addr}{cl:List (Str×Addr)}{qual:Str}{env:Env}{Q:Env->Cz->Prop}
  (q:Q (newEnv scope s.heap.objs.size globals (Ex (s.heap.objs.size+1) scope.names cl) qual none .none (some env) GD) { s with heap:=Gu (s.heap.push { cls:=.type "dict",data:=.dict #[] }) scope.names }) :
  wpAny M A (Hg scope globals cl [] qual none .none (some env)) Q E s:=by
 simp only[Hg,Option.isSome_some,if_true];refine Cy (wpAny_alloc (Cy (wpAny_layCells _ (λname kind cells=>by cases hkc:kind == Ee <;> simp[hkc]) _ _ _ _ ?_)))
 rw[show({ s with heap:=s.heap.push { cls:=.type "dict",data:=.dict #[] } }:Cz).heap.objs.size=s.heap.objs.size+1 from Eu ..]
 rw[List.forIn_nil];exact Cy (CD (CD q))
theorem ph {elt tg iter:Expr}{ifs:List Expr}{scope:Fu}{pos fpos:Pos}{N':List Str}{src:List (Option Nat)}{wi:TI}{g:TG}{tc:TT}{te:TE}{use:Option (CB->Sem Unit)}{Qf:CB->Cz->Prop}
  {pins:List (Addr×Obj)} {s:Cz} {σ:St} {H:Hp} {Q:VK}
  (hc:X.calm=true) (S:LcScope X scope N' src) (hi:PI X tg iter wi)
  (block:∀cl C s₀ H₀ fp,PG (aT X scope cl N' C s₀ H₀ fp) tg g/\nH (aT X scope cl N' C s₀ H₀ fp) ifs tc/\PE (aT X scope cl N' C s₀ H₀ fp) elt te)
  (hs:∀x,Dl iter X.env x=pure x) (I:Inv X pins σ H s) (h:xJ X.K wi src g tc te σ H Q)
  (hend:∀(D C:Addr) (H':Hp) (s':Cz),(∃m,s'.heap.Ns C m)->(∀h',Fb C s'.heap h'->Inv X pins σ H' { s' with heap:=h' })->(H' C=none/\C≠X.env.locals/\X.s₀.heap.objs.size<=C/\(∀x c,X.env.cells.lookup x=some c->c≠C)/\∀p∈X.pn++pins,p.1≠C)->Q (.ref D) H' →
   IH (model X.prog X.w) X.A X.xe use Qf (.ref D) C (.ok .next) s') :
  wpAny (model X.prog X.w) X.A (Gd (.ListComp elt [⟨tg,iter,ifs,0⟩] scope pos) scope X.env fpos (newList []) false (eval iter X.env) use) Qf X.xe s:=by
 have hcell:∀x,(x,Dp)∈scope.names->∃c,X.env.cells.lookup x=some c:=λx hx=>I.ok.has x (S.free x hx)
 obtain⟨cl0,hcl,cl01,cl02⟩:=jM (env:=X.env) (scope:=scope) hcell;refine wpAny_comprehension_free (use:=use) rfl hs hcl S.kind S.loc (bF (hi pins s σ H _ I h) λv s1 h1=>bF h1 λitv s2 h2=> ?_)
 obtain⟨it,fp,tn,J,H2,e,I2,T,st2,f2,hq⟩:=h2;subst e
 -- the new list
 refine De ?_
 have hD:H2 s2.heap.objs.size=none:=I2.hok.fresh (CM _)
 have hDK:X.K.lookup s2.heap.objs.size=none:=by
  cases q:X.K.lookup s2.heap.objs.size with
  | none=>rfl
  | some o=>exact absurd (CN (I2.kIn _ o q)) (C9 _)
 obtain⟨W,⟨m0,w0⟩,turn⟩:=hq s2.heap.objs.size hD hDK
 have I3:=I2.B7 (its:=[]) (ys:=[]) (t':=s2.toks) .nil (Ey _)
 generalize hs3:({ s2 with heap:=s2.heap.push { cls:=.type "list",data:=.seq ([]:List CB).toArray },toks:=s2.toks }:Cz)=s3 at I3
 generalize hH3:dE H2 s2.heap.objs.size (.lst [])=H3 at I3 w0
 have hDsz:s2.heap.objs.size<s3.heap.objs.size:=by rw[<-hs3];simp[Eu]
 have fr3:∀b∈fp,H3 b=none:=λb hb=>by
  obtain⟨o,eo,_⟩:=T.obj _ _ st2 b hb;rw[<-hH3,aD (Dg (CN eo))];exact(f2 b hb).1
 have st3:tn 0 s3.heap:=T.keep _ _ _ st2 λb hb o e=>by rw[<-hs3];exact CG _ e
 have f3:∀b∈fp,iU X pins H3 b:=λb hb=>⟨fr3 b hb,(f2 b hb).2⟩
 have D3:H3 s2.heap.objs.size=some (.lst []):=by rw[<-hH3];exact aU
 generalize s2.heap.objs.size=D at*
 clear hs3 hH3 hD hDK
 -- the block's frame
 refine ku ?_
 have old:∀b o,s3.heap.get? b=some o->(Gu (s3.heap.push { cls:=.type "dict",data:=.dict #[] }) scope.names).get? b=some o:=λb o e=>Gc _ _ b o (CG _ e)
 have hns₁:(Gu (s3.heap.push { cls:=.type "dict",data:=.dict #[] }) scope.names).Ns s3.heap.objs.size (λ_=>none):=(Heap.Ns.new s3.heap (.type "dict")).keeps (Gc _ _)
 have hz3:(s3.heap.push { cls:=.type "dict",data:=.dict #[] }).objs.size=s3.heap.objs.size+1:=Eu ..
 have lt0:∀x c,cl0.lookup x=some c->c<s3.heap.objs.size:=λx c e=>let ⟨_,ic⟩:=I3.cell x c (cl01 x c e);ic.lt
 obtain⟨c1,c2,c3,c4,c5⟩:=fZ scope.names (s3.heap.push { cls:=.type "dict",data:=.dict #[] }) cl0 (λx y c e1 e2=>I3.ok.inj x y c (cl01 x c e1) (cl01 y c e2)) λx c e=>by rw[hz3];exact Er (lt0 x c e)
 rw[hz3]at c1 c2 c3 c4 c5
 generalize hcl':Ex (s3.heap.objs.size+1) scope.names cl0=cl at*
 generalize hh₁:Gu (s3.heap.push { cls:=.type "dict",data:=.dict #[] }) scope.names=h₁ at*
 have below:∀b o,s3.heap.get? b=some o->b≠s3.heap.objs.size:=λb o e=>Dg (CN e)
 -- a cell of the block's: one from around,or a new one
 have cl1:∀x c,cl.lookup x=some c->X.env.cells.lookup x=some c\/(s3.heap.objs.size<c/\h₁.IsCell c none):=λx c e=>(c1 x c e).imp (cl01 x c) id
 generalize hC:s3.heap.objs.size=C at*
 have stk:∀b,b≠X.env.locals->b∉X.fs->b∉gx X.stack:=λb h1 h2 z=>(CO.mp (I3.B0 b z)).elim h1 h2
 have apart:∀b∈fp,∀x c,cl.lookup x=some c->c≠b:=λb hb x c e=>by
  rcases cl1 x c e with z | z
  ·exact(f3 b hb).2.2.2.2.1 x c z
  ·obtain⟨o,eo,_⟩:=T.obj _ _ st3 b hb
   have h1:=CN eo;rw[hC]at h1;exact Fc (J5 h1 z.1)
 have I4:Inv (aT X scope cl N' C s3 H3 fp) pins (ck src σ) H3 { s3 with heap:=h₁ }:=by
  refine⟨⟨I3.ok.mod,S.kind,I3.ok.glob,I3.ok.blt,FZ hC,c2,λx hx=> ?_,λx c hx e=>Fv (hC▸c5 x c (cP (beq_iff_eq.mp hx)) e),I3.ok.hd,I3.ok.frames,.inl rfl,
    λb hb=>⟨?_,λx c e=>apart b hb x c e⟩,I3.bs,Dk I3.ok.bsz I3.sz,λb o e z=> ?_,λb hb=>stk b (f3 b hb).2.1 (f3 b hb).2.2.1,I3.stack,I3.BQ⟩,
   rfl,I3.bare,Un.kept old,⟨_,hns₁,λj x v e1 e2 e3=> ?_⟩,λx c e=> ?_,I3.hok.fresh (FZ hC),λx c e=>(cl1 x c e).elim (I3.freeC x c) λz=>I3.hok.fresh (by rw[hC];exact Fv z.1),λp hp=> ?_,I3.hok.kept old,?_⟩
  ·have key:∀k,(relabel scope X.env).names.lookup x=some k->(k= .cell\/k= .free)->∃c,cl.lookup x=some c:=λk e hk=>by
    obtain⟨k',e',z⟩:=dZ e
    have hk':k'= .cell\/k'= .free:=z.elim (λz=>z▸hk) .inr
    rcases hk' with q | q
    ·exact c4 x (.inl (q▸cP e'))
    ·exact c4 x (.inr (cl02 x (q▸cP e')))
   rcases hx with hx | hx
   ·exact key _ hx (.inl rfl)
   ·exact key _ hx (.inr rfl)
  ·obtain⟨o,eo,_⟩:=T.obj _ _ st3 b hb
   show b≠C
   exact below b o eo
  ·have z':b∈fp:=z
   obtain⟨_,_,_,z1,_⟩:=f3 b z';rcases z1 with z1 | z1
   ·exact I3.ok.noex b o e z1
   ·exact absurd (CS (CN (I3.ok.bs b o e).1) z1) (C9 _)
  ·unfold ck at e2
   rw[Dn]at e2
   cases q:src[j]? with
   | none=>rw[q]at e2;simp at e2
   | some o=>
    rw[q]at e2
    cases o with
    | none=>simp at e2
    | some i=>
     have e2':(σ[i]?).join=some v:=by simpa using e2
     have e2'':σ[i]? =some (some v):=by
      cases q2:σ[i]? with
      | none=>rw[q2]at e2';simp at e2'
      | some z=>rw[q2]at e2';simp at e2';rw[e2']
     obtain⟨hN,hfree⟩:=S.from_ j i x q e1
     have hm:=cP hfree
     have hk:=S.free x hm;obtain⟨m,hn,hl⟩:=I3.loc
     have hv:qK X.env.scope x:=by
      rcases hk with z | z
      ·exact .inr (.inl z)
      ·exact .inr (.inr z)
     obtain⟨u,r,l⟩:=hl i x v hN e2'' hv;refine⟨u,r,.inr ⟨?_,?_⟩⟩
     ·exact dB hfree
     ·rcases l with⟨z,_⟩ | ⟨_,c,ec,ic⟩
      ·rcases hk with z' | z' <;> rw[z']at z <;> cases z
      ·obtain⟨c',ec0⟩:=cl02 x hm
       have ec':cl.lookup x=some c':=(c3 x λz=>by have:=S.cel _ z rfl;rw[hfree]at this;cases this).trans ec0
       have:=cl01 x c' ec0;rw[ec]at this;cases this;obtain⟨o,ho,hd⟩:=ic;exact⟨c,ec',o,old _ _ ho,hd⟩
  ·rcases cl1 x c e with z | z
   ·obtain⟨v,o,ho,hd⟩:=I3.cell x c z
    exact⟨v,o,old _ _ ho,hd⟩
   ·exact⟨none,z.2⟩
  ·obtain⟨e,n,ne,nf,d⟩:=I3.pin p hp
   exact⟨old _ _ e,n,below _ _ e,stk _ ne nf,d⟩
  ·show(ck src σ).length=N'.length
   unfold ck;rw[CI];exact S.len
 obtain⟨bG,bI,bE⟩:=block cl C s3 H3 fp
 have stat:∀{H':Hp},(∀b∈fp,H' b=none)->∀b∈fp,iU (aT X scope cl N' C s3 H3 fp) pins H' b:=λhn b hb=>by
  obtain⟨o,eo,_⟩:=T.obj _ _ st3 b hb;exact⟨hn b hb,below b o eo,stk b (f3 b hb).2.1 (f3 b hb).2.2.1,.inl hb,apart b hb,(f3 b hb).2.2.2.2.2⟩
 have st4:tn 0 h₁:=T.keep _ _ _ st3 λb hb o e=>old b o e
 -- behind the block
 have after:∀(H':Hp) (s':Cz) (σ':St),Inv (aT X scope cl N' C s3 H3 fp) pins σ' H' s'->Q (.ref D) H' →
   IH (model X.prog X.w) X.A X.xe use Qf (.ref D) C (.ok .next) s':=λH' s' σ' I' q=>by
  obtain⟨m,hn,_⟩:=id I'.loc
  have fC:X.s₀.heap.objs.size<=C:=by rw[<-hC];exact I3.sz
  have ltC:∀b o,s3.heap.get? b=some o->b<C:=λb o e=>by rw[<-hC];exact CN e
  refine hend D C H' s' ⟨m,hn⟩ (λh' hsb=> ?_) ⟨I'.free,?_,fC,λx c e z=> ?_,λp hp z=> ?_⟩ q
  rotate_left
  ·have:=I3.lt;rw[hC]at this;exact Fc this
  ·obtain⟨v,ic⟩:=I3.cell x c e
   have:=ic.lt;rw[hC,z]at this;exact C9 _ this
  ·have:=ltC _ _ (I3.pin p hp).1;rw[z]at this;exact C9 _ this
  have u:Un (gx X.stack) fp H3 H' s3.heap s'.heap:=I'.base
  have lift:∀b o,s3.heap.get? b=some o->∀o',s'.heap.get? b=some o'->h'.get? b=some o':=λb o e o' e'=>hsb.extBut b o' (below b o e) e'
  have u':Un (gx X.stack) fp H3 H' s3.heap h':=
   ⟨λb o e n hb hx=>lift b o e o (u.keep b o e n hb hx),λb o e n hb hx=>by
     obtain⟨sl,z⟩:=u.slot b o e n hb hx;exact⟨sl,lift b o e _ z⟩,u.free,λb o e hx=>by
     obtain⟨o',z⟩:=u.there b o e hx;exact⟨o',lift b o e _ z⟩,u.tups,u.frzs,u.tbls⟩
  have hCn:H' C=none:=I'.free
  have hok':HOk X.prog X.w H' h':=λb ob e=>by
   refine(I'.hok b ob e).BW (λc w' hc' q'=>(hsb.2 c ?_).trans q') (λ_ q=>q) λ_ _ q=>q
   rintro rfl
   rcases hc' with rfl | hc'
   ·rw[hCn]at e;cases e
   ·rw[hCn]at hc';cases hc'
  have I5:Inv X pins σ H' { s' with heap:=h' }:=I3.B4 (s':={ s' with heap:=h' }) (ch:=fp) I'.os u' hok' I'.bare λb hb=>⟨(f3 b hb).2.2.2.1,(f3 b hb).2.1,(f3 b hb).2.2.2.2.1,(f3 b hb).2.2.2.2.2⟩
  exact I5
 have loop:codeAny (model X.prog X.w) X.A (.compLoop (.ListComp elt [⟨tg,iter,ifs,0⟩] scope pos) 0 (.ref it) (.ref D) (compEnvC scope cl C X.env))
   (IH (model X.prog X.w) X.A X.xe use Qf (.ref D) C) { s3 with heap:=h₁ }:=by
  refine lY (λn s'=> ∃i σ' ys H',Inv (aT X scope cl N' C s3 H3 fp) pins σ' H' s'/\tn i s'.heap/\(∀b∈fp,H' b=none)/\W i n σ' ys H') ?_ m0 ⟨0,_,[],H3,I4,st4,fr3,w0⟩
  rintro n s5 ⟨i,σ5,ys,H5,I5,st5,fr5,w5⟩
  obtain⟨hDl,alt⟩:=turn i n σ5 ys H5 w5;rcases alt with⟨stop,qn⟩ | ⟨go,hlen,step⟩
  ·refine bF (T.done (aT X scope cl N' C s3 H3 fp) rfl rfl rfl hc i pins s5 σ5 H5 _ I5 (stat fr5) st5 stop) λr s6 ⟨hr,I6⟩=> ?_
   subst hr;exact after H5 s6 σ5 I6 qn
  ·refine bF (T.item (aT X scope cl N' C s3 H3 fp) rfl rfl rfl hc i pins s5 σ5 H5 _ I5 (stat fr5) st5 go) λr s6 ⟨u,hr,h6⟩=> ?_
   subst hr;refine bF h6 λ_ s7 hh_=> ?_
   obtain⟨x,H7,I7,r7,y7,st7,fr7⟩:=hh_
   have I7':=I7.pinned (stat fr7) (T.obj _ _ st7);refine bF (bG _ s7 σ5 H7 x u _ I7' r7 (step x H7 y7)) λ_ s8 hh_=> ?_
   obtain⟨σ8,H8,I8,q8⟩:=hh_;refine bF (bI _ s8 σ8 H8 _ I8 q8) λok s9 hh_=> ?_
   obtain⟨H9,I9,q9⟩:=hh_
   have again:∀{σx:St} {Hx:Hp} {sx:Cz} {ys':List V},Inv (aT X scope cl N' C s3 H3 fp) (pins++ig fp s7.heap) σx Hx sx->(∃m',m'<n/\W (i+1) m' σx ys' Hx) →
     ∃m,m<n/\∃i σ' ys H',Inv (aT X scope cl N' C s3 H3 fp) pins σ' H' sx/\tn i sx.heap/\(∀b∈fp,H' b=none)/\W i m σ' ys H':=λ{σx Hx sx ys'} Ix nx=>by
    obtain⟨m',hm,wx⟩:=nx;refine⟨m',hm,i+1,σx,ys',Hx,Ix.BS,T.keep _ _ _ st7 λb hb o e=>(Ix.pin (b,o) (C2 _ (C2 _ (dh hb e)))).1,λb hb=> ?_,wx⟩
    obtain⟨o,e,d⟩:=T.obj _ _ st7 b hb;exact(Ix.pin (b,o) (C2 _ (C2 _ (dh hb e)))).2.1
   cases ok with
   | false=>
    rw[if_neg C1]at q9 ⊢
    exact again I9 q9
   | true=>
    rw[if_pos rfl]at q9 ⊢;refine bF (bE _ s9 σ8 H9 _ I9 q9) λv s10 hh_=> ?_
    obtain⟨y,H10,I10,r10,hD10,q10⟩:=hh_;refine bF (kv _ s10 σ8 H10 (.ref D) [y] (.ref D) [v] (λ_ H'=>H'=dE H10 D (.lst (ys++ [y]))) I10 rfl (.cons r10 .nil) ⟨D,ys,y,rfl,rfl,hD10,hlen,rfl⟩) λ_ s11 hh_=> ?_
    obtain⟨_,H11,I11,_,e11⟩:=hh_;subst e11;exact again I11 q10
 exact codeAny_compStart_list loop (T.self _ 0 _ _ _ st4 loop)
theorem AA {elt tg iter:Expr}{ifs:List Expr}{scope:Fu}{pos:Pos}{N':List Str}{src:List (Option Nat)}{wi:TI}{g:TG}{tc:TT}{te:TE}
  (hc:X.calm=true) (S:LcScope X scope N' src) (hi:PI X tg iter wi)
  (block:∀cl C s₀ H₀ fp,PG (aT X scope cl N' C s₀ H₀ fp) tg g/\nH (aT X scope cl N' C s₀ H₀ fp) ifs tc/\PE (aT X scope cl N' C s₀ H₀ fp) elt te)
  (hs:autoParam (∀x,Dl iter X.env x=pure x) t_) :
  PE X (.ListComp elt [⟨tg,iter,ifs,0⟩] scope pos) (xJ X.K wi src g tc te):=by
 intro pins s σ H Q I h;rw[eval_ListComp];exact ph (use:=none) hc S hi block hs I h λD C H' s' ⟨m,hn⟩ inv _ q=>⟨m,hn,λh' hsb=>⟨.ref D,H',inv h' hsb,rfl,q⟩⟩
theorem Aw {elt tg iter:Expr}{ifs:List Expr}{scope:Fu}{pos py spos:Pos}{N':List Str}{src:List (Option Nat)}{wi:TI}{g:TG}{tc:TT}{te:TE}{i:Nat}{y:Str}
  (hc:X.calm=true) (S:LcScope X scope N' src) (hi:PI X tg iter wi)
  (block:∀cl C s₀ H₀ fp,PG (aT X scope cl N' C s₀ H₀ fp) tg g/\nH (aT X scope cl N' C s₀ H₀ fp) ifs tc/\PE (aT X scope cl N' C s₀ H₀ fp) elt te)
  (hN:X.N.Nodup) (hiy:X.N[i]? =some y) (hy:Loc X.env.scope y) (hsw:F9 (.ListComp elt [⟨tg,iter,ifs,0⟩] scope pos) (some (.Name y py)) spos.line X.env=pure true)
  (hf:X.fn y=true\/X.env.scope.names.lookup y=some .local) (hs:autoParam (∀x,Dl iter X.env x=pure x) t_) :
  PS X (.Assign [.Name y py] (.ListComp elt [⟨tg,iter,ifs,0⟩] scope pos) spos) (rJ (xJ X.K wi src g tc te) (pD i)):=by
 intro pins s σ H D I h;rw[Iy _ _ _ _ hsw];refine Cy (HR (Cy ?_))
 show wpAny (model X.prog X.w) X.A (do let _ <-Gd (.ListComp elt [⟨tg,iter,ifs,0⟩] scope pos) scope X.env _ (newList []) false (eval iter X.env) (some (assign (.Name y py) X.env))) _ _ s
 refine Cy (bF (ph (use:=some (assign (.Name y py) X.env)) (Qf:=λ_ s'=>SP X pins D .next s') (Q:=λv H'=>D.nx (σ.set i (some v)) H') hc S hi block hs I h λL C H' s' ⟨m,hn⟩ inv ⟨c0,c1,c2,c3,c4⟩ q=> ?_) λ_ s' hq=>CD (CD hq))
 have I0:Inv X pins σ H' s':=inv s'.heap (Hk ..)
 show wpAny (model X.prog X.w) X.A (assign (.Name y py) X.env (.ref L)) _ _ s'
 refine HC (hV I0 hN hiy hy (v:=.ref L) rfl (λs2 I2 ⟨b,sb,hb⟩=> ?_) hf)
 have hbC:C≠b:=by
  rcases hb with z | z
  ·rw[z];exact c1
  ·exact λw=>c3 y b z w.symm
 refine⟨m,hn.sameBut sb hbC,λh' hsb=> ?_⟩
 exact⟨_,H',I2.turned (t':=s2.toks) (λb' o hb' e=>(hsb.2 b' hb').trans e) c0 c1 (.inr c2) c3 c4,q⟩
end
end L2
namespace Tr
open PySem PySem.Spec PyProof.Rows L2
def zw (K:CA)(c:Str):Addr:=match FX K Dm c with
 | some (some (.ref C))=>C
 | _=>0
def AU:T->Option jV
 | .int i=>some (.inl i)
 | .str x=>some (.inr x)
 | _=>none
def tj:List T->Option (List jV)
 | [] =>some []
 | t::l=>match AU t,tj l with
  | some k,some r=>some (k::r)
  | _,_=>none
def keyOf:T->Option (List jV)
 | .tup l=>tj l
 | _=>none
inductive Rs (α:Type) where
 | ok (a:α) | err (c:Str) | bad
def Rs.bind {α β:Type}(x:Rs α)(f:α->Rs β):Rs β:=match x with
 | .ok a=>f a
 | .err c=> .err c
 | .bad=> .bad
instance:Monad Rs where
 pure:=Rs.ok
 bind:=Rs.bind
@[simp] theorem aF {α β:Type} (a:α) (f:α->Rs β):(Rs.ok a >>= f)=f a:=rfl
@[simp] theorem By {α:Type} (a:α):(pure a:Rs α)=Rs.ok a:=rfl
@[simp] theorem Bo {α β:Type} (f:α->Rs β):((Rs.bad:Rs α) >>= f)= .bad:=rfl
@[simp] theorem A9 {α β:Type} (c:Str) (f:α->Rs β):((Rs.err c:Rs α) >>= f)= .err c:=rfl
def ObN (O:Ow)(H:Hp)(a dx:Addr)(fs:List (Str×V)):Prop:=(¬O a/\¬ O dx/\H dx=some (.own a))/\∃as:List Addr,fs.map (·.2)=as.map V.ref/\a∉as/\dx∉as/\dx≠a/\as.Nodup/\(fs.map (·.1)).Nodup
mutual
def Rep (K:CA)(O:Ow)(H:Hp):T->V->Prop
 | .non,v=>v= .non
 | .bl b,v=>v= .bl b
 | .int i,v=>v= .int i
 | .str x,v=>v= .str x
 | .tup l,v=> ∃a vs,v= .ref a/\¬ O a/\H a=some (.tup vs)/\Reps K O H l vs
 | .lst l,v=> ∃a vs,v= .ref a/\¬ O a/\H a=some (.lst vs)/\Reps K O H l vs
 | .scr l,v=> ∃a,v= .ref a/\¬ O a/\SqL K H a (l.map V.int)
 | .dct ks ts,v=> ∃a kvs,v= .ref a/\¬ O a/\Rd H a (.dT kvs)/\ks.map keyOf=kvs.map (λp=>some p.1)/\Reps K O H ts (kvs.map (·.2))
 | .ob C ns ts,v=> ∃a dx fs,v= .ref a/\ObN O H a dx fs/\H a=some (.ins (zw K C) dx fs)/\fs.map (·.1)=ns/\Reps K O H ts (fs.map (·.2))
def Reps (K:CA)(O:Ow)(H:Hp):List T->List V->Prop
 | [],vs=>vs= []
 | t::r,vs=> ∃v ws,vs=v::ws/\Rep K O H t v/\Reps K O H r ws
end
def SameO (P:Ow)(H H':Hp):Prop:=∀b o,H b=some o->¬ P b->H' b=some o
theorem SameO.of {P:Ow}{H H':Hp}(h:Same H H'):SameO P H H':=λb o e _=>h b o e
theorem Rd.Cm {P:Ow}{H H':Hp}{a:Addr}{u:HO}(h:SameO P H H')(n:¬ P a)(q:Rd H a u):Rd H' a u:=q.elim (λe=> .inl (h _ _ e n)) λ⟨o,e⟩=> .inr ⟨o,h _ _ e n⟩
theorem SqL.keep {K:CA}{P:Ow}{H H':Hp}{a:Addr}{vs:List V}(h:SameO P H H')(n:¬ P a)(q:SqL K H a vs):SqL K H' a vs:=by
 rcases q with(q | ⟨o,q⟩) | q
 ·exact .inl (.inl (h _ _ q n))
 ·exact .inl (.inr ⟨o,h _ _ q n⟩)
 ·exact .inr q
mutual
theorem Rep.keep {K:CA}{O P:Ow}{H H':Hp}(h:SameO P H H')(sub:∀a,P a->O a):∀{t:T} {v:V},Rep K O H t v->Rep K O H' t v
 | .non,_,r=>by unfold Rep at r ⊢;exact r
 | .bl _,_,r=>by unfold Rep at r ⊢;exact r
 | .int _,_,r=>by unfold Rep at r ⊢;exact r
 | .str _,_,r=>by unfold Rep at r ⊢;exact r
 | .tup l,_,r=>by
  unfold Rep at r ⊢;obtain⟨a,vs,e,n,q,z⟩:=r
  exact⟨a,vs,e,n,h _ _ q (λp=>n (sub a p)),Reps.keep h sub z⟩
 | .lst l,_,r=>by
  unfold Rep at r ⊢;obtain⟨a,vs,e,n,q,z⟩:=r
  exact⟨a,vs,e,n,h _ _ q (λp=>n (sub a p)),Reps.keep h sub z⟩
 | .scr l,_,r=>by
  unfold Rep at r ⊢;obtain⟨a,e,n,q⟩:=r
  exact⟨a,e,n,SqL.keep h (λp=>n (sub a p)) q⟩
 | .dct ks ts,_,r=>by
  unfold Rep at r ⊢;obtain⟨a,kvs,e,n,q,k,z⟩:=r
  exact⟨a,kvs,e,n,Rd.Cm h (λp=>n (sub a p)) q,k,Reps.keep h sub z⟩
 | .ob C ns ts,_,r=>by
  unfold Rep at r ⊢;obtain⟨a,dx,fs,e,n,q,k,z⟩:=r;exact⟨a,dx,fs,e,⟨⟨n.1.1,n.1.2.1,h _ _ n.1.2.2 λp=>n.1.2.1 (sub dx p)⟩,n.2⟩,h _ _ q (λp=>n.1.1 (sub a p)),k,Reps.keep h sub z⟩
theorem Reps.keep {K:CA}{O P:Ow}{H H':Hp}(h:SameO P H H')(sub:∀a,P a->O a):∀{l:List T} {vs:List V},Reps K O H l vs->Reps K O H' l vs
 | [],_,r=>by unfold Reps at r ⊢;exact r
 | t::l,_,r=>by
  unfold Reps at r ⊢;obtain⟨v,ws,e,p,q⟩:=r;exact⟨v,ws,e,Rep.keep h sub p,Reps.keep h sub q⟩
end
mutual
theorem Rep.less {K:CA}{O O':Ow}{H:Hp}(sub:∀a,O' a->O a):∀{t:T} {v:V},Rep K O H t v->Rep K O' H t v
 | .non,_,r=>by unfold Rep at r ⊢;exact r
 | .bl _,_,r=>by unfold Rep at r ⊢;exact r
 | .int _,_,r=>by unfold Rep at r ⊢;exact r
 | .str _,_,r=>by unfold Rep at r ⊢;exact r
 | .tup l,_,r=>by
  unfold Rep at r ⊢;obtain⟨a,vs,e,n,q,z⟩:=r
  exact⟨a,vs,e,λp=>n (sub a p),q,Reps.less sub z⟩
 | .lst l,_,r=>by
  unfold Rep at r ⊢;obtain⟨a,vs,e,n,q,z⟩:=r
  exact⟨a,vs,e,λp=>n (sub a p),q,Reps.less sub z⟩
 | .scr l,_,r=>by
  unfold Rep at r ⊢;obtain⟨a,e,n,z⟩:=r
  exact⟨a,e,λp=>n (sub a p),z⟩
 | .dct ks ts,_,r=>by
  unfold Rep at r ⊢;obtain⟨a,kvs,e,n,q,k,z⟩:=r
  exact⟨a,kvs,e,λp=>n (sub a p),q,k,Reps.less sub z⟩
 | .ob C ns ts,_,r=>by
  unfold Rep at r ⊢;obtain⟨a,dx,fs,e,n,q,k,z⟩:=r;exact⟨a,dx,fs,e,⟨⟨λp=>n.1.1 (sub a p),λp=>n.1.2.1 (sub dx p),n.1.2.2⟩,n.2⟩,q,k,Reps.less sub z⟩
theorem Reps.less {K:CA}{O O':Ow}{H:Hp}(sub:∀a,O' a->O a):∀{l:List T} {vs:List V},Reps K O H l vs->Reps K O' H l vs
 | [],_,r=>by unfold Reps at r ⊢;exact r
 | t::l,_,r=>by
  unfold Reps at r ⊢;obtain⟨v,ws,e,p,q⟩:=r;exact⟨v,ws,e,Rep.less sub p,Reps.less sub q⟩
end
section
variable {K:CA}{O:Ow}{H H':Hp}{t:T}{v:V}{l:List T}{vs:List V}
theorem Rep.same (h:Same H H')(r:Rep K O H t v):Rep K O H' t v:=Rep.keep (P:=λ_=>False) (SameO.of h) (λ_ z=>z.elim) r
theorem Reps.same (h:Same H H')(r:Reps K O H l vs):Reps K O H' l vs:=Reps.keep (P:=λ_=>False) (SameO.of h) (λ_ z=>z.elim) r
theorem Rep.B9:Rep K O H .non .non:=by unfold Rep;rfl
theorem Rep.bl_ (b:Bool):Rep K O H (.bl b) (.bl b):=by unfold Rep;rfl
theorem Rep.BU (i:Int):Rep K O H (.int i) (.int i):=by unfold Rep;rfl
theorem Rep.B3 (x:Str):Rep K O H (.str x) (.str x):=by unfold Rep;rfl
theorem Rep.BK:Rep K O H (.tup l) v↔ ∃a vs,v= .ref a/\¬ O a/\H a=some (.tup vs)/\Reps K O H l vs:=by unfold Rep;exact HJ
theorem Rep.BL:Rep K O H (.lst l) v↔ ∃a vs,v= .ref a/\¬ O a/\H a=some (.lst vs)/\Reps K O H l vs:=by unfold Rep;exact HJ
theorem Rep.Cc {ks ts:List T}:Rep K O H (.dct ks ts) v↔ ∃a kvs,v= .ref a/\¬ O a/\Rd H a (.dT kvs)/\ks.map keyOf=kvs.map (λp=>some p.1)/\Reps K O H ts (kvs.map (·.2)):=by unfold Rep;exact HJ
theorem Rep.Cf {C:Str}{ns:List Str}{ts:List T}:Rep K O H (.ob C ns ts) v↔ ∃a dx fs,v= .ref a/\ObN O H a dx fs/\H a=some (.ins (zw K C) dx fs)/\fs.map (·.1)=ns/\Reps K O H ts (fs.map (·.2)):=by unfold Rep;exact HJ
theorem Rep.BJ {i:Int}:Rep K O H (.int i) v↔v= .int i:=by unfold Rep;exact HJ
theorem Rep.BN {b:Bool}:Rep K O H (.bl b) v↔v= .bl b:=by unfold Rep;exact HJ
theorem Rep.BO {b:Str}:Rep K O H (.str b) v↔v= .str b:=by unfold Rep;exact HJ
theorem Rep.BX:Rep K O H .non v↔v= .non:=by unfold Rep;exact HJ
theorem Reps.BV:Reps K O H [] []:=by unfold Reps;rfl
theorem Reps.BP (r:Rep K O H t v)(q:Reps K O H l vs):Reps K O H (t::l) (v::vs):=by unfold Reps;exact⟨v,vs,rfl,r,q⟩
theorem Reps.BI:Reps K O H [] vs↔vs= []:=by unfold Reps;exact HJ
theorem Reps.AC:Reps K O H (t::l) vs↔ ∃v ws,vs=v::ws/\Rep K O H t v/\Reps K O H l ws:=by
 constructor
 ·intro h;unfold Reps at h;exact h
 ·intro h;unfold Reps;exact h
end
section
variable {K:CA}{O:Ow}{H H':Hp}
theorem Reps.length:∀{l:List T} {vs:List V},Reps K O H l vs->l.length=vs.length
 | [],vs,r=>by rw[Reps.BI.mp r];rfl
 | t::l,vs,r=>by
  obtain⟨v,ws,rfl,_,q⟩:=Reps.AC.mp r;simp[q.length]
theorem Reps.get:∀{l:List T} {vs:List V} {i:Nat} {t:T},Reps K O H l vs->l[i]? =some t->∃v,vs[i]? =some v/\Rep K O H t v
 | [],_,_,_,_,e=>by simp at e
 | t::l,vs,i,u,r,e=>by
  obtain⟨v,ws,rfl,p,q⟩:=Reps.AC.mp r
  cases i with
  | zero=>simp at e;subst e;exact⟨v,rfl,p⟩
  | succ i=>
   obtain⟨z,e1,e2⟩:=q.get (i:=i) (t:=u) (by simpa using e)
   exact⟨z,by simpa using e1,e2⟩
theorem Reps.append:∀{l m:List T} {vs ws:List V},Reps K O H l vs->Reps K O H m ws->Reps K O H (l++m) (vs++ws)
 | [],_,vs,_,r,s=>by rw[Reps.BI.mp r];exact s
 | t::l,m,vs,ws,r,s=>by
  obtain⟨v,us,rfl,p,q⟩:=Reps.AC.mp r;exact Reps.BP p (q.append s)
theorem Reps.take:∀{l:List T} {vs:List V} (n:Nat),Reps K O H l vs->Reps K O H (l.take n) (vs.take n)
 | _,_,0,_=>Reps.BV
 | [],vs,n+1,r=>by rw[Reps.BI.mp r];exact Reps.BV
 | t::l,vs,n+1,r=>by
  obtain⟨v,us,rfl,p,q⟩:=Reps.AC.mp r;exact Reps.BP p (q.take n)
theorem Reps.drop:∀{l:List T} {vs:List V} (n:Nat),Reps K O H l vs->Reps K O H (l.drop n) (vs.drop n)
 | _,_,0,r=>r
 | [],vs,n+1,r=>by rw[Reps.BI.mp r];exact Reps.BV
 | t::l,vs,n+1,r=>by
  obtain⟨v,us,rfl,p,q⟩:=Reps.AC.mp r;exact q.drop n
theorem Reps.ints:∀{ns:List Int},Reps K O H (ns.map T.int) (ns.map V.int)
 | [] =>Reps.BV
 | n::r=>Reps.BP (Rep.BU n) Reps.ints
theorem Reps.Cd:∀{ns:List Int} {vs:List V},Reps K O H (ns.map T.int) vs->vs=ns.map V.int
 | [],vs,r=>Reps.BI.mp r
 | n::r,vs,q=>by
  obtain⟨v,us,rfl,p,q⟩:=Reps.AC.mp q;rw[Rep.BJ.mp p,Reps.Cd q];rfl
end
def RowsR (K:CA)(O:Ow)(H:Hp):List (List T×List T)->List Addr->Prop
 | [],as=>as= []
 | r::rs,as=> ∃b bs kvs,as=b::bs/\H b=some (.dT kvs)/\r.1.map keyOf=kvs.map (λp=>some p.1)/\Reps K O H r.2 (kvs.map (·.2))/\RowsR K O H rs bs
def LsR (K:CA)(O:Ow)(H:Hp):List (List T)->List Addr->Prop
 | [],as=>as= []
 | l::ls,as=> ∃b bs vs,as=b::bs/\H b=some (.lst vs)/\Reps K O H l vs/\LsR K O H ls bs
def ORep (K:CA)(O M:Ow)(H:Hp):OT->V->Prop
 | .lst l,v=> ∃a vs,v= .ref a/\(∀b,M b↔b=a)/\H a=some (.lst vs)/\Reps K O H l vs
 | .dct ks ts,v=> ∃a kvs,v= .ref a/\(∀b,M b↔b=a)/\H a=some (.dT kvs)/\ks.map keyOf=kvs.map (λp=>some p.1)/\Reps K O H ts (kvs.map (·.2))
 | .dd ks rows,v=> ∃a kvs as,v= .ref a/\(∀b,M b↔b=a\/b∈as)/\a∉as/\as.Nodup/\H a=some (.dT kvs)/\ks.map keyOf=kvs.map (λp=>some p.1)/\kvs.map (·.2)=as.map V.ref/\RowsR K O H rows as
 | .ob C ns ls,v=> ∃a dx as,v= .ref a/\(∀b,M b↔b=a\/b=dx\/b∈as)/\(a∉as/\dx∉as/\dx≠a/\as.Nodup)/\H a=some (.ins (zw K C) dx (ns.zip (as.map V.ref)))/\H dx=some (.own a)/\ns.length=as.length/\ns.Nodup/\LsR K O H ls as
 | .ll ls,v=> ∃a as,v= .ref a/\(∀b,M b↔b=a\/b∈as)/\a∉as/\as.Nodup/\H a=some (.lst (as.map V.ref))/\LsR K O H ls as
inductive Sl where
 | em | va (t:T) | ow (o:OT)
abbrev En:=List Sl
def Mn.u (M:Mn):Ow:=λa=> ∃i,M i a
def isO:HO->Bool
 | .ins _ _ _=>true
 | .own _=>true
 | _=>false
def Mtb (H:Hp)(a:Addr):Prop:=(∃vs,H a=some (.lst vs))\/(∃kvs,H a=some (.dT kvs))\/∃o,H a=some o/\isO o=true
theorem Mtb.some {H:Hp}{a:Addr}(h:Mtb H a):∃o,H a=some o:=by
 rcases h with⟨_,e⟩ | ⟨_,e⟩ | ⟨_,e,_⟩ <;> exact⟨_,e⟩
theorem Mtb.at {H H':Hp}{a:Addr}(s:∀o,H a=DJ o->H' a=DJ o)(h:Mtb H a):Mtb H' a:=by
 rcases h with⟨vs,e⟩ | ⟨k,e⟩ | ⟨o,e,q⟩
 ·exact .inl ⟨vs,s _ e⟩
 ·exact .inr (.inl ⟨k,s _ e⟩)
 ·exact .inr (.inr ⟨o,s _ e,q⟩)
theorem Mtb.same {H H':Hp}(s:Same H H'){a:Addr}(h:Mtb H a):Mtb H' a:=h.at λo e=>s a o e
structure EnvM (K:CA)(O:Ow)(M:Mn)(H:Hp)(ρ:En)(σ:L2.St):Prop where
 len:ρ.length=σ.length
 val:∀(i:Nat) (t:T),ρ[i]? =some (.va t)->∃v,σ[i]? =some (some v)/\Rep K O H t v
 own:∀(i:Nat) (o:OT),ρ[i]? =some (.ow o)->∃v,σ[i]? =some (some v)/\ORep K O (M i) H o v
 sub:∀(i:Nat) (a:Addr),M i a->O a
 dis:∀(i j:Nat) (a:Addr),M i a->M j a->i=j
 trk:∀(a:Addr),O a->Mtb H a
theorem RowsR.same {K:CA}{O:Ow}{H H':Hp}(h:Same H H'):∀{rs:List (List T×List T)} {as:List Addr},RowsR K O H rs as->RowsR K O H' rs as
 | [],_,r=>r
 | _::_,_,⟨b,bs,kvs,e1,e2,e3,e4,e5⟩=>⟨b,bs,kvs,e1,h _ _ e2,e3,e4.same h,e5.same h⟩
theorem LsR.same {K:CA}{O:Ow}{H H':Hp}(h:Same H H'):∀{ls:List (List T)} {as:List Addr},LsR K O H ls as->LsR K O H' ls as
 | [],_,r=>r
 | _::_,_,⟨b,bs,vs,e1,e2,e3,e4⟩=>⟨b,bs,vs,e1,h _ _ e2,e3.same h,e4.same h⟩
theorem ORep.same {K:CA}{O M:Ow}{H H':Hp}(h:Same H H'){o:OT}{v:V}(r:ORep K O M H o v):ORep K O M H' o v:=by
 cases o with
 | lst l=>obtain⟨a,vs,e1,e2,e3,e4⟩:=r;exact⟨a,vs,e1,e2,h _ _ e3,e4.same h⟩
 | dct ks ts=>obtain⟨a,kvs,e1,e2,e3,e4,e5⟩:=r;exact⟨a,kvs,e1,e2,h _ _ e3,e4,e5.same h⟩
 | dd ks rows=>obtain⟨a,kvs,as,e1,e2,e3,e4,e5,e6,e7,e8⟩:=r;exact⟨a,kvs,as,e1,e2,e3,e4,h _ _ e5,e6,e7,e8.same h⟩
 | ob C ns ls=>obtain⟨a,dx,as,e1,e2,e3,e4,e5,e6,e7,e8⟩:=r;exact⟨a,dx,as,e1,e2,e3,h _ _ e4,h _ _ e5,e6,e7,e8.same h⟩
 | ll ls=>obtain⟨a,as,e1,e2,e3,e4,e5,e6⟩:=r;exact⟨a,as,e1,e2,e3,e4,h _ _ e5,e6.same h⟩
theorem EnvM.same {K:CA}{O:Ow}{M:Mn}{H H':Hp}{ρ:En}{σ:L2.St}(h:Same H H')(e:EnvM K O M H ρ σ):EnvM K O M H' ρ σ where
 len:=e.len
 val:=λi t q=>let ⟨v,e1,e2⟩:=e.val i t q;⟨v,e1,e2.same h⟩
 own:=λi o q=>let ⟨v,e1,e2⟩:=e.own i o q;⟨v,e1,e2.same h⟩
 sub:=e.sub
 dis:=e.dis
 trk:=λa q=>(e.trk a q).same h
def EnvO (K:CA)(O:Ow)(H:Hp)(ρ:En)(σ:L2.St):Prop:=∃M,EnvM K O M H ρ σ
section
variable {K:CA}{O:Ow}{H H':Hp}{ρ:En}{σ:L2.St}
theorem EnvO.val (e:EnvO K O H ρ σ)(i:Nat)(t:T)(q:ρ[i]? =some (.va t)):∃v,σ[i]? =some (some v)/\Rep K O H t v:=e.elim λ_ e=>e.val i t q
theorem EnvO.mtb (e:EnvO K O H ρ σ):∀a,O a->Mtb H a:=e.elim λ_ e=>e.trk
theorem EnvO.trk (e:EnvO K O H ρ σ)(a:Addr)(z:O a):∃o,H a=some o:=(e.mtb a z).some
theorem EnvO.same (h:Same H H')(e:EnvO K O H ρ σ):EnvO K O H' ρ σ:=e.elim λM e=>⟨M,e.same h⟩
theorem EnvO.fresh (e:EnvO K O H ρ σ){p:Addr}(h:H p=none):¬ O p:=λz=>by
 obtain⟨o,q⟩:=e.trk p z;rw[h]at q;cases q
end
def Flt (h:Heap)(C e:Addr):Option Addr->Prop
 | none=> ∃oe vs,h.get? e=some oe/\oe.cls= .ref C/\oe.data= .fields vs/\vs[1]? =some .none
 | some T=>T≠e/\∃oe vs,h.get? e=some oe/\oe.cls= .ref C/\oe.data= .fields vs/\vs[1]? =some (.ref T)/\∃oT ts,h.get? T=some oT/\oT.data= .fields ts/\ts[3]? =some .none
def RzP (X:Cx)(pins:List (Addr×Obj))(P:Ow)(H:Hp)(c:Str)(ev:CB)(s':Cz):Prop:=
 ∃e T C σ' H',ev= .ref e/\X.mg c=some (.ref C)/\Inv X pins σ' H' s'/\SameO P H H'/\H' e=none/\(X.ex= []->X.s₀.heap.get? e=none)/\Flt s'.heap C e T/\(∀t,T=some t->H' t=none/\(X.ex= []->X.s₀.heap.get? t=none))/\∀p∈X.pn++pins,p.1≠e/\T≠some p.1
def Nw (K:CA)(H:Hp):Ow:=λa=>H a=none/\K.lookup a=none
theorem lD {K:CA}{P:Ow}{H H1:Hp}(h:SameO P H H1){a:Addr}(n:Nw K H1 a):P a\/Nw K H a:=by
 by_cases hp:P a
 ·exact .inl hp
 ·refine .inr ⟨?_,n.2⟩
  cases q:H a with
  | none=>rfl
  | some o=>have:=h a o q hp;rw[n.1]at this;cases this
theorem SameO.trans {K:CA}{P P1:Ow}{H H1 H2:Hp}(h:SameO P H H1)(h1:SameO P1 H1 H2)(sub:∀a,P1 a->P a\/Nw K H a):SameO P H H2:=λb o e n=>
 h1 b o (h b o e n) λz=>(sub b z).elim n λw=>by rw[w.1]at e;cases e
def XA (X:Cx)(P:Ow)(H:Hp)(c:Str):Prop:=∀pins ev s',RzP X pins P H c ev s'->X.xe ev s'
theorem XA.later {X:Cx}{P P1:Ow}{H H1:Hp}{c:Str}(h:XA X P H c)(s:SameO P H H1)(sub:∀a,P1 a->P a\/Nw X.K H a):XA X P1 H1 c:=λpins ev s' ⟨e,T,C,σ',H',a1,a2,a3,a4,a5⟩=>
 h pins ev s' ⟨e,T,C,σ',H',a1,a2,a3,s.trans a4 sub,a5⟩
abbrev no_:Ow:=λ_=>False
def Post {α:Type}(X:Cx)(H:Hp)(r:Rs α)(k:α->Hp->Prop):Prop:=match r with
 | .ok t=> ∀H',Same H H'->k t H'
 | .err c=>XA X no_ H c
 | .bad=>False
theorem Post.mono {α:Type}{X:Cx}{H:Hp}{r:Rs α}{k k':α->Hp->Prop}(h:Post X H r k)(f:∀t H',Same H H'->k t H'->k' t H'):Post X H r k':=by
 cases r with
 | ok t=>exact λH' s=>f t H' s (h H' s)
 | err c=>exact h
 | bad=>exact h
theorem Post.later {α:Type}{X:Cx}{H H1:Hp}{r:Rs α}{k:α->Hp->Prop}(h:Post X H r k)(s:Same H H1):Post X H1 r k:=by
 cases r with
 | ok t=>exact λH' s'=>h H' (s.trans s')
 | err c=>exact XA.later h (SameO.of s) λ_ z=>z.elim
 | bad=>exact h
theorem Post.bind {α β:Type}{X:Cx}{H:Hp}{r:Rs α}{f:α->Rs β}{k:β->Hp->Prop}(h:Post X H (r >>= f) k):Post X H r λt H'=>Post X H' (f t) k:=by
 cases r with
 | ok t=>exact λH' s=>Post.later h s
 | err c=>exact h
 | bad=>exact h
def tP (X:Cx)(f:En->Rs T):TE:=λσ H Q=> ∃ρ O,EnvO X.K O H ρ σ/\Post X H (f ρ) λt H'=> ∀v,Rep X.K O H' t v->Q v H'
def tPA (X:Cx)(f:En->Rs (List T)):TA:=λσ H Q=> ∃ρ O,EnvO X.K O H ρ σ/\Post X H (f ρ) λt H'=> ∀v,Reps X.K O H' t v->Q v H'
def qP (X:Cx)(f:En->Rs Bool):TT:=λσ H Q=> ∃ρ O,EnvO X.K O H ρ σ/\Post X H (f ρ) λb H'=>Q b H'
abbrev cq (X:Cx)(e:Expr)(f:En->Rs T):Prop:=PE X e (tP X f)
abbrev nA (X:Cx)(e:List Expr)(f:En->Rs (List T)):Prop:=PA X e (tPA X f)
abbrev ug (X:Cx)(e:Expr)(f:En->Rs Bool):Prop:=PT X e (qP X f)
theorem PE.imp {X:Cx}{e:Expr}{t t':TE}(h:PE X e t)(w:∀σ H Q,t' σ H Q->t σ H Q):PE X e t':=λpins s σ H Q I q=>h pins s σ H Q I (w σ H Q q)
theorem PA.imp {X:Cx}{e:List Expr}{t t':TA}(h:PA X e t)(w:∀σ H Q,t' σ H Q->t σ H Q):PA X e t':=λpos pins s σ H Q I q=>h pos pins s σ H Q I (w σ H Q q)
theorem PS.imp {X:Cx}{e:Stmt}{t t':TS}(h:PS X e t)(w:∀D σ H,t' D σ H->t D σ H):PS X e t':=λpins s σ H D I q=>h pins s σ H D I (w D σ H q)
theorem PSs.imp {X:Cx}{e:List Stmt}{t t':TS}(h:PSs X e t)(w:∀D σ H,t' D σ H->t D σ H):PSs X e t':=λpins s σ H D I q=>h pins s σ H D I (w D σ H q)
section
variable {X:Cx}
theorem aR {σ:L2.St}{H:Hp}{ρ:En}{O:Ow}{α:Type}{f:En->Rs T}{k:T->Rs α}{Q:α->Hp->Prop}(E:EnvO X.K O H ρ σ)(h:Post X H (f ρ >>= k) Q) :
  tP X f σ H λv H'=> ∃t,Rep X.K O H' t v/\Same H H'/\EnvO X.K O H' ρ σ/\Post X H' (k t) Q:=
 ⟨ρ,O,E,Post.mono h.bind λt H' s q v r=>⟨t,r,s,E.same s,q⟩⟩
theorem du {σ:L2.St}{H:Hp}{ρ:En}{O:Ow}{α:Type}{f:En->Rs (List T)}{k:List T->Rs α}{Q:α->Hp->Prop}(E:EnvO X.K O H ρ σ)(h:Post X H (f ρ >>= k) Q) :
  tPA X f σ H λv H'=> ∃t,Reps X.K O H' t v/\Same H H'/\EnvO X.K O H' ρ σ/\Post X H' (k t) Q:=
 ⟨ρ,O,E,Post.mono h.bind λt H' s q v r=>⟨t,r,s,E.same s,q⟩⟩
theorem gG {σ:L2.St}{H:Hp}{ρ:En}{O:Ow}{α:Type}{f:En->Rs Bool}{k:Bool->Rs α}{Q:α->Hp->Prop}(E:EnvO X.K O H ρ σ)(h:Post X H (f ρ >>= k) Q) :
  qP X f σ H λb H'=>Same H H'/\EnvO X.K O H' ρ σ/\Post X H' (k b) Q:=
 ⟨ρ,O,E,Post.mono h.bind λt H' s q=>⟨s,E.same s,q⟩⟩
noncomputable def vr (i:Nat)(ρ:En):Rs T:=match ρ[i]? with
 | some (.va t)=> .ok t
 | _=> .bad
def cn (t:T)(_:En):Rs T:=.ok t
theorem Ah (i:Nat){x:Str}{pos:Pos}(hN:autoParam (X.N[i]? =some x) u_)(hv:autoParam (qK X.env.scope x) v_)(hd:autoParam ((x == ("__debug__" : Str))=false) s_)
  (hcd:autoParam ((x == ("__classdict__" : Str))=false) s_):cq X (.Name x pos) (vr i):=PE.imp (jm hN hv hd hcd) λσ H Q hh_=>by
 obtain⟨ρ,O,E,h⟩:=hh_;unfold vr at h
 split at h
 ·rename_i t e
  obtain⟨v,e1,e2⟩:=E.val i t e;exact⟨v,e1,h H (Same.refl H) v e2⟩
 ·exact h.elim
theorem Aq {i j pos}:cq X (.Constant (.int i) j pos) (cn (.int i)):=PE.imp n4 λσ H Q ⟨ρ,O,E,h⟩=>h H (Same.refl H) _ (Rep.BU i)
theorem q_bl {i j pos}:cq X (.Constant (.bool i) j pos) (cn (.bl i)):=PE.imp sA λσ H Q ⟨ρ,O,E,h⟩=>h H (Same.refl H) _ (Rep.bl_ i)
theorem An {j pos}:cq X (.Constant .none j pos) (cn .non):=PE.imp yq λσ H Q ⟨ρ,O,E,h⟩=>h H (Same.refl H) _ Rep.B9
theorem Aj {i j pos}:cq X (.Constant (.str i) j pos) (cn (.str i)):=PE.imp sk λσ H Q ⟨ρ,O,E,h⟩=>h H (Same.refl H) _ (Rep.B3 i)
theorem yi {x:Str}{i:Int}{u:CB}{pos:Pos}(hm:X.mg x=some u)(r:RelV (.int i) u)(hg:autoParam (Gl X x) u_)(hd:autoParam ((x == ("__debug__" : Str))=false) s_):cq X (.Name x pos) (cn (.int i)):=
 PE.imp (o5 hg hm r hd) λσ H Q ⟨ρ,O,E,h⟩=>h H (Same.refl H) _ (Rep.BU i)
def ah (_:En):Rs (List T):=.ok []
def ae (f:En->Rs T)(g:En->Rs (List T))(ρ:En):Rs (List T):=do
 let t <-f ρ
 let r <-g ρ
 .ok (t::r)
theorem yg:nA X [] ah:=PA.imp eK λσ H Q ⟨ρ,O,E,h⟩=>h H (Same.refl H) _ Reps.BV
theorem vd {e:Expr}{es:List Expr}{f:En->Rs T}{g:En->Rs (List T)}(he:cq X e f)(hr:nA X es g)(hs:autoParam (CV (e::es) X.env=(false,eval e X.env)::CV es X.env) u_):nA X (e::es) (ae f g):=by
 intro pos pins s σ H Q I h;obtain⟨ρ,O,E,h⟩:=h;refine bu he hr hs pos pins s σ H Q I ?_
 obtain⟨ρ1,O1,E1,h1⟩:=aR E h;refine⟨ρ1,O1,E1,Post.mono h1 λt H' s q v r=> ?_⟩
 obtain⟨t',r',s',E',q'⟩:=q v r;refine⟨ρ,O,E',Post.mono q'.bind λts H2 s2 q2 vs rs=> ?_⟩
 exact q2 H2 (Same.refl H2) _ (Reps.BP (r'.same s2) rs)
end
section
variable {X:Cx}
def eX (l:List T):Rs T:=if l.length<=sizeLine then .ok (.tup l)else .bad
def iH (l:List T):Rs T:=if l.length<=sizeLine then .ok (.lst l)else .bad
def cB (f:En->Rs (List T))(ρ:En):Rs T:=f ρ >>= eX
def gz (f:En->Rs (List T))(ρ:En):Rs T:=f ρ >>= iH
theorem a7 {H:Hp}{p:Addr}(h:H p=none)(o:HO):Same H (dE H p o):=λb u q=>by rw[aD (bt q h)];exact q
theorem cW {K:CA}{O:Ow}{H:Hp}{p:Addr}{l:List T}{vs:List V}(h:H p=none)(n:¬ O p)(r:Reps K O H l vs):Rep K O (dE H p (.tup vs)) (.tup l) (.ref p):=
 Rep.BK.mpr ⟨p,vs,rfl,n,aU,r.same (a7 h _)⟩
theorem dU {K:CA}{O:Ow}{H:Hp}{p:Addr}{l:List T}{vs:List V}(h:H p=none)(n:¬ O p)(r:Reps K O H l vs):Rep K O (dE H p (.lst vs)) (.lst l) (.ref p):=
 Rep.BL.mpr ⟨p,vs,rfl,n,aU,r.same (a7 h _)⟩
theorem Ai {es:List Expr}{x1:Nat}{pos:Pos}{f:En->Rs (List T)}(h:nA X es f):cq X (.Tuple es x1 pos) (cB f):=by
 intro pins s σ H Q I ⟨ρ,O,E,hq⟩;refine sj h pins s σ H Q I ?_
 obtain⟨ρ1,O1,E1,h1⟩:=du E hq;refine⟨ρ1,O1,E1,Post.mono h1 λts H1 s1 q vs r=> ?_⟩
 obtain⟨t',r',s',E',q'⟩:=q vs r;unfold eX at q'
 split at q'
 ·rename_i hz
  refine⟨by rw[<-r'.length];exact hz,λp hp=> ?_⟩
  exact q' _ (a7 hp _) _ (cW hp (E'.fresh hp) r')
 ·exact q'.elim
theorem Ao {es:List Expr}{pos:Pos}{f:En->Rs (List T)}(h:nA X es f):cq X (.List es pos) (gz f):=by
 intro pins s σ H Q I ⟨ρ,O,E,hq⟩;refine nZ h pins s σ H Q I ?_
 obtain⟨ρ1,O1,E1,h1⟩:=du E hq;refine⟨ρ1,O1,E1,Post.mono h1 λts H1 s1 q vs r=> ?_⟩
 obtain⟨t',r',s',E',q'⟩:=q vs r;unfold iH at q'
 split at q'
 ·rename_i hz
  refine⟨by rw[<-r'.length];exact hz,λp hp=> ?_⟩
  exact q' _ (a7 hp _) _ (dU hp (E'.fresh hp) r')
 ·exact q'.elim
def OpT (X:Cx)(f:CB->CB->Sem CB)(g:T->T->Rs T):Prop:=
 ∀(pins:List (Addr×Obj)) (s:Cz) (σ:L2.St) (H:Hp) (O:Ow) (x y:T) (vx vy:V) (ux uy:CB) (Q:VK),Inv X pins σ H s->(∀p,H p=none->¬ O p)->Rep X.K O H x vx->Rep X.K O H y vy->RelV vx ux->RelV vy uy →
  Post X H (g x y) (λt H'=> ∀v,Rep X.K O H' t v->Q v H')->wpAny (model X.prog X.w) X.A (f ux uy) (EP X pins σ Q) X.xe s
def o2 (g:T->T->Rs T)(fa fb:En->Rs T)(ρ:En):Rs T:=do
 let x <-fa ρ
 let y <-fb ρ
 g x y
variable {a b c:Expr}{fa fb fc:En->Rs T}{pos:Pos}
theorem Au {op:Jw}{g:T->T->Rs T}(ho:OpT X (Ed op) g)(ha:cq X a fa)(hb:cq X b fb):cq X (.BinOp a op b pos) (o2 g fa fb):=by
 intro pins s σ H Q I ⟨ρ,O,E,hq⟩
 have h1:=aR E hq;refine wpAny_BinOp (bF (ha pins s σ H _ I h1) λv s1 hh_=> ?_)
 obtain⟨x,H1,I1,r1,t,rt,s',E',q1⟩:=hh_
 have h2:=aR (f:=fb) E' q1;refine bF (hb pins s1 σ H1 _ I1 h2) λu s2 hh_=> ?_
 obtain⟨y,H2,I2,r2,t2,rt2,s'',E'',q2⟩:=hh_;exact ho pins s2 σ H2 O t t2 x y v u Q I2 (λp=>E''.fresh) (rt.same s'') rt2 r1 r2 q2
theorem As {op:KJ}{g:T->T->Rs T}(ho:OpT X (DN op) g)(ha:cq X a fa)(hb:cq X b fb)(hm:autoParam (EA op b=false) u_):cq X (.Compare a [op] [b] pos) (o2 g fa fb):=by
 intro pins s σ H Q I ⟨ρ,O,E,hq⟩
 have h1:=aR E hq;refine wpAny_Compare1 (bF (ha pins s σ H _ I h1) λv s1 ⟨x,H1,I1,r1,t,rt,s',E',q1⟩=> ?_) hm
 have h2:=aR (f:=fb) E' q1;refine bF (hb pins s1 σ H1 _ I1 h2) λu s2 hh_=> ?_
 obtain⟨y,H2,I2,r2,t2,rt2,s'',E'',q2⟩:=hh_;exact ho pins s2 σ H2 O t t2 x y v u Q I2 (λp=>E''.fresh) (rt.same s'') rt2 r1 r2 q2
theorem OpT.of {f:CB->CB->Sem CB}{r:R2}(h:jY X f r){g:T->T->Rs T}
  (w:∀(H:Hp) (O:Ow) (x y:T) (vx vy:V) (Q:VK),(∀p,H p=none->¬ O p)->Rep X.K O H x vx->Rep X.K O H y vy->Post X H (g x y) (λt H'=> ∀v,Rep X.K O H' t v->Q v H')->r vx vy H Q):OpT X f g:=
 λpins s σ H O x y vx vy ux uy Q I hf rx ry r1 r2 hp=>h pins s σ H vx vy ux uy Q I r1 r2 (w H O x y vx vy Q hf rx ry hp)
def gm:T->T->Rs T
 | .int i,.int j=> .ok (.int (i - j))
 | _,_=> .bad
theorem ik:OpT X (Ed .Sub) gm:=OpT.of yx λH O x y vx vy Q hf rx ry hp=>by
 unfold gm at hp
 split at hp
 ·exact⟨_,_,Rep.BJ.mp rx,Rep.BJ.mp ry,hp H (Same.refl H) _ (Rep.BU _)⟩
 ·exact hp.elim
def gS:T->T->Rs T
 | .int i,.int j=>if 0<j/\j<1073741824 then .ok (.int (i / j))else .bad
 | _,_=> .bad
def gv:T->T->Rs T
 | .int i,.int j=>if 0<j then .ok (.int (i % j))else .bad
 | _,_=> .bad
theorem iZ:OpT X (Ed .FloorDiv) gS:=OpT.of vC λH O x y vx vy Q hf rx ry hp=>by
 unfold gS at hp
 split at hp
 ·split at hp
  ·rename_i h
   exact⟨_,_,Rep.BJ.mp rx,Rep.BJ.mp ry,h,hp H (Same.refl H) _ (Rep.BU _)⟩
  ·exact hp.elim
 ·exact hp.elim
theorem gp:OpT X (Ed .Mod) gv:=OpT.of yA λH O x y vx vy Q hf rx ry hp=>by
 unfold gv at hp
 split at hp
 ·split at hp
  ·rename_i h
   exact⟨_,_,Rep.BJ.mp rx,Rep.BJ.mp ry,h,hp H (Same.refl H) _ (Rep.BU _)⟩
  ·exact hp.elim
 ·exact hp.elim
theorem sH:jY X (Ed .Add) (λx y H Q=> ∃a b ys,x= .ref a/\y= .ref b/\SqT X.K H a []/\SqT X.K H b ys/\Q (.ref b) H):=by
 intro pins s σ H x y v u Q I rx ry h;obtain⟨a,b,ys,rfl,rfl,ha,hb,q⟩:=h;cases rx;cases ry;obtain⟨its,r1,p1,_⟩:=I.tuple ha;obtain⟨its2,r2,p2,_⟩:=I.tuple hb;obtain⟨⟨cls,dd,data,sl⟩,ho,hc,n,hd⟩:=id p1;obtain⟨⟨cls2,dd2,data2,sl2⟩,ho2,hc2,n2,hd2⟩:=id p2;simp only at hc hd hc2 hd2;subst hc hd hc2 hd2
 have e:its= []:=by cases r1;rfl
 subst e;exact HT_concat0 ho ho2 ⟨.ref b,H,I,rfl,q⟩
where
 HT_concat0 {prog:C4} {w:Du} {A:Dj} {E:CB->Cz->Prop} {s:Cz} {t b:Addr} {ws:Array CB} {n n2:Nat} {dd dd2:Option Addr} {sl sl2:Array (Option CB)} {Q:CB->Cz->Prop}
   (ho:s.heap.get? t=some { cls:=.type "tuple",dict:=dd,data:=.seq (([]:List CB).toArray) n,slots:=sl }) (ho2:s.heap.get? b=some { cls:=.type "tuple",dict:=dd2,data:=.seq ws n2,slots:=sl2 }) (h:Q (.ref b) s) :
   wpAny (model prog w) A (Ed .Add (.ref t) (.ref b)) Q E s:=
  Kb ⟨_,ho,rfl⟩ ⟨_,ho2,rfl⟩ HW Jy Gg F3 (FV _ _)
   (tuple_addW0 t b _ _ n n2 dd dd2 sl sl2 (by simp)) ⟨ho,ho2,h⟩
def ax:T->T->Rs T
 | .int i,.int j=> .ok (.int (i+j))
 | .str i,.str j=>if i.length+j.length<=sizeLine then .ok (.str (i++j))else .bad
 | .tup l,.tup m=>eX (l++m)
 | .lst l,.lst m=>iH (l++m)
 | _,_=> .bad
theorem aw:OpT X (Ed .Add) ax:=by
 intro pins s σ H O x y vx vy ux uy Q I hf rx ry r1 r2 hp;unfold ax at hp
 split at hp
 ·exact yC pins s σ H vx vy ux uy Q I r1 r2 ⟨_,_,Rep.BJ.mp rx,Rep.BJ.mp ry,hp H (Same.refl H) _ (Rep.BU _)⟩
 ·split at hp
  ·rename_i h
   exact n5 pins s σ H vx vy ux uy Q I r1 r2 ⟨_,_,Rep.BO.mp rx,Rep.BO.mp ry,h,hp H (Same.refl H) _ (Rep.B3 _)⟩
  ·exact hp.elim
 ·rename_i l m
  unfold eX at hp
  split at hp
  ·rename_i h
   obtain⟨a,vs,e1,n1,q1,z1⟩:=Rep.BK.mp rx;obtain⟨b,ws,e2,n2,q2,z2⟩:=Rep.BK.mp ry
   have hl1:=z1.length
   have hl2:=z2.length;rw[CF]at h
   cases vs with
   | nil=>
    have e:l= []:=by cases l with
     | nil=>rfl
     | cons _ _=>simp at hl1
    subst e
    exact sH pins s σ H vx vy ux uy Q I r1 r2 ⟨a,b,ws,e1,e2,SqT.of q1,SqT.of q2,hp H (Same.refl H) _ (Rep.BK.mpr ⟨b,ws,rfl,n2,q2,z2⟩)⟩
   | cons v0 vr=>
    refine vD pins s σ H vx vy ux uy Q I r1 r2 ⟨a,b,v0::vr,ws,e1,e2,SqT.of q1,SqT.of q2,by simp,by omega,λhw=> ?_,λ_ p hpn=> ?_⟩
    ·subst hw
     have e:m= []:=by cases m with
      | nil=>rfl
      | cons _ _=>simp at hl2
     subst e;rw[Do]at hp;exact hp H (Same.refl H) _ (Rep.BK.mpr ⟨a,_,rfl,n1,q1,z1⟩)
    ·exact hp _ (a7 hpn _) _ (cW hpn (hf p hpn) (z1.append z2))
  ·exact hp.elim
 ·rename_i l m
  unfold iH at hp
  split at hp
  ·rename_i h
   obtain⟨a,vs,e1,n1,q1,z1⟩:=Rep.BL.mp rx;obtain⟨b,ws,e2,n2,q2,z2⟩:=Rep.BL.mp ry
   have hl1:=z1.length
   have hl2:=z2.length;rw[CF]at h;exact sI pins s σ H vx vy ux uy Q I r1 r2 ⟨a,b,vs,ws,e1,e2,q1,q2,by omega,λp hpn=>hp _ (a7 hpn _) _ (dU hpn (hf p hpn) (z1.append z2))⟩
  ·exact hp.elim
 ·exact hp.elim
def sU:T->T->Rs T
 | .int i,.int j=>if (-(2 ^ 64)<i/\i<2 ^ 64)\/(-(2 ^ 64)<j/\j<2 ^ 64)then .ok (.int (i*j))else .bad
 | .lst l,.int k=>if -(2 ^ 63)<=k/\k<2 ^ 63/\l.length*k.toNat<=sizeLine then .ok (.lst (C6 k.toNat l).flatten)else .bad
 | _,_=> .bad
theorem Reps.rep {K:CA}{O:Ow}{H:Hp}{l:List T}{vs:List V}(h:Reps K O H l vs):∀k:Nat,Reps K O H (C6 k l).flatten (C6 k vs).flatten
 | 0=>Reps.BV
 | k+1=>by rw[Ep,Ep,DI,DI];exact h.append (h.rep k)
theorem yw:OpT X (Ed .Mult) sU:=by
 intro pins s σ H O x y vx vy ux uy Q I hf rx ry r1 r2 hp;unfold sU at hp
 split at hp
 ·split at hp
  ·rename_i h
   exact yz pins s σ H vx vy ux uy Q I r1 r2 ⟨_,_,Rep.BJ.mp rx,Rep.BJ.mp ry,h,hp H (Same.refl H) _ (Rep.BU _)⟩
  ·exact hp.elim
 ·split at hp
  ·rename_i l k h
   obtain⟨a,vs,e1,n1,q1,z1⟩:=Rep.BL.mp rx
   have hl1:=z1.length;exact yy pins s σ H vx vy ux uy Q I r1 r2 ⟨a,k,vs,e1,Rep.BJ.mp ry,q1,h.1,h.2.1,by rw[<-hl1];exact h.2.2,λp hpn=>hp _ (a7 hpn _) _ (dU hpn (hf p hpn) (z1.rep _))⟩
  ·exact hp.elim
 ·exact hp.elim
def o1 (g:T->Rs T)(fa:En->Rs T)(ρ:En):Rs T:=fa ρ >>= g
def nu (p:Int->Int->Bool):T->T->Rs T
 | .int i,.int j=> .ok (.bl (p i j))
 | _,_=> .bad
theorem lh {op:KJ}{p:Int->Int->Bool}(h:jY X (DN op) (wY λi j=> .bl (p i j))):OpT X (DN op) (nu p):=OpT.of h λH O x y vx vy Q hf rx ry hp=>by
 unfold nu at hp
 split at hp
 ·exact⟨_,_,Rep.BJ.mp rx,Rep.BJ.mp ry,hp H (Same.refl H) _ (Rep.bl_ _)⟩
 ·exact hp.elim
abbrev ltT:=nu λi j=>decide (i<j)
abbrev AS:=nu λi j=>decide (i<=j)
abbrev BC:=nu λi j=>decide (j<i)
theorem AB:OpT X (DN .Lt) ltT:=lh AG
theorem o9:OpT X (DN .LtE) AS:=lh AH
theorem AD:OpT X (DN .Gt) BC:=lh AI
def T.isN:T->Bool
 | .non=>true
 | _=>false
theorem Rep.isN {K:CA}{O:Ow}{H:Hp}{t:T}{v:V}(r:Rep K O H t v):decide (v= .non)=t.isN:=by
 cases t with
 | non=>rw[Rep.BX.mp r];rfl
 | bl _=>rw[Rep.BN.mp r];rfl
 | int _=>rw[Rep.BJ.mp r];rfl
 | str _=>rw[Rep.BO.mp r];rfl
 | tup _=>obtain⟨a,vs,e,_⟩:=Rep.BK.mp r;rw[e];rfl
 | lst _=>obtain⟨a,vs,e,_⟩:=Rep.BL.mp r;rw[e];rfl
 | scr _=>unfold Rep at r;obtain⟨a,e,_⟩:=r;rw[e];rfl
 | dct _ _=>obtain⟨a,_,e,_⟩:=Rep.Cc.mp r;rw[e];rfl
 | ob _ _ _=>obtain⟨a,_,_,e,_⟩:=Rep.Cf.mp r;rw[e];rfl
def j9:T->T->Rs T
 | x,.non=> .ok (.bl x.isN)
 | _,_=> .bad
theorem sG:OpT X (DN .Is) j9:=OpT.of yB λH O x y vx vy Q hf rx ry hp=>by
 unfold j9 at hp
 split at hp
 ·exact⟨Rep.BX.mp ry,hp H (Same.refl H) _ (by rw[rx.isN];exact Rep.bl_ _)⟩
 ·exact hp.elim
end
end Tr
namespace Tr
open PySem PySem.Spec PyProof.Rows L2
open PySem.SeqAt
mutual
def ReV (s:Cz):T->CB->Prop
 | .non,u=>u= .none
 | .bl b,u=>u= .bool b
 | .int i,u=> ∃t,u= .int i t
 | .str x,u=> ∃t,u= .str x t
 | .tup l,u=> ∃a its,u= .ref a/\s.heap.IsTuple a (Gn its)/\ReVs s l its
 | .lst l,u=> ∃a its,u= .ref a/\s.heap.IsList a (Gn its)/\ReVs s l its
 | .scr l,u=> ∃a its,u= .ref a/\s.heap.IsList a (Gn its)/\Gb its l
 | .dct _ _,_=>False
 | .ob _ _ _,_=>False
def ReVs (s:Cz):List T->List CB->Prop
 | [],us=>us= []
 | t::r,us=> ∃u ws,us=u::ws/\ReV s t u/\ReVs s r ws
end
theorem ReVs.BI {s:Cz}{us:List CB}:ReVs s [] us↔us= []:=by unfold ReVs;exact HJ
theorem ReVs.AC {s:Cz}{t:T}{l:List T}{us:List CB}:ReVs s (t::l) us↔ ∃u ws,us=u::ws/\ReV s t u/\ReVs s l ws:=by
 constructor
 ·intro h;unfold ReVs at h;exact h
 ·intro h;unfold ReVs;exact h
theorem ReVs.length {s:Cz}:∀{l:List T} {us:List CB},ReVs s l us->l.length=us.length
 | [],us,r=>by rw[ReVs.BI.mp r];rfl
 | t::l,us,r=>by
  obtain⟨v,ws,rfl,_,q⟩:=ReVs.AC.mp r;simp[q.length]
theorem ReVs.get {s:Cz}:∀{l:List T} {us:List CB} {i:Nat} {t:T},ReVs s l us->l[i]? =some t->∃v,us[i]? =some v/\ReV s t v
 | [],_,_,_,_,e=>by simp at e
 | t::l,vs,i,u,r,e=>by
  obtain⟨v,ws,rfl,p,q⟩:=ReVs.AC.mp r
  cases i with
  | zero=>simp at e;subst e;exact⟨v,rfl,p⟩
  | succ i=>
   obtain⟨z,e1,e2⟩:=q.get (i:=i) (t:=u) (by simpa using e)
   exact⟨z,by simpa using e1,e2⟩
mutual
def T.nd:T->Bool
 | .dct _ _=>false
 | .ob _ _ _=>false
 | .tup l=>nds l
 | .lst l=>nds l
 | _=>true
def nds:List T->Bool
 | [] =>true
 | t::l=>t.nd&&nds l
end
theorem mX {t:T}{l:List T}(h:nds (t::l)=true):t.nd=true/\nds l=true:=by unfold nds at h;exact DD.mp h
section
variable {X:Cx}{pins:List (Addr×Obj)}{σ:L2.St}{H:Hp}{s:Cz}{O:Ow}
mutual
theorem Rep.val (I:Inv X pins σ H s):∀{t:T} {v:V} {u:CB},t.nd=true->Rep X.K O H t v->RelV v u->ReV s t u
 | .non,v,u,hn,r,q=>by cases Rep.BX.mp r;unfold ReV;exact q
 | .bl b,v,u,hn,r,q=>by cases Rep.BN.mp r;unfold ReV;exact q
 | .int b,v,u,hn,r,q=>by cases Rep.BJ.mp r;unfold ReV;exact q
 | .str b,v,u,hn,r,q=>by cases Rep.BO.mp r;unfold ReV;exact q
 | .tup l,v,u,hn,r,q=>by
  obtain⟨a,vs,rfl,_,z,w⟩:=Rep.BK.mp r;cases q;obtain⟨its,rv,p,_⟩:=I.tuple (SqT.of z);unfold ReV
  exact⟨a,its,rfl,p,Reps.val I (by unfold T.nd at hn;exact hn) w rv⟩
 | .lst l,v,u,hn,r,q=>by
  obtain⟨a,vs,rfl,_,z,w⟩:=Rep.BL.mp r;cases q;obtain⟨its,rv,p,_⟩:=I.list (SqL.of z);unfold ReV
  exact⟨a,its,rfl,p.isList,Reps.val I (by unfold T.nd at hn;exact hn) w rv⟩
 | .scr l,v,u,hn,r,q=>by
  unfold Rep at r;obtain⟨a,rfl,_,z⟩:=r;cases q;obtain⟨its,rv,p,_⟩:=I.list z;unfold ReV
  exact⟨a,its,rfl,p.isList,oo rv⟩
 | .dct _ _,v,u,hn,r,q=>by cases hn
 | .ob _ _ _,v,u,hn,r,q=>by cases hn
theorem Reps.val (I:Inv X pins σ H s):∀{l:List T} {vs:List V} {us:List CB},nds l=true->Reps X.K O H l vs->Vals vs us->ReVs s l us
 | [],vs,us,hn,r,q=>by
  cases Reps.BI.mp r;cases q
  exact ReVs.BI.mpr rfl
 | t::l,vs,us,hn,r,q=>by
  obtain⟨v,ws,rfl,p,z⟩:=Reps.AC.mp r
  cases q with
  | cons q1 q2=>exact ReVs.AC.mpr ⟨_,_,rfl,Rep.val I (mX hn).1 p q1,Reps.val I (mX hn).2 z q2⟩
end
end
mutual
def T.dep:T->Nat
 | .tup l=>deps l+1
 | .lst l=>deps l+1
 | .scr _=>1
 | _=>0
def deps:List T->Nat
 | [] =>0
 | t::l=>max t.dep (deps l)
end
def wG (i:Int):T->Bool
 | .int j=>i == j
 | .bl b=>i == (if b then 1 else 0)
 | _=>false
def gg:List Int->List T->Bool
 | [],[] =>true
 | i::r,t::l=>wG i t&&gg r l
 | _,_=>false
mutual
def bH:T->T->Bool
 | .non,.non=>true
 | .bl a,.bl b=>a == b
 | .bl a,.int b=>(if a then 1 else 0) == b
 | .int a,.bl b=>a == (if b then 1 else 0)
 | .int a,.int b=>a == b
 | .str a,.str b=>a == b
 | .tup l,.tup m=>beqTs l m
 | .lst l,.lst m=>beqTs l m
 | .lst l,.scr m=>beqTs l (m.map .int)
 | .scr l,.lst m=>gg l m
 | .scr l,.scr m=>l == m
 | _,_=>false
def beqTs:List T->List T->Bool
 | [],[] =>true
 | t::l,u::m=>bH t u&&beqTs l m
 | _,_=>false
end
theorem jU (n:Nat)(e:Nat->Bool):(DH (n+1)).all e=(e 0&&(DH n).all λj=>e (j+1)):=by
 rw[List.range_succ_eq_map,HK,List.all_map];rfl
theorem iv:∀(l m:List T) (e:Nat->Bool),(∀(j:Nat) t u,l[j]? =some t->m[j]? =some u->e j=bH t u) →
  beqTs l m=((DH (min l.length m.length)).all e&&l.length == m.length)
 | [],[],_,_=>by simp[beqTs]
 | [],_::_,_,_=>by simp[beqTs]
 | _::_,[],_,_=>by simp[beqTs]
 | t::l,u::m,e,h=>by
  have ih:=iv l m (λj=>e (j+1)) λj t' u' h1 h2=>h (j+1) t' u' (by simpa using h1) (by simpa using h2)
  rw[beqTs,ih]
  have h0:=h 0 t u rfl rfl;simp only[CJ];rw[Nat.succ_min_succ,jU,h0,Bool.and_assoc]
  congr 2
  simp
theorem kN:∀{l m:List T},l.length≠m.length->beqTs l m=false
 | [],[],h=>absurd rfl h
 | [],_::_,_=>by simp[beqTs]
 | _::_,[],_=>by simp[beqTs]
 | t::l,u::m,h=>by
  rw[beqTs,kN (l:=l) (m:=m) (by intro z;exact h (by simp[z]))]
  simp
theorem jL:∀{l:List T} {i:Nat} {t:T},l[i]? =some t->t.dep<=deps l
 | [],_,_,e=>by simp at e
 | t::l,0,u,e=>by simp at e;subst e;unfold deps;exact Nat.le_max_left _ _
 | t::l,i+1,u,e=>by
  have:=jL (l:=l) (i:=i) (t:=u) (by simpa using e)
  unfold deps;exact Dk this (Nat.le_max_right _ _)
theorem fH {s:Cz}{a:Addr}{x y:List CB}(h:s.heap.IsTuple a x.toArray)(h':s.heap.IsTuple a y.toArray):x=y:=by
 obtain⟨o,e,_,n,d⟩:=h;obtain⟨o',e',_,n',d'⟩:=h';rw[e]at e';cases e';rw[d]at d';injection d' with d1 _
 simpa using congrArg Ih d1
theorem bP {s:Cz}{a:Addr}{x y:List CB}(h:s.heap.IsList a x.toArray)(h':s.heap.IsList a y.toArray):x=y:=by
 obtain⟨o,e,_,n,d⟩:=h;obtain⟨o',e',_,n',d'⟩:=h';rw[e]at e';cases e';rw[d]at d';injection d' with d1 _
 simpa using congrArg Ih d1
theorem qJ {s:Cz}{i:Int}{t:T}{k:Tok}(r:ReV s t (.int i k)):wG i t=true:=by
 cases t with
 | non=>unfold ReV at r;cases r
 | bl b=>unfold ReV at r;cases r
 | int j=>unfold ReV at r;obtain⟨t,e⟩:=r;injection e with e1 _;subst e1;simp[wG]
 | str x=>unfold ReV at r;obtain⟨t,e⟩:=r;cases e
 | tup l=>unfold ReV at r;obtain⟨a,its,e,_⟩:=r;cases e
 | lst l=>unfold ReV at r;obtain⟨a,its,e,_⟩:=r;cases e
 | scr l=>unfold ReV at r;obtain⟨a,its,e,_⟩:=r;cases e
 | dct _ _=>unfold ReV at r;exact r.elim
 | ob _ _ _=>unfold ReV at r;exact r.elim
theorem jS {s:Cz}:∀{ns:List Int} {us:List CB} {l:List T},Gb us ns->ReVs s l us->gg ns l=true
 | [],us,l,h,r=>by
  cases h
  cases l with
  | nil=>rfl
  | cons t l=>obtain⟨_,_,e,_⟩:=ReVs.AC.mp r;cases e
 | n::ns,us,l,h,r=>by
  cases h with
  | cons a b hh=>
   cases l with
   | nil=>have:=ReVs.BI.mp r;cases this
   | cons t l=>
    obtain⟨u,ws,e,p,q⟩:=ReVs.AC.mp r;injection e with e1 e2
    subst e1 e2;rw[gg,qJ p,jS hh q];rfl
theorem de {s:Cz}:∀{us:List CB} {ns:List Int},Gb us ns->ReVs s (ns.map T.int) us
 | _,_,.nil=>ReVs.BI.mpr rfl
 | _,_,.cons n t h=>ReVs.AC.mpr ⟨_,_,rfl,by unfold ReV;exact⟨_,rfl⟩,de h⟩
theorem fI:∀{us:List CB} {ns ms:List Int},Gb us ns->Gb us ms->ns=ms
 | _,_,_,.nil,.nil=>rfl
 | _,_,_,.cons n t h,.cons _ _ h'=>by rw[fI h h']
mutual
theorem ReV.refl {s:Cz}:∀{t u:T} {v:CB},ReV s t v->ReV s u v->bH t u=true
 | .non,u,v,r,q=>by
  unfold ReV at r;subst r
  cases u <;> (unfold ReV at q) <;> first | rfl | (cases q;done) | (obtain⟨_,e⟩:=q;cases e;done) | (obtain⟨_,_,e,_⟩:=q;cases e;done)
 | .bl b,u,v,r,q=>by
  unfold ReV at r;subst r
  cases u <;> (unfold ReV at q) <;> first | (cases q;done) | (cases q;simp[bH];done) | (obtain⟨_,e⟩:=q;cases e;done) | (obtain⟨_,_,e,_⟩:=q;cases e;done)
 | .int b,u,v,r,q=>by
  unfold ReV at r;obtain⟨k,rfl⟩:=r
  cases u <;> (unfold ReV at q) <;> first | (cases q;done) | (obtain⟨_,e⟩:=q;cases e;simp[bH];done) | (obtain⟨_,e⟩:=q;cases e;done) | (obtain⟨_,_,e,_⟩:=q;cases e;done)
 | .str b,u,v,r,q=>by
  unfold ReV at r;obtain⟨k,rfl⟩:=r
  cases u <;> (unfold ReV at q) <;> first | (cases q;done) | (obtain⟨_,e⟩:=q;cases e;simp[bH];done) | (obtain⟨_,e⟩:=q;cases e;done) | (obtain⟨_,_,e,_⟩:=q;cases e;done)
 | .tup l,u,v,r,q=>by
  unfold ReV at r;obtain⟨a,its,rfl,h1,h2⟩:=r
  cases u with
  | non=>unfold ReV at q;cases q
  | dct _ _=>unfold ReV at q;exact q.elim
  | ob _ _ _=>unfold ReV at q;exact q.elim
  | bl _=>unfold ReV at q;cases q
  | int _=>unfold ReV at q;obtain⟨_,e⟩:=q;cases e
  | str _=>unfold ReV at q;obtain⟨_,e⟩:=q;cases e
  | tup m=>
   unfold ReV at q;obtain⟨a',its',e,h1',h2'⟩:=q;injection e with e;subst e
   have:=fH h1 h1';subst this;unfold bH
   exact ReVs.refl h2 h2'
  | lst m=>unfold ReV at q;obtain⟨a',its',e,h1',h2'⟩:=q;injection e with e;subst e;exact absurd rfl (ne_of_list_tuple h1' h1)
  | scr m=>unfold ReV at q;obtain⟨a',its',e,h1',h2'⟩:=q;injection e with e;subst e;exact absurd rfl (ne_of_list_tuple h1' h1)
 | .lst l,u,v,r,q=>by
  unfold ReV at r;obtain⟨a,its,rfl,h1,h2⟩:=r
  cases u with
  | non=>unfold ReV at q;cases q
  | dct _ _=>unfold ReV at q;exact q.elim
  | ob _ _ _=>unfold ReV at q;exact q.elim
  | bl _=>unfold ReV at q;cases q
  | int _=>unfold ReV at q;obtain⟨_,e⟩:=q;cases e
  | str _=>unfold ReV at q;obtain⟨_,e⟩:=q;cases e
  | lst m=>
   unfold ReV at q;obtain⟨a',its',e,h1',h2'⟩:=q;injection e with e;subst e
   have:=bP h1 h1';subst this;unfold bH
   exact ReVs.refl h2 h2'
  | tup m=>unfold ReV at q;obtain⟨a',its',e,h1',h2'⟩:=q;injection e with e;subst e;exact absurd rfl (ne_of_list_tuple h1 h1')
  | scr m=>
   unfold ReV at q;obtain⟨a',its',e,h1',h2'⟩:=q;injection e with e;subst e
   have:=bP h1 h1';subst this;unfold bH
   exact ReVs.refl h2 (de h2')
 | .scr l,u,v,r,q=>by
  unfold ReV at r;obtain⟨a,its,rfl,h1,h2⟩:=r
  cases u with
  | non=>unfold ReV at q;cases q
  | dct _ _=>unfold ReV at q;exact q.elim
  | ob _ _ _=>unfold ReV at q;exact q.elim
  | bl _=>unfold ReV at q;cases q
  | int _=>unfold ReV at q;obtain⟨_,e⟩:=q;cases e
  | str _=>unfold ReV at q;obtain⟨_,e⟩:=q;cases e
  | lst m=>
   unfold ReV at q;obtain⟨a',its',e,h1',h2'⟩:=q;injection e with e;subst e
   have:=bP h1 h1';subst this;unfold bH
   exact jS h2 h2'
  | tup m=>unfold ReV at q;obtain⟨a',its',e,h1',h2'⟩:=q;injection e with e;subst e;exact absurd rfl (ne_of_list_tuple h1 h1')
  | scr m=>
   unfold ReV at q;obtain⟨a',its',e,h1',h2'⟩:=q;injection e with e;subst e
   have:=bP h1 h1';subst this;unfold bH
   have:=fI h2 h2'
   simp[this]
 | .dct _ _,u,v,r,q=>by unfold ReV at r;exact r.elim
 | .ob _ _ _,u,v,r,q=>by unfold ReV at r;exact r.elim
theorem ReVs.refl {s:Cz}:∀{l m:List T} {us:List CB},ReVs s l us->ReVs s m us->beqTs l m=true
 | [],m,us,r,q=>by
  cases ReVs.BI.mp r
  cases m with
  | nil=>simp[beqTs]
  | cons _ _=>obtain⟨_,_,e,_⟩:=ReVs.AC.mp q;cases e
 | t::l,m,us,r,q=>by
  obtain⟨v,ws,rfl,p,z⟩:=ReVs.AC.mp r
  cases m with
  | nil=>cases ReVs.BI.mp q
  | cons u m=>
   obtain⟨v',ws',e,p',z'⟩:=ReVs.AC.mp q;injection e with e1 e2
   subst e1 e2;rw[beqTs,ReV.refl p p',ReVs.refl z z'];rfl
end
theorem ny:∀(l:List Int) (m:List T),gg l m=beqTs (l.map T.int) m
 | [],[] =>by simp[gg,beqTs]
 | [],_::_=>by simp[gg,beqTs]
 | _::_,[] =>by simp[gg,beqTs]
 | i::l,t::m=>by
  rw[gg,C3,beqTs,ny l m]
  congr 1
  cases t <;> simp[wG,bH]
theorem oV:∀(l m:List Int),(l == m)=beqTs (l.map T.int) (m.map T.int)
 | [],[] =>by simp[beqTs]
 | [],_::_=>by simp[beqTs]
 | _::_,[] =>by simp[beqTs]
 | i::l,t::m=>by
  rw[C3,C3,beqTs,<-oV l m];simp[bH]
theorem di:∀(l:List Int),deps (l.map T.int)=0
 | [] =>rfl
 | i::l=>by rw[C3,deps,di l];simp[T.dep]
def fT:T->T->Prop
 | .tup _,.tup _=>False
 | .lst _,.lst _=>False
 | .lst _,.scr _=>False
 | .scr _,.lst _=>False
 | .scr _,.scr _=>False
 | _,_=>True
theorem nj (A:Dj)(s:Cz)(x y:T)(u v:CB)(hn:fT x y)(hu:A.units<cLine)(rx:ReV s x u)(ry:ReV s y v):EqAt A s u v (bH x y)/\RcAt A s u v (bH x y)/\RcNeAt A s u v (!bH x y):=by
 match x,y,hn,rx,ry with
 | .dct _ _,_,_,rx,_=>exact(by unfold ReV at rx;exact rx:False).elim
 | .ob _ _ _,_,_,rx,_=>exact(by unfold ReV at rx;exact rx:False).elim
 | _,.dct _ _,_,_,ry=>exact(by unfold ReV at ry;exact ry:False).elim
 | _,.ob _ _ _,_,_,ry=>exact(by unfold ReV at ry;exact ry:False).elim
 | .non,.non,hn,rx,ry=>
  obtain rfl:u=C7:=by unfold ReV at rx;exact rx
  obtain rfl:v=C7:=by unfold ReV at ry;exact ry
  exact⟨EqAt.same _,RcAt.none_none ,RcNeAt.none_none ⟩
 | .non,.bl b2,hn,rx,ry=>
  obtain rfl:u=C7:=by unfold ReV at rx;exact rx
  obtain rfl:v=Dz b2:=by unfold ReV at ry;exact ry
  exact⟨EqAt.none_bool b2,RcAt.none_bool b2,RcNeAt.none_bool b2⟩
 | .non,.int i2,hn,rx,ry=>
  obtain rfl:u=C7:=by unfold ReV at rx;exact rx
  obtain⟨k2,rfl⟩:∃k,v=D1 i2 k:=by unfold ReV at ry;exact ry
  exact⟨EqAt.none_int i2 k2,RcAt.none_int i2 k2,RcNeAt.none_int i2 k2⟩
 | .non,.str x2,hn,rx,ry=>
  obtain rfl:u=C7:=by unfold ReV at rx;exact rx
  obtain⟨k2,rfl⟩:∃k,v=Eb x2 k:=by unfold ReV at ry;exact ry
  exact⟨EqAt.none_str x2 k2,RcAt.none_str x2 k2,RcNeAt.none_str x2 k2⟩
 | .non,.tup l2,hn,rx,ry=>
  obtain rfl:u=C7:=by unfold ReV at rx;exact rx
  unfold ReV at ry;obtain⟨a2,us2,rfl,h2,q2⟩:=ry
  exact⟨EqAt.none_tuple h2 hu,RcAt.none_tuple h2 hu,RcNeAt.none_tuple h2 hu⟩
 | .non,.lst l2,hn,rx,ry=>
  obtain rfl:u=C7:=by unfold ReV at rx;exact rx
  unfold ReV at ry;obtain⟨a2,us2,rfl,h2,q2⟩:=ry
  exact⟨EqAt.none_list h2 hu,RcAt.none_list h2 hu,RcNeAt.none_list h2 hu⟩
 | .non,.scr l2,hn,rx,ry=>
  obtain rfl:u=C7:=by unfold ReV at rx;exact rx
  unfold ReV at ry;obtain⟨a2,us2,rfl,h2,q2⟩:=ry
  exact⟨EqAt.none_list h2 hu,RcAt.none_list h2 hu,RcNeAt.none_list h2 hu⟩
 | .bl b1,.non,hn,rx,ry=>
  obtain rfl:u=Dz b1:=by unfold ReV at rx;exact rx
  obtain rfl:v=C7:=by unfold ReV at ry;exact ry
  exact⟨EqAt.bool_none b1,RcAt.bool_none b1,RcNeAt.bool_none b1⟩
 | .bl b1,.bl b2,hn,rx,ry=>
  obtain rfl:u=Dz b1:=by unfold ReV at rx;exact rx
  obtain rfl:v=Dz b2:=by unfold ReV at ry;exact ry
  exact⟨EqAt.bool_bool b1 b2,RcAt.bool_bool b1 b2,RcNeAt.bool_bool b1 b2⟩
 | .bl b1,.int i2,hn,rx,ry=>
  obtain rfl:u=Dz b1:=by unfold ReV at rx;exact rx
  obtain⟨k2,rfl⟩:∃k,v=D1 i2 k:=by unfold ReV at ry;exact ry
  exact⟨EqAt.bool_int b1 i2 k2,RcAt.bool_int b1 i2 k2,RcNeAt.bool_int b1 i2 k2⟩
 | .bl b1,.str x2,hn,rx,ry=>
  obtain rfl:u=Dz b1:=by unfold ReV at rx;exact rx
  obtain⟨k2,rfl⟩:∃k,v=Eb x2 k:=by unfold ReV at ry;exact ry
  exact⟨EqAt.bool_str b1 x2 k2,RcAt.bool_str b1 x2 k2,RcNeAt.bool_str b1 x2 k2⟩
 | .bl b1,.tup l2,hn,rx,ry=>
  obtain rfl:u=Dz b1:=by unfold ReV at rx;exact rx
  unfold ReV at ry;obtain⟨a2,us2,rfl,h2,q2⟩:=ry
  exact⟨EqAt.bool_tuple b1 h2 hu,RcAt.bool_tuple b1 h2 hu,RcNeAt.bool_tuple b1 h2 hu⟩
 | .bl b1,.lst l2,hn,rx,ry=>
  obtain rfl:u=Dz b1:=by unfold ReV at rx;exact rx
  unfold ReV at ry;obtain⟨a2,us2,rfl,h2,q2⟩:=ry
  exact⟨EqAt.bool_list b1 h2 hu,RcAt.bool_list b1 h2 hu,RcNeAt.bool_list b1 h2 hu⟩
 | .bl b1,.scr l2,hn,rx,ry=>
  obtain rfl:u=Dz b1:=by unfold ReV at rx;exact rx
  unfold ReV at ry;obtain⟨a2,us2,rfl,h2,q2⟩:=ry
  exact⟨EqAt.bool_list b1 h2 hu,RcAt.bool_list b1 h2 hu,RcNeAt.bool_list b1 h2 hu⟩
 | .int i1,.non,hn,rx,ry=>
  obtain⟨k1,rfl⟩:∃k,u=D1 i1 k:=by unfold ReV at rx;exact rx
  obtain rfl:v=C7:=by unfold ReV at ry;exact ry
  exact⟨EqAt.int_none i1 k1,RcAt.int_none i1 k1,RcNeAt.int_none i1 k1⟩
 | .int i1,.bl b2,hn,rx,ry=>
  obtain⟨k1,rfl⟩:∃k,u=D1 i1 k:=by unfold ReV at rx;exact rx
  obtain rfl:v=Dz b2:=by unfold ReV at ry;exact ry
  exact⟨EqAt.int_bool i1 k1 b2,RcAt.int_bool i1 k1 b2,RcNeAt.int_bool i1 k1 b2⟩
 | .int i1,.int i2,hn,rx,ry=>
  obtain⟨k1,rfl⟩:∃k,u=D1 i1 k:=by unfold ReV at rx;exact rx
  obtain⟨k2,rfl⟩:∃k,v=D1 i2 k:=by unfold ReV at ry;exact ry
  exact⟨EqAt.int_int i1 k1 i2 k2,RcAt.int_int i1 k1 i2 k2,RcNeAt.int_int i1 k1 i2 k2⟩
 | .int i1,.str x2,hn,rx,ry=>
  obtain⟨k1,rfl⟩:∃k,u=D1 i1 k:=by unfold ReV at rx;exact rx
  obtain⟨k2,rfl⟩:∃k,v=Eb x2 k:=by unfold ReV at ry;exact ry
  exact⟨EqAt.int_str i1 k1 x2 k2,RcAt.int_str i1 k1 x2 k2,RcNeAt.int_str i1 k1 x2 k2⟩
 | .int i1,.tup l2,hn,rx,ry=>
  obtain⟨k1,rfl⟩:∃k,u=D1 i1 k:=by unfold ReV at rx;exact rx
  unfold ReV at ry;obtain⟨a2,us2,rfl,h2,q2⟩:=ry
  exact⟨EqAt.int_tuple i1 k1 h2 hu,RcAt.int_tuple i1 k1 h2 hu,RcNeAt.int_tuple i1 k1 h2 hu⟩
 | .int i1,.lst l2,hn,rx,ry=>
  obtain⟨k1,rfl⟩:∃k,u=D1 i1 k:=by unfold ReV at rx;exact rx
  unfold ReV at ry;obtain⟨a2,us2,rfl,h2,q2⟩:=ry
  exact⟨EqAt.int_list i1 k1 h2 hu,RcAt.int_list i1 k1 h2 hu,RcNeAt.int_list i1 k1 h2 hu⟩
 | .int i1,.scr l2,hn,rx,ry=>
  obtain⟨k1,rfl⟩:∃k,u=D1 i1 k:=by unfold ReV at rx;exact rx
  unfold ReV at ry;obtain⟨a2,us2,rfl,h2,q2⟩:=ry
  exact⟨EqAt.int_list i1 k1 h2 hu,RcAt.int_list i1 k1 h2 hu,RcNeAt.int_list i1 k1 h2 hu⟩
 | .str x1,.non,hn,rx,ry=>
  obtain⟨k1,rfl⟩:∃k,u=Eb x1 k:=by unfold ReV at rx;exact rx
  obtain rfl:v=C7:=by unfold ReV at ry;exact ry
  exact⟨EqAt.str_none x1 k1,RcAt.str_none x1 k1,RcNeAt.str_none x1 k1⟩
 | .str x1,.bl b2,hn,rx,ry=>
  obtain⟨k1,rfl⟩:∃k,u=Eb x1 k:=by unfold ReV at rx;exact rx
  obtain rfl:v=Dz b2:=by unfold ReV at ry;exact ry
  exact⟨EqAt.str_bool x1 k1 b2,RcAt.str_bool x1 k1 b2,RcNeAt.str_bool x1 k1 b2⟩
 | .str x1,.int i2,hn,rx,ry=>
  obtain⟨k1,rfl⟩:∃k,u=Eb x1 k:=by unfold ReV at rx;exact rx
  obtain⟨k2,rfl⟩:∃k,v=D1 i2 k:=by unfold ReV at ry;exact ry
  exact⟨EqAt.str_int x1 k1 i2 k2,RcAt.str_int x1 k1 i2 k2,RcNeAt.str_int x1 k1 i2 k2⟩
 | .str x1,.str x2,hn,rx,ry=>
  obtain⟨k1,rfl⟩:∃k,u=Eb x1 k:=by unfold ReV at rx;exact rx
  obtain⟨k2,rfl⟩:∃k,v=Eb x2 k:=by unfold ReV at ry;exact ry
  exact⟨EqAt.str_str x1 k1 x2 k2,RcAt.str_str x1 k1 x2 k2,RcNeAt.str_str x1 k1 x2 k2⟩
 | .str x1,.tup l2,hn,rx,ry=>
  obtain⟨k1,rfl⟩:∃k,u=Eb x1 k:=by unfold ReV at rx;exact rx
  unfold ReV at ry;obtain⟨a2,us2,rfl,h2,q2⟩:=ry
  exact⟨EqAt.str_tuple x1 k1 h2 hu,RcAt.str_tuple x1 k1 h2 hu,RcNeAt.str_tuple x1 k1 h2 hu⟩
 | .str x1,.lst l2,hn,rx,ry=>
  obtain⟨k1,rfl⟩:∃k,u=Eb x1 k:=by unfold ReV at rx;exact rx
  unfold ReV at ry;obtain⟨a2,us2,rfl,h2,q2⟩:=ry
  exact⟨EqAt.str_list x1 k1 h2 hu,RcAt.str_list x1 k1 h2 hu,RcNeAt.str_list x1 k1 h2 hu⟩
 | .str x1,.scr l2,hn,rx,ry=>
  obtain⟨k1,rfl⟩:∃k,u=Eb x1 k:=by unfold ReV at rx;exact rx
  unfold ReV at ry;obtain⟨a2,us2,rfl,h2,q2⟩:=ry
  exact⟨EqAt.str_list x1 k1 h2 hu,RcAt.str_list x1 k1 h2 hu,RcNeAt.str_list x1 k1 h2 hu⟩
 | .tup l1,.non,hn,rx,ry=>
  unfold ReV at rx;obtain⟨a1,us1,rfl,h1,q1⟩:=rx;obtain rfl:v=C7:=by unfold ReV at ry;exact ry
  exact⟨EqAt.tuple_none h1 hu,RcAt.tuple_none h1 hu,RcNeAt.tuple_none h1 hu⟩
 | .tup l1,.bl b2,hn,rx,ry=>
  unfold ReV at rx;obtain⟨a1,us1,rfl,h1,q1⟩:=rx;obtain rfl:v=Dz b2:=by unfold ReV at ry;exact ry
  exact⟨EqAt.tuple_bool b2 h1 hu,RcAt.tuple_bool b2 h1 hu,RcNeAt.tuple_bool b2 h1 hu⟩
 | .tup l1,.int i2,hn,rx,ry=>
  unfold ReV at rx;obtain⟨a1,us1,rfl,h1,q1⟩:=rx;obtain⟨k2,rfl⟩:∃k,v=D1 i2 k:=by unfold ReV at ry;exact ry
  exact⟨EqAt.tuple_int i2 k2 h1 hu,RcAt.tuple_int i2 k2 h1 hu,RcNeAt.tuple_int i2 k2 h1 hu⟩
 | .tup l1,.str x2,hn,rx,ry=>
  unfold ReV at rx;obtain⟨a1,us1,rfl,h1,q1⟩:=rx;obtain⟨k2,rfl⟩:∃k,v=Eb x2 k:=by unfold ReV at ry;exact ry
  exact⟨EqAt.tuple_str x2 k2 h1 hu,RcAt.tuple_str x2 k2 h1 hu,RcNeAt.tuple_str x2 k2 h1 hu⟩
 | .tup _,.tup _,hn,_,_=>exact hn.elim
 | .tup l1,.lst l2,hn,rx,ry=>
  unfold ReV at rx;obtain⟨a1,us1,rfl,h1,q1⟩:=rx;unfold ReV at ry;obtain⟨a2,us2,rfl,h2,q2⟩:=ry
  exact⟨EqAt.tuple_list h1 h2 hu,RcAt.tuple_list h1 h2 hu,RcNeAt.tuple_list h1 h2 hu⟩
 | .tup l1,.scr l2,hn,rx,ry=>
  unfold ReV at rx;obtain⟨a1,us1,rfl,h1,q1⟩:=rx;unfold ReV at ry;obtain⟨a2,us2,rfl,h2,q2⟩:=ry
  exact⟨EqAt.tuple_list h1 h2 hu,RcAt.tuple_list h1 h2 hu,RcNeAt.tuple_list h1 h2 hu⟩
 | .lst l1,.non,hn,rx,ry=>
  unfold ReV at rx;obtain⟨a1,us1,rfl,h1,q1⟩:=rx;obtain rfl:v=C7:=by unfold ReV at ry;exact ry
  exact⟨EqAt.list_none h1 hu,RcAt.list_none h1 hu,RcNeAt.list_none h1 hu⟩
 | .lst l1,.bl b2,hn,rx,ry=>
  unfold ReV at rx;obtain⟨a1,us1,rfl,h1,q1⟩:=rx;obtain rfl:v=Dz b2:=by unfold ReV at ry;exact ry
  exact⟨EqAt.list_bool b2 h1 hu,RcAt.list_bool b2 h1 hu,RcNeAt.list_bool b2 h1 hu⟩
 | .lst l1,.int i2,hn,rx,ry=>
  unfold ReV at rx;obtain⟨a1,us1,rfl,h1,q1⟩:=rx;obtain⟨k2,rfl⟩:∃k,v=D1 i2 k:=by unfold ReV at ry;exact ry
  exact⟨EqAt.list_int i2 k2 h1 hu,RcAt.list_int i2 k2 h1 hu,RcNeAt.list_int i2 k2 h1 hu⟩
 | .lst l1,.str x2,hn,rx,ry=>
  unfold ReV at rx;obtain⟨a1,us1,rfl,h1,q1⟩:=rx;obtain⟨k2,rfl⟩:∃k,v=Eb x2 k:=by unfold ReV at ry;exact ry
  exact⟨EqAt.list_str x2 k2 h1 hu,RcAt.list_str x2 k2 h1 hu,RcNeAt.list_str x2 k2 h1 hu⟩
 | .lst l1,.tup l2,hn,rx,ry=>
  unfold ReV at rx;obtain⟨a1,us1,rfl,h1,q1⟩:=rx;unfold ReV at ry;obtain⟨a2,us2,rfl,h2,q2⟩:=ry
  exact⟨EqAt.list_tuple h1 h2 hu,RcAt.list_tuple h1 h2 hu,RcNeAt.list_tuple h1 h2 hu⟩
 | .lst _,.lst _,hn,_,_=>exact hn.elim
 | .lst _,.scr _,hn,_,_=>exact hn.elim
 | .scr l1,.non,hn,rx,ry=>
  unfold ReV at rx;obtain⟨a1,us1,rfl,h1,q1⟩:=rx;obtain rfl:v=C7:=by unfold ReV at ry;exact ry
  exact⟨EqAt.list_none h1 hu,RcAt.list_none h1 hu,RcNeAt.list_none h1 hu⟩
 | .scr l1,.bl b2,hn,rx,ry=>
  unfold ReV at rx;obtain⟨a1,us1,rfl,h1,q1⟩:=rx;obtain rfl:v=Dz b2:=by unfold ReV at ry;exact ry
  exact⟨EqAt.list_bool b2 h1 hu,RcAt.list_bool b2 h1 hu,RcNeAt.list_bool b2 h1 hu⟩
 | .scr l1,.int i2,hn,rx,ry=>
  unfold ReV at rx;obtain⟨a1,us1,rfl,h1,q1⟩:=rx;obtain⟨k2,rfl⟩:∃k,v=D1 i2 k:=by unfold ReV at ry;exact ry
  exact⟨EqAt.list_int i2 k2 h1 hu,RcAt.list_int i2 k2 h1 hu,RcNeAt.list_int i2 k2 h1 hu⟩
 | .scr l1,.str x2,hn,rx,ry=>
  unfold ReV at rx;obtain⟨a1,us1,rfl,h1,q1⟩:=rx;obtain⟨k2,rfl⟩:∃k,v=Eb x2 k:=by unfold ReV at ry;exact ry
  exact⟨EqAt.list_str x2 k2 h1 hu,RcAt.list_str x2 k2 h1 hu,RcNeAt.list_str x2 k2 h1 hu⟩
 | .scr l1,.tup l2,hn,rx,ry=>
  unfold ReV at rx;obtain⟨a1,us1,rfl,h1,q1⟩:=rx;unfold ReV at ry;obtain⟨a2,us2,rfl,h2,q2⟩:=ry
  exact⟨EqAt.list_tuple h1 h2 hu,RcAt.list_tuple h1 h2 hu,RcNeAt.list_tuple h1 h2 hu⟩
 | .scr _,.lst _,hn,_,_=>exact hn.elim
 | .scr _,.scr _,hn,_,_=>exact hn.elim
theorem Ba:∀(n:Nat) (A:Dj) (s:Cz) (x y:T) (u v:CB),(x.dep<=n\/y.dep<=n)->A.units+n<cLine->ReV s x u->ReV s y v->EqAt A s u v (bH x y)/\RcAt A s u v (bH x y)/\RcNeAt A s u v (!bH x y):=by
 intro n
 induction n with
 | zero=>
  intro A s x y u v hd hu rx ry
  exact nj A s x y u v (by cases x <;> cases y <;> simp_all [fT,T.dep]) (by omega) rx ry
 | succ n ih=>
  intro A s x y u v hd hu rx ry
  have hin:A.in1.units+n<cLine:=by show A.units+1+n<cLine;omega
  have items:∀(l m:List T) (us vs:List CB),(deps l<=n\/deps m<=n)->ReVs s l us->ReVs s m vs->∃e:Nat->Bool,(∀j (h1:j<us.toArray.size) (h2:j<vs.toArray.size),EqAt A.in1 s us.toArray[j] vs.toArray[j] (e j)) ∧
    (∀(j:Nat) t u,l[j]? =some t->m[j]? =some u->e j=bH t u):=λl m us vs hd r1 r2=>by
   refine⟨λj=>bH (l.getD j .non) (m.getD j .non),λj h1 h2=> ?_,λj t u e1 e2=>by simp[Jj,e1,e2]⟩
   have l1:=r1.length
   have l2:=r2.length
   have h1':j<l.length:=by rw[l1];simpa using h1
   have h2':j<m.length:=by rw[l2];simpa using h2
   have e1:l[j]? =some l[j]:=by simp
   have e2:m[j]? =some m[j]:=by simp
   obtain⟨u1,z1,w1⟩:=r1.get e1;obtain⟨u2,z2,w2⟩:=r2.get e2
   have q1:us.toArray[j] =u1:=by
    have:us[j]? =some us.toArray[j]:=by simp
    rw[z1]at this;exact(Dr this).symm
   have q2:vs.toArray[j] =u2:=by
    have:vs[j]? =some vs.toArray[j]:=by simp
    rw[z2]at this;exact(Dr this).symm
   rw[q1,q2]
   have g1:l.getD j .non=l[j]:=by simp[Jj,e1]
   have g2:m.getD j .non=m[j]:=by simp[Jj,e2]
   show EqAt A.in1 s u1 u2 (bH (l.getD j .non) (m.getD j .non))
   rw[g1,g2];refine(ih A.in1 s l[j] m[j] u1 u2 ?_ hin w1 w2).1
   rcases hd with hd | hd
   ·exact .inl (Dk (jL e1) hd)
   ·exact .inr (Dk (jL e2) hd)
  have lists:∀(l m:List T) (a b:Addr) (us vs:List CB),(deps l<=n\/deps m<=n)->ReVs s l us->ReVs s m vs->s.heap.IsList a us.toArray->s.heap.IsList b vs.toArray →
    EqAt A s (.ref a) (.ref b) (beqTs l m)/\RcAt A s (.ref a) (.ref b) (beqTs l m)/\RcNeAt A s (.ref a) (.ref b) (!beqTs l m):=λl m a b us vs hd r1 r2 h1 h2=>by
   have l1:=r1.length
   have l2:=r2.length
   have key:RcAt A s (.ref a) (.ref b) (beqTs l m)/\RcNeAt A s (.ref a) (.ref b) (!beqTs l m):=by
    by_cases hl:l.length=m.length
    ·obtain⟨e,he,hb⟩:=items l m us vs hd r1 r2
     have q:=iv l m e hb
     have q2:beqTs l m=(DH us.toArray.size).all e:=by
      rw[q,hl,Nat.min_self];simp[l2.symm,hl.symm,l1]
     rw[q2]
     have hsz:us.toArray.size=vs.toArray.size:=by simp;omega
     exact⟨RcAt.lists h1 h2 hsz (by omega) he,RcNeAt.lists h1 h2 hsz (by omega) he⟩
    ·rw[kN hl]
     have hsz:(us.toArray.size != vs.toArray.size)=true:=by simp;omega
     exact⟨RcAt.lists_lengths h1 h2 hsz (by omega),RcNeAt.lists_lengths h1 h2 hsz (by omega)⟩
   refine⟨?_,key⟩
   by_cases hab:a=b
   ·subst hab
    have:=bP h1 h2;subst this;rw[ReVs.refl r1 r2];exact EqAt.same _
   ·exact EqAt.of_refs hab key.1
  cases x with
  | tup l=>
   cases y with
   | tup m=>
    unfold ReV at rx ry;obtain⟨a,us,rfl,h1,r1⟩:=rx;obtain⟨b,vs,rfl,h2,r2⟩:=ry
    have hd':deps l<=n\/deps m<=n:=by
     simp only[T.dep]at hd;omega
    have l1:=r1.length
    have l2:=r2.length;obtain⟨e,he,hb⟩:=items l m us vs hd' r1 r2
    have q:=iv l m e hb
    have q2:beqTs l m=((DH (min us.toArray.size vs.toArray.size)).all e&&us.toArray.size == vs.toArray.size):=by
     rw[q];simp[l1,l2]
    have key:RcAt A s (.ref a) (.ref b) (beqTs l m)/\RcNeAt A s (.ref a) (.ref b) (!beqTs l m):=by
     rw[q2];exact⟨RcAt.tuples h1 h2 (by omega) he,RcNeAt.tuples h1 h2 (by omega) he⟩
    unfold bH;refine⟨?_,key⟩
    by_cases hab:a=b
    ·subst hab
     have:=fH h1 h2;subst this;rw[ReVs.refl r1 r2];exact EqAt.same _
    ·exact EqAt.of_refs hab key.1
   | _=>exact nj A s _ _ u v (by simp[fT]) (by omega) rx ry
  | lst l=>
   cases y with
   | lst m=>
    unfold ReV at rx ry;obtain⟨a,us,rfl,h1,r1⟩:=rx;obtain⟨b,vs,rfl,h2,r2⟩:=ry;unfold bH
    exact lists l m a b us vs (by simp only[T.dep]at hd;omega) r1 r2 h1 h2
   | scr m=>
    unfold ReV at rx ry;obtain⟨a,us,rfl,h1,r1⟩:=rx;obtain⟨b,vs,rfl,h2,r2⟩:=ry;unfold bH
    exact lists l (m.map T.int) a b us vs (by rw[di];omega) r1 (de r2) h1 h2
   | _=>exact nj A s _ _ u v (by simp[fT]) (by omega) rx ry
  | scr l=>
   cases y with
   | lst m=>
    unfold ReV at rx ry;obtain⟨a,us,rfl,h1,r1⟩:=rx;obtain⟨b,vs,rfl,h2,r2⟩:=ry;unfold bH;rw[ny]
    exact lists (l.map T.int) m a b us vs (by rw[di];omega) (de r1) r2 h1 h2
   | scr m=>
    unfold ReV at rx ry;obtain⟨a,us,rfl,h1,r1⟩:=rx;obtain⟨b,vs,rfl,h2,r2⟩:=ry;unfold bH;rw[oV]
    exact lists (l.map T.int) (m.map T.int) a b us vs (by rw[di];omega) (de r1) (de r2) h1 h2
   | _=>exact nj A s _ _ u v (by simp[fT]) (by omega) rx ry
  | _=>exact nj A s _ _ u v (by simp[fT]) (by omega) rx ry
mutual
def T.nf:T->T
 | .tup l=> .tup (nfs l)
 | .lst l=> .lst (nfs l)
 | .scr l=> .lst (l.map .int)
 | .non=> .non
 | .bl b=> .bl b
 | .int b=> .int b
 | .str b=> .str b
 | .dct a b=> .dct a b
 | .ob a b c=> .ob a b c
def nfs:List T->List T
 | [] => []
 | t::l=>t.nf::nfs l
end
theorem mW:∀(l:List Int),nfs (l.map T.int)=l.map T.int
 | [] =>rfl
 | i::l=>by rw[C3,nfs,mW l];simp[T.nf]
theorem yZ {s:Cz}{t:T}{i:Int}{k:Tok}(r:ReV s t (.int i k)):t.nf= .int i:=by
 cases t with
 | non=>unfold ReV at r;cases r
 | bl b=>unfold ReV at r;cases r
 | int j=>unfold ReV at r;obtain⟨t,e⟩:=r;injection e with e1 _;subst e1;rfl
 | str x=>unfold ReV at r;obtain⟨t,e⟩:=r;cases e
 | tup l=>unfold ReV at r;obtain⟨a,its,e,_⟩:=r;cases e
 | lst l=>unfold ReV at r;obtain⟨a,its,e,_⟩:=r;cases e
 | scr l=>unfold ReV at r;obtain⟨a,its,e,_⟩:=r;cases e
 | dct _ _=>unfold ReV at r;exact r.elim
 | ob _ _ _=>unfold ReV at r;exact r.elim
theorem pC {s:Cz}:∀{l:List T} {us:List CB} {ns:List Int},ReVs s l us->Gb us ns->nfs l=ns.map T.int
 | [],us,ns,r,h=>by cases ReVs.BI.mp r;cases h;rfl
 | t::l,us,ns,r,h=>by
  obtain⟨u,ws,rfl,p,q⟩:=ReVs.AC.mp r
  cases h with
  | cons a b hh=>rw[nfs,yZ p,pC q hh];rfl
mutual
theorem ReV.nf {s:Cz}:∀{t u:T} {v:CB},ReV s t v->ReV s u v->t.nf=u.nf
 | .non,u,v,r,q=>by
  unfold ReV at r;subst r
  cases u <;> (unfold ReV at q) <;> first | rfl | (cases q;done) | (obtain⟨_,e⟩:=q;cases e;done) | (obtain⟨_,_,e,_⟩:=q;cases e;done)
 | .bl b,u,v,r,q=>by
  unfold ReV at r;subst r
  cases u <;> (unfold ReV at q) <;> first | (cases q;done) | (cases q;rfl) | (obtain⟨_,e⟩:=q;cases e;done) | (obtain⟨_,_,e,_⟩:=q;cases e;done)
 | .int b,u,v,r,q=>by
  unfold ReV at r;obtain⟨k,rfl⟩:=r
  cases u <;> (unfold ReV at q) <;> first | (cases q;done) | (obtain⟨_,e⟩:=q;cases e;done) | (obtain⟨_,e⟩:=q;cases e;rfl) | (obtain⟨_,_,e,_⟩:=q;cases e;done)
 | .str b,u,v,r,q=>by
  unfold ReV at r;obtain⟨k,rfl⟩:=r
  cases u <;> (unfold ReV at q) <;> first | (cases q;done) | (obtain⟨_,e⟩:=q;cases e;done) | (obtain⟨_,e⟩:=q;cases e;rfl) | (obtain⟨_,_,e,_⟩:=q;cases e;done)
 | .tup l,u,v,r,q=>by
  unfold ReV at r;obtain⟨a,its,rfl,h1,h2⟩:=r
  cases u with
  | non=>unfold ReV at q;cases q
  | dct _ _=>unfold ReV at q;exact q.elim
  | ob _ _ _=>unfold ReV at q;exact q.elim
  | bl _=>unfold ReV at q;cases q
  | int _=>unfold ReV at q;obtain⟨_,e⟩:=q;cases e
  | str _=>unfold ReV at q;obtain⟨_,e⟩:=q;cases e
  | tup m=>
   unfold ReV at q;obtain⟨a',its',e,h1',h2'⟩:=q;injection e with e;subst e
   have:=fH h1 h1';subst this;unfold T.nf
   rw[ReVs.nf h2 h2']
  | lst m=>unfold ReV at q;obtain⟨a',its',e,h1',h2'⟩:=q;injection e with e;subst e;exact absurd rfl (ne_of_list_tuple h1' h1)
  | scr m=>unfold ReV at q;obtain⟨a',its',e,h1',h2'⟩:=q;injection e with e;subst e;exact absurd rfl (ne_of_list_tuple h1' h1)
 | .lst l,u,v,r,q=>by
  unfold ReV at r;obtain⟨a,its,rfl,h1,h2⟩:=r
  cases u with
  | non=>unfold ReV at q;cases q
  | dct _ _=>unfold ReV at q;exact q.elim
  | ob _ _ _=>unfold ReV at q;exact q.elim
  | bl _=>unfold ReV at q;cases q
  | int _=>unfold ReV at q;obtain⟨_,e⟩:=q;cases e
  | str _=>unfold ReV at q;obtain⟨_,e⟩:=q;cases e
  | lst m=>
   unfold ReV at q;obtain⟨a',its',e,h1',h2'⟩:=q;injection e with e;subst e
   have:=bP h1 h1';subst this;unfold T.nf
   rw[ReVs.nf h2 h2']
  | tup m=>unfold ReV at q;obtain⟨a',its',e,h1',h2'⟩:=q;injection e with e;subst e;exact absurd rfl (ne_of_list_tuple h1 h1')
  | scr m=>
   unfold ReV at q;obtain⟨a',its',e,h1',h2'⟩:=q;injection e with e;subst e
   have:=bP h1 h1';subst this;unfold T.nf
   rw[ReVs.nf h2 (de h2'),mW]
 | .scr l,u,v,r,q=>by
  unfold ReV at r;obtain⟨a,its,rfl,h1,h2⟩:=r
  cases u with
  | non=>unfold ReV at q;cases q
  | dct _ _=>unfold ReV at q;exact q.elim
  | ob _ _ _=>unfold ReV at q;exact q.elim
  | bl _=>unfold ReV at q;cases q
  | int _=>unfold ReV at q;obtain⟨_,e⟩:=q;cases e
  | str _=>unfold ReV at q;obtain⟨_,e⟩:=q;cases e
  | lst m=>
   unfold ReV at q;obtain⟨a',its',e,h1',h2'⟩:=q;injection e with e;subst e
   have:=bP h1 h1';subst this
   have z:=pC h2' h2;unfold T.nf
   rw[z]
  | tup m=>unfold ReV at q;obtain⟨a',its',e,h1',h2'⟩:=q;injection e with e;subst e;exact absurd rfl (ne_of_list_tuple h1 h1')
  | scr m=>
   unfold ReV at q;obtain⟨a',its',e,h1',h2'⟩:=q;injection e with e;subst e
   have:=bP h1 h1';subst this
   rw[fI h2 h2']
 | .dct _ _,u,v,r,q=>by unfold ReV at r;exact r.elim
 | .ob _ _ _,u,v,r,q=>by unfold ReV at r;exact r.elim
theorem ReVs.nf {s:Cz}:∀{l m:List T} {us:List CB},ReVs s l us->ReVs s m us->nfs l=nfs m
 | [],m,us,r,q=>by
  cases ReVs.BI.mp r
  cases m with
  | nil=>rfl
  | cons _ _=>obtain⟨_,_,e,_⟩:=ReVs.AC.mp q;cases e
 | t::l,m,us,r,q=>by
  obtain⟨v,ws,rfl,p,z⟩:=ReVs.AC.mp r
  cases m with
  | nil=>cases ReVs.BI.mp q
  | cons u m=>
   obtain⟨v',ws',e,p',z'⟩:=ReVs.AC.mp q;injection e with e1 e2
   subst e1 e2;rw[nfs,nfs,ReV.nf p p',ReVs.nf z z']
end
section
variable {X:Cx}{a b c:Expr}{fa fb fc:En->Rs T}{pos:Pos}
def fj (x y:T):Bool:=(decide (x.dep<=60)||decide (y.dep<=60))&&(x.nd&&y.nd)
def xk (x y:T):Rs T:=if fj x y=true then .ok (.bl (bH x y))else .bad
def oa (x y:T):Rs T:=if fj x y=true then .ok (.bl (!bH x y))else .bad
theorem gR {x y:T}(h:x.dep<=60)(hx:x.nd=true)(hy:y.nd=true):fj x y=true:=by unfold fj;rw[decide_eq_true h,hx,hy];rfl
theorem fX {x y:T}(h:fj x y=true):x.nd=true/\y.nd=true:=by
 unfold fj at h;exact DD.mp (DD.mp h).2
theorem kF {x y:T}(h:fj x y=true):x.dep<=60\/y.dep<=60:=by
 unfold fj at h
 replace h:=(DD.mp h).1
 rcases Bool.or_eq_true_iff.mp h with h | h
 ·exact .inl (of_decide_eq_true h)
 ·exact .inr (of_decide_eq_true h)
theorem w8 (hu:X.A.units+60<cLine):OpT X (DN .Eq) xk:=by
 intro pins s σ H O x y vx vy ux uy Q I hf rx ry r1 r2 hp;unfold xk at hp
 split at hp
 ·rename_i h
  have z:=Ba 60 X.A s x y ux uy (kF h) hu (Rep.val I (fX h).1 rx r1) (Rep.val I (fX h).2 ry r2);exact z.2.1 _ _ _ _ ⟨.bl _,H,I,rfl,hp H (Same.refl H) _ (Rep.bl_ _)⟩
 ·exact hp.elim
theorem o8 (hu:X.A.units+60<cLine):OpT X (DN .NotEq) oa:=by
 intro pins s σ H O x y vx vy ux uy Q I hf rx ry r1 r2 hp;unfold oa at hp
 split at hp
 ·rename_i h
  have z:=Ba 60 X.A s x y ux uy (kF h) hu (Rep.val I (fX h).1 rx r1) (Rep.val I (fX h).2 ry r2);exact z.2.2 _ _ _ _ ⟨.bl _,H,I,rfl,hp H (Same.refl H) _ (Rep.bl_ _)⟩
 ·exact hp.elim
def T.items:T->Option (List T)
 | .tup l=>some l
 | .lst l=>some l
 | .scr l=>some (l.map T.int)
 | _=>none
def ch (g g':T->T->Rs T)(fa fb fc:En->Rs T)(ρ:En):Rs T:=do
 let x <-fa ρ
 let y <-fb ρ
 let z <-g x y
 match z with
 | .bl true=>do
  let w <-fc ρ
  g' y w
 | .bl false=> .ok (.bl false)
 | _=> .bad
theorem vf {op op':KJ}{g g':T->T->Rs T}(ho:OpT X (DN op) g)(ho':OpT X (DN op') g')(ha:cq X a fa)(hb:cq X b fb)(hc:cq X c fc)
  (hm:autoParam (lastMarks [op,op'] [b,c] =false) w_):cq X (.Compare a [op,op'] [b,c] pos) (ch g g' fa fb fc):=by
 intro pins s σ H Q I ⟨ρ,O,E,hq⟩
 have h1:=aR E hq;refine Compare_chain (bF (ha pins s σ H _ I h1) λv s1 ⟨x,H1,I1,r1,t,rt,s',E',q1⟩=>chain_link ?_) hm
 have h2:=aR (f:=fb) E' q1;refine bF (hb pins s1 σ H1 _ I1 h2) λu s2 hh_=> ?_
 obtain⟨y,H2,I2,r2,t2,rt2,s'',E'',q2⟩:=hh_
 refine bF (ho pins s2 σ H2 O t t2 x y v u (λv' H'=> ∃t',Rep X.K O H' t' v'/\Same H2 H'/\Post X H' (match t' with
  | .bl true=>fc ρ >>= λw=>g' t2 w
  | .bl false=> .ok (.bl false)
  | _=> .bad) (λt H'=> ∀v,Rep X.K O H' t v->Q v H')) I2 (λp=>E''.fresh) (rt.same s'') rt2 r1 r2 (Post.mono q2.bind λt' H' s3 q v rv=>⟨t',rv,s3,q⟩)) λd s3 ⟨z,H3,I3,r3,t3,rt3,sm3,q3⟩=> ?_
 have E3:=E''.same sm3
 split at q3
 ·cases Rep.BN.mp rt3
  cases r3;refine DZ (ite_tt (chain_last ?_))
  have h4:=aR (f:=fc) E3 q3;refine bF (hc pins s3 σ H3 _ I3 h4) λw' s4 ⟨z',H4,I4,r4,t4,rt4,s4',E4,q4⟩=> ?_
  exact ho' pins s4 σ H4 O t2 t4 y z' u w' Q I4 (λp=>E4.fresh) ((rt2.same sm3).same s4') rt4 r2 r4 q4
 ·cases Rep.BN.mp rt3
  cases r3;refine DZ (ite_ff ⟨.bl false,H3,I3,rfl,q3 H3 (Same.refl H3) _ (Rep.bl_ false)⟩)
 ·exact q3.elim
def tb (f:En->Rs T)(ρ:En):Rs Bool:=do
 let x <-f ρ
 match x with
 | .bl k=> .ok k
 | _=> .bad
theorem xY {e:Expr}{f:En->Rs T}(h:cq X e f)(he:autoParam (∀whole,isTrue e X.env whole=(do let v <-whole;standAt e.pos;holding [v] (truthy v))) t_):ug X e (tb f):=by
 intro pins s σ H Q I ⟨ρ,O,E,hq⟩;refine sd h he pins s σ H Q I ?_
 obtain⟨ρ1,O1,E1,h1⟩:=aR E hq;refine⟨ρ1,O1,E1,Post.mono h1 λts H1 s1 q vs r=> ?_⟩
 obtain⟨t',r',s',E',q'⟩:=q vs r
 split at q'
 ·exact⟨_,Rep.BN.mp r',q' H1 (Same.refl H1)⟩
 ·exact q'.elim
theorem x5 {op:KJ}{g:T->T->Rs T}(ho:OpT X (DN op) g)(ha:cq X a fa)(hb:cq X b fb)(hm:autoParam (EA op b=false) u_):ug X (.Compare a [op] [b] pos) (tb (o2 g fa fb)):=by
 intro pins s σ H Q I ⟨ρ,O,E,hq⟩
 have hq':Post X H (o2 g fa fb ρ) λt H'=> ∀v,Rep X.K O H' t v->∃k,v= .bl k/\Q k H':=Post.mono hq.bind λt H' s' q v r=>by
  split at q
  ·exact⟨_,Rep.BN.mp r,q H' (Same.refl H')⟩
  ·exact q.elim
 have h1:=aR E hq';refine Iv (bF (ha pins s σ H _ I h1) λv s1 ⟨x,H1,I1,r1,t,rt,s',E',q1⟩=> ?_) hm
 have h2:=aR (f:=fb) E' q1;refine bF (hb pins s1 σ H1 _ I1 h2) λu s2 hh_=> ?_
 obtain⟨y,H2,I2,r2,t2,rt2,s'',E'',q2⟩:=hh_;refine bF (ho pins s2 σ H2 O t t2 x y v u _ I2 (λp=>E''.fresh) (rt.same s'') rt2 r1 r2 q2) λd s3 hh_=> ?_
 obtain⟨z,H3,I3,r3,k,e,q3⟩:=hh_;subst e;cases r3;exact DZ ⟨H3,I3,q3⟩
def lj (f g:En->Rs Bool)(ρ:En):Rs Bool:=do
 let k <-f ρ
 if k then .ok true else g ρ
def dv (f:En->Rs Bool)(ρ:En):Rs Bool:=do
 let k <-f ρ
 .ok (!k)
variable {f g:En->Rs Bool}{rest:List Expr}
abbrev Bq (X:Cx)(e:Expr)(f:En->Rs Bool):Prop:=PW X e (qP X f)
theorem xX (ha:ug X a f):Bq X (.BoolOp .Or [a] pos) f:=r9 ha
theorem Ae (ha:ug X a f)(hb:Bq X (.BoolOp .Or (b::rest) pos) g):Bq X (.BoolOp .Or (a::b::rest) pos) (lj f g):=by
 intro wh pins s σ H Q I ⟨ρ,O,E,hq⟩;refine wZ ha hb wh pins s σ H Q I ?_
 obtain⟨ρ1,O1,E1,h1⟩:=gG E hq;refine⟨ρ1,O1,E1,Post.mono h1 λk H1 s1 q=> ?_⟩
 obtain⟨s',E',q'⟩:=q
 cases k with
 | true=>rw[if_pos rfl];exact q' H1 (Same.refl H1)
 | false=>rw[if_neg C1];exact⟨ρ,O,E',by simpa using q'⟩
theorem qt_w {e:Expr}(h:Bq X e f):ug X e f:=h.pt
theorem xZ (ha:ug X a f):ug X (.UnaryOp .Not a pos) (dv f):=by
 intro pins s σ H Q I ⟨ρ,O,E,hq⟩;refine se ha pins s σ H Q I ?_
 obtain⟨ρ1,O1,E1,h1⟩:=gG E hq;exact⟨ρ1,O1,E1,Post.mono h1 λk H1 s1 ⟨s',E',q'⟩=>q' H1 (Same.refl H1)⟩
def bR (f g:En->Rs T)(ρ:En):Rs T:=do
 let x <-f ρ
 match x with
 | .bl true=>g ρ
 | .bl false=> .ok (.bl false)
 | _=> .bad
def AE (f g:En->Rs T)(ρ:En):Rs T:=do
 let x <-f ρ
 match x with
 | .bl true=> .ok (.bl true)
 | .bl false=>g ρ
 | _=> .bad
def vI:T->Rs T
 | .bl k=> .ok (.bl (!k))
 | _=> .bad
theorem Al {op}(h:cq X a fa):cq X (.BoolOp op [a] pos) fa:=yo h
theorem Av (ha:cq X a fa)(hb:cq X (.BoolOp .And (b::rest) pos) fb):cq X (.BoolOp .And (a::b::rest) pos) (bR fa fb):=by
 intro pins s σ H Q I ⟨ρ,O,E,hq⟩;refine yu ha hb pins s σ H Q I ?_
 obtain⟨ρ1,O1,E1,h1⟩:=aR E hq;refine⟨ρ1,O1,E1,Post.mono h1 λts H1 s1 q vs r=> ?_⟩
 obtain⟨t',r',s',E',q'⟩:=q vs r
 split at q'
 ·exact⟨true,Rep.BN.mp r',by rw[if_pos rfl];exact⟨ρ,O,E',q'⟩⟩
 ·exact⟨false,Rep.BN.mp r',by rw[if_neg C1];exact q' H1 (Same.refl H1) _ (Rep.bl_ false)⟩
 ·exact q'.elim
theorem q_or (ha:cq X a fa)(hb:cq X (.BoolOp .Or (b::rest) pos) fb):cq X (.BoolOp .Or (a::b::rest) pos) (AE fa fb):=by
 intro pins s σ H Q I ⟨ρ,O,E,hq⟩;refine Ay ha hb pins s σ H Q I ?_
 obtain⟨ρ1,O1,E1,h1⟩:=aR E hq;refine⟨ρ1,O1,E1,Post.mono h1 λts H1 s1 q vs r=> ?_⟩
 obtain⟨t',r',s',E',q'⟩:=q vs r
 split at q'
 ·exact⟨true,Rep.BN.mp r',by rw[if_pos rfl];exact q' H1 (Same.refl H1) _ (Rep.bl_ true)⟩
 ·exact⟨false,Rep.BN.mp r',by rw[if_neg C1];exact⟨ρ,O,E',q'⟩⟩
 ·exact q'.elim
theorem Am (ha:cq X a fa):cq X (.UnaryOp .Not a pos) (o1 vI fa):=by
 intro pins s σ H Q I ⟨ρ,O,E,hq⟩;refine yp ha pins s σ H Q I ?_
 obtain⟨ρ1,O1,E1,h1⟩:=aR E hq;refine⟨ρ1,O1,E1,Post.mono h1 λts H1 s1 q vs r=> ?_⟩
 obtain⟨t',r',s',E',q'⟩:=q vs r;unfold vI at q'
 split at q'
 ·exact⟨_,Rep.BN.mp r',q' H1 (Same.refl H1) _ (Rep.bl_ _)⟩
 ·exact q'.elim
def vU (f:En->Rs Bool)(fa fb:En->Rs T)(ρ:En):Rs T:=do
 let k <-f ρ
 if k then fa ρ else fb ρ
theorem q_if (hc:ug X c f)(ha:cq X a fa)(hb:cq X b fb):cq X (.IfExp c a b pos) (vU f fa fb):=by
 intro pins s σ H Q I ⟨ρ,O,E,hq⟩;refine sy hc ha hb pins s σ H Q I ?_
 obtain⟨ρ1,O1,E1,h1⟩:=gG E hq;refine⟨ρ1,O1,E1,Post.mono h1 λk H1 s1 q=> ?_⟩
 obtain⟨s',E',q'⟩:=q
 cases k with
 | true=>rw[if_pos rfl];exact⟨ρ,O,E',by simpa using q'⟩
 | false=>rw[if_neg C1];exact⟨ρ,O,E',by simpa using q'⟩
end
end Tr
namespace HT
open PySem PyProof.Rows
section
variable {prog:C4}{w:Du}{A:Dj}{E:CB->Cz->Prop}{s:Cz}
theorem f9 {t:Addr}{items:Array CB}{Q:Bool->Cz->Prop}(ht:KU s.heap t items)(h:Q true s):wpAny (model prog w) A (GU (.ref t)) Q E s:=by
 unfold GU;refine Cy (Gs ht.typeIs (CD ?_))
 exact h
theorem getItem_tuple_whole {t sl:Addr}{items:Array CB}{vl vu:CB}{lo hi:Option Int}{Q:CB->Cz->Prop}(ht:KU s.heap t items)(hs:s.heap.IsSliceOf sl vl vu .none)(pl:Jz vl lo)(pu:Jz vu hi)
  (hw:sIx items.size 0 lo=0/\sIx items.size items.size hi=items.size) (h:Q (.ref t) s):wpAny (model prog w) A (getItem (.ref t) (.ref sl)) Q E s:=by
 obtain⟨os,hos,hcs,hds⟩:=id hs
 have hTs:s.TypeIs (.ref sl) "slice":=⟨os,hos,hcs⟩;unfold getItem
 try with_reducible refine D0 ?_
 first | refine Cy (CD ?_) | skip
 refine Cy (HE ht.typeIs (by decide) ?_)
 refine Cy (DF (name:=C0 "__getitem__") ht.typeIs Da
  (DY Da ht.typeIs GS ?_ (G7 _ _)))
 show wpAny _ _ (FJ (.ref t) >>= _) _ _ s
 refine Cy (HQ ht ?_)
 refine Cy (Gs hTs ?_)
 rw[if_pos (by decide)]
 refine Cy (eU hs pl pu ?_)
 have hyes:(((sIx items.size 0 lo:Nat):Int) == 0&&(1:Int) == 1&&(sIx items.size items.size hi - sIx items.size 0 lo) == items.size)=true:=by
  rw[hw.1,hw.2];simp
 show wpAny _ _ (if (((sIx items.size 0 lo:Nat):Int) == 0&&(1:Int) == 1&&(sIx items.size items.size hi - sIx items.size 0 lo) == items.size)=true then _ else _) _ _ s
 rw[if_pos hyes]
 first
  | refine Cy (f9 ht ?_)
  | refine f9 ht ?_
 try rw[if_pos rfl]
 first
  | exact Cy (F1 (CD ⟨_,rfl,CD h⟩))
  | exact Cy (F1 (Cy (CD (CD ⟨_,rfl,CD h⟩))))
theorem hZ {sl:Addr}{t:Tok}{n:Nat}{Q:Int×Int×Nat->Cz->Prop}(hs:s.heap.IsSliceOf sl .none .none (.int (-1) t))
  (h:Q ((n:Int) - 1,-1,n) s):wpAny (model prog w) A (EJ (.ref sl) (pure (n:Int))) Q E s:=by
 obtain⟨os,hos,hcs,hds⟩:=id hs;unfold EJ G9;refine Cy (Cy (DV hos hds (x:=.none) rfl (Cy (DV hos hds (x:=.none) rfl (Cy (DV hos hds (x:=.int (-1) t) rfl (CD ?_)))))))
 refine Cy (slicePart_int ?_)
 show wpAny _ _ (if ((-1:Int) == 0)=true then _ else _) _ _ s
 rw[if_neg (by decide)]
 refine Cy (He (Cy (He (Cy (CD ?_)))))
 show wpAny _ _ (match D8 none none (-1) (n:Int)with | (lo,hi)=>pure (lo,(-1:Int),Dx lo hi (-1))) _ _ s
 have e1:D8 none none (-1) (n:Int)=((n:Int) - 1,-1):=by simp[D8]
 have e2:Dx ((n:Int) - 1) (-1) (-1)=n:=by
  unfold Dx;simp only[show ¬((-1:Int) > 0)by decide,if_false,Int.neg_neg,J3]
  split <;> omega
 rw[e1]
 show wpAny _ _ (pure ((n:Int) - 1,(-1:Int),Dx ((n:Int) - 1) (-1) (-1))) _ _ s
 rw[e2];exact CD h
theorem mK (xs:List CB):((DH xs.length).filterMap λ(m:Nat)=>xs.toArray[(((xs.length:Int) - 1)+(m:Int)*(-1)).toNat]?)=xs.reverse:=by
 apply JP
 intro i
 have key:∀m∈DH xs.length,xs.toArray[(((xs.length:Int) - 1)+(m:Int)*(-1)).toNat]? =some (xs.reverse.getD m .none):=λm hm=>by
  have hm':m<xs.length:=FO.mp hm
  have e:(((xs.length:Int) - 1)+(m:Int)*(-1)).toNat=xs.length - 1 - m:=by omega
  rw[e,Ij,CP (by omega)]
  have:m<xs.reverse.length:=by simpa using hm'
  simp[Jj,CP this,List.getElem_reverse]
 have hmap:((DH xs.length).filterMap λ(m:Nat)=>xs.toArray[(((xs.length:Int) - 1)+(m:Int)*(-1)).toNat]?)=(DH xs.length).map λm=>xs.reverse.getD m .none:=by
  have gen:∀(r:List Nat) (f:Nat->Option CB) (g:Nat->CB),(∀m∈r,f m=some (g m))->r.filterMap f=r.map g:=by
   intro r f g
   induction r with
   | nil=>intro _;rfl
   | cons m r ih=>
    intro h;rw[Dy,h m CL,C3,ih λm' hm'=>h m' (CH _ hm')]
  exact gen _ _ _ key
 rw[hmap];rw[Dn]
 by_cases hi:i<xs.length
 ·have hr:i<xs.reverse.length:=by simpa using hi
  rw[IW hi]
  simp[Jj,CP hr]
 ·rw[Fz (by simpa using hi),Fz (by simpa using hi)]
  rfl
theorem slicePick_rev (xs:List CB):KL xs.toArray none none (some (-1))=xs.reverse.toArray:=by
 have e:KL xs.toArray none none (some (-1))=((sliceRange ((xs.toArray.size:Int) - 1) (-1) (-1)).filterMap (xs.toArray[·]?)).toArray:=rfl
 rw[e,<-mK xs,CT];unfold sliceRange
 have c:(if ((xs.length:Int) - 1) > -1 then(((xs.length:Int) - 1) - (-1) - (-1) - 1) / (-(-1:Int))else 0).toNat=xs.length:=by
  rw[Int.neg_neg,J3]
  split <;> omega
 show(((DH (if ((xs.length:Int) - 1) > -1 then(((xs.length:Int) - 1) - (-1) - (-1) - 1) / (-(-1:Int))else 0).toNat).map λ(k:Nat)=>(((xs.length:Int) - 1)+(-1)*(k:Int)).toNat).filterMap (xs.toArray[·]?)).toArray=_
 rw[c,Jh]
 congr 2
 funext k
 show xs.toArray[(((xs.length:Int) - 1)+(-1)*(k:Int)).toNat]? =_
 rw[Int.mul_comm]
theorem getItem_tuple_rev {u sl:Addr}{items:List CB}{t:Tok}{Q:CB->Cz->Prop}(ht:KU s.heap u items.toArray)(hs:s.heap.IsSliceOf sl .none .none (.int (-1) t))
  (h:Q (.ref s.heap.objs.size) { s with heap:=s.heap.push { cls:=.type "tuple",data:=.seq items.reverse.toArray } })
  (hsz:items.length<=sizeLine):wpAny (model prog w) A (getItem (.ref u) (.ref sl)) Q E s:=by
 have htake:sizeOk (.seq items.reverse.toArray):=by
  show items.reverse.toArray.size<=sizeLine
  simpa using hsz
 obtain⟨os,hos,hcs,hds⟩:=id hs
 have hTs:s.TypeIs (.ref sl) "slice":=⟨os,hos,hcs⟩;unfold getItem
 try with_reducible refine D0 ?_
 first | refine Cy (CD ?_) | skip
 refine Cy (HE ht.typeIs (by decide) ?_)
 refine Cy (DF (name:=C0 "__getitem__") ht.typeIs Da
  (DY Da ht.typeIs GS ?_ (G7 _ _)))
 show wpAny _ _ (FJ (.ref u) >>= _) _ _ s
 refine Cy (HQ ht ?_)
 refine Cy (Gs hTs ?_)
 rw[if_pos (by decide)]
 refine Cy (hZ (n:=items.toArray.size) hs ?_)
 show wpAny _ _ (if ((((items.toArray.size:Nat):Int) - 1) == 0&&(-1:Int) == 1&&items.toArray.size == items.toArray.size)=true then _ else _) _ _ s
 rw[if_neg (by simp)]
 have e:((DH items.toArray.size).filterMap λ(m:Nat)=>items.toArray[((((items.toArray.size:Nat):Int) - 1)+(m:Int)*(-1)).toNat]?)=items.reverse:=by
  rw[CT];exact mK items
 rw[e]
 first
  | exact Cy (m:=Dt _) (De (CD ⟨_,rfl,CD h⟩) htake)
  | exact Cy (m:=Dt _) (De (Cy (CD (CD ⟨_,rfl,CD h⟩))) htake)
  | exact Cy (Cy (m:=Dt _) (De (CD (CD ⟨_,rfl,CD h⟩)) htake))
  | exact Cy (Cy (m:=Dt _) (De (CD ⟨_,rfl,CD h⟩) htake))
end
end HT
namespace Tr
open PySem PySem.Spec PyProof.Rows L2
section
variable {X:Cx}{a b c:Expr}{fa fb fc:En->Rs T}{pos:Pos}
theorem Reps.atI {K:CA}{O:Ow}{H:Hp}{l:List T}{vs:List V}{i:Int}{t:T}(r:Reps K O H l vs)(e:L2.atI l i=some t):∃v,L2.atI vs i=some v/\Rep K O H t v:=by
 unfold L2.atI at e ⊢;rw[r.length]at e
 cases q:ixN vs.length i with
 | none=>rw[q]at e;cases e
 | some j=>
  rw[q]at e;obtain⟨v,e1,e2⟩:=r.get (i:=j) (t:=t) e;exact⟨v,e1,e2⟩
def a9 (x y:T):Rs T:=match x.items,y with
 | some l,.int i=>match L2.atI l i with
  | some t=> .ok t
  | none=> .bad
 | _,_=> .bad
theorem q_ix (ha:cq X a fa)(hb:cq X b fb)(hs:autoParam (pU b) x_):cq X (.Subscript a b pos) (o2 a9 fa fb):=by
 intro pins s σ H Q I ⟨ρ,O,E,hq⟩
 have h1:=aR E hq;refine Subscript_ (bF (ha pins s σ H _ I h1) λv s1 hh_=> ?_)
 obtain⟨x,H1,I1,r1,t,rt,s',E',q1⟩:=hh_
 have h2:=aR (f:=fb) E' q1;refine bF (hb pins s1 σ H1 _ I1 h2) λu s2 hh_=> ?_
 obtain⟨y,H2,I2,r2,t2,rt2,s'',E'',q2⟩:=hh_
 have rt':=rt.same s'';unfold a9 at q2
 split at q2
 ·rename_i l i hl
  split at q2
  ·rename_i z hz
   have hy:=Rep.BJ.mp rt2;refine yY a b pins s2 σ H2 x y v u Q I2 r1 r2 ?_ (hs _ _)
   cases t with
   | tup m=>
    cases hl;obtain⟨p,vs,e,n,q,rr⟩:=Rep.BK.mp rt';obtain⟨w,ew,rw'⟩:=rr.atI hz
    exact .inr (.inl ⟨p,vs,i,w,e,hy,SqT.of q,ew,q2 H2 (Same.refl H2) _ rw'⟩)
   | lst m=>
    cases hl;obtain⟨p,vs,e,n,q,rr⟩:=Rep.BL.mp rt';obtain⟨w,ew,rw'⟩:=rr.atI hz
    exact .inl ⟨p,vs,i,w,e,hy,SqL.of q,ew,q2 H2 (Same.refl H2) _ rw'⟩
   | scr m=>
    cases hl;unfold Rep at rt';obtain⟨p,e,n,q⟩:=rt';obtain⟨w,ew,rw'⟩:=(Reps.ints (K:=X.K) (O:=O) (H:=H2) (ns:=m)).atI hz
    exact .inl ⟨p,_,i,w,e,hy,q,ew,q2 H2 (Same.refl H2) _ rw'⟩
   | _=>cases hl
  ·exact q2.elim
 ·exact q2.elim
def lW (l:List T)(lo hi:Option Int):List T:=(l.drop (HT.sIx l.length 0 lo)).take (HT.sIx l.length l.length hi - HT.sIx l.length 0 lo)
theorem Reps.cut {K:CA}{O:Ow}{H:Hp}{l:List T}{vs:List V}(r:Reps K O H l vs)(lo hi:Option Int):Reps K O H (lW l lo hi) (nr vs lo hi):=by
 unfold lW nr;rw[r.length];exact(r.drop _).take _
theorem qD {l:List T}{lo hi:Option Int}(h:HT.sIx l.length 0 lo=0/\HT.sIx l.length l.length hi=l.length):lW l lo hi=l:=by
 unfold lW;rw[h.1,h.2];simp
theorem sl_tup_whole:SlR X (λx lo hi H Q=> ∃a xs,x= .ref a/\SqT X.K H a xs/\(HT.sIx xs.length 0 lo=0/\HT.sIx xs.length xs.length hi=xs.length)/\Q (.ref a) H):=by
 intro pins s σ H x v vl vu lo hi sl Q I rx hs pl pu h;obtain⟨a,xs,rfl,hx,hw,q⟩:=h;cases rx;obtain⟨its,r,ht,hz⟩:=I.tuple hx
 have hlen:its.toArray.size=xs.length:=by rw[CT];exact r.length.symm
 refine⟨"tuple",_,Da.lookup,ht.typeIs,?_⟩
 exact HT.getItem_tuple_whole ht hs pl pu (by rw[hlen];exact hw) ⟨.ref a,H,I,rfl,q⟩
def pN (_:En):Rs (Option Int):=.ok none
def pS (f:En->Rs T)(ρ:En):Rs (Option Int):=do
 let x <-f ρ
 match x with
 | .int i=> .ok (some i)
 | _=> .bad
def tPO (X:Cx)(f:En->Rs (Option Int)):TO:=λσ H Q=> ∃ρ O,EnvO X.K O H ρ σ/\Post X H (f ρ) λb H'=>Q b H'
abbrev Br (X:Cx)(e:Option Expr)(f:En->Rs (Option Int)):Prop:=PO X e (tPO X f)
theorem uX:Br X none pN:=by
 intro pins s σ H Q I ⟨ρ,O,E,hq⟩;exact vm pins s σ H Q I (hq H (Same.refl H))
theorem uW (ha:cq X a fa):Br X (some a) (pS fa):=by
 intro pins s σ H Q I ⟨ρ,O,E,hq⟩;refine vk ha pins s σ H Q I ?_
 obtain⟨ρ1,O1,E1,h1⟩:=aR E hq;refine⟨ρ1,O1,E1,Post.mono h1 λts H1 s1 q vs r=> ?_⟩
 obtain⟨t',r',s',E',q'⟩:=q vs r
 split at q'
 ·exact⟨_,Rep.BJ.mp r',q' H1 (Same.refl H1)⟩
 ·exact q'.elim
def slT (x:T)(lo hi:Option Int):Rs T:=match x with
 | .tup l=> .ok (.tup (lW l lo hi))
 | .lst l=> .ok (.lst (lW l lo hi))
 | _=> .bad
def sl (fe:En->Rs T)(fl fu:En->Rs (Option Int))(ρ:En):Rs T:=do
 let x <-fe ρ
 let l <-fl ρ
 let u <-fu ρ
 slT x l u
theorem mx {σ:L2.St}{H:Hp}{ρ:En}{O:Ow}{α:Type}{f:En->Rs (Option Int)}{k:Option Int->Rs α}{Q:α->Hp->Prop}(E:EnvO X.K O H ρ σ)(h:Post X H (f ρ >>= k) Q) :
  tPO X f σ H λb H'=>Same H H'/\EnvO X.K O H' ρ σ/\Post X H' (k b) Q:=
 ⟨ρ,O,E,Post.mono h.bind λt H' s q=>⟨s,E.same s,q⟩⟩
theorem ve {lo hi:Option Expr}{p2:Pos}{fl fu:En->Rs (Option Int)}(ha:cq X a fa)(hl:Br X lo fl)(hu:Br X hi fu):cq X (.Subscript a (.Slice lo hi none p2) pos) (sl fa fl fu):=by
 intro pins s σ H Q I ⟨ρ,O,E,hq⟩;refine sr (sl_tup.or (sl_tup_whole.or uN)) ha hl hu pins s σ H Q I ?_
 obtain⟨ρ1,O1,E1,h1⟩:=aR E hq;refine⟨ρ1,O1,E1,Post.mono h1 λts H1 s1 q vs r=> ?_⟩
 obtain⟨t',r',s',E',q'⟩:=q vs r;obtain⟨ρ2,O2,E2,h2⟩:=mx E' q';refine⟨ρ2,O2,E2,Post.mono h2 λo1 H2 s2 q=> ?_⟩
 obtain⟨s2',E2',q2⟩:=q;obtain⟨ρ3,O3,E3,h3⟩:=mx E2' q2;refine⟨ρ3,O3,E3,Post.mono h3 λo2 H3 s3 q=> ?_⟩
 obtain⟨s3',E3',q3⟩:=q
 have rt:=(r'.same s2').same s3';unfold slT at q3
 split at q3
 ·rename_i l
  obtain⟨p,ws,e,n,q,rr⟩:=Rep.BK.mp rt
  have hlen:=rr.length
  by_cases hw:HT.sIx ws.length 0 o1=0/\HT.sIx ws.length ws.length o2=ws.length
  ·refine .inr (.inl ⟨p,ws,e,SqT.of q,hw,?_⟩)
   rw[<-hlen]at hw;refine q3 H3 (Same.refl H3) _ ?_
   rw[qD hw];exact Rep.BK.mpr ⟨p,ws,rfl,n,q,rr⟩
  ·exact .inl ⟨p,ws,e,SqT.of q,hw,λp' hp=>q3 _ (a7 hp _) _ (cW hp (E3'.fresh hp) (rr.cut o1 o2))⟩
 ·rename_i l
  obtain⟨p,ws,e,n,q,rr⟩:=Rep.BL.mp rt;exact .inr (.inr ⟨p,ws,e,SqL.of q,λp' hp=>q3 _ (a7 hp _) _ (dU hp (E3'.fresh hp) (rr.cut o1 o2))⟩)
 ·exact q3.elim
def rW:T->Rs T
 | .tup l=> .ok (.tup l.reverse)
 | .lst l=> .ok (.lst l.reverse)
 | _=> .bad
theorem Reps.reverse {K:CA}{O:Ow}{H:Hp}:∀{l:List T} {vs:List V},Reps K O H l vs->Reps K O H l.reverse vs.reverse
 | [],vs,r=>by rw[Reps.BI.mp r];exact Reps.BV
 | t::l,vs,r=>by
  obtain⟨v,us,rfl,p,q⟩:=Reps.AC.mp r;rw[Gh,Gh];exact q.reverse.append (Reps.BP p Reps.BV)
theorem Ak {j:Nat}{p1 p2 p3:Pos}(ha:cq X a fa):cq X (.Subscript a (.Slice none none (some (.UnaryOp .USub (.Constant (.int 1) j p1) p2)) p3) pos) (o1 rW fa):=by
 intro pins s σ H Q I ⟨ρ,O,E,hq⟩
 have h1:=aR E hq;refine Subscript_ (bF (ha pins s σ H _ I h1) λv s1 hh_=> ?_)
 obtain⟨x,H1,I1,r1,t,rt,s',E',q1⟩:=hh_;refine wpAny_Slice ?_
 rw[JA];refine CD (CD ?_)
 rw[evalPart_some];refine bF (Ax xC n4 pins s1 σ H1 (λw' H'=>w'= .int (-1)/\H'=H1) I1 ⟨1,rfl,rfl,rfl⟩) λsv s2 hh_=> ?_
 obtain⟨w',H2,I2,r2,e1,e2⟩:=hh_;subst e1 e2;obtain⟨tk,rfl⟩:=r2
 have I4:Inv X pins σ H2 { s2 with heap:=s2.heap.push { cls:=.type "slice",data:=.fields #[.none,.none,.int (-1) tk] } }:=I2.kept (t':=s2.toks) λb ob q=>CG _ q
 unfold rW at q1
 split at q1
 ·rename_i l
  obtain⟨p,ws,e,n,q,rr⟩:=Rep.BK.mp rt;subst e;cases r1;obtain⟨its,r,ht,hz⟩:=I4.tuple (SqT.of q)
  have hs:KS (s2.heap.push { cls:=.type "slice",data:=.fields #[.none,.none,.int (-1) tk] }) s2.heap.objs.size .none .none (.int (-1) tk):=GZ ..;refine tail_any (ops:=[.ref p,.ref s2.heap.objs.size]) ht.typeIs Da.lookup ?_ (by with_unfolding_all rfl)
  refine HT.getItem_tuple_rev ht hs ?_ (by rw[<-r.length];exact hz)
  refine⟨.ref _,_,I4.laid (t':=s2.toks) (o:=.tup ws.reverse) (λb ob q=>CG _ q) (CM _) ?_,rfl,?_⟩
  ·exact⟨by rw[IX];exact hz,_,r.reverse,Ii _ _⟩
  ·have hn:=I4.hok.fresh (CM _)
   exact q1 _ (a7 hn _) _ (cW hn (E'.fresh hn) rr.reverse)
 ·rename_i l
  obtain⟨p,ws,e,n,q,rr⟩:=Rep.BL.mp rt;subst e;cases r1;obtain⟨its,r,ht,hz⟩:=I4.list (SqL.of q)
  have hs:KS (s2.heap.push { cls:=.type "slice",data:=.fields #[.none,.none,.int (-1) tk] }) s2.heap.objs.size .none .none (.int (-1) tk):=GZ ..;refine tail_any (ops:=[.ref p,.ref s2.heap.objs.size]) ht.isList.typeIs slot_list_getitem.lookup ?_ (by with_unfolding_all rfl)
  refine HF ht.isList hs .none .none (.int (-1) tk) (by simp) ?_ (by rw[CT,<-r.length];exact hz)
  rw[HT.slicePick_rev];refine⟨.ref _,_,I4.laid (t':=s2.toks) (o:=.lst ws.reverse) (λb ob q=>CG _ q) (CM _) ?_,rfl,?_⟩
  ·exact⟨by rw[IX];exact hz,_,0,r.reverse,CZ _ rfl⟩
  ·have hn:=I4.hok.fresh (CM _)
   exact q1 _ (a7 hn _) _ (dU hn (E'.fresh hn) rr.reverse)
 ·exact q1.elim
def CallT (X:Cx)(f:CB)(g:List T->Rs T):Prop:=
 ∀(pins:List (Addr×Obj)) (s:Cz) (σ:L2.St) (H:Hp) (O:Ow) (ts:List T) (vs:List V) (us:List CB) (Q:VK),Inv X pins σ H s->(∀p,H p=none->¬ O p)->Reps X.K O H ts vs->Vals vs us →
  Post X H (g ts) (λt H'=> ∀v,Rep X.K O H' t v->Q v H')->wpAny (model X.prog X.w) X.A (call f us) (EP X pins σ Q) X.xe s
theorem CallT.of {f:CB}{r:List V->Hp->VK->Prop}(h:CallR X f r){g:List T->Rs T}
  (w:∀(H:Hp) (O:Ow) (ts:List T) (vs:List V) (Q:VK),(∀p,H p=none->¬ O p)->Reps X.K O H ts vs->Post X H (g ts) (λt H'=> ∀v,Rep X.K O H' t v->Q v H')->r vs H Q):CallT X f g:=
 λpins s σ H O ts vs us Q I hf rs rv hp=>h pins s σ H vs us Q I rv (w H O ts vs Q hf rs hp)
def cl (g:List T->Rs T)(fs:En->Rs (List T))(ρ:En):Rs T:=fs ρ >>= g
variable {e:Expr}{es:List Expr}{fs:En->Rs (List T)}{x:Str}{p:Pos}{id:String}{g:List T->Rs T}
theorem vg (hc:CallT X (.builtin id) g)(hm:X.mg x=none)(hv:Dh x=some (.builtin id))(ha:nA X (e::es) fs)(hg:autoParam (Gl X x) u_)(hn:autoParam (x≠ "__name__") s_)(hdb:autoParam ((x == ("__debug__" : Str))=false) s_)
  (he:autoParam (CV (e::es) X.env=(false,eval e X.env)::CV es X.env) u_) (hpl:autoParam ((backTo pos (CV es X.env)).any (·.1)=false) u_):cq X (.Call (.Name x p) (e::es) [] pos) (cl g fs):=by
 intro pins s σ H Q I ⟨ρ,O,E,hq⟩;refine DO (dA I hg hm hv ?_ hn hdb)
 have h1:=du E hq;exact D5 (bF (ha pos pins s σ H _ I h1) λus s1 ⟨vs,H1,I1,r1,ts,rs,s',E',q1⟩=>hc pins s1 σ H1 O ts vs us Q I1 (λp=>E'.fresh) rs r1 q1) he hpl
theorem r8 {Ty:String}(hc:CallT X (.type Ty) g)(hm:X.mg x=none)(hv:Dh x=some (.type Ty))(ha:nA X (e::es) fs)(hg:autoParam (Gl X x) u_)(hn:autoParam (x≠ "__name__") s_)(hdb:autoParam ((x == ("__debug__" : Str))=false) s_)
  (he:autoParam (CV (e::es) X.env=(false,eval e X.env)::CV es X.env) u_) (hpl:autoParam ((backTo pos (CV es X.env)).any (·.1)=false) u_):cq X (.Call (.Name x p) (e::es) [] pos) (cl g fs):=by
 intro pins s σ H Q I ⟨ρ,O,E,hq⟩;refine DO (dA I hg hm hv ?_ hn hdb)
 have h1:=du E hq;exact ED (bF (ha pos pins s σ H _ I h1) λus s1 ⟨vs,H1,I1,r1,ts,rs,s',E',q1⟩=>hc pins s1 σ H1 O ts vs us Q I1 (λp=>E'.fresh) rs r1 q1) he hpl
theorem Reps.one {K:CA}{O:Ow}{H:Hp}{t:T}{vs:List V}(r:Reps K O H [t] vs):∃v,vs= [v]/\Rep K O H t v:=by
 obtain⟨v,ws,rfl,p,q⟩:=Reps.AC.mp r;cases Reps.BI.mp q;exact⟨v,rfl,p⟩
theorem Rep.sq {K:CA}{O:Ow}{H:Hp}{t:T}{v:V}{l:List T}(r:Rep K O H t v)(h:t.items=some l):∃a vs,v= .ref a/\¬ O a/\Reps K O H l vs/\(SqL K H a vs\/SqT K H a vs):=by
 cases t with
 | tup m=>cases h;obtain⟨a,vs,e,n,q,z⟩:=Rep.BK.mp r;exact⟨a,vs,e,n,z,.inr (SqT.of q)⟩
 | lst m=>cases h;obtain⟨a,vs,e,n,q,z⟩:=Rep.BL.mp r;exact⟨a,vs,e,n,z,.inl (SqL.of q)⟩
 | scr m=>cases h;unfold Rep at r;obtain⟨a,e,n,q⟩:=r;exact⟨a,_,e,n,Reps.ints,.inl q⟩
 | _=>cases h
def c8:List T->Rs T
 | [.str x] =>if x.length<=sizeLine then .ok (.int x.length)else .bad
 | [x] =>match x.items with
  | some l=> .ok (.int l.length)
  | none=> .bad
 | _=> .bad
theorem ee:CallT X (.builtin "len") c8:=CallT.of (call_len_seq.or lZ) λH O ts vs Q hf rs hp=>by
 unfold c8 at hp
 split at hp
 ·obtain⟨v,rfl,r⟩:=rs.one
  split at hp
  ·rename_i h
   exact .inr ⟨_,by rw[Rep.BO.mp r],h,hp H (Same.refl H) _ (Rep.BU _)⟩
  ·exact hp.elim
 ·obtain⟨v,rfl,r⟩:=rs.one
  split at hp
  ·rename_i l hl
   obtain⟨a,vs,rfl,n,z,q⟩:=r.sq hl;exact .inl ⟨a,vs,rfl,q,hp H (Same.refl H) _ (by rw[<-z.length];exact Rep.BU _)⟩
  ·exact hp.elim
 ·exact hp.elim
def eJ:List T->Rs T
 | [.tup l] => .ok (.tup l)
 | [.lst l] => .ok (.tup l)
 | _=> .bad
theorem gU:CallT X (.type "tuple") eJ:=CallT.of kb λH O ts vs Q hf rs hp=>by
 unfold eJ at hp
 split at hp
 ·obtain⟨v,rfl,r⟩:=rs.one
  obtain⟨a,ws,rfl,n,q,z⟩:=Rep.BK.mp r;exact⟨a,ws,rfl,.inr ⟨SqT.of q,hp H (Same.refl H) _ (Rep.BK.mpr ⟨a,ws,rfl,n,q,z⟩)⟩⟩
 ·obtain⟨v,rfl,r⟩:=rs.one
  obtain⟨a,ws,rfl,n,q,z⟩:=Rep.BL.mp r;exact⟨a,ws,rfl,.inl ⟨SqL.of q,λl hl=>hp _ (a7 hl _) _ (cW hl (hf l hl) z)⟩⟩
 ·exact hp.elim
def tI:List T->Rs T
 | [.int i] => .ok (.int i)
 | [.bl k] => .ok (.int (if k then 1 else 0))
 | _=> .bad
theorem zu:CallT X (.type "int") tI:=CallT.of qI λH O ts vs Q hf rs hp=>by
 unfold tI at hp
 split at hp
 ·obtain⟨v,rfl,r⟩:=rs.one
  exact .inl ⟨_,by rw[Rep.BJ.mp r],hp H (Same.refl H) _ (Rep.BU _)⟩
 ·obtain⟨v,rfl,r⟩:=rs.one
  exact .inr ⟨_,by rw[Rep.BN.mp r],hp H (Same.refl H) _ (Rep.BU _)⟩
 ·exact hp.elim
def jR:List T->Option (List Bool)
 | [] =>some []
 | .bl k::r=>(jR r).map (k:: ·)
 | _=>none
def kc:List T->Rs T
 | [.lst l] =>match jR l with
  | some ks=> .ok (.bl (ks.all λk=>k))
  | none=> .bad
 | _=> .bad
theorem jQ {K:CA}{O:Ow}{H:Hp}:∀{l:List T} {ks:List Bool} {vs:List V} {us:List CB},jR l=some ks->Reps K O H l vs->Vals vs us->us=ks.map Dz
 | [],ks,vs,us,e,r,v=>by cases e;cases Reps.BI.mp r;cases v;rfl
 | t::l,ks,vs,us,e,r,v=>by
  obtain⟨w,ws,rfl,p,q⟩:=Reps.AC.mp r
  cases t with
  | bl k=>
   unfold jR at e
   cases z:jR l with
   | none=>rw[z]at e;cases e
   | some ks'=>
    rw[z]at e;cases e
    cases v with
    | cons v1 v2=>
     cases Rep.BN.mp p;cases v1
     rw[jQ z q v2];rfl
  | _=>cases e
theorem lX (hc:X.calm=true):CallT X (.builtin "all") kc:=by
 intro pins s σ H O ts vs us Q I hf rs rv hp;unfold kc at hp
 split at hp
 ·obtain⟨v,rfl,r⟩:=rs.one
  split at hp
  ·rename_i ks hk
   obtain⟨a,ws,rfl,n,q,z⟩:=Rep.BL.mp r;obtain⟨u,rfl,ru⟩:=iC rv;cases ru;obtain⟨its,r',pl,hz⟩:=I.list (SqL.of q)
   have hits:=jQ hk z r';refine call_all_walk (HD pl.isList ?_)
   have hne:a≠s.heap.objs.size:=λe=>by
    obtain⟨o,ho,_⟩:=pl.isList;rw[e]at ho;exact absurd (CN ho) (C9 _)
   refine⟨s.heap.objs.size,_,_,_,_,_,λi=>(ks[i]?).getD true,rfl,Walks.list (A:=X.A.in1) (I.ok.hd hc) s.heap.objs.size a hne its.toArray,⟨⟨_,CZ _ rfl,rfl,rfl⟩,?_⟩,?_,?_⟩
   ·obtain⟨o,ho,hh⟩:=pl.isList
    exact⟨o,CG _ ho,hh⟩
   ·intro i v s' Q' E' hP hQ'
    subst hits
    dsimp only at hQ'
    have hP':(ks.map Dz)[i]? =some v:=by simpa using hP
    rw[Dn]at hP'
    cases e:ks[i]? with
    | none=>rw[e]at hP';cases hP'
    | some k=>
     rw[e]at hP' hQ';cases hP';exact DZ hQ'
   ·intro h' tk hk'
    have hlen:its.toArray.size=ks.length:=by rw[hits];simp
    have e:((DH its.toArray.size).all λi=>(ks[i]?).getD true)=(ks.all λk=>k):=by
     rw[hlen];rw[Fw,Dc,Dc]
     constructor
     ·intro h x hx
      obtain⟨i,hi,rfl⟩:=Fg hx
      have:=h i (FO.mpr hi)
      simpa [hi]using this
     ·intro h i hi
      have hi':=FO.mp hi
      have:=h ks[i] (FR hi')
      simpa [hi']using this
    rw[e]
    have I1:Inv X pins σ H { s with heap:=s.heap.push { cls:=.type "list_iterator",data:=.fields #[.ref a,.int 0 0] } }:=I.kept (t':=s.toks) λb o e=>CG _ e
    have I2:Inv X pins σ H { s with heap:=h',toks:=tk }:=by
     have:=I1.turned (h':=h') (t':=tk) (it:=s.heap.objs.size) (λb o hb e=>hk' b o (by simpa using hb) e) (I.hok.fresh (CM _))
      (Fc I.lt) (.inr I.sz) (λx c e z=> ?_) (λp hp z=> ?_)
     ·exact this
     ·obtain⟨v,q⟩:=I.cell x c e
      exact absurd (CS q.lt (FZ z.symm)) (C9 _)
     ·exact absurd (CS (CN (I.pin p hp).1) (FZ z.symm)) (C9 _)
    exact⟨.bl _,H,I2,rfl,hp H (Same.refl H) _ (Rep.bl_ _)⟩
  ·exact hp.elim
 ·exact hp.elim
end
def ni (i b t l s:Bool)(Ty:String):Option Bool:=match Ty with
 | "int" =>some i | "bool" =>some b | "tuple" =>some t | "list" =>some l | "str" =>some s
 | _=>none
def pz (n Ty:String):Option Bool:=match n with
 | "NoneType" =>ni false false false false false Ty
 | "bool" =>ni true true false false false Ty
 | "int" =>ni true false false false false Ty
 | "str" =>ni false false false false true Ty
 | "tuple" =>ni false false true false false Ty
 | "list" =>ni false false false true false Ty
 | _=>none
theorem qy (K:CA){n Ty:String}{b:Bool}(h:pz n Ty=some b):PySem.W.kitOne K (.type n) (.type Ty)=some b:=by
 unfold pz at h
 split at h <;> first | (cases h;done) | (unfold ni at h;split at h <;> first | (cases h;done) | (cases h;kernel_rfl))
def uu (Ty:String)(t:T):Rs T:=match t.ty with
 | some n=>match pz n Ty with
  | some b=> .ok (.bl b)
  | none=> .bad
 | none=> .bad
theorem Rep.Cr {K:CA}{O:Ow}{H:Hp}{t:T}{v:V}{n:String}(r:Rep K O H t v)(h:t.ty=some n):iy K H v (.type n):=by
 cases t with
 | non=>cases h;cases Rep.BX.mp r;exact .non
 | bl b=>cases h;cases Rep.BN.mp r;exact .bl b
 | int b=>cases h;cases Rep.BJ.mp r;exact .int b
 | str b=>cases h;cases Rep.BO.mp r;exact .str b
 | tup l=>cases h;obtain⟨a,vs,rfl,_,q,_⟩:=Rep.BK.mp r;exact .tup q
 | lst l=>cases h;obtain⟨a,vs,rfl,_,q,_⟩:=Rep.BL.mp r;exact .lst q
 | scr l=>cases h
 | dct _ _=>cases h
 | ob _ _ _=>cases h
section
variable {X:Cx}{a b c e:Expr}{es:List Expr}{fa fb fc:En->Rs T}{fs:En->Rs (List T)}{pos p p2:Pos}{x:Str}
theorem dD:Dh "isinstance" =some (.builtin "isinstance"):=by decide+kernel
theorem Ap {tn:Str}{Ty:String}(hm:X.mg "isinstance" =none)(hmt:X.mg tn=none)(hv:Dh tn=some (.type Ty))(ha:cq X a fa)(hg:autoParam (Gl X "isinstance") u_)(hgt:autoParam (Gl X tn) u_)
  (hn:autoParam (tn≠ "__name__") s_) (hd:autoParam ((tn == ("__debug__" : Str))=false) s_)
  (he:autoParam (CV [a,.Name tn p2] X.env=(false,eval a X.env)::CV [.Name tn p2] X.env) u_) (hpl:autoParam ((backTo pos (CV [.Name tn p2] X.env)).any (·.1)=false) u_)
  (hs:autoParam (CV [.Name tn p2] X.env=(false,eval (.Name tn p2) X.env)::CV [] X.env) u_) :
  cq X (.Call (.Name "isinstance" p) [a,.Name tn p2] [] pos) (o1 (uu Ty) fa):=by
 intro pins s σ H Q I ⟨ρ,O,E,hq⟩;refine DO (dA I hg hm dD ?_ (by decide) (by decide))
 have hA:PA X [a,.Name tn p2] (gH (tP X fa) (gH (tC (.ty Ty)) rH)):=bu ha (bu (o7 (v:=.ty Ty) hgt hmt hv rfl hn hd) eK hs) he;obtain⟨ρ1,O1,E1,h1⟩:=aR E hq;refine D5 (bF (hA pos pins s σ H (λvs H'=> ∃v t,vs= [v,.ty Ty]/\Rep X.K O H' t v/\Post X H' (uu Ty t) (λt H'=> ∀v,Rep X.K O H' t v->Q v H')) I ?_) λus s1 ⟨vs,H1,I1,r1,v,t,e1,rt,q⟩=> ?_) he hpl
 ·refine⟨ρ1,O1,E1,Post.mono h1 λts H1 s1 q vs r=> ?_⟩
  obtain⟨t',r',s',E',q'⟩:=q vs r;exact⟨vs,t',rfl,r',q'⟩
 ·subst e1
  obtain⟨u,w',rfl,ru,rw'⟩:=rk r1;cases rw';unfold uu at q
  split at q
  ·rename_i n hn'
   split at q
   ·rename_i bb hb
    exact qx I1 ru (rt.Cr hn') (qy _ hb) λtk=>⟨.bl bb,H1,I1.tok _,rfl,q H1 (Same.refl H1) _ (Rep.bl_ _)⟩
   ·exact q.elim
  ·exact q.elim
def spP (K:CA)(n:Nat)(g:List T->Rs T):Sp:=λvs H Q _=> ∃ts O,Reps K O H ts vs/\(∀a,O a->Mtb H a)/\ts.length=n ∧
 match g ts with
 | .ok t=> ∀v H',Same H H'->Rep K O H' t v->Q v H'
 | _=>False
def RzC (P:C4)(w:Du)(mg:Str->Option CB)(outer:List Env)(H:Hp)(s:Cz)(c:Str)(ev:CB)(s':Cz):Prop:=
 ∃e T C H',ev= .ref e/\mg c=some (.ref C)/\s'.os=s.os/\Iu s'.gens/\Un (gx outer) [] H H' s.heap s'.heap/\HOk P w H' s'.heap/\Same H H'/\H' e=none/\s.heap.get? e=none/\Flt s'.heap C e (some T)/\H' T=none/\s.heap.get? T=none
def FnX (P:C4)(w:Du)(K:CA)(mg:Str->Option CB)(base:Heap)(k:Nat)(f:Addr)(fd:DB)(ps:List Str)(n:Nat)(g:List T->Rs T):Prop:=
 ∀(A:Dj) (outer:List Env) (s:Cz) (H:Hp) (args:Args) (us:List CB) (vs:List V) (O:Ow) (ts:List T) (c:Str) (R:GR->Cz->Prop),Room k A->kd P w K mg base A outer s H->HP s fd args (ps.zip us)->Vals vs us →
  Reps K O H ts vs->(∀a,O a->Mtb H a)->ts.length=n->g ts= .err c->(∀ev s',RzC P w mg outer H s c ev s'->R (.error ev) s')->codeAny (model P w) A (.call (.ref f) args) R s
structure zH (P:C4)(w:Du)(K:CA)(mg:Str->Option CB)(base:Heap)(k:Nat)(f:Addr)(fd:DB)(ps:List Str)(n:Nat)(g:List T->Rs T):Prop where
 h:qL P w K mg base CX0 k f fd ps (spP K n g)
 x:FnX P w K mg base k f fd ps n g
theorem sJ {P:C4}{w:Du}{H:Hp}{h:Heap}{a:Addr}{o:HO}(x:ObjOk P w H h a o):∃u,h.get? a=some u:=by
 cases o with
 | lst xs=>obtain⟨_,_,_,_,e⟩:=x;exact⟨_,e⟩
 | tup xs=>obtain⟨_,_,_,ob,e,_⟩:=x;exact⟨_,e⟩
 | dK kvs=>obtain⟨_,_,_,_,o,_,_,e,_⟩:=x;exact⟨_,e⟩
 | dT kvs=>obtain⟨_,_,_,_,o,_,_,e,_⟩:=x;exact⟨_,e⟩
 | set S n=>obtain⟨o,_,_,_,e,_⟩:=x;exact⟨_,e⟩
 | ins C dx fs=>obtain⟨_,_,_,e,_⟩:=x;exact⟨_,e⟩
 | own y=>obtain⟨_,e⟩:=x;exact⟨_,e⟩
 | xd fs=>obtain⟨_,⟨_,_,_,e,_⟩,_⟩:=x;exact⟨_,e⟩
 | rng lo hi=>obtain⟨_,_,_,e⟩:=x;exact⟨_,e⟩
 | frz ob u=>obtain⟨e,_⟩:=x;exact⟨_,e⟩
 | tbl ps=>exact⟨_,(show h.get? a=some _ from x)⟩
 | met f y=>exact⟨_,(show h.get? a=some _ from x)⟩
 | ext φ=>obtain⟨_,⟨_,e⟩,_⟩:=x;exact⟨_,e⟩
theorem eW {X:Cx}{pins:List (Addr×Obj)}{σ:L2.St}{H:Hp}{s:Cz}(I:Inv X pins σ H s){e:Addr}(n:s.heap.get? e=none):H e=none:=by
 cases z:H e with
 | none=>rfl
 | some o=>
  obtain⟨o',ho'⟩:=sJ (I.hok e o z);rw[n]at ho';cases ho'
theorem eL {X:Cx}{pins:List (Addr×Obj)}{σ:L2.St}{H:Hp}{s:Cz}(I:Inv X pins σ H s)(hex:X.ex= []){e:Addr}(n:s.heap.get? e=none):X.s₀.heap.get? e=none:=by
 cases z:X.s₀.heap.get? e with
 | none=>rfl
 | some o=>
  obtain⟨o',ho'⟩:=I.base.there e o z (by rw[hex];simp)
  rw[n]at ho';cases ho'
theorem yj {n k:Nat}{f:Addr}{fd:DB}{ps:List Str}{g:List T->Rs T}(F:zH X.prog X.w X.K X.mg X.base k f fd ps n g)(hr:Room k X.A)(hm:X.mg x=some (.ref f))(hk:Fk X.K (.ref f)=true)(hb:Binds X.K fd ps [])(hps:ps.length=n)
  (hl:∀ρ ts,fs ρ= .ok ts->ts.length=n) (ha:nA X (e::es) fs) (hg:autoParam (Gl X x) u_) (hdb:autoParam ((x == ("__debug__" : Str))=false) s_) (he:autoParam (CV (e::es) X.env=(false,eval e X.env)::CV es X.env) u_) (hpl:autoParam ((backTo pos (CV es X.env)).any (·.1)=false) u_) :
  cq X (.Call (.Name x p) (e::es) [] pos) (cl g fs):=by
 intro pins s σ H Q I ⟨ρ,O,E,hq⟩
 have hq':Post X H (fs ρ >>= g) λt H'=> ∀v,Rep X.K O H' t v->Q v H':=hq
 cases q:fs ρ with
 | bad=>rw[q]at hq';exact hq'.elim
 | err c=>
  rw[q]at hq';refine o6 (E:=E0) F.h hr hg hm hk hb .nil sC ha hdb he hpl pins s σ H Q I ⟨ρ,O,E,?_⟩
  rw[q]
  exact hq'
 | ok ts=>
  rw[q]at hq'
  have hq2:Post X H (g ts) λt H'=> ∀v,Rep X.K O H' t v->Q v H':=hq'
  cases q2:g ts with
  | bad=>rw[q2]at hq2;exact hq2.elim
  | ok t=>
   rw[q2]at hq2;refine o6 (E:=E0) F.h hr hg hm hk hb .nil sC ha hdb he hpl pins s σ H Q I ⟨ρ,O,E,?_⟩
   rw[q];intro H1 s1 vs rs;rw[Do];refine⟨ts,O,rs,(E.same s1).mtb,hl ρ ts q,?_⟩
   rw[q2]
   exact λv H' s2 r=>hq2 H' (s1.trans s2) v r
  | err c=>
   rw[q2]at hq2;refine DO (fh I hg hm ?_ hdb)
   refine GY (h₀:=X.base) I.ok.mod.kin hk (bF (ha pos pins s σ H (λvs H'=>Same H H'/\Reps X.K O H' ts vs) I ⟨ρ,O,E,?_⟩) (λus s1 ⟨vs,H1,I1,r,sm,rs⟩=>⟨I1.kIn,?_⟩)) he hpl
   ·rw[q];exact λH' sm vs rs=>⟨sm,rs⟩
   ·have hlen:us.length=ps.length:=by rw[<-r.length,<-rs.length,hl ρ ts q,hps]
    have hb':=hb s1 us I1.kIn (by rw[Do];exact hlen)
    rw[Do]at hb';refine J0 (G6 (F.x X.A X.stack s1 H1 ⟨us,[]⟩ us vs O ts c (λr s'=>match r with | .error ev=>X.xe ev s' | _=>False) hr I1.B6 hb' r rs (E.same sm).mtb (hl ρ ts q) q2 λev s' w=> ?_) λr s' hq=> ?_)
    ·obtain⟨ea,T,C,H',rfl,hmc,ho,hbare,hun,hok,sm2,hea,heo,fl,hT,hTo⟩:=w
     have I2:Inv X pins σ H' s':=I1.B4 ho hun hok hbare (λb z=>absurd z (by simp))
     exact hq2 pins _ _ ⟨ea,some T,C,σ,H',rfl,hmc,I2,λb o q _=>sm2 b o (sm b o q),hea,λhex=>eL I1 hex heo,fl,(λt zt=>by cases zt;exact⟨hT,λhex=>eL I1 hex hTo⟩),λpp hpp=>⟨λzz=>(by have:=(I1.pin pp hpp).1;rw[zz,heo]at this;cases this),λzz=>(by cases zz;have:=(I1.pin pp hpp).1;rw[hTo]at this;cases this)⟩⟩
    ·cases r with
     | error ev=>exact hq
     | ok fl=>exact hq.elim
def ur (X:Cx)(g:T->En->Rs En):TG:=λv σ H Q=> ∃ρ O M t,EnvM X.K O M H ρ σ/\Rep X.K O H t v/\match g t ρ with
 | .ok ρ'=> ∀σ',EnvM X.K O M H ρ' σ'->Q σ' H
 | _=>False
abbrev wL (X:Cx)(tg:Expr)(g:T->En->Rs En):Prop:=PG X tg (ur X g)
def tPGs (X:Cx)(g:List T->En->Rs En):wK:=λvs σ H Q=> ∃ρ O M ts,EnvM X.K O M H ρ σ/\Reps X.K O H ts vs/\match g ts ρ with
 | .ok ρ'=> ∀σ',EnvM X.K O M H ρ' σ'->Q σ' H
 | _=>False
abbrev ui (X:Cx)(tg:List Expr)(g:List T->En->Rs En):Prop:=PGs X tg (tPGs X g)
theorem PG.imp {X:Cx}{e:Expr}{t t':TG}(h:PG X e t)(w:∀v σ H Q,t' v σ H Q->t v σ H Q):PG X e t':=λpins s σ H v u Q I r q=>h pins s σ H v u Q I r (w v σ H Q q)
theorem PGs.imp {X:Cx}{e:List Expr}{t t':wK}(h:PGs X e t)(w:∀v σ H Q,t' v σ H Q->t v σ H Q):PGs X e t':=λpins s σ H v u Q I r q=>h pins s σ H v u Q I r (w v σ H Q q)
def gN (i:Nat)(t:T)(ρ:En):Rs En:=if i<ρ.length then .ok (ρ.set i (.va t))else .bad
theorem EnvM.set {K:CA}{O:Ow}{M:Mn}{H:Hp}{ρ:En}{σ:L2.St}{i:Nat}{t:T}{v:V}(E:EnvM K O M H ρ σ)(hi:i<ρ.length)(r:Rep K O H t v):EnvM K O M H (ρ.set i (.va t)) (σ.set i (some v)) where
 len:=by rw[GL,GL];exact E.len
 val:=λj u e=>by
  by_cases hj:i=j
  ·subst hj
   rw[EI hi]at e
   cases e;exact⟨v,EI (by rw[<-E.len];exact hi),r⟩
  ·rw[Ez hj]at e
   obtain⟨w,e1,e2⟩:=E.val j u e;exact⟨w,by rw[Ez hj];exact e1,e2⟩
 own:=λj o e=>by
  by_cases hj:i=j
  ·subst hj
   rw[EI hi]at e
   cases e
  ·rw[Ez hj]at e
   obtain⟨w,e1,e2⟩:=E.own j o e;exact⟨w,by rw[Ez hj];exact e1,e2⟩
 sub:=E.sub
 dis:=E.dis
 trk:=E.trk
theorem vc (i:Nat)(hN:X.N.Nodup)(hi:autoParam (X.N[i]? =some x) u_)(hx:autoParam (Loc X.env.scope x) y_)(hf:autoParam (X.fn x=true\/X.env.scope.names.lookup x=some .local) r_):wL X (.Name x pos) (gN i):=
 PG.imp (vz hN hi hx hf) λv σ H Q hh_=>by
  obtain⟨ρ,O,M,t,E,r,h⟩:=hh_;unfold gN at h
  split at h
  ·rename_i ρ' e
   split at e
   ·rename_i hl
    cases e;exact h _ (E.set hl r)
   ·cases e
  ·exact h.elim
def vV (ts:List T)(ρ:En):Rs En:=match ts with
 | [] => .ok ρ
 | _=> .bad
def ka (g:T->En->Rs En)(gs:List T->En->Rs En)(ts:List T)(ρ:En):Rs En:=match ts with
 | t::r=>do
  let ρ1 <-g t ρ
  gs r ρ1
 | [] => .bad
theorem vb:ui X [] vV:=PGs.imp vt λvs σ H Q hh_=>by
 obtain⟨ρ,O,M,ts,E,r,h⟩:=hh_;unfold vV at h
 cases ts with
 | nil=>exact⟨Reps.BI.mp r,h σ E⟩
 | cons _ _=>exact h.elim
theorem r6 {g:T->En->Rs En}{gs:List T->En->Rs En}(h1:wL X e g)(h2:ui X es gs)
  (hs:autoParam ((Es (e::es) X.env).map (·.2)=assign e X.env::(Es es X.env).map (·.2)) u_):ui X (e::es) (ka g gs):=
 PGs.imp (si h1 h2 hs) λvs σ H Q hh_=>by
  obtain⟨ρ,O,M,ts,E,r,h⟩:=hh_
  cases ts with
  | nil=>exact h.elim
  | cons t ts=>
   obtain⟨v,ws,rfl,p,q⟩:=Reps.AC.mp r;refine⟨v,ws,rfl,ρ,O,M,t,E,p,?_⟩
   unfold ka at h
   cases e1:g t ρ with
   | bad=>simp[e1]at h
   | err c=>simp[e1]at h
   | ok ρ1=>
    intro σ1 E1;refine⟨ρ1,O,M,ts,E1,q,?_⟩
    simp only[e1,aF]at h
    cases e2:gs ts ρ1 with
    | bad=>simp[e2]at h
    | err c=>simp[e2]at h
    | ok ρ2=>
     simp only[e2]at h;exact λσ2 E2=>h σ2 E2
def gT (n:Nat)(gs:List T->En->Rs En)(t:T)(ρ:En):Rs En:=match t with
 | .tup l=>if l.length=n then gs l ρ else .bad
 | _=> .bad
theorem yf {k n:Nat}{gs:List T->En->Rs En}(hc:X.calm=true)(h:ui X es gs)(hn:autoParam ((Es es X.env).length=n) u_)(hst:autoParam ((Es es X.env).findIdx? (·.1)=none) u_):wL X (.Tuple es k pos) (gT n gs):=
 PG.imp (yn hc h hn hst) λv σ H Q hh_=>by
  obtain⟨ρ,O,M,t,E,r,h⟩:=hh_;unfold gT at h
  cases t with
  | tup l=>
   obtain⟨a,vs,rfl,n',q,z⟩:=Rep.BK.mp r
   by_cases hl:l.length=n
   ·simp only[if_pos hl]at h
    exact⟨a,vs,rfl,SqT.of q,by rw[<-z.length];exact hl,ρ,O,M,l,E,z,h⟩
   ·simp only[if_neg hl]at h
  | _=>exact h.elim
theorem SqL.nn {K:CA}{H:Hp}{a:Addr}{vs:List V}(q:SqL K H a vs):¬ Nw K H a:=λ⟨h1,h2⟩=>by
 rcases q with(q | ⟨o,q⟩) | ⟨o,_,_,q,_⟩
 ·rw[h1]at q;cases q
 ·rw[h1]at q;cases q
 ·rw[h2]at q;cases q
mutual
theorem Rep.more {K:CA}{O O':Ow}{H:Hp}(sub:∀a,O' a->O a\/Nw K H a):∀{t:T} {v:V},Rep K O H t v->Rep K O' H t v
 | .non,_,r=>by unfold Rep at r ⊢;exact r
 | .bl _,_,r=>by unfold Rep at r ⊢;exact r
 | .int _,_,r=>by unfold Rep at r ⊢;exact r
 | .str _,_,r=>by unfold Rep at r ⊢;exact r
 | .tup l,_,r=>by
  unfold Rep at r ⊢;obtain⟨a,vs,e,n,q,z⟩:=r
  exact⟨a,vs,e,λp=>(sub a p).elim n λw=>(by rw[w.1]at q;cases q),q,Reps.more sub z⟩
 | .lst l,_,r=>by
  unfold Rep at r ⊢;obtain⟨a,vs,e,n,q,z⟩:=r
  exact⟨a,vs,e,λp=>(sub a p).elim n λw=>(by rw[w.1]at q;cases q),q,Reps.more sub z⟩
 | .scr l,_,r=>by
  unfold Rep at r ⊢;obtain⟨a,e,n,q⟩:=r
  exact⟨a,e,λp=>(sub a p).elim n λw=>Tr.SqL.nn q w,q⟩
 | .dct ks ts,_,r=>by
  unfold Rep at r ⊢;obtain⟨a,kvs,e,n,q,k,z⟩:=r
  exact⟨a,kvs,e,λp=>(sub a p).elim n λw=>(by rcases q with q | ⟨_,q⟩ <;> rw[w.1]at q <;> cases q),q,k,Reps.more sub z⟩
 | .ob C ns ts,_,r=>by
  unfold Rep at r ⊢;obtain⟨a,dx,fs,e,n,q,k,z⟩:=r;exact⟨a,dx,fs,e,⟨⟨λp=>(sub a p).elim n.1.1 λw=>(by rw[w.1]at q;cases q),λp=>(sub dx p).elim n.1.2.1 λw=>(by have:=n.1.2.2;rw[w.1]at this;cases this),n.1.2.2⟩,n.2⟩,q,k,Reps.more sub z⟩
theorem Reps.more {K:CA}{O O':Ow}{H:Hp}(sub:∀a,O' a->O a\/Nw K H a):∀{l:List T} {vs:List V},Reps K O H l vs->Reps K O' H l vs
 | [],_,r=>by unfold Reps at r ⊢;exact r
 | t::l,_,r=>by
  unfold Reps at r ⊢;obtain⟨v,ws,e,p,q⟩:=r;exact⟨v,ws,e,Rep.more sub p,Reps.more sub q⟩
end
theorem Rep.move {K:CA}{O O' P:Ow}{H H':Hp}{t:T}{v:V}(hP:∀a,P a->O a\/Nw K H a)(hO:∀a,O' a->O a\/Nw K H a)(h:SameO P H H')(r:Rep K O H t v):Rep K O' H' t v:=
 Rep.less (O:=λa=>O' a\/P a) (λ_ z=> .inl z) (Rep.keep h (λ_ z=> .inr z) (Rep.more (λa z=>z.elim (hO a) (hP a)) r))
theorem Reps.move {K:CA}{O O' P:Ow}{H H':Hp}{t:List T}{v:List V}(hP:∀a,P a->O a\/Nw K H a)(hO:∀a,O' a->O a\/Nw K H a)(h:SameO P H H')(r:Reps K O H t v):Reps K O' H' t v:=
 Reps.less (O:=λa=>O' a\/P a) (λ_ z=> .inl z) (Reps.keep h (λ_ z=> .inr z) (Reps.more (λa z=>z.elim (hO a) (hP a)) r))
def ItT (K:CA)(O:Ow)(H:Hp)(ts:List T)(J:It):Prop:=∀(P O':Ow),(∀a,P a->O a\/Nw K H a)->(∀a,O' a->O a\/Nw K H a)->∀(i:Nat) (Hc:Hp),SameO P H Hc->(∀a,O' a->∃o,Hc a=some o) →
 (ts.length<=i->J.stop i Hc)/\(∀t,ts[i]? =some t->J.go i Hc/\∀x Hc',J.yld i Hc x Hc'->Same Hc Hc'/\Rep K O' Hc' t x)
def tPI (X:Cx)(f:En->Rs (List T)):TI:=λσ H R=> ∃ρ O,EnvO X.K O H ρ σ/\Post X H (f ρ) λts H'=> ∀J,ItT X.K O H' ts J->R J H'
abbrev uA (X:Cx)(tg iter:Expr)(f:En->Rs (List T)):Prop:=PI X tg iter (tPI X f)
theorem PI.imp {tg iter:Expr}{t t':TI}(h:PI X tg iter t)(w:∀σ H R,t' σ H R->t σ H R):PI X tg iter t':=λpins s σ H R I q=>h pins s σ H R I (w σ H R q)
def iL (f:En->Rs T)(ρ:En):Rs (List T):=do
 let x <-f ρ
 match x with
 | .lst l=> .ok l
 | _=> .bad
def iT (f:En->Rs T)(ρ:En):Rs (List T):=do
 let x <-f ρ
 match x with
 | .tup l=> .ok l
 | _=> .bad
theorem oX {tg:Expr}(ha:cq X a fa):uA X tg a (iL fa):=PI.imp (vp ha) λσ H R hh_=>by
 obtain⟨ρ,O,E,h⟩:=hh_;obtain⟨ρ1,O1,E1,h1⟩:=aR E h;refine⟨ρ1,O1,E1,Post.mono h1 λts H1 s1 q vs r=> ?_⟩
 obtain⟨t',r',s',E',q'⟩:=q vs r
 split at q'
 ·rename_i l
  obtain⟨a,ws,rfl,n,q,z⟩:=Rep.BL.mp r';refine⟨a,rfl,⟨ws,SqL.of q⟩,q' H1 (Same.refl H1) _ λP O' hP hO i Hc hs ht=> ?_⟩
  have hnP:¬ P a:=λz=>(hP a z).elim n λw=>by rw[w.1]at q;cases q
  refine⟨λhi=>⟨ws,SqL.of (hs _ _ q hnP),by rw[<-z.length];exact hi⟩,λt ht'=> ?_⟩
  obtain⟨v,e1,e2⟩:=z.get ht';refine⟨⟨ws,v,SqL.of (hs _ _ q hnP),e1⟩,λx Hc' y=> ?_⟩
  obtain⟨e,y⟩:=y;subst e
  have:=y ws (SqL.of (hs _ _ q hnP));rw[e1]at this;cases this;exact⟨Same.refl _,e2.move hP hO hs⟩
 ·exact q'.elim
theorem yd {tg:Expr}(ha:cq X a fa):uA X tg a (iT fa):=PI.imp (ym ha) λσ H R hh_=>by
 obtain⟨ρ,O,E,h⟩:=hh_;obtain⟨ρ1,O1,E1,h1⟩:=aR E h;refine⟨ρ1,O1,E1,Post.mono h1 λts H1 s1 q vs r=> ?_⟩
 obtain⟨t',r',s',E',q'⟩:=q vs r
 split at q'
 ·rename_i l
  obtain⟨a,ws,rfl,n,q,z⟩:=Rep.BK.mp r';refine⟨a,rfl,⟨ws,SqT.of q⟩,q' H1 (Same.refl H1) _ λP O' hP hO i Hc hs ht=> ?_⟩
  have hnP:¬ P a:=λz=>(hP a z).elim n λw=>by rw[w.1]at q;cases q
  refine⟨λhi=>⟨ws,SqT.of (hs _ _ q hnP),by rw[<-z.length];exact hi⟩,λt ht'=> ?_⟩
  obtain⟨v,e1,e2⟩:=z.get ht';refine⟨⟨ws,v,SqT.of (hs _ _ q hnP),e1⟩,λx Hc' y=> ?_⟩
  obtain⟨e,y⟩:=y;subst e
  have:=y ws (SqT.of (hs _ _ q hnP));rw[e1]at this;cases this;exact⟨Same.refl _,e2.move hP hO hs⟩
 ·exact q'.elim
def rng (lo hi:Int):List T:=(DH (hi - lo).toNat).map λ(k:Nat)=>T.int (lo+(k:Int))
def uv (i:Int):Bool:=decide (-(2 ^ 62)<=i)&&decide (i<2 ^ 62)
def iR (f:En->Rs (List T))(ρ:En):Rs (List T):=do
 let x <-f ρ
 match x with
 | [.int j] =>if uv j then .ok (rng 0 j)else .bad
 | [.int i,.int j] =>if uv i&&uv j then .ok (rng i j)else .bad
 | _=> .bad
theorem lR {i:Int}(h:uv i=true) : -(2 ^ 62)<=i/\i<2 ^ 62:=by
 unfold uv at h;rw[CC]at h;exact⟨of_decide_eq_true h.1,of_decide_eq_true h.2⟩
theorem pq {K:CA}{O:Ow}{H:Hp}(lo hi:Int):ItT K O H (rng lo hi) (Itr lo (hi - lo).toNat):=λP O' hP hO i Hc hs ht=>by
 refine⟨λh=> ?_,λt h=> ?_⟩
 ·show(hi - lo).toNat<=i
  unfold rng at h;rw[CI,Gi]at h;exact h
 ·unfold rng at h
  rw[Dn]at h
  by_cases hi':i<(hi - lo).toNat
  ·rw[IW hi']at h
   cases h;refine⟨hi',λx Hc' y=> ?_⟩
   obtain⟨e,y⟩:=y;subst e y;exact⟨Same.refl _,Rep.BU _⟩
  ·rw[Fz (by simpa using hi')]at h
   cases h
theorem qg {tg:Expr}(hm:X.mg "range" =none)(ha:nA X [a] fs)(hg:autoParam (Gl X "range") u_)(hs:autoParam (CV [a] X.env= [(false,eval a X.env)]) u_):uA X tg (.Call (.Name "range" p) [a] [] pos) (iR fs):=by
 intro pins s σ H R I ⟨ρ,O,E,h⟩
 have h1:=du E h;refine Call_ (dA I hg hm boot_range (ED (bF (ha pos pins s σ H _ I h1) λus s1 ⟨vs,H1,I1,r1,ts,rs,s',E',q1⟩=> ?_) hs rfl))
 split at q1
 ·obtain⟨v,rfl,r⟩:=rs.one
  split at q1
  ·rename_i j hj
   obtain⟨b1,b2⟩:=lR hj;cases Rep.BJ.mp r
   cases r1 with
   | cons r rr=>
    cases rr;obtain⟨t,rfl⟩:=r;exact call_range_1 (mI I1 (by omega) (by omega) b1 b2 (q1 H1 (Same.refl H1) _ (pq 0 j)))
  ·exact q1.elim
 ·obtain⟨v,ws,rfl,p1,q⟩:=Reps.AC.mp rs
  obtain⟨v2,rfl,r⟩:=q.one
  split at q1
  ·rename_i i j hj
   rw[CC]at hj;obtain⟨b1,b2⟩:=lR hj.1;obtain⟨b3,b4⟩:=lR hj.2;cases Rep.BJ.mp p1;cases Rep.BJ.mp r
   cases r1 with
   | cons r rr=>
    cases rr with
    | cons r' rr=>
     cases rr;obtain⟨t,rfl⟩:=r;obtain⟨t',rfl⟩:=r';exact call_range_2 (mI I1 b1 b2 b3 b4 (q1 H1 (Same.refl H1) _ (pq i j)))
  ·exact q1.elim
 ·exact q1.elim
end
section
variable {X:Cx}{a b c e:Expr}{es:List Expr}{fa fb fc:En->Rs T}{fs:En->Rs (List T)}{pos p p2:Pos}{x:Str}
def bS (src:List (Option Nat))(ρ:En):En:=src.map λo=>match o with
 | some i=>match ρ[i]? with
  | some (.va t)=> .va t
  | _=> .em
 | none=> .em
def cb (tgt:T->En->Rs En)(fc:En->Rs Bool)(fe:En->Rs T):List T->En->Rs (List T)
 | [],_=> .ok []
 | t::r,ρ=>do
  let ρ1 <-tgt t ρ
  let k <-fc ρ1
  if k then do
   let y <-fe ρ1
   let ys <-cb tgt fc fe r ρ1
   .ok (y::ys)
  else cb tgt fc fe r ρ1
def ej (fi:En->Rs (List T))(src:List (Option Nat))(tgt:T->En->Rs En)(fc:En->Rs Bool)(fe:En->Rs T)(ρ:En):Rs T:=do
 let ts <-fi ρ
 if ts.length<=sizeLine then match cb tgt fc fe ts (bS src ρ)with
  | .ok ys=> .ok (.lst ys)
  | _=> .bad
 else .bad
def bT (_:En):Rs Bool:=.ok true
def tP0 (K:CA)(f:En->Rs T):TE:=λσ H Q=> ∃ρ O,EnvO K O H ρ σ/\match f ρ with
 | .ok t=> ∀H',Same H H'->∀v,Rep K O H' t v->Q v H'
 | _=>False
def tPT0 (K:CA)(f:En->Rs Bool):TT:=λσ H Q=> ∃ρ O,EnvO K O H ρ σ/\match f ρ with
 | .ok t=> ∀H',Same H H'->Q t H'
 | _=>False
theorem tP0.up {f:En->Rs T}{σ:L2.St}{H:Hp}{Q:VK}(h:tP0 X.K f σ H Q):tP X f σ H Q:=by
 obtain⟨ρ,O,E,h⟩:=h;refine⟨ρ,O,E,?_⟩
 cases q:f ρ with
 | ok t=>rw[q]at h;exact h
 | err c=>rw[q]at h;exact h.elim
 | bad=>rw[q]at h;exact h.elim
theorem tPT0.up {f:En->Rs Bool}{σ:L2.St}{H:Hp}{Q:Bool->Hp->Prop}(h:tPT0 X.K f σ H Q):qP X f σ H Q:=by
 obtain⟨ρ,O,E,h⟩:=h;refine⟨ρ,O,E,?_⟩
 cases q:f ρ with
 | ok t=>rw[q]at h;exact h
 | err c=>rw[q]at h;exact h.elim
 | bad=>rw[q]at h;exact h.elim
theorem uZ:nH X [] (qP X bT):=λpins s σ H Q I ⟨ρ,O,E,h⟩=>vo pins s σ H Q I (h H (Same.refl H))
theorem uY {f:En->Rs Bool}(h:ug X c f):nH X [c] (qP X f):=vn h
abbrev noM:Mn:=λ_ _=>False
theorem qu {src:List (Option Nat)}{ρ:En}{j:Nat}{o:OT}(e:(bS src ρ)[j]? =some (.ow o)):False:=by
 unfold bS at e;rw[Dn]at e
 cases q:src[j]? with
 | none=>rw[q]at e;cases e
 | some o'=>
  rw[q]at e
  cases o' with
  | none=>cases e
  | some i=>
   have e':(match ρ[i]? with | some (Sl.va t)=>Sl.va t | _=>Sl.em)=Sl.ow o:=Dr e
   split at e' <;> cases e'
theorem ti {K:CA}{O:Ow}{H:Hp}{ρ:En}{σ:L2.St}(E:EnvO K O H ρ σ)(src:List (Option Nat)):EnvM K O noM H (bS src ρ) (ck src σ) where
 len:=by unfold bS ck;rw[CI,CI]
 val:=λj t e=>by
  unfold bS at e;unfold ck;rw[Dn]at e ⊢
  cases q:src[j]? with
  | none=>rw[q]at e;cases e
  | some o=>
   rw[q]at e
   cases o with
   | none=>cases e
   | some i=>
    have e':(match ρ[i]? with | some (Sl.va t)=>Sl.va t | _=>Sl.em)=Sl.va t:=Dr e
    cases q2:ρ[i]? with
    | none=>rw[q2]at e';cases e'
    | some z=>
     rw[q2]at e'
     cases z with
     | em=>cases e'
     | ow l=>cases e'
     | va t'=>
      cases e';obtain⟨v,e1,e2⟩:=E.val i _ q2;exact⟨v,by simp[e1],e2⟩
 own:=λj o e=>(qu e).elim
 sub:=λ_ _ z=>z.elim
 dis:=λ_ _ _ z=>z.elim
 trk:=E.mtb
theorem ORep.no {K:CA}{O:Ow}{H:Hp}{o:OT}{v:V}(r:ORep K O no_ H o v):False:=by
 cases o with
 | lst l=>obtain⟨a,_,_,e,_⟩:=r;exact(e a).mpr rfl
 | dct ks ts=>obtain⟨a,_,_,e,_⟩:=r;exact(e a).mpr rfl
 | dd ks rows=>obtain⟨a,_,_,_,e,_⟩:=r;exact(e a).mpr (.inl rfl)
 | ob C ns ls=>obtain⟨a,_,_,_,e,_⟩:=r;exact(e a).mpr (.inl rfl)
 | ll ls=>obtain⟨a,_,_,e,_⟩:=r;exact(e a).mpr (.inl rfl)
theorem EnvM.move {K:CA}{O O' P:Ow}{H H':Hp}{ρ:En}{σ:L2.St}(E:EnvM K O noM H ρ σ)(hP:∀a,P a->O a\/Nw K H a)(hO:∀a,O' a->O a\/Nw K H a)(h:SameO P H H')(trk:∀a,O' a->Mtb H' a):EnvM K O' noM H' ρ σ where
 len:=E.len
 val:=λi t e=>let ⟨v,e1,e2⟩:=E.val i t e;⟨v,e1,e2.move hP hO h⟩
 own:=λi o e=>let ⟨_,_,r⟩:=E.own i o e;r.no.elim
 sub:=λ_ _ z=>z.elim
 dis:=λ_ _ _ z=>z.elim
 trk:=trk
def zF (fi:En->Rs (List T))(src:List (Option Nat))(tgt:T->En->Rs En)(fc:En->Rs Bool)(fe:En->Rs T)(ρ:En):Rs (List T):=fi ρ >>= λts=>if ts.length<=sizeLine then(match cb tgt fc fe ts (bS src ρ)with | .ok ys=>Rs.ok ys | _=> .bad)else .bad
theorem tf {src:List (Option Nat)}{fi:En->Rs (List T)}{tgt:T->En->Rs En}{fc:En->Rs Bool}{fe:En->Rs T}{ρ:En}:ej fi src tgt fc fe ρ=zF fi src tgt fc fe ρ >>= λl=> .ok (.lst l):=by
 unfold ej zF
 cases fi ρ with
 | bad=>rfl
 | err c=>rfl
 | ok ts=>
  rw[aF,aF]
  by_cases hz:ts.length<=sizeLine
  ·rw[if_pos hz,if_pos hz]
   cases cb tgt fc fe ts (bS src ρ) <;> rfl
  ·rw[if_neg hz,if_neg hz];rfl
abbrev LcW (K:CA)(O':Ow)(D:Addr)(H1:Hp)(ts:List T)(tgt:T->En->Rs En)(fc:En->Rs Bool)(fe:En->Rs T)(all:List T)(i m:Nat)(σ':L2.St)(ys:List V)(H':Hp):Prop:=m=ts.length - i/\i<=ts.length/\ys.length<=i/\H' D=some (.lst ys)/\SameO (λa=>a=D) (dE H1 D (.lst [])) H'/\∃ρ' yts zs,EnvM K O' noM H' ρ' σ'/\Reps K O' H' yts ys/\cb tgt fc fe (ts.drop i) ρ'= .ok zs/\yts++zs=all
theorem LcW.use {K:CA}{O':Ow}{D:Addr}{H1 H':Hp}{ts all:List T}{tgt:T->En->Rs En}{fc:En->Rs Bool}{fe:En->Rs T}{i m:Nat}{σ':L2.St}{ys:List V}(w:LcW K O' D H1 ts tgt fc fe all i m σ' ys H'){Pp:Prop}(k:m=ts.length - i->i<=ts.length->ys.length<=i->H' D=some (.lst ys)->SameO (λa=>a=D) (dE H1 D (.lst [])) H'->∀ρ' yts zs,EnvM K O' noM H' ρ' σ'->Reps K O' H' yts ys->cb tgt fc fe (ts.drop i) ρ'= .ok zs->yts++zs=all->Pp):Pp:=by
 obtain⟨a1,a2,a3,a4,a5,ρ',yts,zs,b1,b2,b3,b4⟩:=w;exact k a1 a2 a3 a4 a5 ρ' yts zs b1 b2 b3 b4
theorem sZ {src:List (Option Nat)}{fi:En->Rs (List T)}{tgt:T->En->Rs En}{fc:En->Rs Bool}{fe:En->Rs T}{σ:L2.St}{H:Hp}{Q:VK}{ρ:En}{O:Ow}(E:EnvO X.K O H ρ σ)
  (hq1:Post X H (zF fi src tgt fc fe ρ) λall H1=> ∀D ys H',Nw X.K H1 D->Same H1 H'->H' D=some (.lst ys)->Reps X.K (λa=>O a\/a=D) H' all ys->Q (.ref D) H'):xJ X.K (tPI X fi) src (ur X tgt) (tPT0 X.K fc) (tP0 X.K fe) σ H Q:=by
 unfold zF at hq1;refine⟨ρ,O,E,Post.mono hq1.bind λts H1 s1 q1 J hJ D hD hK=> ?_⟩
 have E1:=E.same s1
 by_cases hz:ts.length<=sizeLine
 ·rw[if_pos hz]at q1
  cases hall:cb tgt fc fe ts (bS src ρ)with
  | bad=>rw[hall]at q1;exact q1.elim
  | err c=>rw[hall]at q1;exact q1.elim
  | ok all=>
   rw[hall]at q1
   have q2:∀D ys H',Nw X.K H1 D->Same H1 H'->H' D=some (.lst ys)->Reps X.K (λa=>O a\/a=D) H' all ys->Q (.ref D) H':=q1 H1 (Same.refl H1)
   have nD:Nw X.K H1 D:=⟨hD,hK⟩
   let O':Ow:=λa=>O a\/a=D
   have subO:∀a,O' a->O a\/Nw X.K H1 a:=λa z=>z.elim .inl λw=> .inr (w▸nD)
   -- the walk's word
   refine⟨LcW X.K O' D H1 ts tgt fc fe all,⟨ts.length,?_⟩,?_⟩
   ·have sN:Same H1 (dE H1 D (.lst [])):=a7 hD _
    refine⟨by omega,Ey _,CM _,aU,λb o e _=>e,bS src ρ,[],all,?_,Reps.BV,by simpa using hall,rfl⟩
    have E2:EnvM X.K O noM H1 (bS src ρ) (ck src σ):=ti E1 src
    exact E2.move (P:=λa=>a=D) (λa z=> .inr (z▸nD)) subO (λb o e _=>sN b o e) λa z=>by
     rcases z with z | z
     ·exact(E1.mtb a z).same sN
     ·rw[z];exact .inl ⟨_,aU⟩
   ·refine λi m σ' ys H' w=>w.use λe0 hi' hyl hDl hsm ρ' yts zs E' ry hl hyz=> ?_
    subst e0;refine⟨hDl,?_⟩
    have sm1:SameO (λa=>a=D) H1 H':=λb o e nb=>hsm b o (by rw[aD nb];exact e) nb
    have it:=hJ (λa=>a=D) O' (λa z=> .inr (z▸nD)) subO i H' sm1 (λa z=>(E'.trk a z).some)
    by_cases hlt:i<ts.length
    ·refine .inr ?_
     have hti:ts[i]? =some ts[i]:=by simp
     obtain⟨go,yl⟩:=it.2 ts[i] hti;refine⟨go,by omega,λxx Hc y=> ?_⟩
     obtain⟨sc,rx⟩:=yl xx Hc y
     have Ec:=E'.same sc;rw[FP hlt]at hl;unfold cb at hl;refine⟨ρ',O',noM,ts[i],Ec,rx,?_⟩
     cases e1:tgt ts[i] ρ' with
     | bad=>rw[e1]at hl;cases hl
     | err cc=>rw[e1]at hl;cases hl
     | ok ρ1=>
      rw[e1,aF]at hl;intro σ1 Eg;refine⟨ρ1,O',⟨noM,Eg⟩,?_⟩
      cases e2:fc ρ1 with
      | bad=>rw[e2]at hl;cases hl
      | err cc=>rw[e2]at hl;cases hl
      | ok k=>
       rw[e2,aF]at hl;intro H3 s3
       have E3:=Eg.same s3
       have tot:Same H' H3:=sc.trans s3
       have D3:H3 D=some (.lst ys):=tot _ _ hDl
       have sm3:SameO (λa=>a=D) (dE H1 D (.lst [])) H3:=λb o e nb=>tot _ _ (hsm b o e nb)
       cases k with
       | false=>
        refine L2.iteF ?_
        have hl':cb tgt fc fe (ts.drop (i+1)) ρ1= .ok zs:=by simpa using hl
        exact⟨ts.length - (i+1),by omega,rfl,hlt,by omega,D3,sm3,ρ1,yts,zs,E3,ry.same tot,hl',hyz⟩
       | true=>
        refine L2.iteT ?_
        have hl':(fe ρ1 >>= λy=>cb tgt fc fe (ts.drop (i+1)) ρ1 >>= λys=>Rs.ok (y::ys))= .ok zs:=by simpa using hl
        refine⟨ρ1,O',⟨noM,E3⟩,?_⟩
        cases e3:fe ρ1 with
        | bad=>rw[e3]at hl';cases hl'
        | err cc=>rw[e3]at hl';cases hl'
        | ok yt=>
         rw[e3,aF]at hl'
         cases e4:cb tgt fc fe (ts.drop (i+1)) ρ1 with
         | bad=>rw[e4]at hl';cases hl'
         | err cc=>rw[e4]at hl';cases hl'
         | ok zs'=>
          rw[e4,aF]at hl'
          have hzs:yt::zs'=zs:=by injection hl'
          intro H4 s4 v rv
          have D4:H4 D=some (.lst ys):=s4 _ _ D3
          have E4:=E3.same s4
          have tot4:Same H' H4:=tot.trans s4
          have smD:SameO (λa=>a=D) H4 (dE H4 D (.lst (ys++ [v]))):=λb o e nb=>by rw[aD nb];exact e
          have inO:∀a,a=D->O' a\/Nw X.K H4 a:=λa z=> .inl (.inr z)
          refine⟨D4,ts.length - (i+1),by omega,rfl,hlt,?_,aU,λb o e nb=>smD b o (s4 _ _ (sm3 b o e nb)) nb,ρ1,yts++ [yt],zs',?_,?_,e4,?_⟩
          ·rw[CF,Gm];omega
          ·exact E4.move inO (λa z=> .inl z) smD λaa z=>by
            by_cases hz:aa=D
            ·rw[hz];exact .inl ⟨_,aU⟩
            ·unfold Mtb;rw[aD hz];exact E4.trk aa z
          ·have r1:Reps X.K O' H4 (yts++ [yt]) (ys++ [v]):=(ry.same tot4).append (Reps.BP rv Reps.BV)
           exact r1.move inO (λa z=> .inl z) smD
          ·rw[Dq,Ik,hzs];exact hyz
    ·refine .inl ⟨it.1 (by omega),?_⟩
     have hi2:i=ts.length:=by omega
     subst hi2;rw[Kk]at hl
     have hzs:zs= []:=by unfold cb at hl;injection hl with hl;exact hl.symm
     subst hzs;rw[Do]at hyz;subst hyz
     have sF:Same H1 H':=λb o e=>sm1 b o e λz=>by rw[z,hD]at e;cases e
     exact q2 D ys H' nD sF hDl ry
 ·rw[if_neg hz]at q1
  exact q1.elim
theorem lN {src:List (Option Nat)}{fi:En->Rs (List T)}{tgt:T->En->Rs En}{fc:En->Rs Bool}{fe:En->Rs T}{σ:L2.St}{H:Hp}{Q:VK}(h0:tP X (ej fi src tgt fc fe) σ H Q):xJ X.K (tPI X fi) src (ur X tgt) (tPT0 X.K fc) (tP0 X.K fe) σ H Q:=by
 obtain⟨ρ,O,E,hq⟩:=h0;refine sZ E ?_
 have e:ej fi src tgt fc fe ρ=zF fi src tgt fc fe ρ >>= λl=> .ok (.lst l):=tf
 rw[e]at hq
 cases q:zF fi src tgt fc fe ρ with
 | bad=>rw[q]at hq;exact hq.elim
 | err c=>rw[q]at hq;exact hq
 | ok l=>
  rw[q,aF]at hq;intro H1 s1 D ys H' nD sD eD rD;exact hq H' (s1.trans sD) _ (Rep.BL.mpr ⟨D,ys,rfl,λz=>(E.same s1).fresh nD.1 z,eD,rD.less λa z=> .inl z⟩)
theorem q_lc {elt tg iter:Expr}{ifs:List Expr}{scope:Fu}{N':List Str}{src:List (Option Nat)}{fi:En->Rs (List T)}{tgt:T->En->Rs En}{fc:En->Rs Bool}{fe:En->Rs T}
  (hc:X.calm=true) (S:LcScope X scope N' src) (hi:uA X tg iter fi)
  (block:∀cl C s₀ H₀ fp,wL (aT X scope cl N' C s₀ H₀ fp) tg tgt/\nH (aT X scope cl N' C s₀ H₀ fp) ifs (qP (aT X scope cl N' C s₀ H₀ fp) fc)/\cq (aT X scope cl N' C s₀ H₀ fp) elt fe)
  (hs:autoParam (∀x,Dl iter X.env x=pure x) t_) :
  cq X (.ListComp elt [⟨tg,iter,ifs,0⟩] scope pos) (ej fi src tgt fc fe):=by
 have hPG:∀cl C s₀ H₀ fp,PG (aT X scope cl N' C s₀ H₀ fp) tg (ur X tgt):=λcl C s₀ H₀ fp=>(block cl C s₀ H₀ fp).1
 have hPI:∀cl C s₀ H₀ fp,nH (aT X scope cl N' C s₀ H₀ fp) ifs (tPT0 X.K fc):=λcl C s₀ H₀ fp pins s σ H Q I h=>(block cl C s₀ H₀ fp).2.1 pins s σ H Q I (tPT0.up (X:=aT X scope cl N' C s₀ H₀ fp) h)
 have hPE:∀cl C s₀ H₀ fp,PE (aT X scope cl N' C s₀ H₀ fp) elt (tP0 X.K fe):=λcl C s₀ H₀ fp pins s σ H Q I h=>(block cl C s₀ H₀ fp).2.2 pins s σ H Q I (tP0.up (X:=aT X scope cl N' C s₀ H₀ fp) h)
 exact PE.imp (AA (g:=ur X tgt) (tc:=tPT0 X.K fc) (te:=tP0 X.K fe) hc S hi (λcl C s₀ H₀ fp=>⟨hPG cl C s₀ H₀ fp,hPI cl C s₀ H₀ fp,hPE cl C s₀ H₀ fp⟩) hs) λσ H Q h=>lN h
inductive Fl where
 | nx (ρ:En) | rt (t:T) | bk (ρ:En) | ct (ρ:En)
def OO (B:Ow)(M:Mn):Ow:=λa=>B a\/M.u a
structure Ev (K:CA)(B:Ow)(M:Mn)(H:Hp)(ρ:En)(σ:L2.St):Prop where
 env:EnvM K (OO B M) M H ρ σ
 mine:∀a,M.u a->¬ B a
theorem Ev.same {K:CA}{B:Ow}{M:Mn}{H H':Hp}{ρ:En}{σ:L2.St}(h:Same H H')(e:Ev K B M H ρ σ):Ev K B M H' ρ σ:=⟨e.env.same h,e.mine⟩
theorem Ev.o {K:CA}{B:Ow}{M:Mn}{H:Hp}{ρ:En}{σ:L2.St}(e:Ev K B M H ρ σ):EnvO K (OO B M) H ρ σ:=⟨M,e.env⟩
def PostF (X:Cx)(B P:Ow)(H:Hp)(r:Rs Fl)(D:Ends):Prop:=match r with
 | .ok (.nx ρ')=> ∀σ' H' M',SameO P H H'->Ev X.K B M' H' ρ' σ'->(∀a,M'.u a->P a\/Nw X.K H a)->D.nx σ' H'
 | .ok (.rt t)=> ∀v H',SameO P H H'->Rep X.K B H' t v->D.rt v H'
 | .ok (.bk ρ')=> ∀σ' H' M',SameO P H H'->Ev X.K B M' H' ρ' σ'->(∀a,M'.u a->P a\/Nw X.K H a)->D.bk σ' H'
 | .ok (.ct ρ')=> ∀σ' H' M',SameO P H H'->Ev X.K B M' H' ρ' σ'->(∀a,M'.u a->P a\/Nw X.K H a)->D.ct σ' H'
 | .err c=>XA X P H c
 | .bad=>False
def Bw (X:Cx)(F:En->Rs Fl):TS:=λD σ H=> ∃ρ B M,Ev X.K B M H ρ σ/\PostF X B M.u H (F ρ) D
abbrev uh (X:Cx)(s:Stmt)(F:En->Rs Fl):Prop:=PS X s (Bw X F)
abbrev iQ (X:Cx)(s:List Stmt)(F:En->Rs Fl):Prop:=PSs X s (Bw X F)
theorem PostF.later {B P P1:Ow}{H H1:Hp}{r:Rs Fl}{D:Ends}(h:PostF X B P H r D)(s:SameO P H H1)(sub:∀a,P1 a->P a\/Nw X.K H a):PostF X B P1 H1 r D:=by
 have back:∀a,P1 a\/Nw X.K H1 a->P a\/Nw X.K H a:=λa z=>z.elim (sub a) (lD s)
 cases r with
 | bad=>exact h
 | err c=>exact XA.later h s sub
 | ok f=>
  cases f with
  | nx ρ'=>exact λσ' H' M' s' E' o'=>h σ' H' M' (s.trans s' sub) E' λa z=>back a (o' a z)
  | rt t=>exact λv H' s' r=>h v H' (s.trans s' sub) r
  | bk ρ'=>exact λσ' H' M' s' E' o'=>h σ' H' M' (s.trans s' sub) E' λa z=>back a (o' a z)
  | ct ρ'=>exact λσ' H' M' s' E' o'=>h σ' H' M' (s.trans s' sub) E' λa z=>back a (o' a z)
theorem PostF.xa {B P:Ow}{H:Hp}{c:Str}{D:Ends}(h:PostF X B P H (.err c) D):XA X no_ H c:=XA.later (P:=P) h (λ_ _ e _=>e) λ_ z=>z.elim
def sN (ρ:En):Rs Fl:=.ok (.nx ρ)
def aL (F G:En->Rs Fl)(ρ:En):Rs Fl:=do
 let f <-F ρ
 match f with
 | .nx ρ'=>G ρ'
 | f=> .ok f
theorem ya:iQ X [] sN:=PSs.imp oZ λD σ H ⟨ρ,B,M,E,h⟩=>h σ H M (λ_ _ e _=>e) E λa z=> .inl z
theorem uV {st:Stmt}{rest:List Stmt}{F G:En->Rs Fl}(h1:uh X st F)(h2:iQ X rest G):iQ X (st::rest) (aL F G):=PSs.imp (gL h1 h2) λD σ H hh_=>by
 obtain⟨ρ,B,M,E,h⟩:=hh_;refine⟨ρ,B,M,E,?_⟩
 unfold aL at h
 cases q:F ρ with
 | bad=>rw[q]at h;exact h.elim
 | err c=>rw[q]at h;exact h
 | ok f=>
  rw[q,aF]at h
  cases f with
  | nx ρ'=>exact λσ' H' M' s' E' o'=>⟨ρ',B,M',E',h.later s' o'⟩
  | rt t=>exact h
  | bk ρ'=>exact h
  | ct ρ'=>exact h
theorem x9 {st:Stmt}{F:En->Rs Fl}(h:uh X st F):iQ X [st] F:=dH h
def aS (f:En->Rs T)(ρ:En):Rs Fl:=do
 let t <-f ρ
 .ok (.rt t)
theorem x8 (ha:cq X a fa):uh X (.Return (some a) pos) (aS fa):=PS.imp (fE ha) λD σ H hh_=>by
 obtain⟨ρ,B,M,E,h⟩:=hh_;refine⟨ρ,OO B M,E.o,?_⟩
 unfold aS at h
 cases q:fa ρ with
 | bad=>rw[q]at h;exact h.elim
 | err c=>rw[q]at h;exact PostF.xa h
 | ok t=>
  rw[q,aF]at h;exact λH' s v r=>h v H' (SameO.of s) (r.less λ_ z=> .inl z)
def gK (f:En->Rs Bool)(F G:En->Rs Fl)(ρ:En):Rs Fl:=do
 let k <-f ρ
 if k then F ρ else G ρ
theorem Ag {f:En->Rs Bool}{A B:List Stmt}{F G:En->Rs Fl}(hc:ug X c f)(ha:iQ X A F)(hb:iQ X B G):uh X (.If c A B pos) (gK f F G):=PS.imp (w4 hc ha hb) λD σ H hh_=>by
 obtain⟨ρ,B,M,E,h⟩:=hh_;refine⟨ρ,OO B M,E.o,?_⟩
 unfold gK at h
 cases q:f ρ with
 | bad=>rw[q]at h;exact h.elim
 | err c=>rw[q]at h;exact PostF.xa h
 | ok k=>
  rw[q,aF]at h;intro H' s
  have E':Ev X.K B M H' ρ σ:=E.same s
  cases k with
  | true=>refine L2.iteT ?_;exact⟨ρ,B,M,E',PostF.later (by simpa using h) (SameO.of s) λa z=> .inl z⟩
  | false=>refine L2.iteF ?_;exact⟨ρ,B,M,E',PostF.later (by simpa using h) (SameO.of s) λa z=> .inl z⟩
def cH (f:En->Rs T)(g:T->En->Rs En)(ρ:En):Rs Fl:=do
 let t <-f ρ
 match g t ρ with
 | .ok ρ'=> .ok (.nx ρ')
 | _=> .bad
theorem nU {B:Ow}{M:Mn}{ρ:En}{σ:L2.St}{H:Hp}{D:Ends}{g:T->En->Rs En}{f:En->Rs T}(E:Ev X.K B M H ρ σ)(h:PostF X B M.u H (cH f g ρ) D):rJ (tP X f) (ur X g) D σ H:=by
 refine⟨ρ,OO B M,E.o,?_⟩
 unfold cH at h
 cases q:f ρ with
 | bad=>rw[q]at h;exact h.elim
 | err c=>rw[q]at h;exact PostF.xa h
 | ok t=>
  rw[q,aF]at h;intro H' s v r;refine⟨ρ,OO B M,M,t,E.env.same s,r,?_⟩
  cases q2:g t ρ with
  | bad=>rw[q2]at h;exact h.elim
  | err c=>rw[q2]at h;exact h.elim
  | ok ρ'=>
   rw[q2]at h;exact λσ' E'=>h σ' H' M (SameO.of s) ⟨E',E.mine⟩ λa z=> .inl z
theorem oO {f:En->Rs T}{σ:L2.St}{H:Hp}{Q Q':VK}(h:tP X f σ H Q)(w:∀v H',Q v H'->Q' v H'):tP X f σ H Q':=by
 obtain⟨ρ,O,E,q⟩:=h;exact⟨ρ,O,E,Post.mono q λt H' _ z v r=>w v H' (z v r)⟩
theorem Af {elt tg iter:Expr}{ifs:List Expr}{scope:Fu}{spos py:Pos}{N':List Str}{src:List (Option Nat)}{fi:En->Rs (List T)}{tgt:T->En->Rs En}{fc:En->Rs Bool}{fe:En->Rs T}(i:Nat){y:Str}
  (hc:X.calm=true) (S:LcScope X scope N' src) (hi:uA X tg iter fi)
  (block:∀cl C s₀ H₀ fp,wL (aT X scope cl N' C s₀ H₀ fp) tg tgt/\nH (aT X scope cl N' C s₀ H₀ fp) ifs (qP (aT X scope cl N' C s₀ H₀ fp) fc)/\cq (aT X scope cl N' C s₀ H₀ fp) elt fe)
  (hN:X.N.Nodup) (hiy:autoParam (X.N[i]? =some y) u_) (hy:autoParam (Loc X.env.scope y) y_) (hsw:autoParam (F9 (.ListComp elt [⟨tg,iter,ifs,0⟩] scope pos) (some (.Name y py)) spos.line X.env=pure true) u_)
  (hf:autoParam (X.fn y=true\/X.env.scope.names.lookup y=some .local) r_) (hs:autoParam (∀x,Dl iter X.env x=pure x) t_) :
  uh X (.Assign [.Name y py] (.ListComp elt [⟨tg,iter,ifs,0⟩] scope pos) spos) (cH (ej fi src tgt fc fe) (gN i)):=by
 have hPG:∀cl C s₀ H₀ fp,PG (aT X scope cl N' C s₀ H₀ fp) tg (ur X tgt):=λcl C s₀ H₀ fp=>(block cl C s₀ H₀ fp).1
 have hPI:∀cl C s₀ H₀ fp,nH (aT X scope cl N' C s₀ H₀ fp) ifs (tPT0 X.K fc):=λcl C s₀ H₀ fp pins s σ H Q I h=>(block cl C s₀ H₀ fp).2.1 pins s σ H Q I (tPT0.up (X:=aT X scope cl N' C s₀ H₀ fp) h)
 have hPE:∀cl C s₀ H₀ fp,PE (aT X scope cl N' C s₀ H₀ fp) elt (tP0 X.K fe):=λcl C s₀ H₀ fp pins s σ H Q I h=>(block cl C s₀ H₀ fp).2.2 pins s σ H Q I (tP0.up (X:=aT X scope cl N' C s₀ H₀ fp) h)
 refine PS.imp (Aw (g:=ur X tgt) (tc:=tPT0 X.K fc) (te:=tP0 X.K fe) (i:=i) hc S hi (λcl C s₀ H₀ fp=>⟨hPG cl C s₀ H₀ fp,hPI cl C s₀ H₀ fp,hPE cl C s₀ H₀ fp⟩) hN hiy hy hsw hf hs) λD σ H ⟨ρ,B,M,E,h⟩=>lN (oO (nU E h) λv H' z=> ?_)
 obtain⟨ρ',O,M',t,E',r,q⟩:=z;unfold gN at q
 split at q
 ·rename_i ρ2 e
  split at e
  ·rename_i hl
   cases e;exact q _ (E'.set hl r)
  ·cases e
 ·exact q.elim
theorem yc {tg:Expr}{g:T->En->Rs En}(ha:cq X a fa)(hg:wL X tg g)(hs:autoParam (Ju [tg] a pos.line X.env=pure false) u_)(hw:autoParam (Jv [tg] a X.env=pure none) u_)
  (h1:autoParam ((Es [tg] X.env).map (·.2)= [assign tg X.env]) u_):uh X (.Assign [tg] a pos) (cH fa g):=PS.imp (yk ha hg hs hw h1) λD σ H ⟨ρ,B,M,E,h⟩=>nU E h
def wX (f:En->Rs T)(ρ:En):Rs Fl:=do
 let _ <-f ρ
 .ok (.nx ρ)
theorem uU (ha:cq X a fa)(hs:autoParam (F9 a none pos.line X.env=pure false) u_):uh X (.Expr a pos) (wX fa):=PS.imp (vj ha hs) λD σ H hh_=>by
 obtain⟨ρ,B,M,E,h⟩:=hh_;refine⟨ρ,OO B M,E.o,?_⟩
 unfold wX at h
 cases q:fa ρ with
 | bad=>rw[q]at h;exact h.elim
 | err c=>rw[q]at h;exact PostF.xa h
 | ok t=>
  rw[q,aF]at h;exact λH' s v r=>h σ H' M (SameO.of s) (E.same s) λa z=> .inl z
def cN (g:T->En->Rs En)(F:En->Rs Fl):List T->En->Rs Fl
 | [],ρ=> .ok (.nx ρ)
 | t::r,ρ=>do
  let ρ1 <-g t ρ
  let f <-F ρ1
  match f with
  | .nx ρ2=>cN g F r ρ2
  | .ct ρ2=>cN g F r ρ2
  | .bk ρ2=> .ok (.nx ρ2)
  | .rt t=> .ok (.rt t)
def jk (fi:En->Rs (List T))(g:T->En->Rs En)(F:En->Rs Fl)(ρ:En):Rs Fl:=do
 let ts <-fi ρ
 match cN g F ts ρ with
 | .ok f=> .ok f
 | _=> .bad
theorem jz {α:Type}{t:Sem α}{Q:α->Cz->Prop}{s:Cz}{E:CB->Cz->Prop}{P:C4}{w:Du}{A:Dj}(h:wpAny (model P w) A t Q (λ_ _=>False) s):wpAny (model P w) A t Q E s:=DP h (λ_ _ q=>q) λ_ _ z=>z.elim
theorem vi {tg iter:Expr}{body:List Stmt}{wi:TI}{g:TG}{tb:TS}{pos:Pos}(hc:X.calm=true)(hi:PI X tg iter wi)(hg:PG X.nox tg g)(hb:PSs X.nox body tb)
  (hs:autoParam (∀x,Dl iter X.env x=pure x) t_):PS X (.For tg iter body [] pos) (tFor wi g tb):=by
 intro pins s σ H D I h;refine wpAny_For (bF (hi pins s σ H _ I h) λv s1 h1=>bF h1 λitv s2 h2=> ?_) hs
 obtain⟨it,fp,tn,J,H2,e,I2,T,st2,f2,W,⟨m0,w0⟩,turn⟩:=h2;subst e
 have stat:∀{H':Hp},(∀b∈fp,H' b=none)->∀b∈fp,iU X pins H' b:=λhn b hb=>⟨hn b hb,(f2 b hb).2⟩
 refine codeAny_forLoop_any (λn s'=> ∃i σ' H',Inv X pins σ' H' s'/\tn i s'.heap/\(∀b∈fp,H' b=none)/\W i n σ' H') ?_ m0 ⟨0,σ,H2,I2,st2,λb hb=>(f2 b hb).1,w0⟩
 rintro n s3 ⟨i,σ3,H3,I3,st3,fr3,w3⟩
 rcases turn i n σ3 H3 w3 with⟨stop,qn⟩ | ⟨go,N,hN,step⟩
 ·refine jz (bF (T.done X.nox rfl rfl rfl hc i pins s3 σ3 H3 _ (I3.BM _) (stat fr3) st3 stop) λr s4 ⟨hr,I4⟩=> ?_)
  subst hr;exact FC ⟨σ3,H3,I4.BM _,qn⟩
 ·refine jz (bF (T.item X.nox rfl rfl rfl hc i pins s3 σ3 H3 _ (I3.BM _) (stat fr3) st3 go) λr s4 ⟨u,hr,h4⟩=> ?_)
  subst hr;refine jz (bF h4 λ_ s5 hh_=> ?_)
  obtain⟨x,H5,I5,r5,y5,st5,fr5⟩:=hh_
  have I5':=Inv.pinned (X:=X.nox) I5 (stat fr5) (T.obj _ _ st5);refine jz (bF (hg _ s5 σ3 H5 x u _ I5' r5 (step x H5 y5)) λ_ s6 hh_=> ?_)
  obtain⟨σ6,H6,I6,q6⟩:=hh_;refine jz (bF (hb _ s6 σ6 H6 _ I6 q6) λf s7 q7=> ?_)
  have again:∀{σ7:L2.St} {H7:Hp},Inv X.nox (pins++ig fp s5.heap) σ7 H7 s7->N σ7 H7->∃m,m<n/\∃i σ' H',Inv X pins σ' H' s7/\tn i s7.heap/\(∀b∈fp,H' b=none)/\W i m σ' H':=λ{σ7 H7} I7 n7=>by
   obtain⟨m',hm,w7⟩:=hN σ7 H7 n7;refine⟨m',hm,i+1,σ7,H7,(Inv.BS (X:=X.nox) I7).BM _,T.keep _ _ _ st5 λb hb o e=>(I7.pin (b,o) (C2 _ (C2 _ (dh hb e)))).1,λb hb=> ?_,w7⟩
   obtain⟨o,e,d⟩:=T.obj _ _ st5 b hb;exact(I7.pin (b,o) (C2 _ (C2 _ (dh hb e)))).2.1
  cases f with
  | next=>obtain⟨σ7,H7,I7,n7⟩:=q7;exact again I7 n7
  | cont=>obtain⟨σ7,H7,I7,n7⟩:=q7;exact again I7 n7
  | brk=>obtain⟨σ7,H7,I7,q7⟩:=q7;exact⟨σ7,H7,(Inv.BS (X:=X.nox) I7).BM _,q7⟩
  | ret v=>obtain⟨x7,σ7,H7,I7,r7,q7⟩:=q7;exact⟨x7,σ7,H7,(Inv.BS (X:=X.nox) I7).BM _,r7,q7⟩
theorem yb {tg iter:Expr}{body:List Stmt}{fi:En->Rs (List T)}{g:T->En->Rs En}{F:En->Rs Fl}(hc:X.calm=true)(hi:uA X tg iter fi)(hg:wL X.nox tg g)(hb:iQ X.nox body F)
  (hs:autoParam (∀x,Dl iter X.env x=pure x) t_):uh X (.For tg iter body [] pos) (jk fi g F):=PS.imp (vi hc hi hg hb hs) λD σ H hh_=>by
 obtain⟨ρ,B,M,E,h⟩:=hh_;refine⟨ρ,OO B M,E.o,?_⟩
 unfold jk at h
 cases q:fi ρ with
 | bad=>rw[q]at h;exact h.elim
 | err c=>rw[q]at h;exact PostF.xa h
 | ok ts=>
  rw[q,aF]at h
  cases qq:cN g F ts ρ with
  | bad=>rw[qq]at h;exact h.elim
  | err c=>rw[qq]at h;exact h.elim
  | ok fin=>
  rw[qq]at h;intro H1 s1 J hJ
  have E1:Ev X.K B M H1 ρ σ:=E.same s1
  have h1:PostF X B M.u H1 (.ok fin) D:=PostF.later h (SameO.of s1) λa z=> .inl z
  refine⟨λi m σ' H'=>m=ts.length - i/\i<=ts.length/\SameO M.u H1 H'/\∃ρ' M',Ev X.K B M' H' ρ' σ'/\(∀a,M'.u a->M.u a\/Nw X.K H1 a)/\cN g F (ts.drop i) ρ'= .ok fin,
   ⟨ts.length,by omega,Ey _,λ_ _ e _=>e,ρ,M,E1,λa z=> .inl z,by simpa using qq⟩,?_⟩
  rintro i m σ' H' ⟨rfl,hi',sm,ρ',M',E',ow,hl⟩
  have it:=hJ M.u (OO B M') (λa z=> .inl (.inr z)) (λa z=>z.elim (λw=> .inl (.inl w)) λw=>(ow a w).elim (λy=> .inl (.inr y)) .inr) i H' sm (λa z=>(E'.env.trk a z).some)
  by_cases hlt:i<ts.length
  ·have hti:ts[i]? =some ts[i]:=by simp
   obtain⟨go,yl⟩:=it.2 ts[i] hti;rw[FP hlt]at hl;unfold cN at hl;refine .inr ⟨go,λσ2 H2=> ∃m',m'<ts.length - i/\(m'=ts.length - (i+1)/\i+1<=ts.length/\SameO M.u H1 H2/\∃ρ2 M2,Ev X.K B M2 H2 ρ2 σ2/\(∀a,M2.u a->M.u a\/Nw X.K H1 a)/\cN g F (ts.drop (i+1)) ρ2= .ok fin),λσ2 H2 z=>z,λx Hc y=> ?_⟩
   obtain⟨sc,rx⟩:=yl x Hc y;refine⟨ρ',OO B M',M',ts[i],E'.env.same sc,rx,?_⟩
   cases e1:g ts[i] ρ' with
   | bad=>rw[e1]at hl;cases hl
   | err cc=>rw[e1]at hl;cases hl
   | ok ρ1=>
    rw[e1,aF]at hl;intro σ1 Eg
    have E2:Ev X.K B M' Hc ρ1 σ1:=⟨Eg,E'.mine⟩;refine⟨ρ1,B,M',E2,?_⟩
    have smc:SameO M.u H1 Hc:=λb o e n=>sc _ _ (sm b o e n)
    have onward:∀{σ3:L2.St} {H3:Hp} {ρ3:En} {M3:Mn},SameO M'.u Hc H3->Ev X.K B M3 H3 ρ3 σ3->(∀a,M3.u a->M'.u a\/Nw X.K Hc a)->cN g F (ts.drop (i+1)) ρ3= .ok fin →
      ∃m',m'<ts.length - i/\(m'=ts.length - (i+1)/\i+1<=ts.length/\SameO M.u H1 H3/\∃ρ2 M2,Ev X.K B M2 H3 ρ2 σ3/\(∀a,M2.u a->M.u a\/Nw X.K H1 a)/\cN g F (ts.drop (i+1)) ρ2= .ok fin):=
     λ{σ3 H3 ρ3 M3} s3 E3 o3 p3=>⟨_,by omega,rfl,hlt,smc.trans s3 ow,ρ3,M3,E3,λa z=>(o3 a z).elim (ow a) (lD smc),p3⟩
    cases e2:F ρ1 with
    | bad=>rw[e2]at hl;cases hl
    | err cc=>rw[e2]at hl;cases hl
    | ok f=>
     rw[e2,aF]at hl
     cases f with
     | nx ρ2=>exact λσ3 H3 M3 s3 E3 o3=>onward s3 E3 o3 hl
     | ct ρ2=>exact λσ3 H3 M3 s3 E3 o3=>onward s3 E3 o3 hl
     | bk ρ2=>
      cases hl
      exact λσ3 H3 M3 s3 E3 o3=>h1 σ3 H3 M3 (smc.trans s3 ow) E3 λa z=>(o3 a z).elim (ow a) (lD smc)
     | rt t=>
      cases hl;exact λv H3 s3 r=>h1 v H3 (smc.trans s3 ow) r
  ·refine .inl ⟨it.1 (by omega),?_⟩
   have hi2:i=ts.length:=by omega
   subst hi2;rw[Kk]at hl;cases hl;exact h1 σ' H' M' sm E' ow
end
def a0 (F:En->Rs Fl)(ρ:En):Rs T:=do
 let f <-F ρ
 match f with
 | .nx _=> .ok .non
 | .rt t=> .ok t
 | _=> .bad
def az (n:Nat)(ts:List T):En:=ts.map Sl.va++C6 (n - ts.length) Sl.em
theorem p8 {n:Nat}{ts:List T}{i:Nat}{o:OT}(e:(az n ts)[i]? =some (.ow o)):False:=by
 unfold az at e
 by_cases hi:i<ts.length
 ·rw[Et (by simpa using hi),Dn,CP hi]at e
  cases e
 ·rw[EK (by simpa using hi),Ff]at e
  split at e <;> cases e
theorem fR {K:CA}{O:Ow}{H:Hp}{N:List Str}{ts:List T}{vs:List V}(r:Reps K O H ts vs)(hl:ts.length<=N.length)(trk:∀a,O a->Mtb H a):Ev K O noM H (az N.length ts) (start N vs):=by
 have hlen:=r.length
 have sub:∀a,OO O noM a->O a:=λa z=>z.elim id λ⟨_,w⟩=>w.elim
 refine⟨⟨by unfold az L2.start;simp;omega,λi t e=> ?_,λi o e=>(p8 e).elim,λ_ _ z=>z.elim,λ_ _ _ z=>z.elim,λa z=>trk a (sub a z)⟩,λa ⟨_,z⟩=>z.elim⟩
 unfold az at e;unfold L2.start
 by_cases hi:i<ts.length
 ·rw[Et (by simpa using hi),Dn,CP hi]at e
  have e':ts[i] =t:=by injection e with e;injection e
  obtain⟨v,e1,e2⟩:=r.get (i:=i) (t:=t) (by rw[<-e'];simp)
  refine⟨v,?_,e2.less sub⟩
  rw[Et (by simp;omega),Dn,e1];rfl
 ·rw[EK (by simpa using hi),Ff]at e
  split at e <;> cases e
section
variable {P:C4}{w:Du}{K:CA}{mg:Str->Option CB}{base:Heap}
theorem A6 {x qual:Str}{st:Stmt}{f:Addr}{fd:DB}{N ps:List Str}{k n:Nat}{g:List T->Rs T}(Fn:L2.Fun K x qual st f fd)(S:bq N ps (aj st))(hn:ps.length=n)
  (hbody:∀(cdv:CB) (A:Dj) (outer:List Env) (s:Cz) (H:Hp) (E:XK),Room k (A.deeper (envOfC qual (aj st) s.heap.objs.size f cdv)) →
   ∃F,iQ (dN CX0 P w K mg base N qual (aj st) f cdv A outer s H E).nox (ba st) F/\∀ts,ts.length=n->∀t,g ts= .ok t->a0 F (az N.length ts)= .ok t):qL P w K mg base CX0 (k+1) f fd ps (spP K n g):=by
 have hpl:ps.length<=N.length:=by have:=congrArg Fy S.pre;rw[EM]at this;omega
 refine Fn.ok S (λvs H Q E h=> ?_) (λcdv A outer s H vs Q E hr h=> ?_)
 ·obtain⟨ts,O,r,_,hl,_⟩:=h
  rw[<-r.length,hl,hn]
 ·obtain⟨ts,O,r,trk,hl,h⟩:=h
  obtain⟨F,hF,hv⟩:=hbody cdv A outer s H E hr;refine⟨_,hF,az N.length ts,O,noM,fR r (by omega) trk,?_⟩
  have no:∀a,¬noM.u a:=λa ⟨_,z⟩=>z
  cases q:g ts with
  | bad=>rw[q]at h;exact h.elim
  | err c=>rw[q]at h;exact h.elim
  | ok t=>
   rw[q]at h
   have hb:=hv ts hl t q;unfold a0 at hb
   cases q2:F (az N.length ts)with
   | bad=>rw[q2]at hb;cases hb
   | err c=>rw[q2]at hb;cases hb
   | ok fl=>
    rw[q2,aF]at hb
    have sameOf:∀H',SameO noM.u H H'->Same H H':=λH' s b o e=>s b o e (no b)
    cases fl with
    | nx ρ'=>cases hb;exact λσ' H' M' s' E' o'=>h .non H' (sameOf H' s') Rep.B9
    | rt t'=>cases hb;exact λv H' s' r'=>h v H' (sameOf H' s') r'
    | bk ρ'=>cases hb
    | ct ρ'=>cases hb
end
end Tr
namespace Enu
open PySem
open AutoSeq1 (wpAny_loadPart')
section
variable {prog:C4}{w:Du}{A:Dj}{E:CB->Cz->Prop}{s:Cz}
theorem uJ {it tt:Addr}{k:Nat}{its:Array CB}{x:CB}{Q:CB->Cz->Prop}(hi:s.heap.IsTupleIter it tt k)(ht:s.heap.IsTuple tt its)(hx:its[k]? =some x)
  (hQ:∀h',h'.IsTupleIter it tt (k+1)->Fb it s.heap h'->Q x { s with heap:=h' }):wpAny (model prog w) A (EU (.ref it)) Q E s:=by
 obtain⟨ob,g1,g2,g3⟩:=id hi;obtain⟨ot,k1,_,m,k3⟩:=ht;unfold EU;refine Cy (DF (name:=C0 "__next__") hi.typeIs EL (DY EL hi.typeIs GM ?_ (Gz _)))
 show wpAny (model prog w) _ (field (.ref it) 0 >>= _) _ _ s
 refine Cy (DV g1 g3 (x:=.ref tt) rfl ?_)
 show wpAny (model prog w) _ (if (Df tt == C7)=true then _ else _) _ _ s
 rw[if_neg (show ¬((Df tt == C7)=true)by exact C1)]
 show wpAny (model prog w) _ (field (.ref it) 1 >>= _) _ _ s
 refine Cy (DV g1 g3 (x:=.int k 0) rfl ?_)
 show wpAny (model prog w) _ (seqItems? (.ref tt) >>= _) _ _ s
 refine Cy (wpAny_seqItems k1 k3 ?_)
 simp only[hx,Eo];refine Cy (Fp g1 g3 (by simp) (CD ⟨x,rfl,CD (hQ _ ?_ (EE ..))⟩))
 refine⟨_,DR _ g1 (EO (DM g3 _)),(Hs ..).trans g2,?_⟩
 rw[DM g3];simp[rawInt]
theorem tupStop {it tt:Addr}{k:Nat}{its:Array CB}{Q:CB->Cz->Prop}(hh:A.handled=none)(hi:s.heap.IsTupleIter it tt k)(ht:s.heap.IsTuple tt its)(hx:its[k]? =none)
  (hE:∀h' e,KC it s.heap h'->(∃o,h'.get? e=some o/\o.cls= .type "StopIteration")->E (.ref e) { s with heap:=h' }):wpAny (model prog w) A (EU (.ref it)) Q E s:=by
 obtain⟨ob,g1,g2,g3⟩:=id hi;obtain⟨ot,k1,_,m,k3⟩:=ht;unfold EU;refine Cy (DF (name:=C0 "__next__") hi.typeIs EL (DY EL hi.typeIs GM ?_ (Gz _)))
 show wpAny (model prog w) _ (field (.ref it) 0 >>= _) _ _ s
 refine Cy (DV g1 g3 (x:=.ref tt) rfl ?_)
 show wpAny (model prog w) _ (if (Df tt == C7)=true then _ else _) _ _ s
 rw[if_neg (show ¬((Df tt == C7)=true)by exact C1)]
 show wpAny (model prog w) _ (field (.ref it) 1 >>= _) _ _ s
 refine Cy (DV g1 g3 (x:=.int k 0) rfl ?_)
 show wpAny (model prog w) _ (seqItems? (.ref tt) >>= _) _ _ s
 refine Cy (wpAny_seqItems k1 k3 ?_)
 simp only[hx,Eo];refine Cy (F1 (Cy (Fp g1 g3 (by simp) ?_)))
 show wpAny (model prog w) _ (newExc (.type "StopIteration") [] >>= _) _ _ _
 refine Cy ?_
 simp only[newTuple,newExc];refine Cy (De ?_ (by size_fits))
 refine Cy (m:=Hh _ _) (FU (a:=C7) (by first | (simp only[Hh];rfl) | rfl) ?_)
 refine De ?_ (by size_fits)
 simp only[raiseNew];refine Cy (wpAny_handled ?_)
 first | rw[hh] | rw[show A.in1.handled=none from hh]
 refine Cy (CD (wpAny_throw ?_))
 refine hE _ _ (((EE ..).extBut.push _).push _) ⟨_,CZ _ rfl,rfl⟩
end
theorem tupDraws {prog:C4}{w:Du}{A:Dj}(hh:A.handled=none)(it tt:Addr)(hne:tt≠it)(its:Array CB) :
  Draws prog w A it [it,tt] its.size (λi v=>its[i]? =some v) (λi h=>h.IsTupleIter it tt i/\h.IsTuple tt its) where
 live:=λ_ _ st=>by obtain⟨o,ho,_⟩:=st.1;exact⟨o,ho⟩
 frame:=λ_ _ _ st hk=>by
  obtain⟨⟨o,e,r⟩,⟨o',e',r'⟩⟩:=st;exact⟨⟨o,hk it (by simp) o e,r⟩,⟨o',hk tt (by simp) o' e',r'⟩⟩
 item:=λi s Q E hi st hQ=>by
  refine uJ st.1 st.2 (x:=its[i]) (by simp[hi]) λh' hit' hs'=> ?_
  obtain⟨o',e',r'⟩:=st.2;exact hQ _ h' s.toks (by simp[hi]) ⟨hit',⟨o',(hs'.2 tt hne).trans e',r'⟩⟩ hs'
 done:=λs Q E st hE=>tupStop hh st.1 st.2 (by simp) hE
theorem newT (l:Addr)(items:Array CB)(n:Nat)(dct:Option Addr)(sl:Array (Option CB)) :
  Meets (Builtin.«enumerate.__new__» ⟨[.type "enumerate",.ref l],[]⟩) (λ_ R s=>s.heap.get? l=some { cls:=.type "tuple",dict:=dct,data:=.seq items n,slots:=sl } ∧
   R (.ok (.ret (.ref (s.heap.push { cls:=.type "tuple_iterator",data:=.fields #[.ref l,.int 0 0] }).objs.size)))
    { s with heap:=(s.heap.push { cls:=.type "tuple_iterator",data:=.fields #[.ref l,.int 0 0] }).push { cls:=.type "enumerate",data:=.fields #[.none,.bool false,.ref s.heap.objs.size,rawInt 0,.none,.none] } }):=
 .of_wp λprog w A R s h=>by
  obtain⟨hp,g,d,tk,os⟩:=s;obtain⟨hl,h⟩:=h
  have hsub:=sub_enumerate
  have hT:Heap.IsTuple (Shared.heap ⟨hp,g,d,tk,os⟩) l items:=⟨_,hl,rfl,n,rfl⟩
  wp_walk using E8 hl
  refine wpAny_stack_any λst=>CD ?_
  split
  ·rename_i c _ _ _ _ _
   cases (c == Eh "enumerate")
   ·wp_walk using E8 hl,Ga hT
    exact⟨_,rfl,h⟩
   ·wp_walk using E8 hl,Ga hT
    exact⟨_,rfl,h⟩
  ·wp_walk using E8 hl,Ga hT
   exact⟨_,rfl,h⟩
theorem callT {prog:C4}{w:Du}{A:Dj}{E:CB->Cz->Prop}{s:Cz}{l:Addr}{items:Array CB}{Q:CB->Cz->Prop}(hL:s.heap.IsTuple l items)
  (h:∀h',IsEnum h' (s.heap.objs.size+1) s.heap.objs.size 0 .none->h'.IsTupleIter s.heap.objs.size l 0->h'.objs.size=s.heap.objs.size+2 →
   (∀b o,s.heap.get? b=some o->h'.get? b=some o)->Q (.ref (s.heap.objs.size+1)) { s with heap:=h' }):wpAny (model prog w) A (call (.type "enumerate") [.ref l]) Q E s:=by
 obtain⟨⟨cc,dc,dd,ss⟩,hl,hc,n,hd⟩:=hL
 replace hc:cc= .type "tuple":=hc
 replace hd:dd= .seq items n:=hd
 subst hc hd;refine callType_new F.called_enumerate (by decide) (F.typeCall_enumerate_1 _) (F.newCall_enumerate_1 _) (λobj=>F.args_object_init_2 obj _) F.entry_enumerate_new (newT l items n dc ss) ⟨hl,?_⟩
 have hz:(s.heap.push { cls:=.type "tuple_iterator",data:=.fields #[.ref l,.int 0 0] }).objs.size=s.heap.objs.size+1:=Eu ..
 show _/\_
 rw[hz]
 have he:IsEnum ((s.heap.push { cls:=.type "tuple_iterator",data:=.fields #[.ref l,.int 0 0] }).push
   { cls:=.type "enumerate",data:=.fields #[.none,.bool false,.ref s.heap.objs.size,rawInt 0,.none,.none] }) (s.heap.objs.size+1) s.heap.objs.size 0 .none:=by
  have q:=CZ (s.heap.push { cls:=.type "tuple_iterator",data:=.fields #[.ref l,.int 0 0] })
   (o:={ cls:=.type "enumerate",data:=.fields #[.none,.bool false,.ref s.heap.objs.size,rawInt 0,.none,.none] }) rfl
  rw[hz]at q;exact q
 refine⟨⟨_,he,rfl⟩,h _ he ⟨_,CG _ (CZ _ rfl),rfl,rfl⟩ (by rw[Eu,hz]) λb o x=>CG _ (CG _ x)⟩
end Enu
namespace L2
open PySem PySem.Spec PyProof.Rows
section
variable {X:Cx}{pins:List (Addr×Obj)}{σ:L2.St}{H:Hp}{s:Cz}{h':Heap}
theorem Inv.Ca {t':Nat}{fp:List Addr}{Tp:Addr}{xs:List V}(I:Inv X pins σ H s)(hf:∀b∈fp,iU X pins H b)(k:∀b o,b∉fp->s.heap.get? b=some o->h'.get? b=some o)
  (ht:∀b∈fp,∃o,h'.get? b=some o) (hT:s.heap.objs.size<=Tp) (new:ObjOk X.prog X.w (dE H Tp (.tup xs)) h' Tp (.tup xs)):Inv X pins σ (dE H Tp (.tup xs)) { s with heap:=h',toks:=t' }:=by
 have hn:H Tp=none:=I.hok.fresh hT
 have oa:∀b o,s.heap.get? b=some o->b≠Tp:=λb o e=>Dg (CS (CN e) hT)
 have nf:∀b u,H b=some u->b∉fp:=λb u e z=>by rw[(hf b z).1]at e;cases e
 refine I.step (g':=s.gens) (d':=s.drawn) (ch:=fp) (λb hb=>⟨(hf b hb).2.2.2.1,(hf b hb).2.1,(hf b hb).2.2.2.2.1,(hf b hb).2.2.2.2.2⟩) (λb o _ _ hc e _=>k b o hc e) (λb o _ _ hc e _=>⟨o.slots,k b o hc e⟩)
  (λb o _ e n=>by rw[aD (oa b o e)];exact n) (λb o hc e=>⟨o,k b o hc e⟩) (λb ys e=>by rw[aD (bt e hn)];exact e) (λb o u e=>by rw[aD (bt e hn)];exact e)
  (λb ps e=>⟨#[],by rw[aD (bt e hn),e];simp⟩) (λm hm=> ?_) (λb u e=> ?_) I.bare
 ·obtain⟨o,es,ep,ho,r⟩:=hm
  exact⟨o,es,ep,k _ o (λz=>(hf _ z).2.1 rfl) ho,r⟩
 ·by_cases hb:b=Tp
  ·subst hb;rw[aU]at e;cases e;exact new
  ·rw[aD hb]at e
   refine(I.hok b u e).BW (λc v hc q=>k c v ?_ q) (λc q=>by rw[aD (bt q hn)];exact q) λc ys q=>by rw[aD (bt q hn)];exact q
   rcases hc with z | z
   ·rw[z];exact nf b u e
   ·exact nf c _ z
theorem Inv.Cb {t':Nat}{fp:List Addr}(I:Inv X pins σ H s)(hf:∀b∈fp,iU X pins H b)(k:∀b o,b∉fp->s.heap.get? b=some o->h'.get? b=some o):Inv X pins σ H { s with heap:=h',toks:=t' }:=by
 have nf:∀b u,H b=some u->b∉fp:=λb u e z=>by rw[(hf b z).1]at e;cases e
 refine I.step (g':=s.gens) (d':=s.drawn) (ch:=fp) (λb hb=>⟨(hf b hb).2.2.2.1,(hf b hb).2.1,(hf b hb).2.2.2.2.1,(hf b hb).2.2.2.2.2⟩) (λb o _ _ hc e _=>k b o hc e) (λb o _ _ hc e _=>⟨o.slots,k b o hc e⟩)
  (λb o _ e n=>n) (λb o hc e=>⟨o,k b o hc e⟩) (λb ys e=>e) (λb o u e=>e)
  (λb ps e=>⟨#[],by rw[e];simp⟩) (λm hm=> ?_) (λb u e=> ?_) I.bare
 ·obtain⟨o,es,ep,ho,r⟩:=hm
  exact⟨o,es,ep,k _ o (λz=>(hf _ z).2.1 rfl) ho,r⟩
 ·refine(I.hok b u e).BW (λc v hc q=>k c v ?_ q) (λc q=>q) λc ys q=>q
  rcases hc with z | z
  ·rw[z];exact nf b u e
  ·exact nf c _ z
end
def xv (K:CA)(H:Hp)(a:Addr)(tt:Bool)(xs:List V):Prop:=if tt then SqT K H a xs else SqL K H a xs
def BG (K:CA)(a:Addr)(tt:Bool):It:=
 ⟨λi H=> ∃xs x,xv K H a tt xs/\xs[i]? =some x,λi H x H'=> ∃p v,x= .ref p/\H p=none/\H'=dE H p (.tup [.int (i:Nat),v])/\∀xs,xv K H a tt xs->xs[i]? =some v,λi H=> ∃xs,xv K H a tt xs/\xs.length<=i⟩
def itAt (tt:Bool)(h:Heap)(it a:Addr)(i:Nat):Prop:=if tt then h.IsTupleIter it a i else h.IsListIter it a i
theorem itAt.obj {tt:Bool}{h:Heap}{it a:Addr}{i:Nat}(st:itAt tt h it a i):∃o,h.get? it=some o/\∀v,o.data≠ .cell v:=by
 cases tt with
 | true=>obtain⟨o,e,c,d⟩:=(show h.IsTupleIter it a i from st);exact⟨o,e,λv z=>by rw[d]at z;cases z⟩
 | false=>obtain⟨o,e,c,d⟩:=(show h.IsListIter it a i from st);exact⟨o,e,λv z=>by rw[d]at z;cases z⟩
theorem itAt.keep {tt:Bool}{h h':Heap}{it a:Addr}{i:Nat}(st:itAt tt h it a i)(k:∀o,h.get? it=some o->h'.get? it=some o):itAt tt h' it a i:=by
 cases tt with
 | true=>obtain⟨o,e,r⟩:=(show h.IsTupleIter it a i from st);exact(show h'.IsTupleIter it a i from⟨o,k o e,r⟩)
 | false=>obtain⟨o,e,r⟩:=(show h.IsListIter it a i from st);exact(show h'.IsListIter it a i from⟨o,k o e,r⟩)
theorem p7 {P:C4}{w:Du}{K:CA}{elts:List Expr}{kk:Nat}{pos:Pos}(tt:Bool)(a e it:Addr)(hei:e≠it) :
  uf P w K (.Tuple elts kk pos) (BG K a tt) [e,it] e (λi h=>(∃old,IsEnum h e it i old)/\itAt tt h it a i) where
 mem:=by simp
 obj:=λi h st b hb=>by
  obtain⟨⟨old,he⟩,hi⟩:=st;rcases CO.mp hb with rfl | hb
  ·exact⟨_,he,λv z=>by have z':Data.fields _=Data.cell v:=z;cases z'⟩
  ·rw[C8.mp hb];exact hi.obj
 keep:=λi h h' st k=>by
  obtain⟨⟨old,he⟩,hi⟩:=st;exact⟨⟨old,k e (by simp) _ he⟩,hi.keep λo q=>k it (by simp) o q⟩
 item:=by
  intro X hP hw hK hc i pins s σ H E I hf st hg;subst hP hw hK;obtain⟨xs,x,hq,hx⟩:=hg;obtain⟨⟨old,he⟩,hi⟩:=st
  -- by what is walked
  have key:∀(its:List CB),Vals xs its->(∀ys,xv X.K H a tt ys->ys=xs)->∀(fp0:List Addr) (St:Nat->Heap->Prop),Draws X.prog X.w X.A.in1 it fp0 its.toArray.size (λi v=>its.toArray[i]? =some v) St->e∉fp0->it∈fp0->St i s.heap →
    (∀h',St (i+1) h'->itAt tt h' it a (i+1)) →
    wpAny (model X.prog X.w) X.A (pyNext (.ref e)) (λr s1=> ∃u,r=some u/\wpAny (model X.prog X.w) X.A (FD (.Tuple elts kk pos) (.ref e) u) (λ_ s2=> ∃x' H',Inv X pins σ H' s2/\RelV x' u/\(BG X.K a tt).yld i H x' H' ∧
     ((∃old,IsEnum s2.heap e it (i+1:Nat) old)/\itAt tt s2.heap it a (i+1))/\∀b∈ [e,it],H' b=none) E s1) E s:=by
   intro its rv uniq fp0 St D hef hif hst hnext;obtain⟨u,hu,ru⟩:=rv.get hx
   have hlt:i<its.toArray.size:=by
    have:=(CW.mp hu).1
    simpa using this
   have W:=WalksT.enumerateD D e hei hef hif;refine W.item i s _ _ hlt ⟨⟨old,he⟩,hst⟩ λTp vals h1 tk hPt hTsz hTup hMid hk=>⟨.ref Tp,rfl,?_⟩
   refine W.go elts kk pos i Tp { s with heap:=h1,toks:=tk } _ _ hMid λh2 hst2 hk2=> ?_
   obtain⟨t,x',hPx,hvals⟩:=hPt;subst hvals
   have hxe:x'=u:=by
    have h1':its.toArray[i]? =some x':=hPx
    have h2':its.toArray[i]? =some u:=by simpa using hu
    rw[h1']at h2';exact Dr h2'
   subst hxe
   have hTw:=W.apart i Tp h1 hMid;obtain⟨oT,eT,rT⟩:=hTup
   have eT2:h2.get? Tp=some oT:=hk2 Tp oT hTw eT
   have kAll:∀b o,b∉ [e,it]->s.heap.get? b=some o->h2.get? b=some o:=λb o hb q=>hk2 b o hb (hk b o hb q)
   obtain⟨⟨old2,he2⟩,hs2⟩:=hst2
   have hit2:=hnext h2 hs2
   have there:∀b∈ [e,it],∃o,h2.get? b=some o:=λb hb=>by
    rcases CO.mp hb with rfl | hb
    ·exact⟨_,he2⟩
    ·rw[C8.mp hb];obtain⟨o,q,_⟩:=hit2.obj;exact⟨o,q⟩
   have hn:H Tp=none:=I.hok.fresh hTsz
   have new:ObjOk X.prog X.w (dE H Tp (.tup [.int (i:Nat),x])) h2 Tp (.tup [.int (i:Nat),x]):=
    ⟨by show 2<=sizeLine;decide,[.int (i:Nat) t,x'],.cons ⟨t,rfl⟩ (.cons ru .nil),⟨oT,eT2,rT⟩⟩
   have I2:=I.Ca (t':=tk) hf kAll there hTsz new;refine⟨.ref Tp,_,I2,rfl,⟨Tp,x,rfl,hn,rfl,λys hy=>by rw[uniq ys hy];exact hx⟩,⟨⟨old2,he2⟩,hit2⟩,λb hb=> ?_⟩
   have hbT:b≠Tp:=λz=>by
    obtain⟨o,q⟩:∃o,s.heap.get? b=some o:=by
     rcases CO.mp hb with rfl | hb
     ·exact⟨_,he⟩
     ·rw[C8.mp hb];obtain⟨o,q,_⟩:=hi.obj;exact⟨o,q⟩
    exact absurd (CS (CN q) hTsz) (by rw[z];exact C9 _)
   rw[aD hbT];exact(hf b hb).1
  have hne:∀b∈ [e,it],a≠b:=λb hb z=>by
   have hb':=(hf b hb).1;rw[<-z]at hb'
   have hbs:=hf b hb
   cases tt with
   | true=>
    have hq':SqT X.K H a xs:=hq;rcases hq' with(q | ⟨o,q⟩) | ⟨o,its,n,q,_⟩
    ·rw[hb']at q;cases q
    ·rw[hb']at q;cases q
    ·rcases hbs.2.2.2.1 with z1 | z1
     ·exact I.ok.noex a o (I.ok.mod.kin a o q) (z▸z1)
     ·exact absurd (CS (CN (I.ok.bs a o (I.ok.mod.kin a o q)).1) (z▸z1)) (C9 _)
   | false=>
    have hq':SqL X.K H a xs:=hq;rcases hq' with(q | ⟨o,q⟩) | ⟨o,its,n,q,_⟩
    ·rw[hb']at q;cases q
    ·rw[hb']at q;cases q
    ·rcases hbs.2.2.2.1 with z1 | z1
     ·exact I.ok.noex a o (I.ok.mod.kin a o q) (z▸z1)
     ·exact absurd (CS (CN (I.ok.bs a o (I.ok.mod.kin a o q)).1) (z▸z1)) (C9 _)
  have hea:e≠a:=λz=>hne e (by simp) z.symm
  have hia:it≠a:=λz=>hne it (by simp) z.symm
  cases tt with
  | true=>
   have hq':SqT X.K H a xs:=hq;obtain⟨its,rv,p,hz⟩:=I.tuple hq'
   exact key its rv (λys hy=>I.BY hy hq') _ _ (Enu.tupDraws (A:=X.A.in1) (I.ok.hd hc) it a (DG hia) its.toArray) (by simp[hei,hea]) (by simp) ⟨hi,p⟩ λh' z=>z.1
  | false=>
   have hq':SqL X.K H a xs:=hq;obtain⟨its,rv,p,hz⟩:=I.list hq';exact key its rv (λys hy=>I.B2 hy hq') _ _ (Draws.list (A:=X.A.in1) (I.ok.hd hc) it a (DG hia) its.toArray) (by simp[hei,hea]) (by simp) ⟨hi,p.isList⟩ λh' z=>z.1
 done:=by
  intro X hP hw hK hc i pins s σ H E I hf st hg;subst hP hw hK;obtain⟨xs,hq,hx⟩:=hg;obtain⟨⟨old,he⟩,hi⟩:=st
  have fin:∀h',KC it s.heap h'->(none:Option CB)=none/\Inv X pins σ H { s with heap:=h' }:=λh' eb=>⟨rfl,I.Cb (t':=s.toks) hf λb o hb q=>eb b o (λz=>hb (by simp[z])) q⟩
  cases tt with
  | true=>
   have hq':SqT X.K H a xs:=hq;obtain⟨its,rv,p,hz⟩:=I.tuple hq'
   have hl:=rv.length
   have hnone:its.toArray[i]? =none:=by simp;omega
   have hT:s.TypeIs (.ref e) "enumerate":=⟨_,he,rfl⟩;unfold pyNext;refine Cy (JB (DF (name:=C0 "__next__") hT Il (DY Il hT F.entry_enumerate_next ?_ (F.args_enumerate_next_1 _))))
   show wpAny (model X.prog X.w) _ (field (.ref e) 2 >>= _) _ _ _
   refine Cy (DV he rfl (x:=.ref it) rfl ?_)
   refine Cy (Enu.tupStop (I.ok.hd hc) hi p hnone λh' x he' hx'=> ?_)
   obtain⟨o,ho,hcl⟩:=hx'
   exact Cy (HX (T:="StopIteration") (b:=true) ⟨o,ho,hcl⟩ isSubtype_stop (CD (fin h' he')))
  | false=>
   have hq':SqL X.K H a xs:=hq;obtain⟨its,rv,p,hz⟩:=I.list hq'
   have hl:=rv.length
   have hnone:its.toArray[i]? =none:=by simp;omega
   exact wpAny_pyNext_enum_end (I.ok.hd hc) he hi p.isList hnone fin
 self:=λ_ _ _ _ _ st h=>by
  obtain⟨⟨old,he⟩,_⟩:=st;exact J1 he h
section
variable {X:Cx}{elts:List Expr}{kk:Nat}{tpos:Pos}
theorem jP:Dh "enumerate" =some (.type "enumerate"):=by decide+kernel
def iEnu (K:CA)(tl:TA):TI:=λσ H R=>tl σ H λvs H1=> ∃a tt,vs= [.ref a]/\(∃xs,xv K H1 a tt xs)/\R (BG K a tt) H1
theorem vq {l:Expr}{tl:TA}{p pos:Pos}(hg:Gl X "enumerate")(hm:X.mg "enumerate" =none)(hl:PA X [l] tl)(hs:autoParam (CV [l] X.env= [(false,eval l X.env)]) u_):PI X (.Tuple elts kk tpos) (.Call (.Name "enumerate" p) [l] [] pos) (iEnu X.K tl):=by
 intro pins s σ H R I h;refine Call_ (dA I hg hm jP (ED (bF (hl pos pins s σ H _ I h) λus s1 ⟨vs,H1,I1,r1,q1⟩=> ?_) hs rfl))
 obtain⟨a,tt,e,⟨xs,hq⟩,q⟩:=q1;subst e;obtain⟨u,rfl,ru⟩:=iC r1;cases ru
 have fin:∀h',IsEnum h' (s1.heap.objs.size+1) s1.heap.objs.size 0 .none->itAt tt h' s1.heap.objs.size a 0->h'.objs.size=s1.heap.objs.size+2->(∀b o,s1.heap.get? b=some o->h'.get? b=some o) →
   wpAny (model X.prog X.w) X.A (pyIter (.ref (s1.heap.objs.size+1))) (PIE X pins σ (.Tuple elts kk tpos) R) X.xe { s1 with heap:=h' }:=λh' he hi hsz hk=>by
  refine J1 he ?_
  have I2:Inv X pins σ H1 { s1 with heap:=h' }:=I1.kept (t':=s1.toks) hk
  refine⟨s1.heap.objs.size+1,[s1.heap.objs.size+1,s1.heap.objs.size],_,_,H1,rfl,I2,p7 tt a (s1.heap.objs.size+1) s1.heap.objs.size (Nat.succ_ne_self _),⟨⟨_,he⟩,hi⟩,λb hb=> ?_,q⟩
  rcases CO.mp hb with rfl | hb
  ·exact I1.B8 (by omega) (I1.hok.fresh (by omega))
  ·rw[C8.mp hb];exact I1.B8 (CM _) (I1.hok.fresh (CM _))
 cases tt with
 | true=>
  have hq':SqT X.K H1 a xs:=hq;obtain⟨its,rv,pl,hz⟩:=I1.tuple hq'
  exact Enu.callT pl λh' he hi hsz hk=>fin h' he hi hsz hk
 | false=>
  have hq':SqL X.K H1 a xs:=hq;obtain⟨its,rv,pl,hz⟩:=I1.list hq';exact call_enumerate_list pl.isList λh' he hi hsz hk=>fin h' he hi hsz hk
end
end L2
namespace Tr
open PySem PySem.Spec PyProof.Rows L2
section
variable {X:Cx}{a:Expr}{fa:En->Rs T}{fs:En->Rs (List T)}{p pos:Pos}
def iS (f:En->Rs T)(ρ:En):Rs (List T):=do
 let x <-f ρ
 match x with
 | .lst l=> .ok l
 | .tup l=> .ok l
 | _=> .bad
theorem ye {tg:Expr}(ha:cq X a fa):uA X tg a (iS fa):=by
 intro pins s σ H R I ⟨ρ,O,E,h⟩;unfold iS at h
 cases q:fa ρ with
 | bad=>rw[q]at h;exact h.elim
 | err c=>exact oX ha pins s σ H R I ⟨ρ,O,E,by unfold iL;rw[q]at h ⊢;exact h⟩
 | ok x=>
  rw[q,aF]at h
  cases x with
  | lst l=>exact oX ha pins s σ H R I ⟨ρ,O,E,by unfold iL;rw[q];exact h⟩
  | tup l=>exact yd ha pins s σ H R I ⟨ρ,O,E,by unfold iT;rw[q];exact h⟩
  | _=>exact h.elim
def fz:Nat->List T->List T
 | _,[] => []
 | n,t::r=> .tup [.int n,t] ::fz (n+1) r
theorem kH:∀(l:List T) (n i:Nat),(fz n l)[i]? =(l[i]?).map λt=>T.tup [.int ((n+i:Nat):Int),t]
 | [],n,i=>by simp[fz]
 | t::l,n,0=>by simp[fz]
 | t::l,n,i+1=>by
  rw[fz,HL,kH l (n+1) i,HL]
  congr 2
  funext t
  congr 4
  omega
theorem kG:∀(l:List T) (n:Nat),(fz n l).length=l.length
 | [],n=>rfl
 | t::l,n=>by rw[fz,CJ,CJ,kG l]
def iE (f:En->Rs (List T))(ρ:En):Rs (List T):=do
 let xs <-f ρ
 match xs with
 | [x] =>match x.items with
  | some l=> .ok (fz 0 l)
  | none=> .bad
 | _=> .bad
theorem u9 {elts:List Expr}{kk:Nat}{tpos:Pos}(hm:X.mg "enumerate" =none)(ha:nA X [a] fs)(hg:autoParam (Gl X "enumerate") u_)(hs:autoParam (CV [a] X.env= [(false,eval a X.env)]) u_) :
  uA X (.Tuple elts kk tpos) (.Call (.Name "enumerate" p) [a] [] pos) (iE fs):=PI.imp (vq hg hm ha hs) λσ H R hh_=>by
 obtain⟨ρ,O,E,h⟩:=hh_;obtain⟨ρ1,O1,E1,h1⟩:=du E h;refine⟨ρ1,O1,E1,Post.mono h1 λts H1 s1 q vs r=> ?_⟩
 obtain⟨t',r',s',E',q'⟩:=q vs r
 split at q'
 ·rename_i x0
  obtain⟨v,rfl,rv⟩:=r'.one
  split at q'
  ·rename_i l hl
   have main:∀(aa:Addr) (tt:Bool) (ws:List V),v= .ref aa->¬ O aa->Reps X.K O H1 l ws->xv X.K H1 aa tt ws->(∀P Hc,SameO P H1 Hc->¬ P aa->xv X.K Hc aa tt ws)->¬ Nw X.K H1 aa →
     ∃a tt,[v] = [V.ref a]/\(∃xs,xv X.K H1 a tt xs)/\R (BG X.K a tt) H1:=λaa tt ws e n z sq mv nn=>by
    refine⟨aa,tt,by rw[e],⟨ws,sq⟩,q' H1 (Same.refl H1) _ λP O' hP hO i Hc hsm htr=> ?_⟩
    have hnP:¬ P aa:=λy=>(hP aa y).elim n nn
    have sqc:=mv P Hc hsm hnP;refine⟨λhi=>⟨ws,sqc,by rw[<-z.length,<-kG l 0];exact hi⟩,λt ht=> ?_⟩
    rw[kH]at ht
    cases e1:l[i]? with
    | none=>rw[e1]at ht;cases ht
    | some t0=>
     rw[e1]at ht;cases ht;obtain⟨v0,f1,f2⟩:=z.get e1;refine⟨⟨ws,v0,sqc,f1⟩,λx Hc' y=> ?_⟩
     obtain⟨pp,vv,e2,hpn,e3,hy⟩:=y
     have:=hy ws sqc;rw[f1]at this;cases this;subst e2 e3;refine⟨a7 hpn _,cW hpn (λzz=> ?_) (Reps.BP (by simpa using Rep.BU _) (Reps.BP (f2.move hP hO hsm) Reps.BV))⟩
     obtain⟨o,w⟩:=htr pp zz;rw[hpn]at w;cases w
   cases x0 with
   | tup m=>
    cases hl;obtain⟨aa,ws,e,n,qq,z⟩:=Rep.BK.mp rv
    exact main aa true ws e n z (show SqT X.K H1 aa ws from SqT.of qq) (λP Hc hsm hn=>show SqT X.K Hc aa ws from SqT.of (hsm _ _ qq hn)) λw=>by rw[w.1]at qq;cases qq
   | lst m=>
    cases hl;obtain⟨aa,ws,e,n,qq,z⟩:=Rep.BL.mp rv
    exact main aa false ws e n z (show SqL X.K H1 aa ws from SqL.of qq) (λP Hc hsm hn=>show SqL X.K Hc aa ws from SqL.of (hsm _ _ qq hn)) λw=>by rw[w.1]at qq;cases qq
   | scr m=>
    cases hl;unfold Rep at rv;obtain⟨aa,e,n,qq⟩:=rv
    exact main aa false _ e n Reps.ints (show SqL X.K H1 aa _ from qq) (λP Hc hsm hn=>show SqL X.K Hc aa _ from Tr.SqL.keep hsm hn qq) (Tr.SqL.nn qq)
   | _=>cases hl
  ·exact q'.elim
 ·exact q'.elim
end
end Tr
namespace Tm
open PySem PyProof.Rows
theorem ip:fillsNumberSlot (.type "tuple") "mul" =pure false:=
 PySem.fillsNumberSlot_seq (id:="tuple.__mul__") (r:=some (.builtin "tuple.__rmul__")) HU.lookup (by decide+kernel) JQ.lookup (by decide+kernel)
theorem lg:seqRepeat? (.type "tuple")=pure (some (.builtin "tuple.__mul__")):=by
 unfold seqRepeat?;rw[Kl (T:="tuple") (name:="__mul__") (id:="tuple.__mul__") HU.lookup (by decide+kernel),Kl (T:="tuple") (name:="__rmul__") (id:="tuple.__rmul__") JQ.lookup (by decide+kernel)]
 rfl
theorem nV (a:Int)(t:Tok)(l:Addr)(items:Array CB)(n:Nat)(dd:Option Addr)(sl:Array (Option CB)) :
  Meets (Builtin.«int.__rmul__» ⟨[.int a t,.ref l],[]⟩) (λ_ R s=>s.heap.get? l=some { cls:=.type "tuple",dict:=dd,data:=.seq items n,slots:=sl }/\R (.ok (.ret Value.notImplemented)) s):=
 .of_wp λprog w A R s h=>by obtain⟨hp,g,d,tk,os⟩:=s;obtain⟨hl,h⟩:=h;wp_walk;exact⟨_,rfl,h⟩
open AutoSeq1 (wpAny_loadPart')
theorem sV (l:Addr)(items:Array CB)(n:Nat)(dd:Option Addr)(sl:Array (Option CB))(x:Int)(u:Tok)(h1:1<x)(h2:x<2 ^ 31)(hne:items.isEmpty=false)(hz:items.size*x.toNat<=sizeLine)
  (hz2:(Ho (λa b=>a++b) #[] (C6 x.toNat items)).size<=sizeLine) :
  Meets (Builtin.«tuple.__mul__» ⟨[.ref l,.int x u],[]⟩) (λ_ R s=>s.heap.get? l=some { cls:=.type "tuple",dict:=dd,data:=.seq items n,slots:=sl } ∧
   R (.ok (.ret (Df s.heap.objs.size))) { s with heap:=s.heap.push { cls:=Eh "tuple",data:=Data.seq (Ho (λa b=>a++b) #[] (C6 x.toNat items)) } }):=
 .of_wp λprog w A R s h=>by
  obtain⟨hp,g,d,tk,os⟩:=s;obtain⟨hl,h⟩:=h
  have hT:KU hp l items:=⟨_,hl,rfl,n,rfl⟩
  have hx:((items.size:Nat):Int)*x=((items.size*x.toNat:Nat):Int):=by
   have e:x=((x.toNat:Nat):Int):=by omega
   rw[Int.natCast_mul,<-e]
  wp_walk using E8 hl
  rw[if_neg (by simp;omega)]
  refine Cy (HQ (s:=⟨hp,g,d,tk,os⟩) hT ?_)
  dsimp only
  rw[if_neg (by rw[hne];simp;omega),if_neg (by rw[hne];simp;omega),hx,if_neg (by have:(sizeLine:Nat)<=1000000000:=(by decide);omega),if_neg (by unfold Builtin.Tuple.tupleTooMany;rw[decide_eq_true_iff];omega)]
  refine Cy (m:=Dt _) (De ?_ hz2)
  exact CD ⟨_,rfl,h⟩
section
variable {prog:C4}{w:Du}{A:Dj}{E:CB->Cz->Prop}{s:Cz}
theorem mul_tuple {t:Addr}{vs:List CB}{k:Int}{tk:Tok}{Q:CB->Cz->Prop}(ht:KU s.heap t vs.toArray)(h1:1<k)(h2:k<2 ^ 31)(hv:vs≠ [])(hz:vs.length*k.toNat<=sizeLine)
  (h:Q (.ref s.heap.objs.size) { s with heap:=s.heap.push { cls:=.type "tuple",data:=.seq (C6 k.toNat vs).flatten.toArray } }) :
  wpAny (model prog w) A (Ed .Mult (.ref t) (.int k tk)) Q E s:=by
 obtain⟨⟨cls,dd,data,sl⟩,ho,hc,n,hd⟩:=id ht;simp only at hc hd;subst hc hd
 have e:Ho (λa b=>a++b) #[] (C6 k.toNat vs.toArray)=(C6 k.toNat vs).flatten.toArray:=by
  have q:=L2.foldl_rep vs k.toNat []
  simpa using q
 refine Hf (T:="tuple") (U:="int") (by decide) ⟨_,ho,rfl⟩ (λs'=>IG s' k tk) ip KA GJ lg Ki.lookup
  (Fo GJ (IG s k tk) Kj (JO _ _) (nV k tk t vs.toArray n dd sl)
   ⟨ho,rfl,⟨_,ho,rfl⟩,Fo HU ⟨_,ho,rfl⟩ F.entry_tuple_mul (F.args_tuple_mul_2 _ _) (sV t vs.toArray n dd sl k tk h1 h2 (by simpa using hv) (by simpa using hz) (by rw[e,CT,L2.len_rep,J4];exact hz)) ⟨ho,?_⟩⟩)
 rw[e];exact h
end
end Tm
namespace Tr
open PySem PySem.Spec PyProof.Rows L2
section
variable {X:Cx}
def cO (x y:T):Rs T:=match x,y with
 | .tup l,.int k=>if 1<k/\k<2 ^ 31/\l≠ []/\l.length*k.toNat<=sizeLine then .ok (.tup (C6 k.toNat l).flatten)else .bad
 | x,y=>sU x y
instance (l:List T):Decidable (l≠ []):=by cases l <;> simp <;> infer_instance
theorem dI:OpT X (Ed .Mult) cO:=by
 intro pins s σ H O x y vx vy ux uy Q I hf rx ry r1 r2 hp;unfold cO at hp
 split at hp
 ·rename_i l k
  split at hp
  ·rename_i h
   obtain⟨a,vs,e1,n1,q1,z1⟩:=Rep.BK.mp rx;subst e1;cases Rep.BJ.mp ry;cases r1;obtain⟨tk,rfl⟩:=r2;obtain⟨its,rv,pl,hz⟩:=I.tuple (SqT.of q1)
   have hl1:=z1.length
   have hl2:=rv.length
   have hne:its≠ []:=λz=>h.2.2.1 (Fh (by rw[hl1,hl2,z];rfl))
   refine Tm.mul_tuple pl h.1 h.2.1 hne (by rw[<-hl2,<-hl1];exact h.2.2.2) ?_
   have hn:=I.hok.fresh (CM _);refine⟨.ref _,_,I.laid (t':=s.toks) (o:=.tup (C6 k.toNat vs).flatten) (λb ob q=>CG _ q) (CM _) ?_,rfl,hp _ (a7 hn _) _ (cW hn (hf _ hn) (z1.rep _))⟩
   refine⟨?_,_,rv.rep k.toNat,Ii _ _⟩
   rw[len_rep,J4,<-hl1];exact h.2.2.2
  ·exact hp.elim
 ·exact yw pins s σ H O _ _ vx vy ux uy Q I hf rx ry r1 r2 hp
end
def yL (outer:List (Str×Ft))(N:List Str)(names:List (Str×Ft))(N':List Str)(src:List (Option Nat)):Bool:=
 names.all (λy=>y.2 != .cell||names.lookup y.1 == some .cell)&&names.all (λy=>y.2 != .local||names.lookup y.1 == some .local)&&src.length == N'.length&&
 (DH N'.length).all (λj=>match src[j]? with
  | some (some i)=>match N'[j]? with
   | some x=>N[i]? == some x&&names.lookup x == some .free
   | none=>true
  | _=>true)&&
 names.all (λy=>y.2 != .free||(outer.lookup y.1 == some .cell||outer.lookup y.1 == some .free))
theorem LcScope.by {X:Cx}{scope:Fu}{N N':List Str}{src:List (Option Nat)}{names:List (Str×Ft)}(hN:X.N=N)(hs:X.env.scope.names=names)(hk:scope.kind= .function)(h:yL names N scope.names N' src=true):LcScope X scope N' src:=by
 unfold yL at h;simp only[CC]at h;obtain⟨⟨⟨⟨h1,h2⟩,h3⟩,h4⟩,h5⟩:=h
 have a1:=Dc.mp h1
 have a2:=Dc.mp h2
 have a4:=Dc.mp h4
 have a5:=Dc.mp h5;refine⟨hk,λy hy hl=>by have:=a1 y hy;rw[hl]at this;simpa using this,λy hy hl=> ?_,by simpa using h3,λj i x e1 e2=> ?_,λx hx=> ?_⟩
 ·have:=a2 y hy
  rw[hl]at this
  simpa using this
 ·have hj:j<N'.length:=(CW.mp e2).1
  have:=a4 j (FO.mpr hj);rw[e1]at this;simp only[e2]at this;rw[CC]at this;rw[hN];exact⟨by simpa using this.1,by simpa using this.2⟩
 ·have:=a5 _ hx
  simp only[bne_self_eq_false,Bool.false_or,Im]at this
  show X.env.scope.names.lookup x=_\/X.env.scope.names.lookup x=_
  rw[hs];rcases this with z | z
  ·exact .inl (by simpa using z)
  ·exact .inr (by simpa using z)
def cI:Expr->Bool
 | .Starred .. =>false
 | _=>true
def a8:List Expr->Bool
 | [] =>true
 | e::r=>cI e&&a8 r
theorem bz {e:Expr}{es:List Expr}{env:Env}(h:cI e=true):CV (e::es) env=(false,eval e env)::CV es env:=by
 cases e <;> first | rfl | cases h
theorem eS {pos:Pos}{env:Env}:∀{es:List Expr},a8 es=true->(backTo pos (CV es env)).any (·.1)=false
 | [],_=>rfl
 | e::r,h=>by
  unfold a8 at h;rw[CC]at h;rw[bz h.1]
  have ih:=eS (pos:=pos) (env:=env) h.2
  show(false||(backTo pos (CV r env)).any (·.1))=false
  rw[ih];rfl
section
variable {X:Cx}{a b e:Expr}{es:List Expr}{fa:En->Rs T}{fs:En->Rs (List T)}{pos p p2:Pos}{x:Str}
theorem qa_c {f:En->Rs T}{g:En->Rs (List T)}(he:cq X e f)(hr:nA X es g)(hn:autoParam (cI e=true) u_):nA X (e::es) (ae f g):=vd he hr (bz hn)
theorem q_cB {id:String}{g:List T->Rs T}(hc:CallT X (.builtin id) g)(hm:X.mg x=none)(hv:Dh x=some (.builtin id))(ha:nA X (e::es) fs)(hn:autoParam (a8 (e::es)=true) u_)(hg:autoParam (Gl X x) u_)(h1:autoParam (x≠ "__name__") s_)(h2:autoParam ((x == ("__debug__" : Str))=false) s_) :
  cq X (.Call (.Name x p) (e::es) [] pos) (cl g fs):=by
 unfold a8 at hn;rw[CC]at hn;exact vg hc hm hv ha hg h1 h2 (bz hn.1) (eS hn.2)
theorem q_cT {Ty:String}{g:List T->Rs T}(hc:CallT X (.type Ty) g)(hm:X.mg x=none)(hv:Dh x=some (.type Ty))(ha:nA X (e::es) fs)(hn:autoParam (a8 (e::es)=true) u_)(hg:autoParam (Gl X x) u_)(h1:autoParam (x≠ "__name__") s_)(h2:autoParam ((x == ("__debug__" : Str))=false) s_) :
  cq X (.Call (.Name x p) (e::es) [] pos) (cl g fs):=by
 unfold a8 at hn;rw[CC]at hn;exact r8 hc hm hv ha hg h1 h2 (bz hn.1) (eS hn.2)
theorem q_c {n k:Nat}{f:Addr}{fd:DB}{ps:List Str}{g:List T->Rs T}(F:zH X.prog X.w X.K X.mg X.base k f fd ps n g)(hr:Room k X.A)(hm:X.mg x=some (.ref f))(hk:Fk X.K (.ref f)=true)(hb:Binds X.K fd ps [])
  (hl:∀ρ ts,fs ρ= .ok ts->ts.length=n) (ha:nA X (e::es) fs) (hps:autoParam (ps.length=n) u_) (hn:autoParam (a8 (e::es)=true) u_) (hg:autoParam (Gl X x) u_) (h2:autoParam ((x == ("__debug__" : Str))=false) s_):cq X (.Call (.Name x p) (e::es) [] pos) (cl g fs):=by
 unfold a8 at hn;rw[CC]at hn;exact yj F hr hm hk hb hps hl ha hg h2 (bz hn.1) (eS hn.2)
theorem q_is {tn:Str}{Ty:String}(hm:X.mg "isinstance" =none)(hmt:X.mg tn=none)(hv:Dh tn=some (.type Ty))(ha:cq X a fa)(hn:autoParam (cI a=true) u_)(hg:autoParam (Gl X "isinstance") u_)(hgt:autoParam (Gl X tn) u_)
  (h1:autoParam (tn≠ "__name__") s_) (h2:autoParam ((tn == ("__debug__" : Str))=false) s_):cq X (.Call (.Name "isinstance" p) [a,.Name tn p2] [] pos) (o1 (uu Ty) fa):=
 Ap hm hmt hv ha hg hgt h1 h2 (bz hn) (eS rfl) (bz rfl)
end
theorem xr (ρ:En)(ts:List T)(h:ah ρ= .ok ts):ts.length=0:=by cases h;rfl
theorem xq {n:Nat}{f:En->Rs T}{g:En->Rs (List T)}(hg:∀ρ ts,g ρ= .ok ts->ts.length=n)(ρ:En)(ts:List T)(h:ae f g ρ= .ok ts):ts.length=n+1:=by
 unfold ae at h
 cases q:f ρ with
 | bad=>rw[q]at h;cases h
 | err c=>rw[q]at h;cases h
 | ok t=>
  rw[q,aF]at h
  cases q2:g ρ with
  | bad=>rw[q2]at h;cases h
  | err c=>rw[q2]at h;cases h
  | ok r=>
   rw[q2,aF]at h;cases h;rw[CJ,hg ρ r q2]
theorem qz {k:Nat}{A:Dj}(h:Room k A):A.units+60<cLine:=by have:=h.un;omega
structure Fn (K:CA)(mg:Str->Option CB)(x:Str)(st:Stmt)(ps:List Str)(f:Addr)(fd:DB):Prop where
 fn:L2.Fun K x x st f fd
 bd:Binds K fd ps []
 mg:mg x=some (.ref f)
def val (n m:Nat)(F:En->Rs Fl)(ts:List T):Rs T:=if ts.length=n then a0 F (az m ts)else .bad
theorem rl {n m:Nat}{F:En->Rs Fl}{ts:List T}{t:T}(h:val n m F ts= .ok t):a0 F (az m ts)= .ok t:=by
 unfold val at h
 split at h
 ·exact h
 ·cases h
theorem sp_script {K:CA}{H:Hp}{a:Addr}{ns:List Int}{g:List T->Rs T}{E:XK}(hS:SqL K H a (ns.map V.int))(h:g [.scr ns] = .ok (.bl true)):spP K 1 g [.ref a] H (λv _=>v= .bl true) E:=by
 refine⟨[.scr ns],λ_=>False,Reps.BP ?_ Reps.BV,λ_ z=>z.elim,rfl,?_⟩
 ·unfold Rep;exact⟨a,rfl,λz=>z,hS⟩
 ·rw[h];exact λv H' _ r=>Rep.BN.mp r
end Tr
namespace Tr
open PySem L2
def oD (g:T->T->Rs T)(fa fb:En->Rs T)(ρ:En):Rs T:=fa ρ >>= λx=>match x with
 | .dct ks vs=>fb ρ >>= g (.dct ks vs)
 | _=> .bad
def oL (g:T->T->Rs T)(fa fb:En->Rs T)(ρ:En):Rs T:=fa ρ >>= λx=>match x with
 | .lst l=>fb ρ >>= g (.lst l)
 | _=> .bad
def jx:List T->Option (List Int)
 | [] =>some []
 | .int i::l=>(jx l).map (i:: ·)
 | _=>none
end Tr
namespace Tr
open PySem PySem.Spec PyProof.Rows L2
theorem dt {h b b':Heap}:∀{l:List Env},h.FunFrames b l->(∀a∈l.filterMap (·.frame),b'.get? a=none)->h.FunFrames b' l
 | [],_,_=>trivial
 | env::rest,⟨hk,⟨L,o,hf,hn,ho,hd⟩,hr⟩,q=>by
  rw[Dy,hf]at q;exact⟨hk,⟨L,o,hf,q L CL,ho,hd⟩,dt hr λa ha=>q a (CH _ ha)⟩
section
variable {M:HB}{A:Dj}{E:CB->Cz->Prop}{s:Cz}
structure wO (fs:List Addr)(C e:Addr)(T:Option Addr)(h h':Heap)(T':Addr):Prop where
 flt:Flt h' C e (some T')
 new:T=some T'\/h.get? T'=none
 keep:∀b o,b∉fs->b≠e->T≠some b->h.get? b=some o->h'.get? b=some o
 slot:∀b o,b∈fs->h.get? b=some o->∃sl,h'.get? b=some { o with slots:=sl }
theorem sY {base:Heap}{env:Env}{outer:List Env}{L C e:Addr}{T:Option Addr}{Q:Unit->Cz->Prop}(hfr:A.frames=some (env::outer))(hl:s.heap.FunFrames base (env::outer))(hf:env.frame=some L)
  (F:Flt s.heap C e T) (h:∀h' T',wO ((env::outer).filterMap (·.frame)) C e T s.heap h' T'->Q () { s with heap:=h' }):wpAny M A (leaving env (.ref e)) Q E s:=by
 generalize hB:GF s.heap (e::(T.toList++(env::outer).filterMap (·.frame)))=B
 have bm:∀b,b∈e::(T.toList++(env::outer).filterMap (·.frame))->B.get? b=none:=λb m=>by rw[<-hB];exact FL _ m
 have hl':s.heap.FunFrames B (env::outer):=dt hl λa ha=>bm a (CH _ (C2 _ ha))
 have hst:B.StaysIn s.heap:=λb o q=>by rw[<-hB]at q;exact F2 _ q
 have hen:B.get? e=none:=bm e CL
 have main:∀h',Heap.Left B (env::outer) e (.ref C) s.heap h'->Q () { s with heap:=h' }:=λh' ⟨x1,x2,⟨oe,vs,T',oT,ts,he,hc,hd,h1,hnT,hTe,hT,hdT,h3⟩,x4⟩=>by
  refine h h' T' ⟨⟨hTe,oe,vs,he,hc,hd,h1,oT,ts,hT,hdT,h3⟩,?_,λb o n1 n2 n3 q=> ?_,λb o m q=> ?_⟩
  ·cases q:s.heap.get? T' with
   | none=>exact .inr rfl
   | some o=>
    left
    by_cases z:T'∈e::(T.toList++(env::outer).filterMap (·.frame))
    ·rcases CO.mp z with z | z
     ·exact absurd z hTe
     ·rcases CU.mp z with z | z
      ·cases T with
       | none=>simp at z
       | some t=>simp at z;rw[z]
      ·obtain⟨_,o',ho',hnf⟩:=x2.mem z
       rw[hT]at ho';cases ho';exact absurd hdT (hnf ts)
    ·rw[<-hB,El _ q z]at hnT;cases hnT
  ·refine x1 b o ?_
   rw[<-hB];refine El _ q λz=> ?_
   rcases CO.mp z with z | z
   ·exact n2 z
   ·rcases CU.mp z with z | z
    ·cases T with
     | none=>simp at z
     | some t=>simp at z;exact n3 (by rw[z])
    ·exact n1 z
  ·obtain⟨_,o',ho',hnf⟩:=hl.mem m
   rw[q]at ho';cases ho';exact x4 b o q hnf
 cases T with
 | none=>
  obtain⟨oe,vs,he,hc,hd,h1⟩:=F;refine wpAny_leaving_first hfr hl' hf he hst hen hd h1 λh' x=>main h' ?_
  rw[hc]at x;exact x
 | some t=>
  obtain⟨hte,oe,vs,he,hc,hd,h1,oT,ts,hT,hdT,h3⟩:=F;exact wpAny_leaving_next hfr hl' hf ⟨oe,vs,t,oT,ts,he,hc,hd,h1,bm t (CH _ (DC _ (by simp))),hte,hT,hdT,h3⟩ hst hen main
end
abbrev iM:List CB:=[.type "ValueError",.type "Exception",.type "BaseException",.type "object"]
structure OwnExc (K:CA)(C:Addr)(bm:List CB):Prop where
 at_:∀h:Heap,K.In h->∃nm q N bs hdct sn sub ab col dd k0 k1 k2 k3 k5 mN,h.get? C=some (D2 nm q C N bs bm hdct sn sub ab col dd k0 k1 k2 k3 k5 "ValueError.__new__")/\h.Ns N mN/\mN "__init__" =none/\OwnTail h iM bm
theorem OwnExc.base {K:CA}{C:Addr}{bm:List CB}(O:OwnExc K C bm){h:Heap}(k:K.In h):bm.contains (.type "BaseException")=true:=by
 obtain⟨_,_,_,_,_,_,_,_,_,_,_,_,_,_,_,_,_,_,_,T⟩:=O.at_ h k;exact T.hasType (by decide)
def rS (c:Str)(_:En):Rs Fl:=.err c
section
variable {X:Cx}
theorem r0 {c:Str}{msg:Str}{C:Addr}{bm:List CB}{np p1 cpos pos:Pos}{j:Nat}(O:OwnExc X.K C bm)(hc:X.calm=true)(hm:X.mg c=some (.ref C))(hg:autoParam (Gl X c) u_)(hd:autoParam ((c == ("__debug__" : Str))=false) s_) :
  uh X (.Raise (some (.Call (.Name c np) [.Constant (.str msg) j p1] [] cpos)) none pos) (rS c):=by
 intro pins s σ H D I ⟨ρ,B,M,E,k⟩
 have k:XA X M.u H c:=k;obtain⟨nm,q,N,bs,hdct,sn,sub,ab,col,dd,k0,k1,k2,k3,k5,mN,hC,hN,hni,T⟩:=O.at_ s.heap I.kIn;refine wpAny_Raise_call_subU (C:=C) (mN:=mN) (nm:=nm) (q:=q) (N:=N) (bs:=bs) (hdct:=hdct) (sn:=sn) (sub:=sub) (ab:=ab) (col:=col) (dd:=dd) (k0:=k0) (k1:=k1) (k2:=k2) (k3:=k3) (k5:=k5) GV (Bn:="ValueError") (by decide) GV (O.base I.kIn) (I.ok.hd hc) (by rfl) hni (fh I hg hm ⟨rfl,?_⟩ hd)
 show wpAny _ _ (Kv (.ref C) true ((false,eval (.Constant (.str msg) j p1) X.env)::backTo cpos (CV [] X.env)) []) _ _ s
 refine Gx (F4 (Je (FF ?_)))
 refine⟨rfl,by show 1<=sizeLine;decide,hC,hN,T,λh' e hm'=>k pins _ _ ?_⟩
 obtain⟨t,ht,ht2,ht3⟩:=hm'.there
 have I':Inv X pins σ H { s with heap:=h',toks:=s.toks+1 }:=I.kept (t':=s.toks+1) λb o z=>hm'.keeps b o z
 refine⟨e,none,C,σ,H,rfl,hm,I',λb o z _=>z,?_,?_,⟨_,_,ht,rfl,rfl,rfl⟩,(λt z=>by cases z),λp hp=>⟨λz=> ?_,λz=>by cases z⟩⟩
 ·exact eW I hm'.new
 ·exact λhex=>eL I hex hm'.new
 ·have:=(I.pin p hp).1
  rw[z,show s.heap.get? e=none from hm'.new]at this
  cases this
end
section
variable {P:C4}{w:Du}{K:CA}{mg:Str->Option CB}{base:Heap}
theorem y4 {x qual:Str}{st:Stmt}{f:Addr}{fd:DB}{N ps:List Str}{k n:Nat}{g:List T->Rs T}(Fn:L2.Fun K x qual st f fd)(S:bq N ps (aj st))(hn:ps.length=n)
  (hbody:∀(cdv:CB) (A:Dj) (outer:List Env) (s:Cz) (H:Hp) (E:XK),Room k (A.deeper (envOfC qual (aj st) s.heap.objs.size f cdv)) →
   ∃F,(∀xe,iQ ((dN CX0 P w K mg base N qual (aj st) f cdv A outer s H E).BM xe) (ba st) F)/\∀ts,ts.length=n->∀c,g ts= .err c->F (az N.length ts)= .err c):FnX P w K mg base (k+1) f fd ps n g:=by
 intro A outer s H args us vs O ts c R hr e0 hb r rs trk hl hg hR
 have hpl:ps.length<=N.length:=by have:=congrArg Fy S.pre;rw[EM]at this;omega
 obtain⟨oc,od,kV,doc,pm,an,cdv,ct,osl,rfl,lk,hcd⟩:=Fn.ex
 have hlen:vs.length=ps.length:=by rw[<-rs.length,hl,hn]
 have KX:K.In s.heap:=e0.mod.kin.keeps λb o e=>(e0.bs b o e).1
 have lim:s.heap.NoLimit:=e0.mod.nolimit.keeps λb o e=>(e0.bs b o e).1
 have hkind:∀y∈ps.zip us,(aj st).names.lookup y.1=some .local\/((aj st).names.lookup y.1=some .cell/\((Ex (s.heap.objs.size+1) (aj st).names []).lookup y.1).isSome=true):=λ⟨n,v⟩ hy=>by
  rcases S.par n (E5 hy).1 with q | q
  ·exact .inl q
  ·exact .inr ⟨q,Ek _ _ _ (.inl q)⟩
 refine Gr hr.depth (KX _ _ lk) rfl S.co S.gen rfl (Fs KX hcd) (hb _ _ _ _ ?_)
 refine Ej S.kind hkind λenv he s1 x=> ?_
 subst he;refine⟨lim.keeps x.toInCall.keep,Ka ?_⟩
 obtain⟨F,hF,hv⟩:=hbody cdv A outer s H E0 (hr.deeper _)
 let xe:CB->Cz->Prop:=λev s'=>wpAny (model P w) (A.deeper (envOfC qual (aj st) s.heap.objs.size f cdv)) (leaving (envOfC qual (aj st) s.heap.objs.size f cdv) ev) (λ_ s''=>R (.error ev) s'') (λe' s''=>R (.error e') s'') s'
 have I:Inv ((dN CX0 P w K mg base N qual (aj st) f cdv A outer s H E0).BM xe) [] (start N vs) H s1:=(eZ S hr.hd e0 hlen r x).BM _
 have no:∀a,¬noM.u a:=λa ⟨_,z⟩=>z
 refine DP (hF xe [] s1 (start N vs) H { nx:=λ_ _=>False,rt:=λ_ _=>False,bk:=λ_ _=>False,ct:=λ_ _=>False } I ⟨az N.length ts,O,noM,fR rs (by omega) trk,?_⟩) (λfl s' z=> ?_) λe s' hs=>hs
 rotate_left
 ·cases fl with
  | next=>obtain⟨_,_,_,z⟩:=z;exact z.elim
  | cont=>obtain⟨_,_,_,z⟩:=z;exact z.elim
  | brk=>obtain⟨_,_,_,z⟩:=z;exact z.elim
  | ret v=>obtain⟨_,_,_,_,_,z⟩:=z;exact z.elim
 rw[hv ts hl c hg];intro pins ev s' w'
 show wpAny _ _ _ _ _ _
 obtain⟨e,T,C,σ',H',rfl,hm,I',sm,he,heo,fl,hT,_⟩:=w'
 have heo:=heo rfl
 have hT:∀t,T=some t->H' t=none/\s.heap.get? t=none:=λt z=>⟨(hT t z).1,(hT t z).2 rfl⟩
 refine sY (base:=base) (outer:=outer) (L:=s.heap.objs.size) I'.ok.frames I'.stack rfl fl λh' T' g=>hR _ _ ?_
 have hex:((dN CX0 P w K mg base N qual (aj st) f cdv A outer s H E0).BM xe).ex= []:=rfl
 have Tn:H' T'=none/\s.heap.get? T'=none:=by
  rcases g.new with z | z
  ·exact hT T' z
  ·exact⟨eW I' z,eL I' hex z⟩
 have out:∀b o,s.heap.get? b=some o->b≠s.heap.objs.size:=λb o q z=>by
  have:=CN q;rw[z]at this;exact absurd this (C9 _)
 have mem:∀b,b∈gx ((envOfC qual (aj st) s.heap.objs.size f cdv)::outer)->b=s.heap.objs.size\/b∈gx outer:=λb z=>by
  have z':b∈s.heap.objs.size::gx outer:=z;exact CO.mp z'
 have ne:∀b o,s.heap.get? b=some o->b≠e/\T≠some b:=λb o q=>⟨λz=>(by subst z;rw[show s.heap.get? b=none from heo]at q;cases q),λz=>(by rw[show s.heap.get? b=none from(hT b z).2]at q;cases q)⟩
 have keepH:∀b u,H' b≠none->s'.heap.get? b=some u->h'.get? b=some u:=λb u hb q=>by
  refine g.keep b u (λz=>hb (I'.BQ b z)) (λz=>hb (by rw[z];exact he)) (λz=>hb (hT b z).1) q
 refine⟨e,T',C,H',rfl,hm,I'.os,I'.bare,⟨λb o q n hb hx=> ?_,λb o q n hb hx=> ?_,λb o q n hx=>I'.base.free b o q n hx,λb o q hx=> ?_,I'.base.tups,I'.base.frzs,I'.base.tbls⟩,λa o q=> ?_,λb o q=>sm b o q (no b),he,heo,g.flt,Tn.1,Tn.2⟩
 ·exact g.keep b o (λz=>(mem b z).elim (out b o q) hb) (ne b o q).1 (ne b o q).2 (I'.base.keep b o q n hb hx)
 ·obtain⟨sl,q1⟩:=I'.base.slot b o q n hb hx
  obtain⟨sl',q2⟩:=g.slot b _ (CH _ hb) q1;exact⟨sl',q2⟩
 ·obtain⟨o',q1⟩:=I'.base.there b o q hx
  by_cases z:b∈gx ((envOfC qual (aj st) s.heap.objs.size f cdv)::outer)
  ·obtain⟨sl,q2⟩:=g.slot b o' z q1
   exact⟨_,q2⟩
  ·exact⟨o',g.keep b o' z (ne b o q).1 (ne b o q).2 q1⟩
 ·refine(I'.hok a o q).BW (λb u hb z=>keepH b u ?_ z) (λ_ z=>z) λ_ _ z=>z
  rcases hb with rfl | hb
  ·rw[q];simp
  ·rw[hb];simp
end
theorem oK {n m:Nat}{F:En->Rs Fl}{ts:List T}{c:Str}(h:val n m F ts= .err c):F (az m ts)= .err c:=by
 unfold val at h
 split at h
 ·unfold a0 at h
  cases z:F (az m ts)with
  | bad=>rw[z]at h;cases h
  | err c'=>rw[z]at h;cases h;rfl
  | ok f=>
   rw[z,aF]at h;cases f <;> cases h
 ·cases h
section
variable {P:C4}{w:Du}{K:CA}{mg:Str->Option CB}{base:Heap}
theorem y8 {x qual:Str}{st:Stmt}{f:Addr}{fd:DB}{N ps:List Str}{k n:Nat}{F:En->Rs Fl}(Fn:L2.Fun K x qual st f fd)(S:bq N ps (aj st))(hn:ps.length=n)
  (hbody:∀(cdv:CB) (A:Dj) (outer:List Env) (s:Cz) (H:Hp) (E:XK),Room k (A.deeper (envOfC qual (aj st) s.heap.objs.size f cdv)) →
   ∀xe,iQ ((dN CX0 P w K mg base N qual (aj st) f cdv A outer s H E).BM xe) (ba st) F):zH P w K mg base (k+1) f fd ps n (val n N.length F):=
 ⟨A6 Fn S hn λcdv A outer s H E hr=>⟨F,hbody cdv A outer s H E hr _,λts _ _ h=>rl h⟩,y4 Fn S hn λcdv A outer s H E hr=>⟨F,hbody cdv A outer s H E hr,λts _ c h=>oK h⟩⟩
end
inductive OTail (h:Heap):List CB->Prop
 | base:OTail h iM
 | own {A:Addr} {c0:CB} {dd:Option Addr} {cd:ClassData} {sl:Array (Option CB)} {mA:Str->Option CB} {tl:List CB} :
   h.get? A=some { cls:=c0,dict:=dd,data:=.cls cd,slots:=sl }->h.Ns cd.ns mA->(∀n∈calmNames,mA n=none)->OTail h tl->OTail h (.ref A::tl)
theorem OTail.tail {h:Heap}{tl:List CB}(T:OTail h tl):OwnTail h iM tl:=by
 induction T with
 | base=>exact .base
 | own hA hN hq _ ih=>exact .own hA hN (hq _ (.head _)) ih
section
variable {M:HB}{prog:C4}{w:Du}{A:Dj}{E:CB->Cz->Prop}{h:Heap}{g:Array IE}{d:KZ}{t:Nat}{os:GQ}
theorem wI {tl:List CB}{n:Str}{y:Option CB}{Q:Option CB->Cz->Prop}(hn:n∈calmNames)(T:OTail h tl)(hrest:KM iM n=pure y)(hq:Q y ⟨h,g,d,t,os⟩) :
  wpAny M A (KM tl n) Q E ⟨h,g,d,t,os⟩:=by
 induction T with
 | base=>rw[hrest];exact CD hq
 | own hA hN hni _ ih=>
  rw[Kq];refine Cy (wpAny_classOwn_cls hA hN ?_)
  rw[hni n hn];exact ih
theorem AO:mroOf (.type "ValueError")=pure iM:=by rw[mroOf_type];kernel_rfl
variable {nm q:Str}{C N:Addr}{bs bm:List CB}{hdct:Bool}{sn:List Str}{sub:List CB}{ab:Bool}{col:Option Bool}{dd:Option Addr}{k0 k1 k2 k3 k5:Option CB}{newId:String}{mN:Str->Option CB}
theorem oh {n:Str}{y:Option CB}{Q:Option CB->Cz->Prop}(hn:n∈calmNames)(hC:h.get? C=some (D2 nm q C N bs bm hdct sn sub ab col dd k0 k1 k2 k3 k5 newId))(hN:h.Ns N mN)(hmN:∀n∈calmNames,mN n=none)(T:OTail h bm)
  (hB:IF (.type "ValueError") n=pure y) (hq:Q y ⟨h,g,d,t,os⟩):wpAny M A (IF (.ref C) n) Q E ⟨h,g,d,t,os⟩:=by
 have hrest:KM iM n=pure y:=by rw[typeLookup_eq,AO]at hB;exact hB
 rw[typeLookup_eq];refine Cy (wpAny_mroOf_exc hC ?_)
 rw[Kq];refine Cy (wpAny_classOwn_exc hC hN ?_)
 rw[hmN n hn];exact wI hn T hrest hq
theorem sW:IF (.type "ValueError") "__class__" =pure (some (.builtin "object.__class__")):=by rw[Ge,ET];kernel_rfl
theorem oi:IF (.type "ValueError") "__getattr__" =pure none:=by rw[Ge,ET];kernel_rfl
theorem ga_V:Slot "ValueError" "__getattribute__" "BaseException.__getattribute__":=.of (owner:="BaseException") (n:="__getattribute__") (by rw[Ge,ET];kernel_rfl) (by decide+kernel) (by decide+kernel) (by decide+kernel) (by first | exact .inl (by decide+kernel) | exact .inr (by decide+kernel)) (by rw[EC];kernel_rfl)
variable {a:Addr}{o:Obj}{vs:Array CB}
theorem wA {R:GR->Cz->Prop}(hC:h.get? C=some (D2 nm q C N bs bm hdct sn sub ab col dd k0 k1 k2 k3 k5 newId))(T:OTail h bm)
  (hx:h.get? a=some o) (hc:o.cls= .ref C) (hq:R (.ok (.ret (.ref C))) ⟨h,g,d,t,os⟩) :
  codeAny (model prog w) A (.call (.builtin "getset_descriptor.__get__") ⟨[.builtin "object.__class__",.ref a,.ref C],[]⟩) R ⟨h,g,d,t,os⟩:=by
 have hT5:(⟨h,g,d,t,os⟩:Cz).TypeIs (.builtin "object.__class__") "getset_descriptor":=Gp
 have hcB:(Df C::bm).contains (.type (".".intercalate ("object.__class__".cutAt '.').dropLast))=true:=by
  rw[F.owner_object_class,Ef,T.tail.hasType (b:=true) (by decide)];rfl
 refine Gy Jk.plain F.entry_gs_get (Jk.check _ _ _ _ _ _ _ _ hT5 (F.args_gs_get _ _ _) ?_)
 repeat (any_goals (first | assumption | (with_reducible refine Dv hx ?_;rw[hc]) | (with_reducible refine EH hC ?_;rw[hcB]) | wp_step))
 refine⟨G1 _ (by decide+kernel),E7 F.entry_object_class ?_⟩
 repeat (any_goals (first | assumption | (with_reducible refine Dv hx ?_;rw[hc]) | wp_step))
theorem tM {nameV:CB}{Q:Unit->Cz->Prop}(hC:h.get? C=some (D2 nm q C N bs bm hdct sn sub ab col dd k0 k1 k2 k3 k5 newId))(T:OTail h bm)
  (hx:h.get? a=some o) (hc:o.cls= .ref C) (hq:Q () ⟨h,g,d,t,os⟩):wpAny M A (FS "BaseException.__getattribute__" ⟨[.ref a,nameV],[]⟩) Q E ⟨h,g,d,t,os⟩:=by
 have hk:builtinKind "BaseException.__getattribute__" =some .slot:=by decide+kernel
 have hsplit:splitId "BaseException.__getattribute__" =some ("BaseException","__getattribute__"):=by decide+kernel
 have hcB:(Df C::bm).contains (.type "BaseException")=true:=by rw[Ef,T.tail.hasType (b:=true) (by decide)];rfl
 have ha:=F.args_bexc_ga (.ref a) nameV;simp only[FS,hk,hsplit];refine Cy ?_
 ·unfold isInstance
  repeat (first | (with_reducible refine Dv hx ?_;rw[hc]) | (with_reducible refine EH hC ?_;rw[hcB]) | wp_step)
  exact hq
theorem qG {tk:Tok}{Q:Fin->Cz->Prop}(hC:h.get? C=some (D2 nm q C N bs bm hdct sn sub ab col dd k0 k1 k2 k3 k5 newId))(hN:h.Ns N mN)
  (hmN:∀n∈calmNames,mN n=none) (T:OTail h bm) (hx:h.get? a=some o) (hc:o.cls= .ref C) (hd:o.data= .fields vs) (hq:Q (.done (.ret (.ref C))) ⟨h,g,d,t,os⟩) :
  wpAny (model prog w) A (Builtin.«object.__getattribute__» ⟨[.ref a,.str "__class__" tk],[]⟩) Q E ⟨h,g,d,t,os⟩:=by
 have hT5:(⟨h,g,d,t,os⟩:Cz).TypeIs (.builtin "object.__class__") "getset_descriptor":=Gp
 have f5:=Gp
 have f6:=Jk.lookup
 have f7:=F.slot_gs_set.lookup
 have hmA:("__class__" : Str)∈calmNames:=.tail _ (.tail _ (.tail _ (.head _)))
 repeat (any_goals (first | assumption | (with_reducible refine Dv hx ?_;rw[hc]) | with_reducible refine oh hmA hC hN hmN T sW ?_ | wp_step))
 refine wA hC T hx hc ?_
 repeat (any_goals (first | assumption | wp_step))
theorem tZ {tk:Tok}{R:GR->Cz->Prop}(hC:h.get? C=some (D2 nm q C N bs bm hdct sn sub ab col dd k0 k1 k2 k3 k5 newId))(hN:h.Ns N mN)
  (hmN:∀n∈calmNames,mN n=none) (T:OTail h bm) (hx:h.get? a=some o) (hc:o.cls= .ref C) (hd:o.data= .fields vs) (hq:R (.ok (.ret (.ref C))) ⟨h,g,d,t,os⟩) :
  codeAny (model prog w) A (.call (.builtin "BaseException.__getattribute__") ⟨[.ref a,.str "__class__" tk],[]⟩) R ⟨h,g,d,t,os⟩:=
 Gy ga_V.plain F.entry_bexc_ga (tM hC T hx hc (qG hC hN hmN T hx hc hd hq))
theorem zv {tk:Tok}{fill expr:Bool}{Q:CB->Cz->Prop}(hC:h.get? C=some (D2 nm q C N bs bm hdct sn sub ab col dd k0 k1 k2 k3 k5 newId))(hN:h.Ns N mN)
  (hmN:∀n∈calmNames,mN n=none) (T:OTail h bm) (hx:h.get? a=some o) (hc:o.cls= .ref C) (hd:o.data= .fields vs) (hq:Q (.ref C) ⟨h,g,d,t,os⟩) :
  wpAny (model prog w) A (getAttrBy (.ref a) (.str "__class__" tk) fill expr) Q E ⟨h,g,d,t,os⟩:=by
 have f3:=ga_V.bind (.ref a)
 have hx0:(expr&&onTheHeap (FG "BaseException.__getattribute__"))=false:=by cases expr <;> rfl
 have hx2:(FG "BaseException.__getattribute__" == FG "object.__getattribute__")=false:=by decide+kernel
 have hx1:(onTheHeap (Df C)&&FG "BaseException.__getattribute__" == FG "object.__getattribute__")=false:=by rw[hx2];rfl
 have hm1:("__getattribute__" : Str)∈calmNames:=.tail _ (.head _)
 have hm2:("__getattr__" : Str)∈calmNames:=.tail _ (.tail _ (.head _))
 repeat (any_goals (first | assumption | (with_reducible refine Dv hx ?_;rw[hc]) | with_reducible refine oh hm1 hC hN hmN T ga_V.lookup ?_ | with_reducible refine oh hm2 hC hN hmN T oi ?_ | wp_step))
 refine tZ hC hN hmN T hx hc hd ?_
 repeat (any_goals (first | assumption | wp_step))
theorem ua {Q:Option CB->Cz->Prop}(hC:h.get? C=some (D2 nm q C N bs bm hdct sn sub ab col dd k0 k1 k2 k3 k5 newId))(hN:h.Ns N mN)
  (hmN:∀n∈calmNames,mN n=none) (T:OTail h bm) (hx:h.get? a=some o) (hc:o.cls= .ref C) (hd:o.data= .fields vs) (hq:Q (some (.ref C)) ⟨h,g,d,t+1,os⟩) :
  wpAny (model prog w) A (getAttr? (.ref a) "__class__") Q E ⟨h,g,d,t,os⟩:=by
 unfold getAttr? getAttrBy?
 repeat (any_goals (first | assumption | with_reducible apply zv hC hN hmN T hx hc hd | wp_step))
end
section
variable {M:HB}{prog:C4}{w:Du}{A:Dj}{E:CB->Cz->Prop}{h:Heap}{g:Array IE}{d:KZ}{t:Nat}{os:GQ}
variable {nm q:Str}{C N:Addr}{bs bm:List CB}{hdct:Bool}{sn:List Str}{sub:List CB}{ab:Bool}{col:Option Bool}{dd:Option Addr}{k0 k1 k2 k3 k5:Option CB}{newId:String}{mN:Str->Option CB}
variable {a:Addr}{o:Obj}{vs:Array CB}
theorem ql {dep:Int}{tk:Tok}{Q:Fin->Cz->Prop}(hx:h.get? a=some o)(hc:o.cls= .ref C)(hq:Q (.done (.ret (.bool true))) ⟨h,g,d,t,os⟩) :
  wpAny (model prog w) A (Builtin.«isinstance.nested» ⟨[.ref a,.ref C,.int dep tk],[]⟩) Q E ⟨h,g,d,t,os⟩:=by
 have e:(Df C == Df C)=true:=by simp
 repeat (any_goals (first | assumption | (with_reducible refine Dv hx ?_;rw[hc]) | wp_step))
theorem yJ {dep:Int}{tk:Tok}{Q:Fin->Cz->Prop}(hC:h.get? C=some (D2 nm q C N bs bm hdct sn sub ab col dd k0 k1 k2 k3 k5 newId))(T:OTail h bm)(hx:h.get? a=some o)(hc:o.cls= .ref C)
  (hq:Q (.done (.ret (.bool true))) ⟨h,g,d,t,os⟩):wpAny (model prog w) A (Builtin.«isinstance.nested» ⟨[.ref a,.type "ValueError",.int dep tk],[]⟩) Q E ⟨h,g,d,t,os⟩:=by
 have e:(Df C == Eh "ValueError")=false:=rfl
 have hty:typeOf (.type "ValueError")=pure (.type "type"):=by kernel_rfl
 have hcB:(Df C::bm).contains (.type "ValueError")=true:=by rw[Ef,T.tail.hasType (b:=true) (by decide)];rfl
 repeat (any_goals (first | assumption | (with_reducible refine Dv hx ?_;rw[hc]) | (with_reducible refine EH hC ?_;rw[hcB]) | wp_step))
theorem sT {D:Addr}{oD:Obj}{cD:ClassData}{dep:Int}{tk:Tok}{Q:Fin->Cz->Prop}(hC:h.get? C=some (D2 nm q C N bs bm hdct sn sub ab col dd k0 k1 k2 k3 k5 newId))(hN:h.Ns N mN)(hmN:∀n∈calmNames,mN n=none)(T:OTail h bm)
  (hx:h.get? a=some o) (hc:o.cls= .ref C) (hd:o.data= .fields vs) (hD:h.get? D=some oD) (hDt:oD.cls= .type "type") (hDd:oD.data= .cls cD) (hne:(Df C == Df D)=false) (hnb:(Df C::bm).contains (.ref D)=false)
  (hq:Q (.done (.ret (.bool false))) ⟨h,g,d,t+1,os⟩):wpAny (model prog w) A (Builtin.«isinstance.nested» ⟨[.ref a,.ref D,.int dep tk],[]⟩) Q E ⟨h,g,d,t,os⟩:=by
 repeat (any_goals (first | assumption | (with_reducible refine Dv hx ?_;rw[hc]) | (with_reducible refine Dv hD ?_;rw[hDt]) | (with_reducible refine Dv hD ?_;rw[hDd]) | (with_reducible refine Dv hC ?_) | (with_reducible refine EH hC ?_;rw[hnb]) | with_reducible refine ua hC hN hmN T hx hc hd ?_ | wp_step))
end
structure OX (K:CA)(C:Addr)(bm:List CB):Prop where
 at_:∀h:Heap,K.In h->∃nm q N bs hdct sn sub ab col dd k0 k1 k2 k3 k5 mN,h.get? C=some (D2 nm q C N bs bm hdct sn sub ab col dd k0 k1 k2 k3 k5 "ValueError.__new__")/\h.Ns N mN/\(∀n∈calmNames,mN n=none)/\OTail h bm
theorem OX.own {K:CA}{C:Addr}{bm:List CB}(O:OX K C bm):OwnExc K C bm:=⟨λh k=>by
 obtain⟨nm,q,N,bs,hdct,sn,sub,ab,col,dd,k0,k1,k2,k3,k5,mN,h1,h2,h3,h4⟩:=O.at_ h k;exact⟨nm,q,N,bs,hdct,sn,sub,ab,col,dd,k0,k1,k2,k3,k5,mN,h1,h2,h3 _ (.head _),h4.tail⟩⟩
section
variable {X:Cx}{e C D:Addr}{oe:Obj}{ev:Array CB}{bm bmD:List CB}
def tIs (e:Addr)(b:Bool):TE:=λσ H Q=>σ[0]? =some (some (.ref e))/\Q (.bl b) H
theorem tF {pins:List (Addr×Obj)}{σ:L2.St}{H:Hp}{s:Cz}{Q:VK}(hp:(e,oe)∈X.pn)(hc:oe.cls= .ref C)(hd:oe.data= .fields ev)(OC:OX X.K C bm)(OD:OX X.K D bmD)(b:Bool)(hb:(decide (C=D))=b)(hnb:C≠D->bm.contains (.ref D)=false)
  (I:Inv X pins σ H s) (q:Q (.bl b) H):wpAny (model X.prog X.w) X.A (call (.builtin "isinstance") [.ref e,.ref D]) (EP X pins σ Q) X.xe s:=by
 have hx:s.heap.get? e=some oe:=(I.pin (e,oe) (DC _ hp)).1;obtain⟨nm,qq,N,bs,hdct,sn,sub,ab,col,dd,k0,k1,k2,k3,k5,mN,hC,hN,hmN,T⟩:=OC.at_ s.heap I.kIn;obtain⟨nm',qq',N',bs',hdct',sn',sub',ab',col',dd',k0',k1',k2',k3',k5',mN',hD,_⟩:=OD.at_ s.heap I.kIn;obtain⟨h,g,d,t,os⟩:=s;refine JC ?_ (by intro z;cases z)
 by_cases z:C=D
 ·subst z
  have:b=true:=by rw[<-hb];simp
  subst this;exact ql hx hc ⟨.bl true,H,I,rfl,q⟩
 ·have:b=false:=by rw[<-hb];simp[z]
  subst this;refine sT hC hN hmN T hx hc hd hD rfl rfl ?_ ?_ ⟨.bl false,H,I.tok _,rfl,q⟩
  ·rw[beq_eq_false_iff_ne];exact λy=>z (Jc y)
  ·rw[Ef,hnb z,HI,beq_eq_false_iff_ne]
   exact λy=>z (Jc y).symm
theorem tG {pins:List (Addr×Obj)}{σ:L2.St}{H:Hp}{s:Cz}{Q:VK}(hp:(e,oe)∈X.pn)(hc:oe.cls= .ref C)(OC:OX X.K C bm)
  (I:Inv X pins σ H s) (q:Q (.bl true) H):wpAny (model X.prog X.w) X.A (call (.builtin "isinstance") [.ref e,.type "ValueError"]) (EP X pins σ Q) X.xe s:=by
 have hx:s.heap.get? e=some oe:=(I.pin (e,oe) (DC _ hp)).1;obtain⟨nm,qq,N,bs,hdct,sn,sub,ab,col,dd,k0,k1,k2,k3,k5,mN,hC,hN,hmN,T⟩:=OC.at_ s.heap I.kIn;obtain⟨h,g,d,t,os⟩:=s;refine JC ?_ (by intro z;cases z)
 exact yJ hC T hx hc ⟨.bl true,H,I,rfl,q⟩
theorem ij {en dn:Str}{p p1 p2 pos:Pos}(hN:X.N[0]? =some en)(hv:qK X.env.scope en)(hp:(e,oe)∈X.pn)(hc:oe.cls= .ref C)(hd:oe.data= .fields ev)(OC:OX X.K C bm)(OD:OX X.K D bmD)(b:Bool)(hb:(decide (C=D))=b)(hnb:C≠D->bm.contains (.ref D)=false)
  (hm:X.mg "isinstance" =none) (hmD:X.mg dn=some (.ref D)) (hg:autoParam (Gl X "isinstance") u_) (hgD:autoParam (Gl X dn) u_) (hde:autoParam ((en == ("__debug__" : Str))=false) s_) (hce:autoParam ((en == ("__classdict__" : Str))=false) s_) (hdd:autoParam ((dn == ("__debug__" : Str))=false) s_)
  (he:autoParam (CV [.Name en p1,.Name dn p2] X.env=(false,eval (.Name en p1) X.env)::CV [.Name dn p2] X.env) u_) (hpl:autoParam ((backTo pos (CV [.Name dn p2] X.env)).any (·.1)=false) u_)
  (hs:autoParam (CV [.Name dn p2] X.env=(false,eval (.Name dn p2) X.env)::CV [] X.env) u_) :
  PE X (.Call (.Name "isinstance" p) [.Name en p1,.Name dn p2] [] pos) (tIs e b):=by
 intro pins s σ H Q I ⟨hσ,q⟩;refine DO (dA I hg hm dD ?_ (by decide) (by decide))
 have hA:PA X [.Name en p1,.Name dn p2] (gH (rG 0) (gH (tC (.ref D)) rH)):=bu (jm hN hv hde hce) (bu (o5 hgD hmD rfl hdd) eK hs) he;refine D5 (bF (hA pos pins s σ H (λvs H'=>vs= [.ref e,.ref D]/\H'=H) I ⟨.ref e,hσ,rfl,rfl⟩) λus s1 ⟨vs,H1,I1,r1,e1,e2⟩=> ?_) he hpl
 subst e1;obtain⟨u,w',rfl,ru,rw'⟩:=rk r1;cases ru;cases rw';subst e2;exact tF hp hc hd OC OD b hb hnb I1 q
end
theorem eqB (a b:Bool):MeetsSeq.EqGives (.bool a) (.bool b) (a == b):=λprog w A E s Q h=>(PySem.SeqAt.EqAt.bool_bool a b (A:=A) (s:=s)) prog w E Q h
section
variable {X:Cx}
theorem kR:∀{ks:List Bool} {us:List CB},Vals (ks.map V.bl) us->us=ks.map Dz
 | [],us,r=>by cases r;rfl
 | k::ks,us,r=>by
  cases r with
  | cons r1 r2=>cases r1;rw[kR r2];rfl
def gQ:CB->Bool
 | .bool b=>b
 | _=>false
def uS:V->List V->Hp->VK->Prop:=λx vs H Q=> ∃(l:Addr) (ks:List Bool),x= .ref l/\vs= [.bl true]/\H l=some (.lst (ks.map V.bl))/\Q (.int (ks.countP id:Nat)) H
theorem qo:MtR X "list.count" uS:=by
 intro pins s σ H x vs v us Q I rx rv h;obtain⟨l,ks,rfl,rfl,hH,q⟩:=h;cases rx;obtain⟨u,rfl,ru⟩:=rv.one;cases ru;obtain⟨z,its,n,r,hl,e⟩:=I.B1 hH
 have hi:=kR r;subst hi;refine Fo F.slot_list_count ⟨_,e,rfl⟩ F.entry_list_count (F.args_list_count_2 _ _) (MeetsSeq.list_count l (ks.map Dz).toArray n (.bool true) gQ λy hy=> ?_) ⟨e,?_⟩
 ·have hy':y∈ks.map Dz:=by simpa using hy
  obtain⟨k,_,rfl⟩:=CY.mp hy'
  have:=eqB k true;cases k <;> exact this
 ·have hc:(ks.map Dz).toArray.toList.countP gQ=ks.countP id:=by
   simp only[List.countP_map];rfl
  rw[hc];exact⟨.int _,H,I.tok _,⟨_,rfl⟩,q⟩
def uR:V->List V->Hp->VK->Prop:=λx vs H Q=> ∃(l:Addr) (ks:List Bool) (j:Nat),x= .ref l/\vs= [.bl true]/\H l=some (.lst (ks.map V.bl))/\ks[j]? =some true/\(∀m,m<j->ks[m]? =some false)/\j<=1000/\Q (.int (j:Nat)) H
theorem qm:MtR X "list.index" uR:=by
 intro pins s σ H x vs v us Q I rx rv h;obtain⟨l,ks,j,rfl,rfl,hH,hj,hno,hs,q⟩:=h;cases rx;obtain⟨u,rfl,ru⟩:=rv.one;cases ru;obtain⟨z,its,n,r,hl,e⟩:=I.B1 hH
 have hi:=kR r;subst hi
 have hjl:j<ks.length:=(CW.mp hj).1
 refine Fo F.slot_list_index ⟨_,e,rfl⟩ F.entry_list_index (F.args_list_index_2 _ _) (MeetsSeq.list_index l (ks.map Dz).toArray n (.bool true) gQ (λy hy=> ?_) j (by simpa using hjl) (by omega) ?_ ?_) ⟨e,?_⟩
 ·have hy':y∈ks.map Dz:=by simpa using hy
  obtain⟨k,_,rfl⟩:=CY.mp hy'
  have:=eqB k true;cases k <;> exact this
 ·have:ks[j] =true:=by have:=(CW.mp hj).2;exact this
  simp[this,gQ]
 ·intro m hm hmj
  have hmk:m<ks.length:=by simpa using hm
  have:=(CW.mp (hno m hmj)).2
  simp[this,gQ]
 ·exact⟨.int _,H,I.tok _,⟨_,rfl⟩,q⟩
end
abbrev BD (P:C4)(w:Du)(K:CA)(mg:Str->Option CB)(base:Heap)(N:List Str)(qual:Str)(scope:Fu)(f:Addr)(cd:CB)(A:Dj)(outer:List Env)(s:Cz)(H:Hp)(e:Addr)(oe:Obj):Cx:=
 { dN CX0 P w K mg base N qual scope f cd A outer s H E0 with calm:=false,pn:=[(e,oe)],xe:=λ_ _=>False }
section
variable {P:C4}{w:Du}{K:CA}{mg:Str->Option CB}{base:Heap}
theorem om {N ps:List Str}{qual:Str}{scope:Fu}{f:Addr}{cd:CB}{A:Dj}{outer:List Env}{s s1:Cz}{H:Hp}{us:List CB}{vs:List V}{e:Addr}{oe:Obj}
  (S:bq N ps scope) (e0:kd P w K mg base A outer s H) (hl:vs.length=ps.length) (r:Vals vs us)
  (x:InCallC s s.heap.objs.size (bindL (envOfC qual scope s.heap.objs.size f cd).kindOf (ps.zip us) λ_=>none) (Ex (s.heap.objs.size+1) scope.names []) (bindC (envOfC qual scope s.heap.objs.size f cd).kindOf (ps.zip us) λ_=>none) s1)
  (he:s.heap.get? e=some oe) (hH:H e=none) (hf:e∉gx outer) (hc:∀v,oe.data≠ .cell v) :
  Inv (BD P w K mg base N qual scope f cd A outer s H e oe) [] (start N vs) H s1:=by
 have e0':kd P w K mg base { A with handled:=none } outer s H:=⟨e0.frames,e0.mod,e0.bs,e0.bsz,e0.funs,e0.frf,e0.hok,e0.bare⟩
 have I:=eZ (CX:=CX0) (E:=E0) S (A:={ A with handled:=none }) rfl e0' hl r x
 obtain⟨h1,tk,hs1,hk⟩:=x.done
 have ok:=I.ok;refine⟨⟨ok.mod,ok.kind,ok.glob,ok.blt,ok.above,ok.inj,ok.has,ok.cab,(λz=>by cases z),II e0.frames,.inr ⟨rfl,rfl⟩,ok.exf,ok.bs,ok.bsz,ok.noex,ok.exfs,ok.funs,ok.frf⟩,I.os,I.bare,I.base,I.loc,I.cell,I.free,I.freeC,λp hp=> ?_,I.hok,I.len⟩
 have hp':p=(e,oe):=by simpa using hp
 subst hp';refine⟨?_,hH,?_,hf,hc⟩
 ·rw[hs1];exact hk e oe he
 ·exact Dg (CN he)
theorem y6 {x qual:Str}{st:Stmt}{f:Addr}{fd:DB}{N ps:List Str}{A:Dj}{outer:List Env}{s:Cz}{H:Hp}{args:Args}{us:List CB}{vs:List V}{Q:VK}{e:Addr}{oe:Obj}(Fn:L2.Fun K x qual st f fd)(S:bq N ps (aj st))(hlen:vs.length=ps.length)
  (hr:A.depth+3<Fm) (e0:kd P w K mg base A outer s H) (hb:HP s fd args (ps.zip us)) (r:Vals vs us) (he:s.heap.get? e=some oe) (hH:H e=none) (hf:e∉gx outer) (hc:∀v,oe.data≠ .cell v)
  (hbody:∀(cdv:CB),∃t,PSs (BD P w K mg base N qual (aj st) f cdv A outer s H e oe) (ba st) t/\t { nx:=λ_ _=>False,rt:=Q } (start N vs) H) :
  codeAny (model P w) A (.call (.ref f) args) (CR CX0 outer P w H s Q E0) s:=by
 obtain⟨oc,od,kV,doc,pm,an,cdv,ct,osl,rfl,lk,hcd⟩:=Fn.ex
 have KX:K.In s.heap:=e0.mod.kin.keeps λb o e=>(e0.bs b o e).1
 have lim:s.heap.NoLimit:=e0.mod.nolimit.keeps λb o e=>(e0.bs b o e).1
 have hkind:∀y∈ps.zip us,(aj st).names.lookup y.1=some .local\/((aj st).names.lookup y.1=some .cell/\((Ex (s.heap.objs.size+1) (aj st).names []).lookup y.1).isSome=true):=λ⟨n,v⟩ hy=>by
  rcases S.par n (E5 hy).1 with q | q
  ·exact .inl q
  ·exact .inr ⟨q,Ek _ _ _ (.inl q)⟩
 refine Gr (by omega) (KX _ _ lk) rfl S.co S.gen rfl (Fs KX hcd) (hb _ _ _ _ ?_)
 refine Ej S.kind hkind λenv hen s1 x=> ?_
 subst hen;refine⟨lim.keeps x.toInCall.keep,Ka ?_⟩
 obtain⟨t,ht,hq⟩:=hbody cdv
 have I:=om S e0 hlen r x he hH hf hc;refine DP (ht [] s1 (start N vs) H _ I hq) (λfl s' hs=> ?_) λe s' hs=>hs.elim
 cases fl with
 | ret u=>
  obtain⟨v,σ',H',J,rv,q⟩:=hs
  exact⟨v,H',J.os,J.bare,J.base,J.hok,rv,q⟩
 | next=>obtain⟨_,_,_,q⟩:=hs;exact q.elim
 | brk=>obtain⟨_,_,_,q⟩:=hs;exact q.elim
 | cont=>obtain⟨_,_,_,q⟩:=hs;exact q.elim
end
section
variable {M:HB}{A:Dj}{E:CB->Cz->Prop}{s:Cz}
theorem AM {base:Heap}{env:Env}{outer:List Env}{L C e:Addr}{T:Option Addr}{Q:Unit->Cz->Prop}(hfr:A.frames=some (env::outer))(hl:s.heap.FunFrames base (env::outer))(hf:env.frame=some L)
  (F:Flt s.heap C e T) (h:∀h' T',wO ((env::outer).filterMap (·.frame)) C e T s.heap h' T'->Q () { s with heap:=h' }) :
  wpAny M A (FQ (.ref e) env) (λ_ s'=>wpAny M A (setFlight (.ref e) none) Q E s') E s:=by
 generalize hB:GF s.heap (e::(T.toList++(env::outer).filterMap (·.frame)))=B
 have bm:∀b,b∈e::(T.toList++(env::outer).filterMap (·.frame))->B.get? b=none:=λb m=>by rw[<-hB];exact FL _ m
 have hl':s.heap.FunFrames B (env::outer):=dt hl λa ha=>bm a (CH _ (C2 _ ha))
 have hst:B.StaysIn s.heap:=λb o q=>by rw[<-hB]at q;exact F2 _ q
 have hen:B.get? e=none:=bm e CL
 have main:∀h',Heap.Left B (env::outer) e (.ref C) s.heap h'->Q () { s with heap:=h' }:=λh' ⟨x1,x2,⟨oe,vs,T',oT,ts,he,hc,hd,h1,hnT,hTe,hT,hdT,h3⟩,x4⟩=>by
  refine h h' T' ⟨⟨hTe,oe,vs,he,hc,hd,h1,oT,ts,hT,hdT,h3⟩,?_,λb o n1 n2 n3 q=> ?_,λb o m q=> ?_⟩
  ·cases q:s.heap.get? T' with
   | none=>exact .inr rfl
   | some o=>
    left
    by_cases z:T'∈e::(T.toList++(env::outer).filterMap (·.frame))
    ·rcases CO.mp z with z | z
     ·exact absurd z hTe
     ·rcases CU.mp z with z | z
      ·cases T with
       | none=>simp at z
       | some t=>simp at z;rw[z]
      ·obtain⟨_,o',ho',hnf⟩:=x2.mem z
       rw[hT]at ho';cases ho';exact absurd hdT (hnf ts)
    ·rw[<-hB,El _ q z]at hnT;cases hnT
  ·refine x1 b o ?_
   rw[<-hB];refine El _ q λz=> ?_
   rcases CO.mp z with z | z
   ·exact n2 z
   ·rcases CU.mp z with z | z
    ·cases T with
     | none=>simp at z
     | some t=>simp at z;exact n3 (by rw[z])
    ·exact n1 z
  ·obtain⟨_,o',ho',hnf⟩:=hl.mem m
   rw[q]at ho';cases ho';exact x4 b o q hnf
 cases T with
 | none=>
  obtain⟨oe,vs,he,hc,hd,h1⟩:=F;unfold FQ;simp only[hf];refine Cy (DV he hd h1 ?_)
  rw[if_neg (by decide)]
  refine Hi hfr hl' hf he hst hen hd (Di.mp h1).1 λh' x=>main h' ?_
  rw[hc]at x;exact x
 | some t=>
  obtain⟨hte,oe,vs,he,hc,hd,h1,oT,ts,hT,hdT,h3⟩:=F
  have hnT:B.get? t=none:=bm t (CH _ (DC _ (by simp)))
  unfold FQ;simp only[hf];refine Cy (DV he hd h1 ?_)
  rw[if_pos (show(Df t != C7)=true from by simp)]
  refine Cy (DV hT hdT h3 ?_)
  rw[if_neg (show ¬((C7 == rawInt L)=true)from by simp[rawInt])]
  refine Cy (Fp hT hdT (Di.mp h3).1 ?_)
  have other:∀b,b≠t->(s.heap.update t (ER (·.setIfInBounds 3 C7))).get? b=s.heap.get? b:=λb hb=>D6 _ _ (DG hb)
  have noRec:∀b o,s.heap.get? b=some o->(∀vs,o.data≠ .fields vs)->b≠t:=λb o hb hnf q=>by
   rw[q,hT]at hb;injection hb with hb;subst hb;exact hnf ts hdT
  refine Hi hfr (hl'.of_keeps λb o hb hnf=>⟨o,(other b (noRec b o hb hnf)).trans hb,rfl⟩) hf ((other e (DG hte)).trans he)
   (λb o hbo=>(other b λq=>by rw[q,hnT]at hbo;cases hbo).trans (hst b o hbo)) hen hd (Di.mp h1).1
   λh' x=>main h' ?_
  obtain⟨x1,x2,x3,x4⟩:=x;rw[hc]at x3;exact⟨x1,x2,x3,λb o hb hnf=>x4 b o ((other b (noRec b o hb hnf)).trans hb) hnf⟩
end
section
variable {X:Cx}{pins:List (Addr×Obj)}{σ:L2.St}{H:Hp}{s:Cz}{h':Heap}
theorem Inv.gone {C e T':Addr}{T:Option Addr}(I:Inv X pins σ H s)(hst:X.stack=X.env::X.outer)(hfe:X.env.frame=some X.env.locals)(hcl:∀x c,X.env.cells.lookup x≠some c)(hex:X.ex= [])
  (g:wO ((X.env::X.outer).filterMap (·.frame)) C e T s.heap h' T') (he:H e=none) (heo:X.s₀.heap.get? e=none) (hT:∀t,T=some t->H t=none/\X.s₀.heap.get? t=none) (hp:∀p∈X.pn++pins,p.1≠e/\T≠some p.1) :
  Inv X pins σ H { s with heap:=h' }:=by
 have mem:∀b,b∈(X.env::X.outer).filterMap (·.frame)↔b=X.env.locals\/b∈X.fs:=λb=>by
  rw[Dy,hfe];exact CO
 have out:∀b o,X.s₀.heap.get? b=some o->b≠X.env.locals:=λb o q z=>by
  have h1:=CN q
  have h2:=I.ok.above;rw[z]at h1;exact absurd (CS h1 h2) (C9 _)
 have ne:∀b o,X.s₀.heap.get? b=some o->b≠e/\T≠some b:=λb o q=>⟨λz=>(by subst z;rw[heo]at q;cases q),λz=>(by rw[(hT b z).2]at q;cases q)⟩
 have fr:∀b,b∈(X.env::X.outer).filterMap (·.frame)->H b=none:=λb z=>I.BQ b (by rw[hst];exact z)
 have keepH:∀b u,H b≠none->s.heap.get? b=some u->h'.get? b=some u:=λb u hb q=>by
  refine g.keep b u (λz=>hb (fr b z)) (λz=>hb (by rw[z];exact he)) (λz=>hb (hT b z).1) q
 refine⟨I.ok,I.os,I.bare,⟨λb o q n hb hx=> ?_,λb o q n hb hx=> ?_,I.base.free,λb o q hx=> ?_,I.base.tups,I.base.frzs,I.base.tbls⟩,?_,λx c z=>absurd z (hcl x c),I.free,I.freeC,λp hp'=> ?_,λa o q=> ?_,I.len⟩
 ·exact g.keep b o (λz=>((mem b).mp z).elim (out b o q) hb) (ne b o q).1 (ne b o q).2 (I.base.keep b o q n hb hx)
 ·obtain⟨sl,q1⟩:=I.base.slot b o q n hb hx
  obtain⟨sl',q2⟩:=g.slot b _ ((mem b).mpr (.inr hb)) q1;exact⟨sl',q2⟩
 ·obtain⟨o',q1⟩:=I.base.there b o q hx
  by_cases z:b∈(X.env::X.outer).filterMap (·.frame)
  ·obtain⟨sl,q2⟩:=g.slot b o' z q1
   exact⟨_,q2⟩
  ·exact⟨o',g.keep b o' z (ne b o q).1 (ne b o q).2 q1⟩
 ·obtain⟨m,⟨o,es,ep,ho,hd,r⟩,hl⟩:=I.loc
  obtain⟨sl,q2⟩:=g.slot X.env.locals o ((mem _).mpr (.inl rfl)) ho;refine⟨m,⟨_,es,ep,q2,hd,r⟩,λi x v a1 a2 a3=> ?_⟩
  obtain⟨u,ru,lk⟩:=hl i x v a1 a2 a3;refine⟨u,ru,?_⟩
  rcases lk with z | ⟨_,c,z,_⟩
  ·exact .inl z
  ·exact absurd z (hcl x c)
 ·obtain⟨b1,b2,b3,b4,b5⟩:=I.pin p hp'
  exact⟨g.keep p.1 p.2 (λz=>((mem _).mp z).elim b3 b4) (hp p hp').1 (hp p hp').2 b1,b2,b3,b4,b5⟩
 ·refine(I.hok a o q).BW (λb u hb z=>keepH b u ?_ z) (λ_ z=>z) λ_ _ z=>z
  rcases hb with rfl | hb
  ·rw[q];simp
  ·rw[hb];simp
end
section
variable {M:HB}{A:Dj}{E:CB->Cz->Prop}{h:Heap}{g:Array IE}{d:KZ}{t:Nat}{os:GQ}
variable {nm q:Str}{C N:Addr}{bs bm:List CB}{hdct:Bool}{sn:List Str}{sub:List CB}{ab:Bool}{col:Option Bool}{dd:Option Addr}{k0 k1 k2 k3 k5:Option CB}{newId:String}
variable {nm' q':Str}{D N':Addr}{bs' bm':List CB}{hdct':Bool}{sn':List Str}{sub':List CB}{ab':Bool}{col':Option Bool}{dd':Option Addr}{k0' k1' k2' k3' k5':Option CB}{newId':String}
theorem qr {e:Addr}{oe:Obj}{Q:Bool->Cz->Prop}(hC:h.get? C=some (D2 nm q C N bs bm hdct sn sub ab col dd k0 k1 k2 k3 k5 newId))(hD:h.get? D=some (D2 nm' q' D N' bs' bm' hdct' sn' sub' ab' col' dd' k0' k1' k2' k3' k5' newId'))
  (he:h.get? e=some oe) (hcls:oe.cls= .ref C) (hb:bm'.contains (.type "BaseException")=true) (hin:(Df C::bm).contains (.ref D)=true) (hq:Q true ⟨h,g,d,t,os⟩):wpAny M A (excMatches (.ref e) (.ref D)) Q E ⟨h,g,d,t,os⟩:=by
 have hcB:(Df D::bm').contains (.type "BaseException")=true:=by rw[Ef,hb,J6]
 have f:=tc_notTuple;unfold excMatches
 repeat (first | (with_reducible refine Dv he ?_;rw[hcls]) | with_reducible refine Dv hD ?_ | (with_reducible refine EH hD ?_;rw[hcB]) | (with_reducible refine EH hC ?_;rw[hin]) | wp_step)
 exact hq
end
abbrev lV (X:Cx)(e:Addr)(oe:Obj):Cx:={ X with A:=X.A.mark (some (.ref e)),calm:=false,pn:=(e,oe)::X.pn,xe:=λ_ _=>False }
section
variable {X:Cx}{pins:List (Addr×Obj)}{σ:L2.St}{H:Hp}{s:Cz}{e:Addr}{oe:Obj}
theorem i0 (I:Inv X pins σ H s)(he:s.heap.get? e=some oe)(hH:H e=none)(hne:e≠X.env.locals)(hf:e∉X.fs)(hc:∀v,oe.data≠ .cell v):Inv (lV X e oe) pins σ H s:=by
 have ok:=I.ok;refine⟨⟨ok.mod,ok.kind,ok.glob,ok.blt,ok.above,ok.inj,ok.has,ok.cab,(λz=>by cases z),?_,ok.stk,ok.exf,ok.bs,ok.bsz,ok.noex,ok.exfs,ok.funs,ok.frf⟩,I.os,I.bare,I.base,I.loc,I.cell,I.free,I.freeC,λp hp=> ?_,I.hok,I.len⟩
 ·exact ok.frames
 ·rcases CO.mp (show p∈(e,oe)::(X.pn++pins)from hp)with z | z
  ·subst z;exact⟨he,hH,hne,hf,hc⟩
  ·exact I.pin p z
theorem pB (ok:X.Ok)(I:Inv (lV X e oe) pins σ H s):Inv X pins σ H s:=
 ⟨ok,I.os,I.bare,I.base,I.loc,I.cell,I.free,I.freeC,λp hp=>I.pin p (CH _ hp),I.hok,I.len⟩
theorem Inv.forget {h':Heap}{tk:Nat}{m:Str->Option CB}(I:Inv X pins σ H s)(hcl:∀x c,X.env.cells.lookup x≠some c)(hn:h'.Ns X.env.locals m)(hs:Fb X.env.locals s.heap h'):Inv X pins (C6 X.N.length none) H { s with heap:=h',toks:=tk }:=by
 have out:∀b o,X.s₀.heap.get? b=some o->b≠X.env.locals:=λb o q z=>by
  have h1:=CN q
  have h2:=I.ok.above;rw[z]at h1;exact absurd (CS h1 h2) (C9 _)
 have kp:∀b o,b≠X.env.locals->s.heap.get? b=some o->h'.get? b=some o:=λb o n q=>hs.extBut b o n q
 refine⟨I.ok,I.os,I.bare,⟨λb o q n hb hx=>kp b o (out b o q) (I.base.keep b o q n hb hx),λb o q n hb hx=> ?_,I.base.free,λb o q hx=> ?_,I.base.tups,I.base.frzs,I.base.tbls⟩,⟨m,hn,λi x v a1 a2 a3=> ?_⟩,λx c z=>absurd z (hcl x c),I.free,I.freeC,λp hp=> ?_,λa o q=> ?_,by simp⟩
 ·obtain⟨sl,q1⟩:=I.base.slot b o q n hb hx
  exact⟨sl,kp b _ (out b o q) q1⟩
 ·obtain⟨o',q1⟩:=I.base.there b o q hx
  exact⟨o',kp b o' (out b o q) q1⟩
 ·rw[Ff]at a2
  split at a2 <;> cases a2
 ·obtain⟨b1,b2,b3,b4,b5⟩:=I.pin p hp
  exact⟨kp p.1 p.2 b3 b1,b2,b3,b4,b5⟩
 ·have nl:∀b u,H b=some u->b≠X.env.locals:=λb u q z=>by rw[z,I.free]at q;cases q
  refine(I.hok a o q).BW (λb u hb z=>kp b u ?_ z) (λ_ z=>z) λ_ _ z=>z
  rcases hb with rfl | hb
  ·exact nl _ _ q
  ·exact nl _ _ hb
end
def mH (F:En->Rs Fl)(h:Str->Rs T)(ρ:En):Rs Fl:=match F ρ with
 | .err c=>match h c with
  | .ok t=> .ok (.rt t)
  | _=> .bad
 | r=>r
def l9 (X:Cx)(i:Nat)(suite:List Stmt)(CE:Addr)(h:Str->Rs T):Prop:=
 ∀(c:Str) (C:Addr) (t:T),X.mg c=some (.ref C)->h c= .ok t->∃bm,OX X.K C bm/\(Df C::bm).contains (.ref CE)=true ∧
  ∀(e:Addr) (oe:Obj) (ev:Array CB),oe.cls= .ref C->oe.data= .fields ev->∀(pins:List (Addr×Obj)) (s:Cz) (σ:L2.St) (H:Hp) (O:Ow) (Q:VK),Inv (lV X e oe) pins σ H s->H e=none->e∉gx X.stack->σ[i]? =some (some (.ref e))->(∀p,H p=none->¬ O p) →
   (∀v H',Same H H'->Rep X.K O H' t v->Q v H')->wpAny (model X.prog X.w) (lV X e oe).A (execs suite X.env) (SP (lV X e oe) pins { nx:=λ_ _=>False,rt:=Q }) (λ_ _=>False) s
section
variable {X:Cx}
theorem Inv.Cn {σ:L2.St}{H:Hp}{s:Cz}(pins:List (Addr×Obj))(I:Inv X pins σ H s):Inv { X with pn:=X.pn++pins } [] σ H s:=
 ⟨⟨I.ok.mod,I.ok.kind,I.ok.glob,I.ok.blt,I.ok.above,I.ok.inj,I.ok.has,I.ok.cab,I.ok.hd,I.ok.frames,I.ok.stk,I.ok.exf,I.ok.bs,I.ok.bsz,I.ok.noex,I.ok.exfs,I.ok.funs,I.ok.frf⟩,I.os,I.bare,I.base,I.loc,I.cell,I.free,I.freeC,λp hp=>I.pin p (by rw[Do]at hp;exact hp),I.hok,I.len⟩
theorem Inv.Co {σ:L2.St}{H:Hp}{s:Cz}{pins pins1:List (Addr×Obj)}{xe:CB->Cz->Prop}(I:Inv { X with pn:=X.pn++pins,xe:=xe } pins1 σ H s):Inv X pins σ H s:=
 ⟨⟨I.ok.mod,I.ok.kind,I.ok.glob,I.ok.blt,I.ok.above,I.ok.inj,I.ok.has,I.ok.cab,I.ok.hd,I.ok.frames,I.ok.stk,I.ok.exf,I.ok.bs,I.ok.bsz,I.ok.noex,I.ok.exfs,I.ok.funs,I.ok.frf⟩,I.os,I.bare,I.base,I.loc,I.cell,I.free,I.freeC,λp hp=>I.pin p (DC _ hp),I.hok,I.len⟩
theorem x6 {body suite:List Stmt}{b0:Stmt}{F:En->Rs Fl}{h:Str->Rs T}{ce n:Str}{CE:Addr}{bmE:List CB}{i:Nat}{np hpos pos:Pos}(hst:X.stack=X.env::X.outer)(hfe:X.env.frame=some X.env.locals)(hcl:∀x c,X.env.cells.lookup x≠some c)(hex:X.ex= [])
  (hN:X.N.Nodup) (hi:X.N[i]? =some n) (hloc:X.env.scope.names.lookup n=some .local) (hm:X.mg ce=some (.ref CE)) (OE:OX X.K CE bmE)
  (hb:∀pn xe,iQ { X with pn:=pn,xe:=xe } body F) (hs:l9 X i (b0::suite) CE h) (hg:autoParam (Gl X ce) u_) (hd:autoParam ((ce == ("__debug__" : Str))=false) s_) :
  uh X (.Try body [.ExceptHandler (some (.Name ce np)) (some n) (b0::suite) hpos] [] [] pos) (mH F h):=by
 intro pins s σ H D I ⟨ρ,B,M,E,hq⟩;refine wpAny_Try_except ?_
 unfold mH at hq
 cases q:F ρ with
 | bad=>rw[q]at hq;exact hq.elim
 | ok fl=>
  rw[q]at hq;refine DP (hb X.pn (λ_ _=>False) pins s σ H D (I.BM _) ⟨ρ,B,M,E,by rw[q];cases fl <;> exact hq⟩) (λf s1 r=> ?_) (λe s1 z=>z.elim)
  cases f with
  | next=>obtain⟨σ7,H7,I7,q7⟩:=r;exact FC ⟨σ7,H7,I7.BM _,q7⟩
  | ret u=>obtain⟨x7,σ7,H7,I7,r7,q7⟩:=r;exact⟨x7,σ7,H7,I7.BM _,r7,q7⟩
  | brk=>obtain⟨σ7,H7,I7,q7⟩:=r;exact⟨σ7,H7,I7.BM _,q7⟩
  | cont=>obtain⟨σ7,H7,I7,q7⟩:=r;exact⟨σ7,H7,I7.BM _,q7⟩
 | err c=>
  rw[q]at hq
  cases q2:h c with
  | bad=>simp only[q2]at hq;exact hq.elim
  | err c'=>simp only[q2]at hq;exact hq.elim
  | ok t=>
   simp only[q2]at hq
   have hq':∀v H',SameO M.u H H'->Rep X.K B H' t v->D.rt v H':=hq;refine DP (hb (X.pn++pins) _ [] s σ H { nx:=λ_ _=>False,rt:=λ_ _=>False,bk:=λ_ _=>False,ct:=λ_ _=>False } ((Tr.Inv.Cn pins I).BM _) ⟨ρ,B,M,E,?_⟩) (λfl s' z=> ?_) λ_ _ z=>z
   rotate_left
   ·cases fl with
    | next=>obtain⟨_,_,_,z⟩:=z;exact z.elim
    | cont=>obtain⟨_,_,_,z⟩:=z;exact z.elim
    | brk=>obtain⟨_,_,_,z⟩:=z;exact z.elim
    | ret v=>obtain⟨_,_,_,_,_,z⟩:=z;exact z.elim
   rw[q];intro pins1 ev s1 w;obtain⟨e,T,C,σ1,H1,rfl,hmc,I1,sm,he,heo,fl,hT,hpp⟩:=w
   have I1:Inv X pins σ1 H1 s1:=Tr.Inv.Co (X:=X) I1
   have hpp:∀p∈X.pn++pins,p.1≠e/\T≠some p.1:=λp hp=>hpp p (DC _ hp)
   have heo:=heo hex
   have hT:∀t,T=some t->H1 t=none/\X.s₀.heap.get? t=none:=λt z=>⟨(hT t z).1,(hT t z).2 hex⟩
   show wpAny _ _ _ _ _ _
   have hfr:X.A.frames=some (X.env::X.outer):=by rw[<-hst];exact I1.ok.frames
   have hstk:s1.heap.FunFrames X.base (X.env::X.outer):=by rw[<-hst];exact I1.stack
   refine AM hfr hstk hfe fl λh' T' g=> ?_
   have I2:=Inv.gone I1 hst hfe hcl hex g he heo hT hpp
   have Tn:H1 T'=none/\X.s₀.heap.get? T'=none/\∀p∈X.pn++pins,p.1≠T':=by
    rcases g.new with z | z
    ·exact⟨(hT T' z).1,(hT T' z).2,λp hp y=>(hpp p hp).2 (by rw[z,y])⟩
    ·exact⟨eW I1 z,eL I1 hex z,λp hp y=>by have:=(I1.pin p hp).1;rw[y,z]at this;cases this⟩
   obtain⟨bm,OC,hin,run⟩:=hs c C t hmc q2;obtain⟨hTe,oe,ev,hoe,hoc,hod,h1,oT,ts,hoT,hdT,h3⟩:=g.flt
   have nfr:∀b o vs,h'.get? b=some o->o.data= .fields vs->b∉(X.env::X.outer).filterMap (·.frame):=λb o vs hb hd z=>by
    have:=I2.stack;rw[hst]at this;obtain⟨_,o',ho',hnf⟩:=this.mem z;rw[show h'.get? b=some o' from ho']at hb
    cases hb;exact hnf vs hd
   have hel:e≠X.env.locals:=λz=>nfr e oe ev hoe hod (by rw[Dy,hfe];exact z▸CL)
   have hef:e∉X.fs:=λz=>nfr e oe ev hoe hod (by rw[Dy,hfe];exact CH _ z)
   have hcell:∀v,oe.data≠ .cell v:=λv z=>by rw[hod]at z;cases z
   have I3:Inv (lV X e oe) pins σ1 H1 { s1 with heap:=h' }:=i0 I2 hoe he hel hef hcell
   refine IZ (Iz (fh (X:=lV X e oe) I3 hg hm ?_ hd)) (by intro z;cases z)
   obtain⟨nm,qq,N,bs,hdct,sn,sub,ab,col,dd,k0,k1,k2,k3,k5,mN,hC,_⟩:=OC.at_ h' I3.kIn;obtain⟨nm',qq',N',bs',hdct',sn',sub',ab',col',dd',k0',k1',k2',k3',k5',mN',hD,_,_,TD⟩:=OE.at_ h' I3.kIn;refine qr hC hD hoe hoc (TD.tail.hasType (by decide)) hin (codeAny_handlers_suite_as ?_)
   refine IM hoe hod h1 hoT hdT (Di.mp h3).1 ?_
   generalize hU:h'.update T' (ER (·.setIfInBounds 3 C7))=h2
   have kp:∀b,b≠T'->h2.get? b=h'.get? b:=λb hb=>by rw[<-hU];exact D6 _ _ (DG hb)
   have hT2:h2.get? T'=some (ER (·.setIfInBounds 3 C7) oT):=by rw[<-hU];exact DR _ hoT (EO (DM hdT _))
   have hoe2:h2.get? e=some oe:=(kp e (DG hTe)).trans hoe
   have g2:wO ((X.env::X.outer).filterMap (·.frame)) C e (some T') h' h2 T':=⟨⟨hTe,oe,ev,hoe2,hoc,hod,h1,_,_,hT2,DM hdT _,by simp[(Di.mp h3).1]⟩,.inl rfl,λb o _ _ n3 q=>(kp b λz=>n3 (by rw[z])).trans q,λb o m q=>⟨o.slots,(kp b λz=>nfr T' oT ts hoT hdT (z▸m)).trans q⟩⟩
   have I4:Inv X pins σ1 H1 { s1 with heap:=h2 }:=Inv.gone (s:={ s1 with heap:=h' }) I2 hst hfe hcl hex g2 he heo (λt z=>by cases z;exact⟨Tn.1,Tn.2.1⟩) λp hp=>⟨(hpp p hp).1,λz=>Tn.2.2 p hp (Dr z).symm⟩
   have I5:Inv (lV X e oe) pins σ1 H1 { s1 with heap:=h2 }:=i0 I4 hoe2 he hel hef hcell
   refine je (X:=lV X e oe) (v:=.ref e) I5 hN hi (.inl hloc) rfl (λs3 I6=> ?_) (.inr hloc)
   have hil:i<σ1.length:=by
    rw[I1.len];exact(CW.mp hi).1
   refine DP (run e oe ev hoc hod pins s3 _ H1 B (λv H'=>Same H1 H'/\Rep X.K B H' t v) I6 he (λz=> ?_) (by simp[hil]) (λp hp z=> ?_) λv H' s' r=>⟨s',r⟩) (λf s4 r=> ?_) λ_ _ z=>z.elim
   ·rw[hst]at z
    exact nfr e oe ev hoe hod z
   ·obtain⟨o,ho⟩:=(E.env.trk p (.inl z)).some
    have:=sm p o ho (λw=>E.mine p w z)
    rw[hp]at this;cases this
   ·cases f with
    | next=>obtain⟨_,_,_,z⟩:=r;exact z.elim
    | brk=>obtain⟨_,_,_,z⟩:=r;exact z.elim
    | cont=>obtain⟨_,_,_,z⟩:=r;exact z.elim
    | ret u=>
     obtain⟨v,σ',H',I7,rv,s',rt⟩:=r;obtain⟨m,hn,_⟩:=I7.loc;refine wpAny_nameGoes (show X.env.kindOf n=some .local from hloc) hn (by rw[I.ok.kind];rfl) λh8 m8 hn8 hs8=> ?_
     exact⟨v,_,H',Inv.forget (pB I.ok I7) hcl hn8 hs8,rv,hq' v H' (λb o y nn=>s' b o (sm b o y nn)) rt⟩
end
section
variable {X:Cx}{e C:Addr}{oe:Obj}{bm:List CB}
theorem zy:Dh "ValueError" =some (.type "ValueError"):=by decide+kernel
theorem yr {en:Str}{p p1 p2 pos:Pos}(hN:X.N[0]? =some en)(hv:qK X.env.scope en)(hp:(e,oe)∈X.pn)(hc:oe.cls= .ref C)(OC:OX X.K C bm)
  (hm:X.mg "isinstance" =none) (hmD:X.mg "ValueError" =none) (hg:autoParam (Gl X "isinstance") u_) (hgD:autoParam (Gl X "ValueError") u_) (hde:autoParam ((en == ("__debug__" : Str))=false) s_) (hce:autoParam ((en == ("__classdict__" : Str))=false) s_)
  (he:autoParam (CV [.Name en p1,.Name "ValueError" p2] X.env=(false,eval (.Name en p1) X.env)::CV [.Name "ValueError" p2] X.env) u_) (hpl:autoParam ((backTo pos (CV [.Name "ValueError" p2] X.env)).any (·.1)=false) u_)
  (hs:autoParam (CV [.Name "ValueError" p2] X.env=(false,eval (.Name "ValueError" p2) X.env)::CV [] X.env) u_) :
  PE X (.Call (.Name "isinstance" p) [.Name en p1,.Name "ValueError" p2] [] pos) (tIs e true):=by
 intro pins s σ H Q I ⟨hσ,q⟩;refine DO (dA I hg hm dD ?_ (by decide) (by decide))
 have hA:PA X [.Name en p1,.Name "ValueError" p2] (gH (rG 0) (gH (tC (.ty "ValueError")) rH)):=bu (jm hN hv hde hce) (bu (o7 (v:=.ty "ValueError") hgD hmD zy rfl) eK hs) he;refine D5 (bF (hA pos pins s σ H (λvs H'=>vs= [.ref e,.ty "ValueError"]/\H'=H) I ⟨.ref e,hσ,rfl,rfl⟩) λus s1 ⟨vs,H1,I1,r1,e1,e2⟩=> ?_) he hpl
 subst e1;obtain⟨u,w',rfl,ru,rw'⟩:=rk r1;cases ru;cases rw';subst e2;exact tG hp hc OC I1 q
end
theorem AL {K:CA}{N:Addr}{ob:CB}{oe:Option Addr}{es:Array DictEntry}{n:Nat}{oz:Array (Option CB)}(r:K.lookup N=some ⟨ob,oe,.dict es n,oz⟩)(s:(es.toList.all λe=>rN e.key)=true)
  (u0:FX K N "__init__" =some none) (u1:FX K N "__getattribute__" =some none) (u2:FX K N "__getattr__" =some none) (u3:FX K N "__class__" =some none) :
  ∀h:Heap,K.In h->∃mN,h.Ns N mN/\∀n∈calmNames,mN n=none:=λh k=>by
 refine⟨nsFind es,⟨_,es,n,k _ _ r,rfl,λe he=> ?_,λ_=>rfl⟩,λx hx=> ?_⟩
 ·have:=Dc.mp s e (by simpa using he)
  cases q:e.key <;> rw[q]at this <;> first | exact⟨_,_,rfl⟩ | cases this
 ·have key:∀x,FX K N x=some none->nsFind es x=none:=λx u=>by
   unfold FX at u;rw[r]at u;simp only at u
   split at u
   ·cases u
   ·rename_i he
    unfold nsFind findBy;rw[<-Jg,he];rfl
  unfold calmNames at hx;simp only[CO,Ei,or_false]at hx;rcases hx with rfl | rfl | rfl | rfl
  ·exact key _ u0
  ·exact key _ u1
  ·exact key _ u2
  ·exact key _ u3
section
variable {K:CA}{nm q:Str}{C N:Addr}{bs:List CB}{hdct:Bool}{sn:List Str}{sub:List CB}{ab:Bool}{col:Option Bool}{dd:Option Addr}{k0 k1 k2 k3 k5:Option CB}
variable {nm' q':Str}{D N':Addr}{bs':List CB}{hdct':Bool}{sn':List Str}{sub':List CB}{ab':Bool}{col':Option Bool}{dd':Option Addr}{k0' k1' k2' k3' k5':Option CB}
theorem vB (w:K.lookup C=some (D2 nm q C N bs iM hdct sn sub ab col dd k0 k1 k2 k3 k5 "ValueError.__new__"))(ns:∀h:Heap,K.In h->∃mN,h.Ns N mN/\∀n∈calmNames,mN n=none):OX K C iM:=⟨λh k=>by
 obtain⟨mN,h1,h2⟩:=ns h k;exact⟨nm,q,N,bs,hdct,sn,sub,ab,col,dd,k0,k1,k2,k3,k5,mN,k _ _ w,h1,h2,.base⟩⟩
theorem sE (w:K.lookup C=some (D2 nm q C N bs (.ref D::iM) hdct sn sub ab col dd k0 k1 k2 k3 k5 "ValueError.__new__"))(ns:∀h:Heap,K.In h->∃mN,h.Ns N mN/\∀n∈calmNames,mN n=none)
  (wD:K.lookup D=some (D2 nm' q' D N' bs' iM hdct' sn' sub' ab' col' dd' k0' k1' k2' k3' k5' "ValueError.__new__")) (nsD:∀h:Heap,K.In h->∃mN,h.Ns N' mN/\∀n∈calmNames,mN n=none):OX K C (.ref D::iM):=⟨λh k=>by
 obtain⟨mN,h1,h2⟩:=ns h k;obtain⟨mD,d1,d2⟩:=nsD h k;exact⟨nm,q,N,bs,hdct,sn,sub,ab,col,dd,k0,k1,k2,k3,k5,mN,k _ _ w,h1,h2,.own (k _ _ wD) d1 d2 .base⟩⟩
end
theorem z9 {k:Nat}{A:Dj}(h:Room k A):A.depth+3<Fm:=by have:=h.dp;omega
end Tr
namespace L2
open PySem PySem.Spec PyProof.Rows
abbrev KT (H:Hp):List (List jV×V)->List (List jV×Addr×CB)->Prop:=KY λp q=>p.1=q.1/\H q.2.1=some (.tup (p.1.map kV))/\RelV p.2 q.2.2
structure M2 (X:Cx)(o:Expr)(m:Str)(apos:Pos)(e f:Expr)(cpos:Pos):Prop where
 base:FH o m X.env (eval o X.env)=eval o X.env
 few:((backTo cpos (CV [e,f] X.env)).all (λx=> !x.1)&&(backToKw cpos (keywordEach [] X.env)).all (λx=>x.1.isSome)
  &&decide (([e,f]:List Expr).length+([]:List Keyword).length+(if ([]:List Keyword).isEmpty then 0 else 1)<30))=true
 line:(apos.endLine == cpos.line)=true
 trees:backTo cpos (CV [e,f] X.env)= [(false,eval e X.env),(false,eval f X.env)]
end L2
namespace Tr
theorem mZ:∀l,d6 l l=false
 | [] =>rfl
 | a::l=>by unfold d6;rw[if_pos rfl];exact mZ l
theorem lL:∀a b c,d6 a b=true->d6 b c=true->d6 a c=true
 | [],[],_,h,_=>absurd h (by simp[d6])
 | _::_,[],_,h,_=>absurd h (by simp[d6])
 | [],_::_,[],_,h=>absurd h (by simp[d6])
 | [],_::_,_::_,_,_=>rfl
 | _::_,_::_,[],_,h=>absurd h (by simp[d6])
 | x::a,y::b,z::c,h,g=>by
  unfold d6 at h g ⊢
  by_cases e:x=y
  ·subst e
   rw[if_pos rfl]at h
   by_cases e2:x=z
   ·rw[if_pos e2]at g ⊢;exact lL a b c h g
   ·rw[if_neg e2]at g ⊢;exact g
  ·rw[if_neg e]at h
   by_cases e2:y=z
   ·subst e2;rw[if_neg e];exact h
   ·rw[if_neg e2]at g
    have h1:=of_decide_eq_true h
    have h2:=of_decide_eq_true g;rw[if_neg (by omega)]
    exact decide_eq_true (by omega)
theorem jB:∀a b,d6 a b=false->d6 b a=false->a=b
 | [],[],_,_=>rfl
 | [],_::_,h,_=>absurd h (by simp[d6])
 | _::_,[],_,h=>absurd h (by simp[d6])
 | x::a,y::b,h,g=>by
  unfold d6 at h g
  by_cases e:x=y
  ·subst e
   rw[if_pos rfl]at h g;rw[jB a b h g]
  ·rw[if_neg e]at h
   rw[if_neg (λz=>e z.symm)]at g
   have h1:=of_decide_eq_false h
   have h2:=of_decide_eq_false g;omega
theorem sX (a b c:List Int)(h:d6 a c=true):d6 a b=true\/d6 b c=true:=by
 cases h1:d6 a b with
 | true=>exact .inl rfl
 | false=>
  cases h2:d6 b a with
  | true=>exact .inr (lL _ _ _ h2 h)
  | false=>rw[<-jB _ _ h1 h2];exact .inr h
end Tr
namespace Tr
open PySem PySem.Spec PyProof.Rows L2 PySem.W
variable (R:RK)
variable {R:RK}
def RK.kind (R:RK)(h:Heap):PyProof.Rows.KeyKind:={ α:=List Int,blt:=d6,irrefl:=mZ,trans:=lL,negTrans:=sX,total:=jB,keyOf:=R.key h,dflt:=[] }
def RK.row (R:RK)(h:Heap)(v:CB):List Int:=(R.key h v).getD []
end Tr
namespace L2
open PySem PySem.Spec PyProof.Rows
theorem ni {n b:Nat}:b∈ [n+4,n,n+1,n+2,n+3] ↔n<=b/\b<n+5:=by
 simp only[CO,Ei,or_false];omega
end L2
namespace Tr
open PySem
def c0 (g:List T->Rs T)(_:En):Rs T:=match g []with
 | .ok t=> .ok t
 | _=> .bad
end Tr
namespace PySem
open Sem (wp)
open L2 (itAt)
structure PW (prog:C4)(w:Du)(A:Dj)(I:Addr)(T:String)(fp wr:List Addr)(n:Nat)(R:Nat->CB->CB->Prop)(St:Nat->Option Addr->Heap->Prop):Prop where
 sub:∀b∈wr,b∈fp
 ty:∀i o (s:Cz),St i o s.heap->s.TypeIs (.ref I) T
 frame:∀i o h h',St i o h->(∀b∈fp,∀ob,h.get? b=some ob->h'.get? b=some ob)->St i o h'
 item:∀i o (s:Cz) (Q:Option CB->Cz->Prop) (E:CB->Cz->Prop),i<n->St i o s.heap->(∀t,o=some t->∃ob,s.heap.get? t=some ob) →
  (∀p h' tk x y,R i x y->s.heap.objs.size<=p->IsPair h' p x y->St (i+1) (some (o.getD p)) h'->(∀b ob,b∉wr->s.heap.get? b=some ob->h'.get? b=some ob)->Q (some (.ref p)) { s with heap:=h',toks:=tk })->wpAny (model prog w) A (pyNext (.ref I)) Q E s
 done:∀o (s:Cz) (Q:Option CB->Cz->Prop) (E:CB->Cz->Prop),St n o s.heap->(∀t,o=some t->∃ob,s.heap.get? t=some ob)->(∀h' tk,(∀b ob,b∉wr->s.heap.get? b=some ob->h'.get? b=some ob)->Q none { s with heap:=h',toks:=tk })->wpAny (model prog w) A (pyNext (.ref I)) Q E s
 self:∀i o (s:Cz) (Q:CB->Cz->Prop) (E:CB->Cz->Prop),St i o s.heap->Q (.ref I) s->wpAny (model prog w) A (pyIter (.ref I)) Q E s
end PySem
namespace Tr
open PySem PySem.Spec PyProof.Rows L2
section
variable {X:Cx}{a b:Expr}{fs:En->Rs (List T)}{p p1 p2 pos:Pos}
theorem km:∀{m:List T} {ns:List Int},jx m=some ns->m=ns.map .int
 | [],ns,h=>by cases h;rfl
 | t::m,ns,h=>by
  cases t with
  | int i=>
   unfold jx at h;obtain⟨k,h1,rfl⟩:=H0.mp h
   rw[km h1];rfl
  | _=>cases h
end
end Tr
namespace Tr
open PySem
inductive Fx where
 | nx (ρ:En) | rt (t:T) (ρ:En)
def mN (ρ:En):Rs Fx:=.ok (.nx ρ)
end Tr
namespace Tr
open PySem PySem.Spec PyProof.Rows L2
abbrev one (j:Nat)(m:Ow):Mn:=noM.set j m
structure QE (X:Cx)(e:Expr)(f:En->Rs T):Prop where
 h:cq X e f
structure QA (X:Cx)(e:List Expr)(f:En->Rs (List T)):Prop where
 h:nA X e f
structure QT (X:Cx)(e:Expr)(f:En->Rs Bool):Prop where
 h:ug X e f
structure QW (X:Cx)(e:Expr)(f:En->Rs Bool):Prop where
 h:Bq X e f
structure QS (X:Cx)(e:Stmt)(f:En->Rs Fl):Prop where
 h:uh X e f
structure qQ (X:Cx)(e:List Stmt)(f:En->Rs Fl):Prop where
 h:iQ X e f
structure QG (X:Cx)(e:Expr)(f:T->En->Rs En):Prop where
 h:wL X e f
structure BE (X:Cx)(e:List Expr)(f:List T->En->Rs En):Prop where
 h:ui X e f
structure QI (X:Cx)(t e:Expr)(f:En->Rs (List T)):Prop where
 h:uA X t e f
structure QO (X:Cx)(e:Option Expr)(f:En->Rs (Option Int)):Prop where
 h:Br X e f
structure zG (X:Cx)(e:List Expr)(f:En->Rs Bool):Prop where
 h:nH X e (qP X f)
theorem af {X:Cx}(i:Nat){x:Str}{pos:Pos}(hN:autoParam ((Cx.N X)[i]? =some x) u_)(hv:autoParam (qK (Ht (Cx.env X)) x) v_)(hd:autoParam ((x == C0 "__debug__")=false) s_)(hcd:autoParam ((x == C0 "__classdict__")=false) s_):QE X (E6 x pos) (vr i):=
 ⟨Ah (i:=i) (hN:=hN) (hv:=hv) (hd:=hd) (hcd:=hcd)⟩
theorem ak {X:Cx}{i:Int}{j:Nat}{pos:Pos}:QE X (GA (Const.int i) j pos) (cn (T.int i)):=
 ⟨Aq ⟩
theorem oE {X:Cx}{i:Bool}{j:Nat}{pos:Pos}:QE X (GA (Const.bool i) j pos) (cn (T.bl i)):=
 ⟨q_bl ⟩
theorem g8 {X:Cx}{j:Nat}{pos:Pos}:QE X (GA Const.none j pos) (cn T.non):=
 ⟨An ⟩
theorem aH {X:Cx}{i:Str}{j:Nat}{pos:Pos}:QE X (GA (Const.str i) j pos) (cn (T.str i)):=
 ⟨Aj ⟩
theorem uD {X:Cx}{x:Str}{i:Int}{u:CB}{pos:Pos}(hm:Cx.mg X x=some u)(r:L2.RelV (V.int i) u)(hg:autoParam (Gl X x) u_)(hd:autoParam ((x == C0 "__debug__")=false) s_):QE X (E6 x pos) (cn (T.int i)):=
 ⟨yi (hm:=hm) (r:=r) (hg:=hg) (hd:=hd)⟩
theorem ag {X:Cx}:QA X [] ah:=
 ⟨yg ⟩
theorem ai {X:Cx}{e:Expr}{es:List Expr}{f:En->Rs T}{g:En->Rs (List T)}(he:QE X e f)(hr:QA X es g)(hn:autoParam (cI e=true) u_):QA X (e::es) (ae f g):=
 ⟨qa_c (he:=he.h) (hr:=hr.h) (hn:=hn)⟩
theorem cS {X:Cx}{es:List Expr}{x1:Nat}{pos:Pos}{f:En->Rs (List T)}(h:QA X es f):QE X (Expr.Tuple es x1 pos) (cB f):=
 ⟨Ai (h:=h.h)⟩
theorem g9 {X:Cx}{es:List Expr}{pos:Pos}{f:En->Rs (List T)}(h:QA X es f):QE X (Expr.List es pos) (gz f):=
 ⟨Ao (h:=h.h)⟩
theorem aq {X:Cx}{a b:Expr}{fa fb:En->Rs T}{pos:Pos}{op:Jw}{g:T->T->Rs T}(ho:OpT X (Ed op) g)(ha:QE X a fa)(hb:QE X b fb):QE X (Expr.BinOp a op b pos) (o2 g fa fb):=
 ⟨Au (ho:=ho) (ha:=ha.h) (hb:=hb.h)⟩
theorem i6 {X:Cx}{a b:Expr}{fa fb:En->Rs T}{pos:Pos}{op:KJ}{g:T->T->Rs T}(ho:OpT X (DN op) g)(ha:QE X a fa)(hb:QE X b fb)(hm:autoParam (EA op b=false) u_):QE X (J7 a [op] [b] pos) (o2 g fa fb):=
 ⟨As (ho:=ho) (ha:=ha.h) (hb:=hb.h) (hm:=hm)⟩
theorem mm {X:Cx}{a b c:Expr}{fa fb fc:En->Rs T}{pos:Pos}{op op':KJ}{g g':T->T->Rs T}(ho:OpT X (DN op) g)(ho':OpT X (DN op') g')(ha:QE X a fa)(hb:QE X b fb)(hc:QE X c fc)(hm:autoParam (lastMarks [op,op'] [b,c] =false) w_):QE X (J7 a [op,op'] [b,c] pos) (ch g g' fa fb fc):=
 ⟨vf (ho:=ho) (ho':=ho') (ha:=ha.h) (hb:=hb.h) (hc:=hc.h) (hm:=hm)⟩
theorem dk {X:Cx}{e:Expr}{f:En->Rs T}(h:QE X e f)(he:autoParam (∀(whole:Sem CB),PySem.isTrue e (Cx.env X) whole=(do let v <-whole;standAt (Expr.pos e);holding [v] (truthy v))) t_):QT X e (tb f):=
 ⟨xY (h:=h.h) (he:=he)⟩
theorem gD {X:Cx}{a b:Expr}{fa fb:En->Rs T}{pos:Pos}{op:KJ}{g:T->T->Rs T}(ho:OpT X (DN op) g)(ha:QE X a fa)(hb:QE X b fb)(hm:autoParam (EA op b=false) u_):QT X (J7 a [op] [b] pos) (tb (o2 g fa fb)):=
 ⟨x5 (ho:=ho) (ha:=ha.h) (hb:=hb.h) (hm:=hm)⟩
theorem kP {X:Cx}{a:Expr}{pos:Pos}{f:En->Rs Bool}(ha:QT X a f):QW X (FT Io [a] pos) f:=
 ⟨xX (ha:=ha.h)⟩
theorem nI {X:Cx}{a b:Expr}{pos:Pos}{f g:En->Rs Bool}{rest:List Expr}(ha:QT X a f)(hb:QW X (FT Io (b::rest) pos) g):QW X (FT Io (a::b::rest) pos) (lj f g):=
 ⟨Ae (ha:=ha.h) (hb:=hb.h)⟩
theorem qR {X:Cx}{f:En->Rs Bool}{e:Expr}(h:QW X e f):QT X e f:=
 ⟨qt_w (h:=h.h)⟩
theorem dG {X:Cx}{a:Expr}{pos:Pos}{f:En->Rs Bool}(ha:QT X a f):QT X (J8 UnaryOp.Not a pos) (dv f):=
 ⟨xZ (ha:=ha.h)⟩
theorem dz {X:Cx}{a:Expr}{fa:En->Rs T}{pos:Pos}{op:BoolOp}(h:QE X a fa):QE X (FT op [a] pos) fa:=
 ⟨Al (h:=h.h)⟩
theorem cU {X:Cx}{a b:Expr}{fa fb:En->Rs T}{pos:Pos}{rest:List Expr}(ha:QE X a fa)(hb:QE X (FT BoolOp.And (b::rest) pos) fb):QE X (FT BoolOp.And (a::b::rest) pos) (bR fa fb):=
 ⟨Av (ha:=ha.h) (hb:=hb.h)⟩
theorem zJ {X:Cx}{a b:Expr}{fa fb:En->Rs T}{pos:Pos}{rest:List Expr}(ha:QE X a fa)(hb:QE X (FT Io (b::rest) pos) fb):QE X (FT Io (a::b::rest) pos) (AE fa fb):=
 ⟨q_or (ha:=ha.h) (hb:=hb.h)⟩
theorem xy {X:Cx}{a:Expr}{fa:En->Rs T}{pos:Pos}(ha:QE X a fa):QE X (J8 UnaryOp.Not a pos) (o1 vI fa):=
 ⟨Am (ha:=ha.h)⟩
theorem wR {X:Cx}{a b c:Expr}{fa fb:En->Rs T}{pos:Pos}{f:En->Rs Bool}(hc:QT X c f)(ha:QE X a fa)(hb:QE X b fb):QE X (Expr.IfExp c a b pos) (vU f fa fb):=
 ⟨q_if (hc:=hc.h) (ha:=ha.h) (hb:=hb.h)⟩
theorem aG {X:Cx}{a b:Expr}{fa fb:En->Rs T}{pos:Pos}(ha:QE X a fa)(hb:QE X b fb)(hs:autoParam (pU b) x_):QE X (IQ a b pos) (o2 a9 fa fb):=
 ⟨q_ix (ha:=ha.h) (hb:=hb.h) (hs:=hs)⟩
theorem qU {X:Cx}:QO X none pN:=
 ⟨uX ⟩
theorem qT {X:Cx}{a:Expr}{fa:En->Rs T}(ha:QE X a fa):QO X (some a) (pS fa):=
 ⟨uW (ha:=ha.h)⟩
theorem qX {X:Cx}{a:Expr}{fa:En->Rs T}{pos:Pos}{lo hi:Option Expr}{p2:Pos}{fl fu:En->Rs (Option Int)}(ha:QE X a fa)(hl:QO X lo fl)(hu:QO X hi fu):QE X (IQ a (Expr.Slice lo hi none p2) pos) (sl fa fl fu):=
 ⟨ve (ha:=ha.h) (hl:=hl.h) (hu:=hu.h)⟩
theorem xw {X:Cx}{a:Expr}{fa:En->Rs T}{pos:Pos}{j:Nat}{p1 p2 p3:Pos}(ha:QE X a fa):QE X (IQ a (Expr.Slice none none (some (J8 UnaryOp.USub (GA (Const.int 1) j p1) p2)) p3) pos) (o1 rW fa):=
 ⟨Ak (ha:=ha.h)⟩
theorem dQ {X:Cx}{e:Expr}{es:List Expr}{fs:En->Rs (List T)}{pos p:Pos}{x:Str}{id:String}{g:List T->Rs T}(hc:CallT X (FG id) g)(hm:Cx.mg X x=none)(hv:Dh x=some (FG id))(ha:QA X (e::es) fs)(hn:autoParam (a8 (e::es)=true) u_)(hg:autoParam (Gl X x) u_)(h1:autoParam (x≠C0 "__name__") s_)(h2:autoParam ((x == C0 "__debug__")=false) s_):QE X (Hu (E6 x p) (e::es) [] pos) (cl g fs):=
 ⟨q_cB (hc:=hc) (hm:=hm) (hv:=hv) (ha:=ha.h) (hn:=hn) (hg:=hg) (h1:=h1) (h2:=h2)⟩
theorem cy {X:Cx}{e:Expr}{es:List Expr}{fs:En->Rs (List T)}{pos p:Pos}{x:Str}{Ty:String}{g:List T->Rs T}(hc:CallT X (Eh Ty) g)(hm:Cx.mg X x=none)(hv:Dh x=some (Eh Ty))(ha:QA X (e::es) fs)(hn:autoParam (a8 (e::es)=true) u_)(hg:autoParam (Gl X x) u_)(h1:autoParam (x≠C0 "__name__") s_)(h2:autoParam ((x == C0 "__debug__")=false) s_):QE X (Hu (E6 x p) (e::es) [] pos) (cl g fs):=
 ⟨q_cT (hc:=hc) (hm:=hm) (hv:=hv) (ha:=ha.h) (hn:=hn) (hg:=hg) (h1:=h1) (h2:=h2)⟩
theorem zq_c {X:Cx}{e:Expr}{es:List Expr}{fs:En->Rs (List T)}{pos p:Pos}{x:Str}{n k:Nat}{f:Addr}{fd:DB}{ps:List Str}{g:List T->Rs T}(F:zH (Cx.prog X) (Cx.w X) (Cx.K X) (Cx.mg X) (Cx.base X) k f fd ps n g)(hr:Room k (Cx.A X))(hm:Cx.mg X x=some (Df f))(hk:W.keepIn (Cx.K X) (Df f)=true)(hb:L2.Binds (Cx.K X) fd ps [])(hl:∀(ρ:En) (ts:List T),fs ρ=Rs.ok ts->Fy ts=n)(ha:QA X (e::es) fs)(hps:autoParam (Fy ps=n) u_)(hn:autoParam (a8 (e::es)=true) u_)(hg:autoParam (Gl X x) u_)(h2:autoParam ((x == C0 "__debug__")=false) s_):QE X (Hu (E6 x p) (e::es) [] pos) (cl g fs):=
 ⟨q_c (F:=F) (hr:=hr) (hm:=hm) (hk:=hk) (hb:=hb) (hl:=hl) (ha:=ha.h) (hps:=hps) (hn:=hn) (hg:=hg) (h2:=h2)⟩
theorem oC {X:Cx}{a:Expr}{fa:En->Rs T}{pos p p2:Pos}{tn:Str}{Ty:String}(hm:Cx.mg X (C0 "isinstance")=none)(hmt:Cx.mg X tn=none)(hv:Dh tn=some (Eh Ty))(ha:QE X a fa)(hn:autoParam (cI a=true) u_)(hg:autoParam (Gl X (C0 "isinstance")) u_)(hgt:autoParam (Gl X tn) u_)(h1:autoParam (tn≠C0 "__name__") s_)(h2:autoParam ((tn == C0 "__debug__")=false) s_):QE X (Hu (E6 (C0 "isinstance") p) [a,E6 tn p2] [] pos) (o1 (uu Ty) fa):=
 ⟨q_is (hm:=hm) (hmt:=hmt) (hv:=hv) (ha:=ha.h) (hn:=hn) (hg:=hg) (hgt:=hgt) (h1:=h1) (h2:=h2)⟩
theorem au {X:Cx}{pos:Pos}{x:Str}(i:Nat)(hN:F0 (Cx.N X))(hi:autoParam ((Cx.N X)[i]? =some x) u_)(hx:autoParam (L2.Loc (Ht (Cx.env X)) x) y_)(hf:autoParam (Cx.fn X x=true\/GK x (KD (Ht (Cx.env X)))=some NameKind.local) r_):QG X (E6 x pos) (gN i):=
 ⟨vc (i:=i) (hN:=hN) (hi:=hi) (hx:=hx) (hf:=hf)⟩
theorem i5 {X:Cx}:BE X [] vV:=
 ⟨vb ⟩
theorem cg {X:Cx}{e:Expr}{es:List Expr}{g:T->En->Rs En}{gs:List T->En->Rs En}(h1:QG X e g)(h2:BE X es gs)(hs:autoParam (Ku (λx=>Prod.snd x) (Es (e::es) (Cx.env X))=assign e (Cx.env X)::Ku (λx=>Prod.snd x) (Es es (Cx.env X))) u_):BE X (e::es) (ka g gs):=
 ⟨r6 (h1:=h1.h) (h2:=h2.h) (hs:=hs)⟩
theorem kQ {X:Cx}{es:List Expr}{pos:Pos}{k n:Nat}{gs:List T->En->Rs En}(hc:Cx.calm X=true)(h:BE X es gs)(hn:autoParam (Fy (Es es (Cx.env X))=n) u_)(hst:autoParam (List.findIdx? (λx=>Prod.fst x) (Es es (Cx.env X))=none) u_):QG X (Expr.Tuple es k pos) (gT n gs):=
 ⟨yf (hc:=hc) (h:=h.h) (hn:=hn) (hst:=hst)⟩
theorem dP {X:Cx}{a:Expr}{fs:En->Rs (List T)}{pos p:Pos}{tg:Expr}(hm:Cx.mg X (C0 "range")=none)(ha:QA X [a] fs)(hg:autoParam (Gl X (C0 "range")) u_)(hs:autoParam (CV [a] (Cx.env X)= [(false,eval a (Cx.env X))]) u_):QI X tg (Hu (E6 (C0 "range") p) [a] [] pos) (iR fs):=
 ⟨qg (hm:=hm) (ha:=ha.h) (hg:=hg) (hs:=hs)⟩
theorem bJ {X:Cx}:zG X [] bT:=
 ⟨uZ ⟩
theorem qV {X:Cx}{c:Expr}{f:En->Rs Bool}(h:QT X c f):zG X [c] f:=
 ⟨uY (h:=h.h)⟩
theorem zK {X:Cx}{pos:Pos}{elt tg iter:Expr}{ifs:List Expr}{scope:Fu}{N':List Str}{src:List (Option Nat)}{fi:En->Rs (List T)}{tgt:T->En->Rs En}{fc:En->Rs Bool}{fe:En->Rs T}(hc:Cx.calm X=true)(S:LcScope X scope N' src)(hi:QI X tg iter fi)(block:∀(cl:List (Str×Addr)) (C:Addr) (s₀:Cz) (H₀:Hp) (fp:List Addr),QG (aT X scope cl N' C s₀ H₀ fp) tg tgt/\zG (aT X scope cl N' C s₀ H₀ fp) ifs fc/\QE (aT X scope cl N' C s₀ H₀ fp) elt fe)(hs:autoParam (∀(x:CB),Dl iter (Cx.env X) x=pure x) t_):QE X (F6 elt [{ target:=tg,iter:=iter,ifs:=ifs,is_async:=0 }] scope pos) (ej fi src tgt fc fe):=
 ⟨q_lc (hc:=hc) (S:=S) (hi:=hi.h) (block:=λa1 a2 a3 a4 a5=>⟨(block a1 a2 a3 a4 a5).1.h,(block a1 a2 a3 a4 a5).2.1.h,(block a1 a2 a3 a4 a5).2.2.h⟩) (hs:=hs)⟩
theorem eu {X:Cx}:qQ X [] sN:=
 ⟨ya ⟩
theorem aE {X:Cx}{st:Stmt}{rest:List Stmt}{F G:En->Rs Fl}(h1:QS X st F)(h2:qQ X rest G):qQ X (st::rest) (aL F G):=
 ⟨uV (h1:=h1.h) (h2:=h2.h)⟩
theorem aB {X:Cx}{st:Stmt}{F:En->Rs Fl}(h:QS X st F):qQ X [st] F:=
 ⟨x9 (h:=h.h)⟩
theorem aO {X:Cx}{a:Expr}{fa:En->Rs T}{pos:Pos}(ha:QE X a fa):QS X (Stmt.Return (some a) pos) (aS fa):=
 ⟨x8 (ha:=ha.h)⟩
theorem gj {X:Cx}{c:Expr}{pos:Pos}{f:En->Rs Bool}{A B:List Stmt}{F G:En->Rs Fl}(hc:QT X c f)(ha:qQ X A F)(hb:qQ X B G):QS X (Stmt.If c A B pos) (gK f F G):=
 ⟨Ag (hc:=hc.h) (ha:=ha.h) (hb:=hb.h)⟩
theorem nJ {X:Cx}{pos:Pos}{elt tg iter:Expr}{ifs:List Expr}{scope:Fu}{spos py:Pos}{N':List Str}{src:List (Option Nat)}{fi:En->Rs (List T)}{tgt:T->En->Rs En}{fc:En->Rs Bool}{fe:En->Rs T}(i:Nat){y:Str}(hc:Cx.calm X=true)(S:LcScope X scope N' src)(hi:QI X tg iter fi)(block:∀(cl:List (Str×Addr)) (C:Addr) (s₀:Cz) (H₀:Hp) (fp:List Addr),QG (aT X scope cl N' C s₀ H₀ fp) tg tgt/\zG (aT X scope cl N' C s₀ H₀ fp) ifs fc/\QE (aT X scope cl N' C s₀ H₀ fp) elt fe)(hN:F0 (Cx.N X))(hiy:autoParam ((Cx.N X)[i]? =some y) u_)(hy:autoParam (L2.Loc (Ht (Cx.env X)) y) y_)(hsw:autoParam (F9 (F6 elt [{ target:=tg,iter:=iter,ifs:=ifs,is_async:=0 }] scope pos) (some (E6 y py)) (Pos.line spos) (Cx.env X)=pure true) u_)(hf:autoParam (Cx.fn X y=true\/GK y (KD (Ht (Cx.env X)))=some NameKind.local) r_)(hs:autoParam (∀(x:CB),Dl iter (Cx.env X) x=pure x) t_):QS X (KF [E6 y py] (F6 elt [{ target:=tg,iter:=iter,ifs:=ifs,is_async:=0 }] scope pos) spos) (cH (ej fi src tgt fc fe) (gN i)):=
 ⟨Af (i:=i) (hc:=hc) (S:=S) (hi:=hi.h) (block:=λa1 a2 a3 a4 a5=>⟨(block a1 a2 a3 a4 a5).1.h,(block a1 a2 a3 a4 a5).2.1.h,(block a1 a2 a3 a4 a5).2.2.h⟩) (hN:=hN) (hiy:=hiy) (hy:=hy) (hsw:=hsw) (hf:=hf) (hs:=hs)⟩
theorem aK {X:Cx}{a:Expr}{fa:En->Rs T}{pos:Pos}{tg:Expr}{g:T->En->Rs En}(ha:QE X a fa)(hg:QG X tg g)(hs:autoParam (Ju [tg] a (Pos.line pos) (Cx.env X)=pure false) u_)(hw:autoParam (Jv [tg] a (Cx.env X)=pure none) u_)(h1:autoParam (Ku (λx=>Prod.snd x) (Es [tg] (Cx.env X))= [assign tg (Cx.env X)]) u_):QS X (KF [tg] a pos) (cH fa g):=
 ⟨yc (ha:=ha.h) (hg:=hg.h) (hs:=hs) (hw:=hw) (h1:=h1)⟩
theorem qS {X:Cx}{a:Expr}{fa:En->Rs T}{pos:Pos}(ha:QE X a fa)(hs:autoParam (F9 a none (Pos.line pos) (Cx.env X)=pure false) u_):QS X (Stmt.Expr a pos) (wX fa):=
 ⟨uU (ha:=ha.h) (hs:=hs)⟩
theorem gE {X:Cx}{pos:Pos}{tg iter:Expr}{body:List Stmt}{fi:En->Rs (List T)}{g:T->En->Rs En}{F:En->Rs Fl}(hc:Cx.calm X=true)(hi:QI X tg iter fi)(hg:QG (Cx.nox X) tg g)(hb:qQ (Cx.nox X) body F)(hs:autoParam (∀(x:CB),Dl iter (Cx.env X) x=pure x) t_):QS X (Stmt.For tg iter body [] pos) (jk fi g F):=
 ⟨yb (hc:=hc) (hi:=hi.h) (hg:=hg.h) (hb:=hb.h) (hs:=hs)⟩
theorem cf {X:Cx}{a:Expr}{fa:En->Rs T}{tg:Expr}(ha:QE X a fa):QI X tg a (iS fa):=
 ⟨ye (ha:=ha.h)⟩
theorem qW {X:Cx}{a:Expr}{fs:En->Rs (List T)}{p pos:Pos}{elts:List Expr}{kk:Nat}{tpos:Pos}(hm:Cx.mg X (C0 "enumerate")=none)(ha:QA X [a] fs)(hg:autoParam (Gl X (C0 "enumerate")) u_)(hs:autoParam (CV [a] (Cx.env X)= [(false,eval a (Cx.env X))]) u_):QI X (Expr.Tuple elts kk tpos) (Hu (E6 (C0 "enumerate") p) [a] [] pos) (iE fs):=
 ⟨u9 (hm:=hm) (ha:=ha.h) (hg:=hg) (hs:=hs)⟩
theorem g7 {X:Cx}{c:Str}{msg:Str}{C:Addr}{bm:List CB}{np p1 cpos pos:Pos}{j:Nat}(O:OX X.K C bm)(hm:X.mg c=some (.ref C))(hc:autoParam (X.calm=true) u_)(hg:autoParam (Gl X c) u_)(hd:autoParam ((c == ("__debug__" : Str))=false) s_) :
  QS X (.Raise (some (.Call (.Name c np) [.Constant (.str msg) j p1] [] cpos)) none pos) (rS c):=⟨r0 O.own hc hm hg hd⟩
theorem uB {X:Cx}{body suite:List Stmt}{b0:Stmt}{F:En->Rs Fl}{h:Str->Rs T}{ce n:Str}{CE:Addr}{bmE:List CB}(i:Nat){np hpos pos:Pos}(hN:X.N.Nodup)(hm:X.mg ce=some (.ref CE))(OE:OX X.K CE bmE)
  (hb:∀pn xe,qQ { X with pn:=pn,xe:=xe } body F) (hs:l9 X i (b0::suite) CE h) (hst:autoParam (X.stack=X.env::X.outer) u_) (hfe:autoParam (X.env.frame=some X.env.locals) u_) (hcl:∀x c,X.env.cells.lookup x≠some c) (hex:autoParam (X.ex= []) u_)
  (hi:autoParam (X.N[i]? =some n) u_) (hloc:autoParam (X.env.scope.names.lookup n=some .local) u_) (hg:autoParam (Gl X ce) u_) (hd:autoParam ((ce == ("__debug__" : Str))=false) s_) :
  QS X (.Try body [.ExceptHandler (some (.Name ce np)) (some n) (b0::suite) hpos] [] [] pos) (mH F h):=⟨x6 hst hfe hcl hex hN hi hloc hm OE (λpn xe=>(hb pn xe).h) hs hg hd⟩
theorem uE {P:C4}{w:Du}{K:CA}{mg:Str->Option CB}{base:Heap}{x qual:Str}{st:Stmt}{f:Addr}{fd:DB}{N ps:List Str}{k n:Nat}{F:En->Rs Fl}(Fn:L2.Fun K x qual st f fd)(S:bq N ps (aj st))(hn:ps.length=n)
  (hbody:∀(cdv:CB) (A:Dj) (outer:List Env) (s:Cz) (H:Hp) (E:XK),Room k (A.deeper (envOfC qual (aj st) s.heap.objs.size f cdv)) →
   ∀xe,qQ ((dN CX0 P w K mg base N qual (aj st) f cdv A outer s H E).BM xe) (ba st) F):zH P w K mg base (k+1) f fd ps n (val n N.length F):=y8 Fn S hn λcdv A outer s H E hr xe=>(hbody cdv A outer s H E hr xe).h
end Tr
namespace Tr
open PySem PySem.Spec PyProof.Rows L2 PySem.W
theorem tN (h:Heap):(nh h).In h:=by
 have key:∀(l:List Nat) (a:Addr) (o:Obj),(l.filterMap λa=>(h.get? a).map λo=>(a,o)).lookup a=some o->h.get? a=some o:=by
  intro l
  induction l with
  | nil=>intro a o e;cases e
  | cons b r ih=>
   intro a o e
   cases hb:h.get? b with
   | none=>rw[List.filterMap_cons_none (by rw[hb];rfl)]at e;exact ih a o e
   | some ob=>
    rw[List.filterMap_cons_some (b:=(b,ob)) (by rw[hb];rfl),DX]at e
    cases q:a == b with
    | true=>rw[q]at e;cases e;rw[eq_of_beq q];exact hb
    | false=>rw[q]at e;exact ih a o e
 exact λa o e=>key _ a o e
theorem xi {K:Frag}{n:Str}{st:Stmt}(e:obF K n=exF n st):∃f fd,nsIn K Dm n=some (some (.ref f))/\L2.Fun K n n st f fd:=by
 unfold obF at e
 split at e
 ·rename_i f hf
  split at e
  ·rename_i oc od d sl hl
   cases d;unfold exF at e;simp only[DJ.injEq,Prod.mk.injEq]at e;obtain⟨h1,h2,h3,h4,h5,h6,h7,h8,h9,h10,h11⟩:=e;subst h1 h2 h3 h4 h5 h6 h7 h8 h9;exact⟨f,_,hf,y1 hl h10 h11⟩
  ·cases e
 ·cases e
theorem jv {K:Frag}{N:Addr}{n:Str}(e:AK K N n=true):nsIn K N n=some none:=by
 unfold AK at e
 split at e
 ·assumption
 ·cases e
theorem yG {K:Frag}{n:Str}{i:Int}(e:BA K n=some i):∃t,nsIn K Dm n=some (some (.int i t)):=by
 unfold BA at e
 split at e
 ·rename_i i' t h;cases e;exact⟨t,h⟩
 ·cases e
theorem jd:∀{l:List CB},oN l=true->l=iM:=by
 intro l e;unfold oN at e
 split at e
 ·simp only[CC,beq_iff_eq]at e
  obtain⟨⟨⟨h1,h2⟩,h3⟩,h4⟩:=e;subst h1 h2 h3 h4;rfl
 ·cases e
theorem dW {K:Frag}{D:Option Addr}{n:Str}{C:Addr}(e:vF K D n=some C):nsIn K Dm n=some (some (.ref C)) ∧
  ∃nm q N bs bm hd sn su ab co dd k0 k1 k2 k3 k5,under D bm=true/\K.lookup C=some (D2 nm q C N bs bm hd sn su ab co dd k0 k1 k2 k3 k5 "ValueError.__new__")/\∀h:Heap,K.In h->∃mN,h.Ns N mN/\∀n∈calmNames,mN n=none:=by
 unfold vF at e
 split at e
 ·rename_i C' hC
  split at e
  ·rename_i t dd c k0 k1 k2 k3 b k5 hl
   split at e
   ·rename_i E m ob oe es ep oz hm hN
    split at e
    ·rename_i hq
     cases e;simp only[CC,beq_iff_eq,JR]at hq;obtain⟨⟨⟨⟨⟨⟨h1,h2⟩,h3⟩,h4⟩,h5⟩,h6⟩,h7⟩:=hq
     have z:=Dc.mp h5;refine⟨hC,c.name,c.qualname,c.ns,c.bases,m,c.hasDict,c.slotNames,c.subclasses,c.abstract,c.collection,dd,k0,k1,k2,k3,k5,h7,?_,AL hN h4 (jv (z _ (.head _))) (jv (z _ (.tail _ (.head _)))) (jv (z _ (.tail _ (.tail _ (.head _))))) (jv (z _ (.tail _ (.tail _ (.tail _ (.head _))))))⟩
     rw[hl];cases c;simp only at hm h3;subst h1 h2 hm h3 h6
     rfl
    ·cases e
   ·cases e
  ·cases e
 ·cases e
theorem ox0 {K:Frag}{C:Addr}{n:Str}(e:vF K none n=some C):OX K C iM:=by
 obtain⟨_,_,_,_,_,_,_,_,_,_,_,_,_,_,_,_,_,hu,hl,hn⟩:=dW e;cases jd hu;exact vB hl hn
theorem yv {K:Frag}{C D:Addr}{n m:Str}(e:vF K (some D) n=some C)(d:vF K none m=some D):OX K C (.ref D::iM):=by
 obtain⟨_,_,_,_,_,bm,_,_,_,_,_,_,_,_,_,_,_,hu,hl,hn⟩:=dW e;obtain⟨_,_,_,_,_,_,_,_,_,_,_,_,_,_,_,_,_,hu',hl',hn'⟩:=dW d;cases jd hu';unfold under at hu;simp only at hu
 split at hu
 ·rw[CC]at hu
  cases eq_of_beq hu.1;cases jd hu.2;exact sE hl hn hl' hn'
 ·cases hu
theorem dj {α:Type}{o:Option α}{r:List (Option α)}{l:List α}(e:oy (o::r)=some l):∃a l',o=some a/\l=a::l'/\oy r=some l':=by
 cases o with
 | none=>cases e
 | some a=>
  unfold oy at e
  split at e
  ·rename_i l' h;cases e;exact⟨a,l',rfl,rfl,h⟩
  ·cases e
theorem ud {α:Type}{l:List α}(e:oy ([]:List (Option α))=some l):l= []:=by cases e;rfl
theorem kq:∀{l:List Addr},lH l=true->l.Nodup
 | [],_=> .nil
 | a::r,h=>by
  unfold lH at h;rw[CC]at h;refine EZ.mpr ⟨λhm=> ?_,kq h.2⟩
  have:=Dc.mp h.1 a hm
  simp at this
theorem yF {K:Frag}{m:Str}{es:List Str}(e:Bz K (m::es)=true):∃D l,vF K none m=some D/\oy (es.map (vF K (some D)))=some l/\(l++ [D]).Nodup:=by
 rw[Bz]at e
 split at e
 ·rename_i D hD
  split at e
  ·rename_i l hl;exact⟨D,l,hD,hl,kq e⟩
  ·cases e
 ·cases e
section
variable {S:qN}{top:Nat->Stmt}{K:Frag}{h:Heap}{mg:Str->Option CB}
theorem lK {α β:Type}{f g:α->β}:∀{l:List α} (j:Nat) {a:α},l.map f=l.map g->l[j]? =some a->f a=g a
 | [],_,_,_,q=>by cases q
 | b::l,0,a,e,q=>by cases q;exact(List.cons.inj e).1
 | b::l,j+1,a,e,q=>lK (l:=l) j (List.cons.inj e).2 q
theorem A0 (j:Nat){n:Str}{i:Nat}{ps:List Str}(X:K.In h)(G:h.Ns Dm mg)(e:lC S K=kS S top)(q:S.tab[j]? =some (n,i))
  (hb:∀(kV doc pm:CB) (an:Option Addr) (cdv ct:CB) (us:List CB),us.length=ps.length->Jx (fnOf n n (dM (top i)) (ba (top i)) (aj (top i)) .none kV doc pm an cdv ct) ⟨us,[]⟩=pure (ps.zip us)) :
  ∃f fd,Fn K mg n (top i) ps f fd:=by
 obtain⟨f,fd,h1,h2⟩:=xi (lK j (congrArg (·.1) e) q)
 exact⟨f,fd,h2,h2.binds hb,mg_of X G h1⟩
theorem AY (j:Nat){n:Str}{i:Nat}{x:Str}{fa:Addr}(X:K.In h)(G:h.Ns Dm mg)(e:lC S K=kS S top)(q:S.tab[j]? =some (n,i))(hfa:mg n=some (.ref fa))
  (hb:∀(kV doc pm:CB) (an:Option Addr) (cdv ct u:CB),Jx (fnOf n n (dM (top i)) (ba (top i)) (aj (top i)) .none kV doc pm an cdv ct) ⟨[u],[]⟩=pure [(x,u)]) :
  ∃fd,Fn K mg n (top i) [x] fa fd/\∀(s:Cz) (u:CB),HP s fd ⟨[u],[]⟩ [(x,u)]:=by
 obtain⟨f,fd,h1,h2⟩:=xi (lK j (congrArg (·.1) e) q)
 have z:=hfa.symm.trans (mg_of X G h1);cases z
 have hh:=h2;obtain⟨oc,od,kV,doc,pm,an,cdv,ct,osl,rfl,lk,hcd⟩:=hh.ex;exact⟨_,⟨h2,.all λus hl=>match us,hl with | [u],_=>hb kV doc pm an cdv ct u,mg_of X G h1⟩,λs u=> .of_eq (hb kV doc pm an cdv ct u)⟩
theorem dC (j:Nat){n:Str}(X:K.In h)(G:h.Ns Dm mg)(e:lC S K=kS S top)(q:S.zs[j]? =some n):mg n=none:=
 mg_none_of X G (jv (Dc.mp (congrArg (·.2.1) e:S.zs.all (AK K Dm)=true) n (EX q)))
theorem kz (j:Nat){n:Str}{i:Int}(X:K.In h)(G:h.Ns Dm mg)(e:lC S K=kS S top)(q:S.cs[j]? =some (n,i)):∃t,mg n=some (.int i t):=by
 obtain⟨t,ht⟩:=yG (lK (f:=λc=>BA K c.1) (g:=λc=>some c.2) j (congrArg (·.2.2.1) e) q)
 exact⟨t,mg_of X G ht⟩
theorem A2 (e:lC S K=kS S top):Bz K S.es=true:=congrArg (·.2.2.2) e
end
theorem left_of {p q:C4}{loose:List Str}{Xt:Cz->Bool}{α:Type}{Yf:Cz->α}{Ya:Du->α}{N:Nat}{g0:Bool}
  (e:opening p=plainProg p.main.scope.names) (hN:Nat.ble 600 N=true) (f:∀s,fenceModules? p s=some s)
  (h:∀(w:Du) (os:GQ),(topFrom Jt p w N ⟨boot_heap w.params,⟨[]⟩,boot_drawn,boot_toks,os⟩).map (λs=>(openSeen q loose (Ir p.main.body) Xt g0 s,Yf s))=some (openGood q loose,Ya w)) :
  LeftO p q loose Xt Yf Ya N g0:=λw=>by
 obtain⟨⟨h0,gs,d,k,os⟩,e1,e2⟩:=H0.mp (boot_open e hN f w);simp only[Prod.mk.injEq]at e2;obtain⟨rfl,rfl,rfl,rfl⟩:=e2;unfold openEnds;rw[e1];exact h w os
structure Cl (P:C4)(w:Du)(K:Frag)(mg:Str->Option CB)(base:Heap)(k:Nat)(x:Str)(n:Nat)(m:List T->Rs T):Prop where
 ex:∃f fd ps,mg x=some (.ref f)/\keepIn K (.ref f)=true/\Binds K fd ps []/\ps.length=n/\zH P w K mg base k f fd ps n m
abbrev gh (K:Frag)(mg:Str->Option CB)(x:Str)(st:Stmt)(ps:List Str):Prop:=∃f fd,Fn K mg x st ps f fd
section
variable {P:C4}{w:Du}{K:Frag}{mg:Str->Option CB}{base:Heap}{x:Str}{st:Stmt}{N ps:List Str}{k n:Nat}{F:En->Rs Fl}
theorem Bj (H:gh K mg x st ps)(S:bq N ps (aj st))(hn:ps.length=n)
  (hbody:∀(f:Addr) (cdv:CB) (A:Dj) (outer:List Env) (s:Cz) (H:Hp) (E:XK),Room k (A.deeper (envOfC x (aj st) s.heap.objs.size f cdv)) →
   ∀xe,qQ ((dN CX0 P w K mg base N x (aj st) f cdv A outer s H E).BM xe) (ba st) F):Cl P w K mg base (k+1) x n (val n N.length F):=by
 obtain⟨f,fd,h⟩:=H;exact⟨f,fd,ps,h.mg,h.fn.kp,h.bd,hn,uE h.fn S hn (hbody f)⟩
end
section
variable {X:Cx}{e:Expr}{es:List Expr}{fs:En->Rs (List T)}{pos p:Pos}{x:Str}{n k k':Nat}{g:List T->Rs T}
theorem bc (c:Cl X.prog X.w X.K X.mg X.base k x n g)(hr:Room k' X.A)(ha:QA X (e::es) fs)(hk:autoParam (k<=k') s_)(hl:∀(ρ:En) (ts:List T),fs ρ= .ok ts->ts.length=n:=by repeat first | exact xr | refine xq ?_)
  (hn:autoParam (a8 (e::es)=true) u_) (hg:autoParam (Gl X x) u_) (h2:autoParam ((x == C0 "__debug__")=false) s_):QE X (.Call (.Name x p) (e::es) [] pos) (cl g fs):=by
 obtain⟨f,fd,ps,h1,h3,h4,h5,h6⟩:=c.ex;exact zq_c h6 (hr.mono hk) h1 h3 h4 hl ha h5 hn hg h2
theorem mj {i:Int}(h:∃t,X.mg x=some (.int i t))(hg:autoParam (Gl X x) u_)(hd:autoParam ((x == C0 "__debug__")=false) s_):QE X (.Name x pos) (cn (.int i)):=by
 obtain⟨t,h⟩:=h;exact uD h ⟨_,rfl⟩ hg hd
end
def hookC (S:nF)(top:Nat->Stmt):Hook:=
 ⟨_,λs=>sM S (nh s.heap),λ_=>rm S top,λ_ h=> ∃K:Frag,K.In h/\sM S K=rm S top,λ_ s e=>⟨_,tN s.heap,e⟩,λ_ _ _ ⟨K,a,b⟩ k=>⟨K,a.keeps k,b⟩⟩
end Tr
namespace Tr
open PySem PySem.Spec PyProof.Rows L2
theorem fsc {N P:List Str}{sc:Fu}(h1:autoParam (sc.kind= .function) u_)(h2:autoParam (sc.isCoroutine=false) u_)(h3:autoParam (sc.isGenerator=false) u_)(h4:autoParam (N.Nodup) z_)(h5:autoParam (N.take P.length=P) u_)
  (h6:autoParam (∀x∈P,sc.names.lookup x=some .local\/sc.names.lookup x=some .cell) z_) (h7:autoParam (∀y∈sc.names,y.2≠ .free) z_):bq N P sc:=⟨h1,h2,h3,h4,h5,h6,h7⟩
end Tr
namespace Tr
open PySem
def tbl (pl:List Nat)(L:Bool):SetTable:={ mask:=7,place:=pl.toArray,dummies:=#[],finger:=0,led:=L,moves:=0,plain:=true }
theorem iX:∀{pl:List Nat},pl.Pairwise (· < ·)->∀{a b v u:Nat},a<b->pl[a]? =some v->pl[b]? =some u->v<u:=by
 intro pl h a b v u ab ha hb;rw[Hb]at h;obtain⟨h1,rfl⟩:=CW.mp ha
 obtain⟨h2,rfl⟩:=CW.mp hb
 exact h a b h1 h2 ab
theorem jT {pl:List Nat}(hs:pl.Pairwise (· < ·))(j:Nat):∀(fuel lo hi:Nat),hi - lo<=fuel->lo<=hi->hi<=pl.length →
  (∀i v,i<lo->pl[i]? =some v->v<j)->(∀i v,hi<=i->pl[i]? =some v->j<=v) →
  ∃r,JJ pl.toArray j fuel lo hi=r/\r<=pl.length/\(∀i v,i<r->pl[i]? =some v->v<j)/\(∀i v,r<=i->pl[i]? =some v->j<=v)
 | 0,lo,hi,hf,hl,hh,h1,h2=>by
  have e:lo=hi:=by omega
  subst e
  exact⟨lo,rfl,hh,h1,h2⟩
 | fuel+1,lo,hi,hf,hl,hh,h1,h2=>by
  unfold JJ
  by_cases hlt:lo<hi
  ·rw[if_pos hlt]
   have hm:(lo+hi) / 2<pl.length:=by omega
   have em:pl[(lo+hi) / 2]? =some pl[(lo+hi) / 2]:=CP hm
   have eg:pl.toArray.getD ((lo+hi) / 2) j=pl[(lo+hi) / 2]:=by simp[hm]
   dsimp only
   rw[eg]
   by_cases hc:pl[(lo+hi) / 2] <j
   ·rw[if_pos hc]
    refine jT hs j fuel _ hi (by omega) (by omega) hh ?_ h2
    intro i v hi' hv;rcases G2 i ((lo+hi) / 2)with q | q
    ·exact J5 (iX hs q hv em) hc
    ·have:i=(lo+hi) / 2:=by omega
     subst this;rw[em]at hv;cases hv;exact hc
   ·rw[if_neg hc]
    refine jT hs j fuel lo _ (by omega) (by omega) (by omega) h1 ?_
    intro i v hi' hv;rcases Jl hi' with q | q
    ·subst q
     rw[em]at hv;cases hv;omega
    ·have:=iX hs q em hv;omega
  ·rw[if_neg hlt]
   have e:lo=hi:=by omega
   subst e;exact⟨lo,rfl,hh,h1,h2⟩
theorem fK {pl:List Nat}(hs:pl.Pairwise (· < ·))(j:Nat) :
  CQ pl.toArray j<=pl.length/\(∀i v,i<CQ pl.toArray j->pl[i]? =some v->v<j)/\(∀i v,CQ pl.toArray j<=i->pl[i]? =some v->j<=v):=by
 obtain⟨r,h1,h2,h3,h4⟩:=jT hs j pl.length 0 pl.length (by omega) (by omega) (CM _) (λi v h=>by omega) (λi v h e=>by
  rw[Fz h]at e;cases e)
 have e:CQ pl.toArray j=r:=by unfold CQ;simpa using h1
 rw[e];exact⟨h2,h3,h4⟩
theorem nz {pl:List Nat}(hs:pl.Pairwise (· < ·)):CQ pl.toArray 0=0:=by
 obtain⟨h1,h2,_⟩:=fK hs 0;rcases Jm (CQ pl.toArray 0)with e | e
 ·exact e
 ·have q:0<pl.length:=by omega
  have:=h2 0 pl[0] e (CP q)
  omega
theorem ov {pl:List Nat}(hs:pl.Pairwise (· < ·)){i v:Nat}(h:pl[i]? =some v):CQ pl.toArray (v+1)=i+1:=by
 obtain⟨h1,h2,h3⟩:=fK hs (v+1)
 have hi:=(CW.mp h).1
 rcases Hv (CQ pl.toArray (v+1)) (i+1)with q | q | q
 ·have:=h3 i v (by omega) h;omega
 ·exact q
 ·have q2:i+1<pl.length:=by omega
  have e:=CP q2
  have a:=h2 (i+1) _ q e
  have b:=iX hs (Gv i) h e;omega
theorem qd {pl:List Nat}{L:Bool}(hs:pl.Pairwise (· < ·)){j:Nat}(h:j∈pl):∃i,(tbl pl L).slot j= .live i:=by
 obtain⟨k,hk,e⟩:=Fg h;obtain⟨h1,h2,h3⟩:=fK hs j
 have ek:pl[k]? =some j:=by rw[CP hk,e]
 have er:CQ pl.toArray j=k:=by
  rcases Hv (CQ pl.toArray j) k with q | q | q
  ·have hl:CQ pl.toArray j<pl.length:=by omega
   have e2:=CP hl
   have a:=h3 _ _ (CM _) e2
   have b:=iX hs q e2 ek;omega
  ·exact q
  ·have:=h2 k j q ek;omega
 refine⟨k,?_⟩
 unfold SetTable.slot tbl
 dsimp only
 rw[er];simp[ek]
theorem nS {pl:List Nat}{L:Bool}{j:Nat}(h:j∉pl):(tbl pl L).slot j= .empty:=by
 unfold SetTable.slot tbl
 dsimp only
 have q:¬ (pl.toArray[CQ pl.toArray j]? == some j)=true:=by
  intro e;rw[beq_iff_eq,Ij]at e
  exact h (EX e)
 rw[if_neg q]
 have q2:Ip #[] j=false:=by simp[Ip]
 rw[q2];rfl
theorem adv (pl:List Nat)(L:Bool)(i q:Nat)(d:Option Nat)(hi:i<=7):(tbl pl L).advance ⟨i,0,i,q,d⟩=⟨(i*5+1+q / 32) % 8,0,(i*5+1+q / 32) % 8,q / 32,d⟩:=by
 have e:GN 7 ((i*5+1+q / 32) % 8)=(i*5+1+q / 32) % 8:=by
  unfold GN;rw[if_neg (by omega)]
 simp[SetTable.advance,SetTable.leap,tbl,e]
def xQ:Nat->Nat->Nat->Nat
 | 0,i,_=>i
 | k+1,i,q=>xQ k ((i*5+1+q / 32) % 8) (q / 32)
theorem mJ {pl:List Nat}{L:Bool}(hs:pl.Pairwise (· < ·))(h:Int):∀(k fuel i q:Nat),k<fuel->i<=7->xQ k i q∉pl →
  ∃j,j∉pl/\j<=7/\JK (tbl pl L) (λ_=>h+1) h fuel ⟨i,0,i,q,none⟩=some (.empty j none)
 | k,0,i,q,hk,_,_=>by omega
 | k,fuel+1,i,q,hk,hi,hn=>by
  unfold JK
  dsimp only
  by_cases hm:i∈pl
  ·obtain⟨w,ew⟩:=qd (L:=L) hs hm
   rw[ew]
   dsimp only
   have e1:¬ (h+1 == h)=true:=by rw[beq_iff_eq];omega
   rw[if_neg e1,adv pl L i q none hi]
   cases k with
   | zero=>exact absurd hm hn
   | succ k=>exact mJ hs h k fuel _ _ (by omega) (by omega) hn
  ·rw[nS hm]
   exact⟨i,hm,hi,rfl⟩
theorem uP:∀h<100,∀x<8,∃k<12,xQ k (h % 8) h=x:=by decide+kernel
theorem qc:∀{pl:List Nat},pl.length<=3->∃x<8,x∉pl
 | [],_=>⟨0,by omega,by simp⟩
 | [a],_=>if e:a=0 then⟨1,by omega,by simp;omega⟩else⟨0,by omega,by simp;omega⟩
 | [a,b],_=>by
  by_cases h0:0=a\/0=b
  ·by_cases h1:1=a\/1=b
   ·exact⟨2,by omega,by simp;omega⟩
   ·exact⟨1,by omega,by simp;omega⟩
  ·exact⟨0,by omega,by simp;omega⟩
 | [a,b,c],_=>by
  by_cases h0:0=a\/0=b\/0=c
  ·by_cases h1:1=a\/1=b\/1=c
   ·by_cases h2:2=a\/2=b\/2=c
    ·exact⟨3,by omega,by simp;omega⟩
    ·exact⟨2,by omega,by simp;omega⟩
   ·exact⟨1,by omega,by simp;omega⟩
  ·exact⟨0,by omega,by simp;omega⟩
 | _::_::_::_::_,h=>by simp at h
theorem vW {pl:List Nat}{L:Bool}(hs:pl.Pairwise (· < ·))(hl:pl.length<=3){h:Nat}(hh:h<100) :
  ∃j,j∉pl/\j<=7/\(tbl pl L).freeSlot (h:Int)=some (j,false):=by
 obtain⟨x,hx,nx⟩:=qc hl;obtain⟨k,hk,ek⟩:=uP h hh x hx
 have eb:SetTable.bits (h:Int)=h:=by
  unfold SetTable.bits;rw[JS (by omega) (by omega)];rfl
 have es:(tbl pl L).probeStart (h:Int)=⟨h % 8,0,h % 8,h,none⟩:=by
  have e:GN 7 (h % 8)=h % 8:=by unfold GN;rw[if_neg (by omega)]
  simp[SetTable.probeStart,tbl,eb,e]
 obtain⟨j,h1,h2,h3⟩:=mJ (L:=L) hs (h:Int) k (10*SetTable.turns 7) (h % 8) h (by unfold SetTable.turns;omega) (by omega) (by rw[ek];exact nx)
 refine⟨j,h1,h2,?_⟩
 unfold SetTable.freeSlot;rw[es];unfold IR
 have e7:(tbl pl L).mask=7:=rfl;rw[e7,h3]
 rfl
theorem lQ {pl:List Nat}(hs:pl.Pairwise (· < ·)){j:Nat}(hj:j∉pl) :
  (pl.take (CQ pl.toArray j)++j::pl.drop (CQ pl.toArray j)).Pairwise (· < ·):=by
 obtain⟨h1,h2,h3⟩:=fK hs j;rw[List.pairwise_append];refine⟨hs.sublist (JN _ _),?_,?_⟩
 ·rw[Jn]
  refine⟨λa ha=> ?_,hs.sublist (List.drop_sublist _ _)⟩
  obtain⟨i,hi,e⟩:=Fg ha;rw[JT]at e
  have hlt:CQ pl.toArray j+i<pl.length:=by simp at hi;omega
  have:=h3 (CQ pl.toArray j+i) a (by omega) (by rw[CP hlt,e])
  rcases Jl this with q | q
  ·exact absurd (IJ ha) (q▸hj)
  ·exact q
 ·intro a ha b hb
  obtain⟨i,hi,e⟩:=Fg ha;rw[List.getElem_take]at e
  have hi':i<CQ pl.toArray j:=by simp at hi;omega
  have hlt:i<pl.length:=by omega
  have a1:=h2 i a hi' (by rw[CP hlt,e])
  rcases CO.mp hb with rfl | hb
  ·exact a1
  ·obtain⟨i2,hi2,e2⟩:=Fg hb
   rw[JT]at e2
   have hlt2:CQ pl.toArray j+i2<pl.length:=by simp at hi2;omega
   have:=h3 (CQ pl.toArray j+i2) b (by omega) (by rw[CP hlt2,e2])
   omega
theorem yM {pl:List Nat}{L:Bool}(hs:pl.Pairwise (· < ·))(hl:pl.length<=3){h:Nat}(hh:h<100){es:Array (Int×CB)}(he:es.size=pl.length)(x:CB) :
  ∃pl' es',layNew (tbl pl L) es (h:Int) x=(es',tbl pl' L,false,false)/\pl'.Pairwise (· < ·)/\pl'.length=pl.length+1/\FN es'.toList (es.push ((h:Int),x)).toList:=by
 obtain⟨j,h1,h2,h3⟩:=vW (L:=L) hs hl hh
 have hp:=layNew_perm (tbl pl L) es (h:Int) x
 have hb:=(fK hs j).1
 have ep:(tbl pl L).put j=(tbl (pl.take (CQ pl.toArray j)++j::pl.drop (CQ pl.toArray j)) L,CQ pl.toArray j):=by
  have q2:Ip #[] j=false:=by simp[Ip]
  have q3:Hw pl.toArray (CQ pl.toArray j) j=(pl.take (CQ pl.toArray j)++j::pl.drop (CQ pl.toArray j)).toArray:=by
   apply Array.toList_inj.mp
   rw[SetTable.toList_insertAt]
  simp only[SetTable.put,tbl,q2,q3]
  rfl
 have hlen:(pl.take (CQ pl.toArray j)++j::pl.drop (CQ pl.toArray j)).length=pl.length+1:=by
  simp;omega
 have hsz:(Hw es (CQ pl.toArray j) ((h:Int),x)).size=pl.length+1:=by
  rw[<-DQ,(Ia es _ _).length_eq];simp[he]
 have hf:(tbl (pl.take (CQ pl.toArray j)++j::pl.drop (CQ pl.toArray j)) L).fits (pl.length+1)=true:=by
  unfold SetTable.fits Jo
  show((_:Nat) == _&&decide (_<=7))=true
  rw[show(tbl (pl.take (CQ pl.toArray j)++j::pl.drop (CQ pl.toArray j)) L).place.size=pl.length+1 from by
   show(Gn _).size=_;rw[CT,hlen]]
  have:(tbl (pl.take (CQ pl.toArray j)++j::pl.drop (CQ pl.toArray j)) L).dummies.size=0:=rfl;rw[this]
  simp;omega
 refine⟨_,Hw es (CQ pl.toArray j) ((h:Int),x),?_,lQ hs h1,hlen,Ia ..⟩
 unfold layNew;rw[h3]
 dsimp only
 rw[ep]
 dsimp only
 rw[hsz,hf];unfold SetTable.orStandIn;rw[hf]
 rfl
theorem sO {pl:List Nat}{L:Bool}(hl:pl.length<=4):(tbl pl L).tooFull=false:=by
 unfold SetTable.tooFull Jo
 have e:(tbl pl L).place.size=pl.length:=by show(Gn _).size=_;simp
 have e2:(tbl pl L).dummies.size=0:=rfl
 have e3:(tbl pl L).mask=7:=rfl;rw[e,e2,e3]
 simp;omega
theorem rE {pl:List Nat}{L:Bool}(hl:pl.length<=4):(tbl pl L).fits pl.length=true:=by
 unfold SetTable.fits Jo
 have e:(tbl pl L).place.size=pl.length:=by show(Gn _).size=_;simp
 have e2:(tbl pl L).dummies.size=0:=rfl
 have e3:(tbl pl L).mask=7:=rfl;rw[e,e2,e3]
 simp;omega
theorem jF {k:Int}(h0:0<=k)(h1:k<100):hashInt k=k:=by
 obtain⟨n,rfl⟩:=Dw h0
 have hn:n<100:=by omega
 have e1:rawHash (n:Int)=n:=by
  have e:(((n:Int).natAbs:Int) % ((2 ^ 61 - 1:Nat):Int))=(n:Int):=by
   rw[Int.natAbs_natCast];exact JS (by omega) (by omega)
  have e2:¬ ((n:Int)<0):=by omega
  have e3:¬ (((n:Int) == -1)=true):=by rw[beq_iff_eq];omega
  unfold rawHash
  dsimp only
  rw[e,if_neg e2,if_neg e3]
 unfold hashInt;rw[e1,if_neg (by rw[beq_iff_eq];omega)]
def Bt (e:Int×CB):Prop:=∃k t,e=(k,D1 k t)/\0<=k/\k<100
def ia (es:Array (Int×CB))(ep:Nat)(pl:List Nat)(L:Bool):Obj:={ cls:=.type "set",dict:=none,data:=.set es ep (tbl pl L),slots:=#[] }
structure SetX (h:Heap)(a:Addr)(es:Array (Int×CB))(ep:Nat)(pl:List Nat)(L:Bool):Prop where
 at_:h.get? a=some (ia es ep pl L)
 rise:pl.Pairwise (· < ·)
 len:es.size=pl.length
 few:pl.length<=4
 ent:∀e∈es.toList,Bt e
theorem SetX.fits {h:Heap}{a:Addr}{es:Array (Int×CB)}{ep:Nat}{pl:List Nat}{L:Bool}(x:SetX h a es ep pl L):(tbl pl L).fits es.size=true:=by rw[x.len];exact rE x.few
theorem SetX.keep {h h':Heap}{a:Addr}{es:Array (Int×CB)}{ep:Nat}{pl:List Nat}{L:Bool}(x:SetX h a es ep pl L)(k:∀o,h.get? a=some o->h'.get? a=some o):SetX h' a es ep pl L:=
 ⟨k _ x.at_,x.rise,x.len,x.few,x.ent⟩
theorem SetX.typ {s:Cz}{a:Addr}{es:Array (Int×CB)}{ep:Nat}{pl:List Nat}{L:Bool}(x:SetX s.heap a es ep pl L):s.TypeIs (.ref a) "set":=⟨_,x.at_,rfl⟩
theorem qB {prog:C4}{w:Du}{es:List (Int×CB)}(h:∀e∈es,Bt e):ElemsOf (intKind prog w) es:=by
 intro e he;obtain⟨k,t,rfl,h0,h1⟩:=h e he;exact⟨⟨k,by simp[intKind,GI],(jF h0 h1).symm⟩,rfl⟩
def bx (es:Array (Int×CB)):List Int:=es.toList.map (·.1)
section
variable {prog:C4}{w:Du}{A:Dj}{E:CB->Cz->Prop}{s:Cz}
theorem tO {es:List (Int×CB)}(h:∀e∈es,Bt e)(k:Int):(es.findIdx? (λe=>(intKind prog w).is k e.2)).isSome=decide (k∈es.map (·.1)):=by
 rw[Fw];simp only[List.findIdx?_isSome,List.any_eq_true,decide_eq_true_eq,CY]
 constructor
 ·rintro ⟨e,he,q⟩
  obtain⟨j,t,rfl,_,_⟩:=h e he;refine⟨_,he,?_⟩
  have:j=k:=by simpa [intKind,GI]using q
  exact this
 ·rintro ⟨e,he,q⟩
  obtain⟨j,t,rfl,_,_⟩:=h e he;refine⟨_,he,?_⟩
  simp only at q;simp[intKind,GI,q]
theorem Bp {a:Addr}{es:Array (Int×CB)}{ep:Nat}{pl:List Nat}{L:Bool}{k:Int}{t:Tok}{Q:Bool->Cz->Prop}(h0:0<=k)(h1:k<100)
  (x:SetX s.heap a es ep pl L) (hr:pl.length<=3)
  (h:∀(b:Bool) h' es' ep' pl',Fb a s.heap h'->SetX h' a es' ep' pl' L->FN (bx es') (if k∈bx es then bx es else bx es++ [k])->Q b { s with heap:=h' }) :
  wpAny (model prog w) A (setAddHashed a (.int k t) (hashInt k)) Q E s:=by
 have hel:=qB (prog:=prog) (w:=w) x.ent
 have hb:es.size<scanBound:=by rw[x.len];unfold scanBound;omega
 have hkey:(intKind prog w).is k (D1 k t)=true:=by simp[intKind,GI]
 unfold setAddHashed setAddHashedIn;refine D0 (Cy (FI x.at_ rfl x.fits ?_))
 dsimp only
 rw[byScan_of (knd:=intKind prog w) rfl hb hel];simp only[↓reduceIte];unfold setAddByScan;refine Cy (Cy (F1 (Cy (wpAny_setScan_of (knd:=intKind prog w) hkey x.at_ rfl x.fits hel ?_))))
 have hf:=tO (prog:=prog) (w:=w) x.ent k
 cases hi:List.findIdx? (λe=>(intKind prog w).is k e.2) es.toList with
 | some j=>
  rw[hi]at hf
  have hin:k∈bx es:=by unfold bx;simpa using hf.symm
  dsimp only
  refine CD (CD ?_)
  have e:s= { s with heap:=s.heap }:=by cases s;rfl
  have:=h false s.heap es ep pl (Hk a s.heap) x (by rw[if_pos hin])
  rw[e];exact this
 | none=>
  rw[hi]at hf
  have hin:k∉bx es:=by unfold bx;simpa using hf.symm
  dsimp only
  obtain⟨n,rfl⟩:=Dw h0;obtain⟨pl',es',e1,e2,e3,e4⟩:=yM (L:=L) x.rise hr (h:=n) (by omega) x.len (D1 (n:Int) t)
  rw[jF h0 h1]
  have e1':layNew (tbl pl L) es ((n:Nat):Int) (D1 (n:Int) t)=(es',tbl pl' L,false,false):=e1;rw[e1']
  dsimp only
  have hl':es'.size=pl'.length:=by
   rw[<-DQ,e4.length_eq,e3];simp[x.len]
  have hent:∀e∈es'.toList,Bt e:=by
   intro e he
   have:=e4.mem_iff.mp he;rw[Hy,CU,C8]at this;rcases this with q | rfl
   ·exact x.ent e q
   ·exact⟨_,t,rfl,h0,h1⟩
  have hperm:FN (bx es') (bx es++ [(n:Int)]):=by
   have:=e4.map (·.1)
   rw[Hy,F7]at this;exact this
  have hsz:es'.size<=sizeLine:=by rw[hl',e3,Ea];omega
  have hnf:(tbl pl' L).tooFull=false:=sO (by omega)
  refine Cy (CD ?_)
  have hpl:(tbl pl' L).plain=true:=rfl;rw[hpl];simp only[↓reduceIte];refine Cy ?_
  rw[hashByValue_scannable 8 rfl];refine CD ?_
  have hpk:plainKind (D1 (n:Int) t)=true:=rfl;rw[hpk];simp only[↓reduceIte];refine Cy (wpAny_storeSet_of x.at_ rfl ?_ hsz)
  rw[hnf];simp only[Hd,DL,↓reduceIte]
  have hg:(s.heap.update a (Obj.putSet es' (tbl pl' L))).get? a=some (ia es' (ep+1) pl' L):=
   DR (Obj.putSet es' (tbl pl' L)) x.at_ rfl
  refine CD (CD (h true _ es' (ep+1) pl' (EE ..) ⟨hg,e2,hl',by omega,hent⟩ ?_))
  rw[if_neg hin];exact hperm
end
theorem si_next:Slot "set_iterator" "__next__" "set_iterator.__next__":=.of (owner:="set_iterator") (n:="__next__") (by rw[Ge,ET];kernel_rfl) (by decide+kernel) (by decide+kernel) (by decide+kernel) (by first | exact .inl (by decide+kernel) | exact .inr (by decide+kernel)) (by rw[EC];kernel_rfl)
theorem oR:Slot "set_iterator" "__iter__" "set_iterator.__iter__":=.of (owner:="set_iterator") (n:="__iter__") (by rw[Ge,ET];kernel_rfl) (by decide+kernel) (by decide+kernel) (by decide+kernel) (by first | exact .inl (by decide+kernel) | exact .inr (by decide+kernel)) (by rw[EC];kernel_rfl)
theorem mG:JD table "set_iterator.__next__" =some Builtin.«set_iterator.__next__»:=entryFor_of_tree (by kernel_rfl)
theorem oU (a:CB):argsOk "set_iterator.__next__" ⟨[a],[]⟩:=by unfold argsOk;kernel_rfl
theorem ji:JD table "set.__iter__" =some Builtin.«frozenset.__iter__»:=entryFor_alias (id':="frozenset.__iter__") (by kernel_rfl) rfl (by decide+kernel) (by kernel_rfl)
theorem j3:JD table "set_iterator.__iter__" =some Builtin.«dict_keyiterator.__iter__»:=entryFor_alias (id':="dict_keyiterator.__iter__") (by kernel_rfl) rfl (by decide+kernel) (by kernel_rfl)
theorem k9 (a:CB):argsOk "set_iterator.__iter__" ⟨[a],[]⟩:=by unfold argsOk;kernel_rfl
theorem j8:IA (.type "set") (.type "set")=pure true:=by rw[EC];kernel_rfl
theorem o4 {α:Type}(next:Nat->Nat):∀(fuel k:Nat) (left:List α) (out:Array α),left.length<=fuel->FN (J9 next fuel k left out).toList (out.toList++left)
 | 0,k,left,out,h=>by
  have:left= []:=Fh (by omega)
  subst this
  unfold J9;simp
 | fuel+1,k,left,out,h=>by
  unfold J9
  cases e:left[next k % left.length]? with
  | none=>
   have hl:left.length=0:=by
    have:=List.getElem?_eq_none_iff.mp e
    rcases Jm left.length with q | q
    ·exact q
    ·have:=Nat.mod_lt (next k) q;omega
   have:left= []:=Fh hl;subst this
   simp
  | some x=>
   dsimp only
   obtain⟨hlt,ex⟩:=CW.mp e
   have ih:=o4 next fuel (k+1) (left.eraseIdx (next k % left.length)) (out.push x) (by rw[List.length_eraseIdx];split <;> omega)
   refine ih.trans ?_
   rw[Hy,Dq];refine List.Perm.append_left _ ?_
   rw[List.eraseIdx_eq_take_drop_succ]
   have e2:left=left.take (next k % left.length)++x::left.drop (next k % left.length+1):=by
    conv=>lhs;rw[<-List.take_append_drop (next k % left.length) left]
    rw[FP hlt,ex]
   conv=>rhs;rw[e2]
   rw[Ik];exact(List.perm_middle).symm
theorem qh {α:Type}(next:Nat->Nat)(xs:Array α):FN (KW next xs).toList xs.toList:=by
 have:=o4 next xs.size 0 xs.toList #[] (by simp)
 simpa [KW]using this
def IsSetIter (h:Heap)(it a:Addr)(sl i n ep:Nat):Prop:=∃o,h.get? it=some o/\o.cls= .type "set_iterator"/\o.data= .fields #[.int sl 0,.int i 0,.ref a,.int n 0,.int ep 0]
theorem IsSetIter.typ {s:Cz}{it a:Addr}{sl i n ep:Nat}(x:IsSetIter s.heap it a sl i n ep):s.TypeIs (.ref it) "set_iterator":=let ⟨o,ho,hc,_⟩:=x;⟨o,ho,hc⟩
def gC (w:Du):Bool:=w.params.followText "set-order"
def dF (w:Du)(a:Addr)(ep:Nat)(es:Array (Int×CB)):Array (Int×CB):=if gC w then KW (w.params.setOrder a ep) es else es
theorem eV (w:Du)(a:Addr)(ep:Nat)(es:Array (Int×CB)):FN (dF w a ep es).toList es.toList:=by
 unfold dF;split
 ·exact qh _ _
 ·exact .rfl
def cu (B:Bool)(pl:List Nat):Nat->Nat
 | 0=>0
 | j+1=>if B then 0 else pl.getD j 0+1
theorem nT {pl:List Nat}(hs:pl.Pairwise (· < ·)):∀{i:Nat},i<=pl.length->CQ pl.toArray (cu false pl i)=i
 | 0,_=>nz hs
 | j+1,h=>by
  have hj:j<pl.length:=by omega
  have e:pl[j]? =some pl[j]:=CP hj
  have e2:cu false pl (j+1)=pl[j] +1:=by simp[cu,hj]
  rw[e2];exact ov hs e
section
variable {prog:C4}{w:Du}{A:Dj}{E:CB->Cz->Prop}{s:Cz}
theorem la {a:Addr}{es:Array (Int×CB)}{ep:Nat}{pl:List Nat}{L:Bool}{Q:Array (Int×CB)->Cz->Prop}(x:SetX s.heap a es ep pl L)(hB:gC w=true)
  (h:Q (dF w a ep es) s):wpAny (model prog w) A (setWalk a) Q E s:=by
 unfold setWalk;refine Cy (FI x.at_ rfl x.fits ?_)
 dsimp only
 unfold setsByText;refine Cy (Cy (Fj (CD ?_)))
 show wpAny _ _ (if (gC w)=true then _ else _) _ _ _
 rw[hB,if_pos rfl];refine Cy (Fj (CD ?_))
 unfold dF at h;rw[hB,if_pos rfl]at h;exact h
theorem jj {a:Addr}{es:Array (Int×CB)}{ep i:Nat}{pl:List Nat}{Q:Option (CB×Nat)->Cz->Prop}(x:SetX s.heap a es ep pl (!gC w))(hi:i<=es.size)
  (h:Q ((dF w a ep es)[i]?.map λe=>(e.2,cu (gC w) pl (i+1))) s):wpAny (model prog w) A (setNext a (cu (gC w) pl i) i ep) Q E s:=by
 unfold setNext;refine Cy (FI x.at_ rfl x.fits ?_)
 dsimp only
 unfold setsByText;refine Cy (Cy (Fj (CD ?_)))
 show wpAny _ _ (if (gC w)=true then _ else _) _ _ _
 cases hB:gC w with
 | true=>
  rw[if_pos rfl,if_neg (by simp)]
  refine Cy (la x hB (CD ?_))
  rw[hB]at h
  have e0:cu true pl i=cu true pl (i+1):=by cases i <;> rfl
  rw[e0]
  exact h
 | false=>
  rw[if_neg (by simp)]
  rw[hB]at x h
  show wpAny _ _ (if (false&&decide (es.size > 1))=true then _ else _) _ _ _
  rw[if_neg (by simp)]
  refine Cy ?_
  show wpAny _ _ (if (!(tbl pl (!false)).led&& !es.isEmpty)=true then _ else _) _ _ _
  rw[if_neg (by simp[tbl])]
  refine CD (CD ?_)
  have ep1:(tbl pl (!false)).place=pl.toArray:=rfl;rw[ep1,nT x.rise (by rw[<-x.len];exact hi)]
  have eo:dF w a ep es=es:=by unfold dF;rw[hB];rfl
  rw[eo]at h;rcases G2 i es.size with q | q
  ·have q2:i<pl.length:=by rw[<-x.len];exact q
   have e1:es[i]? =some es[i]:=EV q
   have e2:pl.toArray[i]? =some pl[i]:=by simp[q2]
   have e3:cu false pl (i+1)=pl[i] +1:=by simp[cu,q2]
   rw[e1,e3]at h;rw[e1,e2];exact h
  ·have e1:es[i]? =none:=Fq q
   rw[e1]at h;rw[e1];exact h
theorem qk {it a:Addr}{es:Array (Int×CB)}{ep i:Nat}{pl:List Nat}{e:Int×CB}{Q:Option CB->Cz->Prop}(hit:IsSetIter s.heap it a (cu (gC w) pl i) i es.size ep)
  (x:SetX s.heap a es ep pl (!gC w)) (hi:i<=es.size) (he:(dF w a ep es)[i]? =some e)
  (hQ:∀h',IsSetIter h' it a (cu (gC w) pl (i+1)) (i+1) es.size ep->Fb it s.heap h'->Q (some e.2) { s with heap:=h' }) :
  wpAny (model prog w) A (pyNext (.ref it)) Q E s:=by
 obtain⟨o,ho,hc,hd⟩:=id hit;unfold pyNext;refine Cy (JB (DF (name:=C0 "__next__") hit.typ si_next (DY si_next hit.typ mG ?_ (oU _))))
 refine Cy (CD ?_)
 refine Cy (wpAny_fieldsOf ho hd ?_)
 dsimp only
 refine Cy (GT x.at_ rfl x.fits ?_)
 rw[if_neg (by simp)]
 simp only[Eo];refine Cy (jj x hi ?_)
 rw[he]
 dsimp only[Option.map]
 refine Cy (Fp ho hd (by simp) ?_)
 have g1:(s.heap.update it (ER (·.setIfInBounds 0 (rawInt (cu (gC w) pl (i+1)))))).get? it=some (ER (·.setIfInBounds 0 (rawInt (cu (gC w) pl (i+1)))) o):=
  DR _ ho (EO (DM hd _))
 have d1:=DM hd (·.setIfInBounds 0 (rawInt (cu (gC w) pl (i+1))))
 refine Cy (Fp g1 d1 (by simp) ?_)
 refine CD ⟨_,rfl,CD (hQ _ ?_ ?_)⟩
 ·refine⟨_,DR _ g1 (EO (DM d1 _)),((Hs ..).trans (Hs ..)).trans hc,?_⟩
  rw[DM d1];simp[rawInt]
 ·exact(EE ..).trans (EE ..)
theorem sS {it a:Addr}{es:Array (Int×CB)}{ep:Nat}{pl:List Nat}{Q:Option CB->Cz->Prop}(hh:A.handled=none)(hit:IsSetIter s.heap it a (cu (gC w) pl es.size) es.size es.size ep)
  (x:SetX s.heap a es ep pl (!gC w))
  (hQ:∀h',KC it s.heap h'->Q none { s with heap:=h' }) :
  wpAny (model prog w) A (pyNext (.ref it)) Q E s:=by
 obtain⟨o,ho,hc,hd⟩:=id hit;unfold pyNext;refine Cy (JB (DF (name:=C0 "__next__") hit.typ si_next (DY si_next hit.typ mG ?_ (oU _))))
 refine Cy (CD ?_)
 refine Cy (wpAny_fieldsOf ho hd ?_)
 dsimp only
 refine Cy (GT x.at_ rfl x.fits ?_)
 rw[if_neg (by simp)]
 simp only[Eo];refine Cy (jj x (CM _) ?_)
 have he:(dF w a ep es)[es.size]? =none:=by
  apply Fq
  rw[<-DQ,(eV w a ep es).length_eq];simp
 rw[he]
 dsimp only[Option.map]
 refine Cy (Fp ho hd (by simp) ?_)
 refine Cy ?_
 simp only[newExc,newTuple];refine Cy (De ?_ (by size_fits))
 refine Cy (m:=Hh _ _) (FU (a:=C7) (by first | rfl | (simp only[Hh];rfl)) ?_)
 refine De ?_ (by size_fits)
 simp only[raiseNew];refine Cy (wpAny_handled ?_)
 rw[show A.in1.handled=none from hh]
 refine Cy (CD (wpAny_throw ?_))
 refine  Cy (HX (T:="StopIteration") (b:=true) ⟨_,CZ _ rfl,rfl⟩ isSubtype_stop ?_)
 exact CD (hQ _ (((EE ..).extBut.push _).push _))
theorem qw {it a:Addr}{sl i n ep:Nat}{Q:CB->Cz->Prop}(hit:IsSetIter s.heap it a sl i n ep)(h:Q (.ref it) s):wpAny (model prog w) A (pyIter (.ref it)) Q E s:=by
 refine J2 hit.typ oR (DY oR hit.typ j3 ?_ (k9 _))
 show wpAny _ _ (ret (.ref it)) _ _ s
 exact CD ⟨_,rfl,"set_iterator",_,hit.typ,si_next.lookup,h⟩
theorem tE {a:Addr}{es:Array (Int×CB)}{ep:Nat}{pl:List Nat}{L:Bool}{Q:CB->Cz->Prop}(x:SetX s.heap a es ep pl L)
  (hQ:Q (.ref s.heap.objs.size) { s with heap:=s.heap.push { cls:=.type "set_iterator",data:=.fields #[.int 0 0,.int 0 0,.ref a,.int es.size 0,.int ep 0] } }) :
  wpAny (model prog w) A (pyIter (.ref a)) Q E s:=by
 refine J2 x.typ KG (DY KG x.typ ji ?_ (F.args_set_iter_1 _))
 unfold Builtin.«frozenset.__iter__» Builtin.Frozenset.slot0 slotArgs;simp only[Km,Bool.not_true,DL,↓reduceIte,bind_assoc,Ds,bne_self_eq_false];unfold Builtin.Frozenset.addrOf Builtin.Frozenset.sizeOf;refine Cy (CD ?_)
 try dsimp only
 refine Cy (CD ?_)
 refine Cy (Cy (GT x.at_ rfl x.fits (CD ?_)))
 unfold setDrawn;refine Cy (Cy (FI x.at_ rfl x.fits ?_))
 dsimp only
 unfold setsByText;refine Cy (Cy (Fj (CD (CD ?_))))
 have e0:∀b:Bool,(!b&&(false&&decide (es.size > 1)))=false:=by intro b;cases b <;> rfl
 show wpAny _ _ (if (!(gC w)&&(false&&decide (es.size > 1)))=true then _ else _) _ _ _
 rw[e0];rw[if_neg (by simp)]
 refine Cy (CD ?_)
 unfold setEpoch;refine Cy (Cy (FI x.at_ rfl x.fits (CD ?_)))
 refine Cy (De (CD ⟨_,rfl,"set_iterator",_,⟨_,CZ _ rfl,rfl⟩,si_next.lookup,?_⟩))
 simpa [rawInt]using hQ
theorem qZ {a I:Addr}{es:Array (Int×CB)}{ep:Nat}{pl:List Nat}(hh:A.handled=none)(hne:a≠I) :
  WalksS prog w A I [I,a] [I] (λx y=>y=x) es.size (λi v=>(dF w a ep es)[i]?.map (·.2)=some v) (λi s=>IsSetIter s.heap I a (cu (gC w) pl i) i es.size ep/\SetX s.heap a es ep pl (!gC w)) where
 sub:=λb hb=>by simp at hb;simp[hb]
 grefl:=λ_=>rfl
 gtrans:=λ_ _ _ h1 h2=>h2.trans h1
 frame:=λi s h' tk st _ hk=>⟨let ⟨o,ho,r⟩:=st.1;⟨o,hk I (by simp) o ho,r⟩,st.2.keep λo e=>hk a (by simp) o e⟩
 item:=λi s Q E hi st hQ=>by
  have hs:(dF w a ep es).size=es.size:=by rw[<-DQ,(eV w a ep es).length_eq];simp
  have he:(dF w a ep es)[i]? =some (dF w a ep es)[i]:=EV (by omega)
  refine qk st.1 st.2 (by omega) he λh' hit hsb=> ?_
  refine hQ _ _ (by rw[he];rfl) ⟨hit,st.2.keep λo e=>(hsb.extBut a o hne e)⟩ ⟨λb o hb e=>hsb.extBut b o (λq=>hb (by simp[q])) e,rfl,rfl,rfl,CM _⟩
 done:=λs Q E st hQ=>sS hh st.1 st.2 λh' hx=>hQ _ ⟨λb o hb e=>hx b o (λq=>hb (by simp[q])) e,rfl,rfl,rfl,CM _⟩
 self:=λi s Q E st hQ=>qw st.1 hQ
end
section
variable {prog:C4}{w:Du}{A:Dj}{E:CB->Cz->Prop}{s:Cz}
theorem tJ {a:Addr}{es:Array (Int×CB)}{ep:Nat}{pl:List Nat}{L:Bool}{Q:Bool->Cz->Prop}(x:SetX s.heap a es ep pl L)(h:Q false s) :
  wpAny (model prog w) A (GG (.ref a)) Q E s:=by
 unfold GG;refine Cy (wpAny_specialOf x.typ F.slot_set_len.lookup ?_)
 have e:splitId "set.__len__" =some ("set","__len__"):=by decide+kernel
 simp only[e];refine Cy (HX x.typ j8 ?_)
 rw[if_neg (by simp)]
 rw[if_pos (by decide+kernel)]
 exact Cy (Gs x.typ (CD h))
theorem nt {a:Addr}{es:Array (Int×CB)}{ep:Nat}{pl:List Nat}{Q:List CB->Cz->Prop}(hh:A.handled=none)(x:SetX s.heap a es ep pl (!gC w))
  (h:∀vs s',Moved [] (λx y=>y=x) s s'->vs=(dF w a ep es).toList.map (·.2)->Q vs s'):wpAny (model prog w) A (collect (.ref a)) Q E s:=by
 unfold collect;refine Cy (wpAny_runValue (E7 F.entry_proto_collect ?_))
 rw[EY F.plain_proto_collect _]
 show wpAny _ A.in1 (newList [] >>= λl=>again (.builtin "list.__iadd__" ⟨[l,.ref a],[]⟩)) _ _ s
 refine Cy (De ?_)
 refine CD ⟨GC JU _,E7 F.entry_list_iadd ?_⟩
 rw[EY JU _]
 have ha:a<s.heap.objs.size:=CN x.at_
 generalize hH:s.heap.push { cls:=.type "list",data:=.seq ([]:List CB).toArray }=H1
 have hH1:H1.objs.size=s.heap.objs.size+1:=by rw[<-hH,Eu]
 have x1:SetX H1 a es ep pl (!gC w):=x.keep λo e=>by rw[<-hH];exact CG _ e
 show wpAny _ A.in1 (GH (.ref s.heap.objs.size) (.ref a) (.ref s.heap.objs.size)) _ _ _
 unfold GH;refine Cy (Gs (SetX.typ (s:={ s with heap:=H1 }) x1) ?_)
 have h1:Hl (.ref s.heap.objs.size) (.ref a)=false:=by
  simp[Hl];exact Fc ha
 have h2:(Eh "set" == Eh "list")=false:=by decide
 have h3:(Eh "set" == Eh "tuple")=false:=by decide
 simp only[h1,h2,h3,HI,DL,if_false];refine Cy (tE (s:={ s with heap:=H1 }) x1 ?_)
 generalize hH2:H1.push { cls:=.type "set_iterator",data:=.fields #[.int 0 0,.int 0 0,.ref a,.int es.size 0,.int ep 0] }=H2
 have x2:SetX H2 a es ep pl (!gC w):=x1.keep λo e=>by rw[<-hH2];exact CG _ e
 refine Cy (D0 (tJ (s:={ s with heap:=H2 }) x2 ?_))
 rw[if_pos (by decide+kernel)]
 refine Cy (F1 ?_)
 have hLI:s.heap.objs.size≠H1.objs.size:=by rw[hH1];exact Dg (Gv _)
 have hS1:H2.get? s.heap.objs.size=some { cls:=.type "list",data:=.seq ([]:List CB).toArray }:=by
  rw[<-hH2];refine CG _ ?_;rw[<-hH];exact CZ _ rfl
 have hI1:H2.get? H1.objs.size=some { cls:=.type "set_iterator",data:=.fields #[.int 0 0,.int 0 0,.ref a,.int es.size 0,.int ep 0] }:=by
  rw[<-hH2];exact CZ _ rfl
 refine Cy ?_
 show wpAny _ A.in1 (updateSeq s.heap.objs.size (·.push .none) >>= λ_=>updateSeq s.heap.objs.size (·.pop)) _ _ _
 refine Cy (KN hS1 rfl ?_)
 have hS2:=DR (Hq (·.push C7)) hS1 rfl
 refine KN hS2 rfl ?_
 have hS3:=DR (Hq (·.pop)) hS2 rfl
 generalize hH3:(H2.update s.heap.objs.size (Hq (·.push C7))).update s.heap.objs.size (Hq (·.pop))=H3 at hS3 ⊢
 have oth:∀b o,b≠s.heap.objs.size->H2.get? b=some o->H3.get? b=some o:=λb o hb e=>by
  rw[<-hH3];exact(D6 _ _ (DG hb)).trans ((D6 _ _ (DG hb)).trans e)
 have hn:es.size<=sizeLine:=by rw[x.len,Ea];have:=x.few;omega
 have hne:a≠H1.objs.size:=by rw[hH1];exact Dg (Er ha)
 refine CD ⟨GC F.plain_extend_loop _,codeAny_extend_loopS (qZ (pl:=pl) (ep:=ep) (es:=es) (by simpa using hh) hne) hn _ ?_ _ es.size 0 _ #[] _ rfl (Ey _)
  ⟨⟨_,oth _ _ (DG hLI) hI1,rfl,rfl⟩,x2.keep λo e=>oth a o (Dg ha) e⟩ hS3 (ItemsOf.nil _) λs' acc c hm hS' hacc=> ?_⟩
 ·simp only[CO,Ei,or_false,not_or]
  exact⟨hLI,Fc ha⟩
 show wpAny _ A (load s.heap.objs.size >>= _) _ _ s'
 refine Cy (wpAny_load hS' ?_)
 refine CD (h _ _ ⟨λb o hb e=> ?_,hm.gens,hm.drawn,hm.os,hm.toks⟩ ?_)
 ·have hlt:b<s.heap.objs.size:=CN e
  refine hm.heap b o ?_ (oth b o (Dg hlt) ?_)
  ·simp only[CO,Ei,or_false,not_or]
   exact⟨Dg hlt,by show ¬b=H1.objs.size;rw[hH1];exact Dg (Er hlt)⟩
  ·rw[<-hH2];refine CG _ ?_;rw[<-hH];exact CG _ e
 ·obtain⟨h1,h2⟩:=hacc
  have hs:(dF w a ep es).size=es.size:=by rw[<-DQ,(eV w a ep es).length_eq];simp
  apply JP
  intro j;rcases G2 j acc.size with q | q
  ·have:=h2 j acc[j] (EV q)
   rw[ES,EV q,Dn,ES]
   exact this.symm
  ·rw[ES,Fq q,Dn,ES,Fq (by omega)];rfl
end
def yK (ns:List Int):List Int:=ns.foldl (λσ k=>if k∈σ then σ else σ++ [k]) []
def iq (val:Nat->Int)(i:Nat):List Int:=yK ((DH i).map val)
theorem kx (val:Nat->Int)(i:Nat):iq val (i+1)=if val i∈iq val i then iq val i else iq val i++ [val i]:=by
 unfold iq yK;rw[GO,F7,List.foldl_append];rfl
theorem mY (val:Nat->Int):∀i,(iq val i).length<=i
 | 0=>CM _
 | i+1=>by
  rw[kx]
  have:=mY val i;split
  ·omega
  ·rw[CF];simp;omega
section
variable {prog:C4}{w:Du}{A:Dj}{R:GR->Cz->Prop}{I:Addr}{fp wr:List Addr}{G:Array IE->Array IE->Prop}{n:Nat}{P:Nat->CB->Prop}{St:Nat->Cz->Prop}
theorem ro {L:Bool}(W:WalksS prog w A.in1 I fp wr G n P St)(S:Addr)(hS:S∉fp)(val:Nat->Int)(hv:∀i v,P i v->∃t,v= .int (val i) t)(hsm:∀i,i<n->0<=val i/\val i<100)(hn:n<=4) :
  ∀(k i:Nat) (s:Cz) (es:Array (Int×CB)) (ep:Nat) (pl:List Nat),n - i=k->i<=n->St i s->SetX s.heap S es ep pl L->FN (bx es) (iq val i) →
   (∀s' es' ep' pl',Moved (S::wr) G s s'->SetX s'.heap S es' ep' pl' L->FN (bx es') (iq val n)->R (.ok (.ret .none)) s') →
   codeAny (model prog w) A (.builtin "set.update.loop" ⟨[.ref S,.ref I],[]⟩) R s:=by
 have hw:S∉wr:=λh=>hS (W.sub _ h)
 have hsub:∀b∈wr,b∈S::wr:=λb hb=>CH _ hb
 intro k
 induction k with
 | zero=>
  intro i s es ep pl hk hi hst x hp hR
  have hin:i=n:=by omega
  subst hin;refine E7 FM ?_
  rw[EY EB _]
  show wpAny _ A.in1 (pyNext (.ref I) >>= _) _ _ s
  refine Cy (W.done s _ _ hst λs' hm=> ?_)
  show wpAny _ A.in1 (ret C7) _ _ s'
  exact CD (hR s' es ep pl (hm.mono hsub) (x.keep λo e=>hm.heap S o hw e) hp)
 | succ k ih=>
  intro i s es ep pl hk hi hst x hp hR
  have hlt:i<n:=by omega
  refine E7 FM ?_
  rw[EY EB _]
  show wpAny _ A.in1 (pyNext (.ref I) >>= _) _ _ s
  refine Cy (W.item i s _ _ hlt hst λv s' hP hst' hm=> ?_)
  obtain⟨t,rfl⟩:=hv i v hP
  have x':SetX s'.heap S es ep pl L:=x.keep λo e=>hm.heap S o hw e
  have hlen:pl.length<=3:=by
   have a1:=hp.length_eq
   have a2:=mY val i
   have a3:(bx es).length=es.size:=by simp[bx]
   have a4:=x.len;omega
  show wpAny _ A.in1 (holding [D1 (val i) t] (setAdd S (.int (val i) t)) >>= _) _ _ s'
  refine Cy (D0 ?_)
  unfold setAdd;refine D0 ?_
  refine Cy ((intKind prog w).pyHash (k:=val i) (by simp[intKind,GI]) ?_)
  refine Bp (s:={ s' with toks:=s'.toks+1 }) (hsm i hlt).1 (hsm i hlt).2 x' hlen λb h' es' ep' pl' hsb x2 hp2=> ?_
  have hp3:FN (bx es') (iq val (i+1)):=by
   rw[kx]
   by_cases hin:val i∈bx es
   ·rw[if_pos hin]at hp2
    rw[if_pos (hp.mem_iff.mp hin)];exact hp2.trans hp
   ·rw[if_neg hin]at hp2
    rw[if_neg (λq=>hin (hp.mem_iff.mpr q))]
    exact hp2.trans (hp.append_right _)
  refine CD ⟨GC EB _,ih (i+1) _ es' ep' pl' (by omega) hlt (W.frame _ s' _ _ hst' (KH _) λb hb o e=> ?_) x2 hp3 λs'' es2 ep2 pl2 hm'' x3 hp4=> ?_⟩
  ·rw[hsb.2 b (λh:b=S=>hS (by rw[<-h];exact hb))];exact e
  ·refine hR s'' es2 ep2 pl2 (Moved.trans W.gtrans ((hm.mono hsub).then_heap (KH _) λb o hb e=> ?_) hm'') x3 hp4
   rw[hsb.2 b (λh:b=S=>hb (by rw[h];exact CL))];exact e
end
section
variable {prog:C4}{w:Du}{A:Dj}{E:CB->Cz->Prop}{s:Cz}
theorem uO (a:CB){Q₁:CB->Cz->Prop}
  (h:Q₁ (.ref s.heap.objs.size) { s with heap:=s.heap.push (ia #[] 0 [] (!gC w)) }) :
  codeAny (model prog w) A (.call (.builtin "set.__new__") ⟨[.type "set",a],[]⟩) (wants Q₁ E) s:=by
 refine KO ?_
 show wpAny _ A.in1 (do FS "set.__new__" ⟨[.type "set",a],[]⟩;again (.builtin "set.__new__" ⟨[.type "set",a],[]⟩)) _ _ s
 refine Cy (FU (F.newCall_set_1 a) (CD ⟨GC KI _,E7 F.entry_set_new ?_⟩))
 rw[EY KI _];unfold Builtin.«set.__new__» Builtin.Frozenset.newClass
 have hsub:=sub_set_self;obtain⟨hp,g,d,tk,os⟩:=s
 dsimp only
 wp_walk
 refine Fj (CD ?_)
 dsimp only
 simp only[newObj];refine Cy (wpAny_alloc (CD ?_))
 exact CD h
end
end Tr
namespace Tr
open PySem PySem.Spec PyProof.Rows L2
section
variable {P:C4}{w:Du}{K:CA}{mg:Str->Option CB}{base:Heap}{x:Str}{st:Stmt}{ps:List Str}{k n:Nat}{F:En->Rs Fl}
theorem bp (N:List Str)(H:gh K mg x st ps)
  (hbody:N.Nodup->∀(f:Addr) (cdv:CB) (A:Dj) (outer:List Env) (s:Cz) (H:Hp) (E:XK),Room k (A.deeper (envOfC x (aj st) s.heap.objs.size f cdv)) →
   ∀xe,qQ ((dN CX0 P w K mg base N x (aj st) f cdv A outer s H E).BM xe) (ba st) F) (S:autoParam (bq N ps (aj st)) a_) (hn:autoParam (ps.length=n) u_):Cl P w K mg base (k+1) x n (val n N.length F):=Bj H S hn (hbody S.nd)
end
theorem fA {X:Cx}{pos:Pos}{elt tg iter:Expr}{ifs:List Expr}{scope:Fu}{src:List (Option Nat)}{fi:En->Rs (List T)}{tgt:T->En->Rs En}{fc:En->Rs Bool}{fe:En->Rs T}(N' N:List Str)(st:Stmt)(hi:QI X tg iter fi)
  (block:N'.Nodup->∀(cl:List (Str×Addr)) (C:Addr) (s₀:Cz) (H₀:Hp) (fp:List Addr),QG (aT X scope cl N' C s₀ H₀ fp) tg tgt/\zG (aT X scope cl N' C s₀ H₀ fp) ifs fc/\QE (aT X scope cl N' C s₀ H₀ fp) elt fe)
  (hc:autoParam (Cx.calm X=true) u_) (hN:autoParam (X.N=N) u_) (hm:autoParam (X.env.scope.names=(aj st).names) u_) (hk:autoParam (scope.kind= .function) u_) (h:autoParam (yL (aj st).names N scope.names N' src=true) z_) (nd:autoParam (N'.Nodup) z_) (hs:autoParam (∀(x:CB),Dl iter (Cx.env X) x=pure x) t_) :
  QE X (F6 elt [{ target:=tg,iter:=iter,ifs:=ifs,is_async:=0 }] scope pos) (ej fi src tgt fc fe):=zK hc (LcScope.by hN hm hk h) hi (block nd) hs
@[elab_as_elim] theorem w9 {α:Type} {p:List α->Prop} (h:∀a,p [a]):∀us:List α,us.length=1->p us
 | [a],_=>h a
@[elab_as_elim] theorem AR {α:Type} {p:List α->Prop} (h:∀a b,p [a,b]):∀us:List α,us.length=2->p us
 | [a,b],_=>h a b
@[elab_as_elim] theorem AQ {α:Type} {p:List α->Prop} (h:∀a b c,p [a,b,c]):∀us:List α,us.length=3->p us
 | [a,b,c],_=>h a b c
section
variable {K:CA}{h:Heap}{mg:Str->Option CB}{S:qN}{top:Nat->Stmt}
theorem cY (j:Nat){n:Str}{i:Nat}{ps:List Str}(X:K.In h)(G:h.Ns Dm mg)(e:lC S K=kS S top)(q:autoParam (S.tab[j]? =some (n,i)) u_)
  (hb:∀(kV doc pm:CB) (an:Option Addr) (cdv ct:CB) (us:List CB),us.length=ps.length->Jx (E9 n n (dM (top i)) (ba (top i)) (aj (top i)) .none kV doc pm an cdv ct) ⟨us,[]⟩=pure (ps.zip us):=by
   intro _ _ _ _ _ _ us hl;first | exact w9 (λ_=>rfl) us hl | exact AR (λ_ _=>rfl) us hl | exact AQ (λ_ _ _=>rfl) us hl | exact len_0 rfl us hl) :
  ∃f fd,Fn K mg n (top i) ps f fd:=A0 j X G e q hb
end
end Tr
namespace Tr
open PySem
section
variable {prog:C4}{w:Du}{A:Dj}{E:CB->Cz->Prop}{s:Cz}
theorem xK:IA (.type "list") (.type "set")=pure false:=by rw[EC];kernel_rfl
theorem xM:IA (.type "list") (.type "frozenset")=pure false:=by rw[EC];kernel_rfl
theorem qH {l:Addr}{items:Array CB}{ns:List Int}{Q:CB->Cz->Prop}
  (hh:A.handled=none) (hl:s.heap.IsList l items) (hi:K0 items.toList ns) (hb:items.size<=4) (hsm:∀i,i<items.size->0<=ns.getD i 0/\ns.getD i 0<100)
  (h:∀(h':Heap) (tk:Nat) es ep pl,SetX h' s.heap.objs.size es ep pl (!gC w)->FN (bx es) (iq (λi=>ns.getD i 0) items.size) →
   (∀b o,b<s.heap.objs.size->s.heap.get? b=some o->h'.get? b=some o)->s.toks<=tk->Q (.ref s.heap.objs.size) { s with heap:=h',toks:=tk }) :
  wpAny (model prog w) A (call (.type "set") [.ref l]) Q E s:=by
 obtain⟨c,tl,hmro⟩:=FA.mro
 have hmade:=FA.made
 have hsub:=FA.sub;refine J0 (KO ?_)
 show wpAny _ _ (callAny (.type "set") _) _ _ _
 refine CD ⟨G1 _ (by decide+kernel),E7 JV ?_⟩
 rw[Around.under_plain (weight_type_call_type "set" [.ref l] []) rfl]
 have h1:=FA.notType
 have h2:=FA.canCreate
 have hct:=F.typeCall_set_1 (.ref l)
 repeat (any_goals (first | assumption | wp_step))
 refine G6 (uO (.ref l) (E:=E) (Q₁:=λobj s₁=>obj= .ref s.heap.objs.size/\s₁= { s with heap:=s.heap.push (ia #[] 0 [] (!gC w)) }) ⟨rfl,rfl⟩) λr s₁ hr=> ?_
 cases r with
 | error e=>exact hr
 | ok fl=>
  cases fl with
  | ret obj=>
   obtain⟨rfl,rfl⟩:=hr
   generalize hH:s.heap.push (ia #[] 0 [] (!gC w))=H1
   have hH1:H1.objs.size=s.heap.objs.size+1:=by rw[<-hH,Eu]
   have hS:H1.get? s.heap.objs.size=some (ia #[] 0 [] (!gC w)):=by rw[<-hH];exact CZ _ rfl
   have hT:Shared.TypeIs { s with heap:=H1 } (.ref s.heap.objs.size) "set":=⟨_,hS,rfl⟩
   have hli:=FA.init.lookup
   have hbi:=FA.init.bind (.ref s.heap.objs.size)
   repeat (any_goals (first | assumption | wp_step))
   refine G6 (Gy (R:=wants (λr s₂=>r= .none/\∃h' tk es ep pl,s₂= { s with heap:=h',toks:=tk }/\SetX h' s.heap.objs.size es ep pl (!gC w)/\FN (bx es) (iq (λi=>ns.getD i 0) items.size) ∧
     (∀b o,b<s.heap.objs.size->s.heap.get? b=some o->h'.get? b=some o)/\s.toks<=tk) E) FA.init.plain F.entry_set_init (check_set_init_1 hT ?_)) λr₂ s₂ hr₂=> ?_
   ·obtain⟨ol,hol,hcl,nl,hdl⟩:=hl
    obtain⟨ocls,odict,odata,oslots⟩:=ol;simp only at hcl hdl;subst hcl;subst hdl
    have hol':H1.get? l=some { cls:=.type "list",dict:=odict,data:=.seq items nl,slots:=oslots }:=by rw[<-hH];exact CG _ hol
    have hsls:=xK
    have hslf:=xM
    have hne:(Eh "list" == Eh "dict")=false:=by decide
    have hl1:H1.IsList l items:=⟨_,hol',rfl,nl,rfl⟩;unfold Builtin.«set.__init__» noKeywords Kt
    generalize hPI:pyIter=PI
    wp_walk
    subst hPI;refine HD hl1 ?_
    refine Cy (wpAny_runValue ?_)
    have hlS:l<s.heap.objs.size:=CN hol
    have hh3:A.in1.in1.in1.handled=none:=by simp[hh]
    have hneI:l≠H1.objs.size:=by rw[hH1];exact Dg (Er hlS)
    have hSf:s.heap.objs.size∉ [H1.objs.size,l]:=by
     simp only[CO,C8,Ei,or_false,not_or];exact⟨by rw[hH1];exact Dg (Gv _),Fc hlS⟩
    have hval:∀(i:Nat) (v:CB),items[i]? =some v->∃t,v= .int ((λi=>ns.getD i 0) i) t:=λi v hv=>
     PyProof.Rows.IntsAre.int_at hi i v (by rw[ES];exact hv)
    refine ro (L:=!gC w) ((Walks.list hh3 _ l hneI items).toS) s.heap.objs.size hSf (λi=>ns.getD i 0) hval hsm hb (items.size - 0) 0 _ #[] 0 [] (by omega) (Ey _)
     ⟨⟨_,CZ _ rfl,rfl,rfl⟩,(hl1.push _)⟩ ?hS0 .rfl ?hR
    case hS0=>
     exact⟨CG _ hS,JL,rfl,by simp,λe he=>by simp at he⟩
    case hR=>
     intro s' es' ep' pl' hm x' hp';obtain⟨h',g',d',tk',os'⟩:=s'
     have eg:g'=s.gens:=hm.gens
     have ed:d'=s.drawn:=hm.drawn
     have eo:os'=s.os:=hm.os
     have et:s.toks<=tk':=hm.toks;subst eg;subst ed;subst eo
     show wpAny _ _ _ _ _ _
     refine CD ?_
     show wpAny _ _ (ret C7) _ _ _
     refine CD ⟨rfl,h',tk',es',ep',pl',rfl,x',hp',λb o hb e=> ?_,et⟩
     refine hm.heap b o ?_ (CG _ (by rw[<-hH];exact CG _ e))
     simp only[CO,C8,Ei,or_false,not_or];exact⟨Dg hb,by rw[hH1];exact Dg (Er hb)⟩
   ·cases r₂ with
    | error e=>exact hr₂
    | ok fl₂=>
     cases fl₂ with
     | ret r=>
      obtain⟨rfl,h',tk,es,ep,pl,rfl,x',hp',hk',et⟩:=hr₂
      repeat (any_goals (first | assumption | wp_step))
      exact h _ _ es ep pl x' hp' hk' et
     | _=>exact hr₂.elim
  | _=>exact hr.elim
end
end Tr
namespace Tr
open PySem PyProof.Rows
section
variable {prog:C4}{w:Du}{A:Dj}{E:CB->Cz->Prop}{s:Cz}
theorem tR {l:List (Int×CB)}(h:∀e∈l,Bt e):Gb (l.map (·.2)) (l.map (·.1)):=by
 induction l with
 | nil=>exact .nil
 | cons e r ih=>
  obtain⟨k,t,rfl,_,_⟩:=h e CL;exact .cons k t (ih λe he=>h e (CH _ he))
theorem nR {a:Addr}{es:Array (Int×CB)}{ep:Nat}{pl:List Nat}{Q:CB->Cz->Prop}(hh:A.handled=none)(x:SetX s.heap a es ep pl (!gC w))
  (h:∀(p:Addr) (out:Array CB) (ns:List Int) (h1 h':Heap) (tk n:Nat),(∀b o,s.heap.get? b=some o->h1.get? b=some o)->h1.objs.size<=p->(∀b o,h1.get? b=some o->h'.get? b=some o)->h'.get? p=some (seqObj "list" out n) →
   Gb out.toList ns->ns.Perm (bx es)->ns.Pairwise (·<=·)->s.toks<=tk->Q (.ref p) { s with heap:=h',toks:=tk }) :
  wpAny (model prog w) A (call (.builtin "sorted") [.ref a]) Q E s:=by
 refine Calls.call_function_entry kind_sorted plain_sorted entry_sorted (args_sorted1 _) ?_
 unfold Builtin.«sorted»;refine Cy (m:=checkCount "sorted" 1 1 _) (CD ?_)
 refine Cy (nt (by simpa using hh) x λvs s' hm hvs=> ?_)
 have hI:Gb vs ((dF w a ep es).toList.map (·.1)):=by
  rw[hvs];exact tR λe he=>x.ent e ((eV w a ep es).mem_iff.mp he)
 have h64:vs.length<64:=by
  rw[hvs,CI,(eV w a ep es).length_eq,DQ,x.len]
  have:=x.few;omega
 refine Cy (wpAny_newList ?_ (by rw[Ea];omega))
 have hoL:(s'.heap.push (seqObj "list" vs.toArray 0)).get? s'.heap.objs.size=some (seqObj "list" vs.toArray 0):=CZ _ rfl
 refine Cy (D0 (DY slot_list_sort ⟨_,hoL,rfl⟩ entry_list_sort (list_sort_tree hoL hI h64 λout ns' a1 a2 a3=>⟨_,rfl,?_⟩) (args_list_sort _)))
 obtain⟨n,hn⟩:=sortedHeap_at (out:=out) hoL;obtain⟨hp',g',d',tk',os'⟩:=s'
 have eg:g'=s.gens:=hm.gens
 have ed:d'=s.drawn:=hm.drawn
 have eo:os'=s.os:=hm.os
 have et:s.toks<=tk':=hm.toks;subst eg;subst ed;subst eo;refine CD ⟨_,rfl,h _ out ns' hp' _ tk' n (λb o e=>hm.heap b o (by simp) e) (CM _) (λb o e=> ?_) hn a1 (a2.trans ((eV w a ep es).map _)) a3 et⟩
 have hlt:b<hp'.objs.size:=CN e
 show(sortedHeap (hp'.push (seqObj "list" vs.toArray 0)) hp'.objs.size vs out).get? b=some o
 rw[sortedHeap_old (Dg hlt) (by rw[size_push'];exact Er hlt)]
 exact CG _ e
end
end Tr
namespace Tr
def uw (ns:List Int):List Int:=ns.foldl (λσ k=>if k∈σ then σ else σ++ [k]) []
def mh (a b:Int):Bool:=decide (a<=b)
def kj:List T->Rs T
 | [.lst l] =>match jx l with
  | some ns=>if (decide (ns.length<=4)&&ns.all λn=>decide (0<=n)&&decide (n<100))=true then .ok (.lst (((uw ns).mergeSort mh).map .int))else .bad
  | none=> .bad
 | _=> .bad
theorem p9 {k m:List Int}(p:m.Perm k)(s:m.Pairwise (λa b=>mh a b=true)):m=k.mergeSort mh:=by
 exact List.Perm.eq_of_pairwise (le:=λa b=>mh a b=true) (λa b _ _ h g=>by simp only[mh,decide_eq_true_eq]at h g;omega) s (HM (λa b c h g=>by simp only[mh,decide_eq_true_eq]at*;omega) (λa b=>by simp only[mh,Im,decide_eq_true_eq];omega) k) (p.trans (IY k mh).symm)
end Tr
namespace Tr
open PySem PySem.Spec PyProof.Rows L2
section
variable {X:Cx}{a:Expr}{fs:En->Rs (List T)}{p p1 p2 pos:Pos}
theorem kC:∀{xs:List Int} {us:List CB},Vals (xs.map V.int) us->Gb us xs
 | [],us,r=>by cases r;exact .nil
 | x::xs,us,r=>by
  cases r with
  | cons a r=>
   obtain⟨t,rfl⟩:=a;exact .cons x t (kC r)
theorem vK (ns:List Int):iq (λi=>ns.getD i 0) ns.length=uw ns:=by
 unfold iq yK uw
 congr 1
 refine List.ext_getElem (by simp) λi h1 h2=> ?_
 simp[FK,CP h2]
theorem yh (hc:X.calm=true)(hm:X.mg "sorted" =none)(hms:X.mg "set" =none)(ha:nA X [a] fs)(hst:autoParam (a8 [a] =true) u_)(hg:autoParam (Gl X "sorted") u_)(hgs:autoParam (Gl X "set") u_) :
  cq X (.Call (.Name "sorted" p) [.Call (.Name "set" p1) [a] [] p2] [] pos) (cl kj fs):=by
 intro pins s σ H Q I ⟨ρ,O,Ev,hq⟩
 have e1:CV [Hu (.Name "set" p1) [a] [] p2] X.env=(false,eval (.Call (.Name "set" p1) [a] [] p2) X.env)::CV [] X.env:=bz rfl;unfold a8 at hst;rw[CC]at hst
 have e2:CV [a] X.env=(false,eval a X.env)::CV [] X.env:=bz hst.1;refine DO (dA I hg hm (show Dh "sorted" =some (.builtin "sorted")by decide+kernel) ?_ (by decide) (by decide))
 refine D5 ?_ e1 rfl
 rw[e1];refine F4 ?_
 refine DO (dA I hgs hms (show Dh "set" =some (.type "set")by decide+kernel) ?_ (by decide) (by decide))
 refine ED (bF (ha p2 pins s σ H _ I (du Ev hq)) λus s1 ⟨vs,H1,I1,r1,ts,rs,s',E',q1⟩=> ?_) e2 rfl
 unfold kj at q1
 split at q1
 ·rename_i l
  split at q1
  ·rename_i ns hn
   split at q1
   ·rename_i hz
    rw[CC,Dc]at hz;obtain⟨v1,rfl,ra⟩:=rs.one;obtain⟨c1,ws,rfl,n1,hx,rx⟩:=Rep.BL.mp ra;obtain⟨u1,rfl,z1⟩:=Vals.one r1;obtain rfl:u1=Df c1:=z1;obtain⟨z,its,n,rv,hlen,eo⟩:=I1.B1 hx
    have el:=km hn;subst el;cases Reps.Cd rx
    have hi:=kC rv
    have hl:=hi.length
    have h4:=of_decide_eq_true hz.1
    have hd:X.A.handled=none:=I1.ok.hd hc;refine qH (items:=its.toArray) (ns:=ns) hd ⟨_,eo,rfl,n,rfl⟩ (by simpa using hi) (by rw[CT];omega) (λi h=> ?_) λh' tk es ep pl x hp kp et=> ?_
    ·rw[CT]at h
     have hm:=hz.2 (ns.getD i 0) (by rw[FK,CP (by omega)];exact FR _)
     rw[CC]at hm;exact⟨of_decide_eq_true hm.1,of_decide_eq_true hm.2⟩
    refine FF ?_
    refine nR (s:={ s1 with heap:=h',toks:=tk }) hd x λpA out ms h1 h2 tk2 nn k1 pl1 k2 ho2 hi2 pm pw et2=> ?_
    have keep:∀b u,s1.heap.get? b=some u->h2.get? b=some u:=λb u e=>k2 _ _ (k1 _ _ (kp b u (CN e) e))
    have hfr:s1.heap.objs.size<=pA:=by
     have h0:s1.heap.objs.size<h1.objs.size:=CN (k1 _ _ x.at_);exact Dk (Fv h0) pl1
    have hH:H1 pA=none:=I1.hok.fresh hfr
    have em:ms=(uw ns).mergeSort mh:=by
     refine p9 ?_ (pw.imp λh=>decide_eq_true h)
     rw[CT,show its.length=ns.length by omega,vK]at hp
     exact pm.trans hp
    have ml:ms.length<=4:=by
     have:=hi2.length
     have e5:ms.length=(bx es).length:=pm.length_eq
     have e6:(bx es).length=es.size:=by unfold bx;simp
     have e7:=x.len
     have:=x.few;omega
    refine⟨.ref pA,dE H1 pA (.lst (ms.map V.int)),I1.laid (t':=tk2) keep hfr ⟨by rw[CI,Ea];omega,out.toList,nn,hG hi2,by rw[ho2]⟩,rfl,q1 _ (a7 hH _) _ ?_⟩
    rw[<-em];exact dU hH (E'.fresh hH) Reps.ints
   ·exact q1.elim
  ·exact q1.elim
 ·exact q1.elim
end
end Tr
namespace Tr
open PySem
def oS (g:List T->Rs T)(fa:En->Rs T)(fs:En->Rs (List T))(ρ:En):Rs T:=fa ρ >>= λx=>match x with
 | .str s=>fs ρ >>= λts=>g (.str s::ts)
 | _=> .bad
def bM:List T->Rs T
 | [.int i] =>if i.natAbs.log2<1920 then .ok (.str (C0 (toString i)))else .bad
 | _=> .bad
def fQ:List T->Rs T
 | [.str a,.str b] => .ok (.bl (EW a b))
 | _=> .bad
def fx:List T->Rs T
 | [.str a,.str b] =>if b.length≠0/\a.length<=1000000 then .ok (.tup [.str (D9 a b).1,.str (D9 a b).2.1,.str (D9 a b).2.2])else .bad
 | _=> .bad
def ff:List T->Rs T
 | [.str a,.str b] =>if b.length≠0/\a.length<=1000000/\(FB a b).length<=1000000 then .ok (.lst ((FB a b).map .str))else .bad
 | _=> .bad
def gI:List T->Option (List Str)
 | [] =>some []
 | .str s::l=>(gI l).map (s:: ·)
 | _=>none
def eF:List T->Rs T
 | [.str a,.lst l] =>match gI l with
  | some ss=>if JoinOk a ss=true then .ok (.str (Txt.join a ss))else .bad
  | none=> .bad
 | _=> .bad
end Tr
namespace Tr
open PySem PySem.Spec PyProof.Rows L2
section
variable {X:Cx}{a b:Expr}{fa:En->Rs T}{fs:En->Rs (List T)}{pos p apos cpos:Pos}
theorem cw:CallT X (.type "str") bM:=by
 intro pins s σ H O ts vs us Q I hf rs rv hp;unfold bM at hp
 split at hp
 ·split at hp
  ·rename_i i hi
   obtain⟨v,rfl,r⟩:=rs.one;obtain⟨u,rfl,z⟩:=Vals.one rv;rw[Rep.BJ.mp r]at z;obtain⟨t,rfl⟩:=z;exact P.str_of_int hi ⟨.str _,H,I.tok _,⟨_,rfl⟩,hp H (Same.refl H) _ (Rep.B3 _)⟩
  ·exact hp.elim
 ·exact hp.elim
theorem jc {x y:Str}{O:Ow}{H:Hp}{vs:List V}{us:List CB}(rs:Reps X.K O H [.str x,.str y] vs)(rv:Vals vs us):∃t u,us= [Eb x t,Eb y u]:=by
 obtain⟨v1,w1,rfl,r1,rs⟩:=Reps.AC.mp rs;obtain⟨v2,w2,rfl,r2,rs⟩:=Reps.AC.mp rs;cases Reps.BI.mp rs;rw[Rep.BO.mp r1,Rep.BO.mp r2]at rv
 cases rv with
 | cons z1 rv=>
  cases rv with
  | cons z2 rv=>
   cases rv;obtain⟨t,rfl⟩:=z1;obtain⟨u,rfl⟩:=z2;exact⟨t,u,rfl⟩
theorem qE:CallT X (.builtin "str.startswith") fQ:=by
 intro pins s σ H O ts vs us Q I hf rs rv hp;unfold fQ at hp
 split at hp
 ·obtain⟨t,u,rfl⟩:=jc rs rv
  exact SC.startswith ⟨.bl _,H,I,rfl,hp H (Same.refl H) _ (Rep.bl_ _)⟩
 ·exact hp.elim
theorem kf:∀(l:List (Str×Tok)),Vals ((l.map (·.1)).map V.str) (KP l)
 | [] => .nil
 | (x,t)::l=> .cons ⟨t,rfl⟩ (kf l)
theorem ie {O:Ow}{H:Hp}:∀(ss:List Str),Reps X.K O H (ss.map T.str) (ss.map V.str)
 | [] =>Reps.BV
 | x::l=>Reps.BP (Rep.B3 _) (ie l)
theorem Inv.Ct {pins:List (Addr×Obj)}{σ:L2.St}{H:Hp}{s:Cz}{ys:List V}{its:List CB}{t':Nat}(I:Inv X pins σ H s)(hv:Vals ys its)(hz:ys.length<=sizeLine) :
  Inv X pins σ (dE H s.heap.objs.size (.tup ys)) { s with heap:=s.heap.push { cls:=.type "tuple",data:=.seq its.toArray },toks:=t' }:=
 I.laid (λ_ _ q=>CG _ q) (CM _) ⟨hz,its,hv,Ii _ _⟩
theorem wy:CallT X (.builtin "str.partition") fx:=by
 intro pins s σ H O ts vs us Q I hf rs rv hp;unfold fx at hp
 split at hp
 ·rename_i x y
  split at hp
  ·rename_i hh
   obtain⟨h1,h2⟩:=hh;obtain⟨t,u,rfl⟩:=jc rs rv
   have hy:(y.length == 0)=false:=by rw[beq_eq_false_iff_ne];exact h1
   have hx:x.length<=sizeLine:=by rw[Ea];omega
   refine Fo IK (show typeOf _=_ from rfl) F.entry_str_partition (F.args_str_partition_2 _ _) (meets_str_partition x y t u hy hx) ?_
   have fin:∀(p q r:Str) (tp tq tr:Tok) (k:Nat),(p,q,r)=D9 x y->wants (EP X pins σ Q) X.xe (.ok (.ret (.ref s.heap.objs.size))) { s with heap:=s.heap.push { cls:=.type "tuple",data:=.seq #[.str p tp,.str q tq,.str r tr] },toks:=k }:=λp q r tp tq tr k e=>by
    have np:=I.hok.fresh (CM s.heap.objs.size)
    have e1:(D9 x y).1=p:=by rw[<-e]
    have e2:(D9 x y).2.1=q:=by rw[<-e]
    have e3:(D9 x y).2.2=r:=by rw[<-e]
    rw[e1,e2,e3]at hp
    have I2:Inv X pins σ (dE H s.heap.objs.size (.tup [.str p,.str q,.str r])) { s with heap:=s.heap.push { cls:=.type "tuple",data:=.seq #[.str p tp,.str q tq,.str r tr] },toks:=k }:=Inv.Ct I (its:=[.str p tp,.str q tq,.str r tr]) (.cons ⟨_,rfl⟩ (.cons ⟨_,rfl⟩ (.cons ⟨_,rfl⟩ .nil))) (by rw[Ea];simp)
    exact⟨.ref _,_,I2,rfl,hp _ (a7 np _) _ (cW np (hf _ np) (ie [p,q,r]))⟩
   show wants _ _ _ _
   unfold D9 at fin
   cases q:Fd x y 0 x.length 1 with
   | nil=>
    rw[q]at fin
    exact fin _ _ _ _ _ _ _ rfl
   | cons i tl=>
    rw[q]at fin;exact fin _ _ _ _ _ _ _ rfl
  ·exact hp.elim
 ·exact hp.elim
theorem iD:∀(ss:List Str) (k:Nat),∃l:List (Str×Tok),strsFrom k ss=KP l/\l.map (·.1)=ss
 | [],k=>⟨[],rfl,rfl⟩
 | x::ss,k=>by
  obtain⟨l,e1,e2⟩:=iD ss (k+1);exact⟨(x,k)::l,by show Eb x k::strsFrom (k+1) ss=_;rw[e1];rfl,by rw[C3,e2]⟩
theorem tY:CallT X (.builtin "str.split") ff:=by
 intro pins s σ H O ts vs us Q I hf rs rv hp;unfold ff at hp
 split at hp
 ·rename_i x y
  split at hp
  ·rename_i hh
   obtain⟨h1,h2,h3⟩:=hh;obtain⟨t,u,rfl⟩:=jc rs rv
   have hy:(y.length == 0)=false:=by rw[beq_eq_false_iff_ne];exact h1
   have hx:x.length<=sizeLine:=by rw[Ea];omega
   have fin:∀(l:List (Str×Tok)) (k:Nat),l.map (·.1)=FB x y->wants (EP X pins σ Q) X.xe (.ok (.ret (.ref s.heap.objs.size))) { s with heap:=s.heap.push { cls:=.type "list",data:=.seq (KP l).toArray },toks:=k }:=λl k e=>by
    have np:=I.hok.fresh (CM s.heap.objs.size);rw[<-e]at hp h3;exact⟨.ref _,_,I.B7 (t':=k) (kf l) (by rw[CI,Ea];omega),rfl,hp _ (a7 np _) _ (dU np (hf _ np) (ie _))⟩
   have itself:∀(e:[x] =FB x y),listOfItself x t X.A (wants (EP X pins σ Q) X.xe) s:=λe=>fin [(x,t)] s.toks e
   unfold FB at fin itself h3
   cases c1:(decide (x.length<y.length)||decide (IT x<IT y))with
   | true=>
    rw[c1]at itself
    exact Fo Gw (show typeOf _=_ from rfl) Hz (G3 _ _) (meets_str_split_cannot_occur x y t u c1) (itself (by simp))
   | false=>
    rw[c1]at itself fin h3
    cases c2:(Fd x y 0 x.length (x.length+1)).isEmpty with
    | true=>
     rw[c2]at itself
     exact Fo Gw (show typeOf _=_ from rfl) Hz (G3 _ _) (meets_str_split_not_found x y t u c1 hy c2) (itself (by simp))
    | false=>
     rw[c2]at fin h3;rw[if_neg C1,if_neg C1]at h3;refine Fo Gw (show typeOf _=_ from rfl) Hz (G3 _ _) (meets_str_split_sep x y t u c1 hy c2 hx (by rw[Ea];omega)) ?_
     obtain⟨l,e1,e2⟩:=iD (Builtin.Str.partsBetween x (Fd x y 0 x.length (x.length+1)) y.length) s.toks
     show wants _ _ _ _
     rw[e1];exact fin l _ (by rw[e2];simp)
  ·exact hp.elim
 ·exact hp.elim
theorem oP {O:Ow}{H:Hp}:∀{l:List T} {ss:List Str} {vs:List V} {its:List CB},gI l=some ss->Reps X.K O H l vs->Vals vs its->∃q:List (Str×Tok),its=KP q/\q.map (·.1)=ss
 | [],ss,vs,its,h,rs,rv=>by
  cases h;cases Reps.BI.mp rs;cases rv
  exact⟨[],rfl,rfl⟩
 | t::l,ss,vs,its,h,rs,rv=>by
  cases t with
  | str x=>
   unfold gI at h
   cases q:gI l with
   | none=>rw[q]at h;cases h
   | some s2=>
    rw[q]at h;cases h;obtain⟨v,w,rfl,r1,rs⟩:=Reps.AC.mp rs
    cases rv with
    | cons z rv=>
     rw[Rep.BO.mp r1]at z;obtain⟨tk,rfl⟩:=z;obtain⟨p,rfl,e⟩:=oP q rs rv
     exact⟨(x,tk)::p,rfl,by rw[C3,e]⟩
  | _=>cases h
theorem wz:CallT X (.builtin "str.join") eF:=by
 intro pins s σ H O ts vs us Q I hf rs rv hp;unfold eF at hp
 split at hp
 ·rename_i x l
  split at hp
  ·rename_i ss hss
   split at hp
   ·rename_i hj
    obtain⟨v1,w1,rfl,r1,rs⟩:=Reps.AC.mp rs;obtain⟨v2,w2,rfl,r2,rs⟩:=Reps.AC.mp rs;cases Reps.BI.mp rs;obtain⟨c,ws,rfl,n1,hx,rx⟩:=Rep.BL.mp r2;rw[Rep.BO.mp r1]at rv
    cases rv with
    | cons z1 rv=>
     cases rv with
     | cons z2 rv=>
      cases rv;obtain⟨t,rfl⟩:=z1;obtain rfl:=(show _=Df c from z2)
      obtain⟨z,its,n,rv2,hlen,eo⟩:=I.B1 hx;obtain⟨q,rfl,e⟩:=oP hss rx rv2;exact SC.join (l:=q) ⟨_,eo,rfl,n,rfl⟩ e hj λt' k=>⟨.str _,H,I.tok _,⟨_,rfl⟩,hp H (Same.refl H) _ (Rep.B3 _)⟩
   ·exact hp.elim
  ·exact hp.elim
 ·exact hp.elim
theorem oY {nm:Str}{id:String}{g:List T->Rs T}(hsl:Slot "str" nm id)(hty:typeOf (.builtin id)=pure (.type "method_descriptor"))(hc:CallT X (.builtin id) g)(ha:cq X a fa){fb:En->Rs T}(hb:cq X b fb)(hn:cI b=true)
  (hbase:FH a nm X.env (eval a X.env)=eval a X.env) (hline:(apos.endLine == cpos.line)=true):cq X (.Call (.Attribute a nm apos) [b] [] cpos) (oS g fa (ae fb ah)):=by
 have hs:CV [b] X.env=(false,eval b X.env)::CV [] X.env:=bz hn;intro pins s σ H Q I ⟨ρ,O,E,hq⟩;refine Ic hbase (by rw[hs];rfl) hline rfl (bF (ha pins s σ H _ I (aR E hq)) λv s1 hh_=> ?_)
 obtain⟨x,H1,I1,r1,t,rt,s',E',q1⟩:=hh_
 cases t with
 | str y=>
  rw[Rep.BO.mp rt]at r1;obtain⟨tk,rfl⟩:=r1;refine⟨_,_,PySem.F.plainAttrs_str,hsl,hty,(show typeOf _=_ from rfl),(λa z=>nomatch z),?_⟩
  rw[hs]
  have q1':Post X H1 (fb ρ >>= λu=>g [.str y,u]) λt H'=> ∀v,Rep X.K O H' t v->Q v H':=by
   have:(ae fb ah ρ >>= λts=>g (.str y::ts))=(fb ρ >>= λu=>g [.str y,u]):=by
    unfold ae;cases fb ρ <;> rfl
   rw[<-this];exact q1
  refine HZ rfl (Gx (F4 (bF (hb pins s1 σ H1 _ I1 (aR (f:=fb) E' q1')) λu s2 ⟨w,H2,I2,r2,t2,rt2,s'',E'',q2⟩=>FF ?_)))
  exact hc pins s2 σ H2 O [.str y,t2] [.str y,w] [.str y tk,u] Q I2 (λp=>E''.fresh) (Reps.BP (Rep.B3 _) (Reps.BP rt2 Reps.BV)) (.cons ⟨tk,rfl⟩ (.cons r2 .nil)) q2
 | _=>exact q1.elim
end
end Tr
namespace L2
open PySem PySem.Spec PyProof.Rows
open Sem (wp)
theorem ib {M:HB}{Γ:Hm}{p:Pos}{t:Sem Fin}{fs:List Frame}{s:Cz}{e:End}{s':Cz}(h:Runs M Γ p t fs s e s'):s.toks<=s'.toks:=by
 induction h with
 | fresh _ ih=>exact Dk (KH _) ih
 | call _ _ i1 i2=>exact Dk i1 i2
 | resumeFresh _ _ _ _ i1 i2=>exact Dk i1 i2
 | resumeSuspended _ _ _ _ i1 i2=>exact Dk i1 i2
 | segRet _ _ i1 i2=>exact Dk i1 i2
 | segGen _ _ i1 i2=>exact Dk i1 i2
 | segSuspGen _ _ _ _ i1 i2=>exact Dk i1 i2
 | _=>first | exact CM _ | assumption
theorem nK {M:HB}{Γ:Hm}{p:Pos}{g:Nat}{r:Resume}{s:Cz}{res:GenResult}{s':Cz}(h:Wakes M Γ p g r s res s'):s.toks<=s'.toks:=by
 unfold Wakes at h
 split at h
 ·exact h.elim
 ·split at h
  ·obtain⟨e,s1,q,_,_,rfl⟩:=h;have:=ib q;exact this
  ·obtain⟨_,rfl⟩:=h;exact CM _
  ·obtain⟨_,rfl⟩:=h;exact CM _
 ·obtain⟨e,s1,q,_,_,rfl⟩:=h;have:=ib q;exact this
 ·obtain⟨_,rfl⟩:=h;exact CM _
 ·obtain⟨_,rfl⟩:=h;exact CM _
def zE:Nat:=0
theorem qY {α:Type}{M:HB}{Γ:Hm}:∀{t:Sem α} {Q:α->Pos->Cz->Prop} {E:CB->Pos->Cz->Prop} {p:Pos} {s:Cz},zE<=s.toks->wp M Γ t Q E p s →
  wp M Γ t (λa p' s'=>Q a p' s'/\zE<=s'.toks) (λe p' s'=>E e p' s'/\zE<=s'.toks) p s:=by
 intro t
 induction t with
 | pure a=>intro Q E p s h w;rw[IS]at w ⊢;exact⟨w,h⟩
 | raise e=>intro Q E p s h w;rw[IS]at w ⊢;exact⟨w,h⟩
 | fresh k ih=>intro Q E p s h w;rw[IS]at w ⊢;exact ih _ (Nat.le_succ_of_le h) w
 | load a pt k ih=>intro Q E p s h w;rw[IS]at w ⊢;obtain⟨o,e,w⟩:=w;exact⟨o,e,ih _ h w⟩
 | update a pt f k ih=>intro Q E p s h w;rw[IS]at w ⊢;exact⟨w.1,ih _ (by exact h) w.2⟩
 | choose src n k ih=>intro Q E p s h w;rw[IS]at w ⊢;exact⟨w.1,ih _ (by exact h) w.2⟩
 | genState g k ih=>intro Q E p s h w;rw[IS]at w ⊢;obtain⟨o,e,w⟩:=w;exact⟨o,e,ih _ h w⟩
 | call c hd g l k ih=>intro Q E p s h w;rw[IS]at w ⊢;obtain⟨r,s',q,w⟩:=w;exact⟨r,s',q,ih _ (Dk h (ib q)) w⟩
 | resume g r l k ih=>intro Q E p s h w;rw[IS]at w ⊢;obtain⟨r,s',q,w⟩:=w;exact⟨r,s',q,ih _ (Dk h (nK q)) w⟩
 | _=>intro Q E p s h w;rw[IS]at w ⊢ <;> first | exact w | (rename_i ih;exact ih _ (by exact h) w)
def CalB (Γ:Hm):Prop:=(Γ.below.map (·.1)).any Jp=true
def Cal (Γ:Hm):Prop:=(((Γ.code::Γ.below.map (·.1))).any Jp)=true
theorem CalB.cal {Γ:Hm}(h:CalB Γ):Cal Γ:=by unfold Cal;rw[List.any_cons,show(Γ.below.map (·.1)).any Jp=true from h,J6]
theorem Cal.enter {Γ:Hm}{c:Code}{h:Option CB}{p:Pos}(z:Cal Γ):CalB (Γ.enter c h p):=z
section
variable {α β:Type}{M:HB}{A:Dj}{E:CB->Cz->Prop}{s:Cz}{R R':GR->Cz->Prop}{c:Code}
def wC (M:HB)(A:Dj)(t:Sem α)(Q:α->Cz->Prop)(E:CB->Cz->Prop)(s:Cz):Prop:=
 zE<=s.toks->∀Γ p,PySem.Ctx.In Γ A->Cal Γ->wp M Γ t (λa _ s'=>Q a s') (λe _ s'=>E e s') p s
def cC (M:HB)(A:Dj)(c:Code)(R:GR->Cz->Prop)(s:Cz):Prop:=
 zE<=s.toks->∀Γ p,Γ.code=c->PySem.Ctx.Below Γ A->CalB Γ->wpCode M Γ R p s
theorem wC.of {t:Sem α}{Q:α->Cz->Prop}(h:wpAny M A t Q E s):wC M A t Q E s:=λ_ Γ p hΓ _=>h Γ p hΓ
theorem cV {t:Sem α}{Q Q':α->Cz->Prop}{E':CB->Cz->Prop}(h:wC M A t Q E s)(hQ:∀a s,Q a s->Q' a s)(hE:∀e s,E e s->E' e s):wC M A t Q' E' s:=
 λk Γ p hΓ z=>HN M Γ t (λa _ s=>hQ a s) (λe _ s=>hE e s) p s (h k Γ p hΓ z)
theorem fP {t:Sem α}{Q Q':α->Cz->Prop}(h:wC M A t Q E s)(hQ:∀a s,Q a s->Q' a s):wC M A t Q' E s:=cV h hQ λ_ _ x=>x
theorem aZ {a:α}{Q:α->Cz->Prop}(h:Q a s):wC M A (pure a) Q E s:=.of (CD h)
theorem aP {m:Sem α}{f:α->Sem β}{Q:β->Cz->Prop}(h:wC M A m (λa s'=>wC M A (f a) Q E s') E s):wC M A (m >>= f) Q E s:=λk Γ p hΓ z=>by
 rw[Sem.wp_bind'];exact HN M Γ m (λa p' s' h'=>h'.1 h'.2 Γ p' hΓ z) (λ_ _ _ h'=>h'.1) p s (qY k (h k Γ p hΓ z))
theorem ay {m:Sem α}{f:α->Sem β}{Q:β->Cz->Prop}(h:wpAny M A m (λa s'=>wC M A (f a) Q E s') E s):wC M A (m >>= f) Q E s:=aP (.of h)
theorem gk {m:Sem α}{k:CB->Sem Unit}{Q:α->Cz->Prop}(h:wC M A m Q (λe s'=>wC M A (k e) (λ_ s''=>E e s'') E s') s):wC M A (m.onRaise k) Q E s:=λkk Γ p hΓ z=>by
 rw[Sem.wp_onRaise];exact HN M Γ m (λ_ _ _ h'=>h'.1) (λe p' s' h'=>h'.1 h'.2 Γ p' hΓ z) p s (qY kk (h kk Γ p hΓ z))
theorem bD {vs:List CB}{m:Sem α}{Q:α->Cz->Prop}(h:wC M A m Q E s):wC M A (holding vs m) Q E s:=λk Γ p hΓ z=>by rw[Sem.wp_holding];exact h k Γ p hΓ z
theorem i8 {vs:List CB}{m:Sem CB}{Q:CB->Cz->Prop}(h:wC M A m Q E s):wC M A (operate vs m) Q E s:=λk Γ p hΓ z=>by rw[Sem.wp_operate];exact h k Γ p hΓ z
theorem i9 {m:Sem α}{Q:Except CB α->Cz->Prop}(h:wC M A m (λa=>Q (.ok a)) (λe=>Q (.error e)) s):wC M A m.attempt Q E s:=λk Γ p hΓ z=>by rw[Sem.wp_attempt];exact h k Γ p hΓ z
theorem eR {pos:Pos}{f:Unit->Sem β}{Q:β->Cz->Prop}(h:wC M A (f ()) Q E s):wC M A (standAt pos >>= f) Q E s:=ay (HR h)
theorem gW (h:cC M A c R s)(hR:∀r s,R r s->R' r s):cC M A c R' s:=λk Γ p hc hΓ z=>wpCode_mono hR (h k Γ p hc hΓ z)
theorem xA {h:Option CB}{Q:Flow->Cz->Prop}(hc:cC M (A.mark h) c (λr s'=>match r with | .ok f=>Q f s' | .error e=>E e s') s)(hnb:autoParam (h≠some byPass) b_):wC M A (run c h) Q E s:=λk Γ p hΓ z=>by
 rw[Sem.wp_run];exact hc k _ p rfl (hΓ.enter c h p hnb) z.enter
theorem gF {f:CB}{pos:List CB}{kw:List (Str×CB)}{Q:CB->Cz->Prop}(hc:cC M A (.call f ⟨pos,kw⟩) (λr s'=>match r with | .ok (.ret v)=>Q v s' | .ok _=>False | .error e=>E e s') s):wC M A (call f pos kw) Q E s:=λk Γ p hΓ z=>by
 show wp M Γ (runValue (.call f ⟨pos,kw⟩)) _ _ p s
 rw[Sem.wp_runValue];exact hc k _ p rfl (hΓ.enter _ none p (by intro x;cases x)) z.enter
theorem cL (h:wC M (A.under c) (M.den c) (λfin s'=>match fin with | .done f=>R (.ok f) s' | .again c'=>c'.quiet=true/\cC M A c' R s') (λe s'=>R (.error e) s') s):cC M A c R s:=λk Γ p hc hΓ z=>by
 rw[wpCode_iff_wp,hc];refine HN M Γ _ (λfin p' s' h'=> ?_) (λ_ _ _ h'=>h'.1) p s (qY k (h k Γ p (hc▸hΓ.in) z.cal))
 cases fin with
 | done f=>exact h'.1
 | again c'=>exact⟨h'.1.1,h'.1.2 h'.2 (Γ.goto c') p' rfl (hΓ.goto c') z⟩
theorem wF (hq:c.quiet=true)(I:Nat->Cz->Prop)
  (turn:∀n s,I n s->wC M (A.under c) (M.den c) (λfin s'=>match fin with | .done f=>R (.ok f) s' | .again c'=>c'=c/\∃m,m<n/\I m s') (λe s'=>R (.error e) s') s)
  (n:Nat) (h:I n s):cC M A c R s:=by
 induction n using Nat.strongRecOn generalizing s with
 | ind n ih=>
  refine cL (cV (turn n s h) (λfin s' hf=> ?_) λ_ _ h'=>h')
  cases fin with
  | done f=>exact hf
  | again c'=>obtain⟨rfl,m,hm,hI⟩:=hf;exact⟨hq,ih m hm hI⟩
end
end L2
namespace L2
open PySem PySem.Spec PyProof.Rows
section
variable {M:HB}{A:Dj}{E:CB->Cz->Prop}{s:Cz}{env:Env}{pos:Pos}
theorem eI {st:Stmt}{rest:List Stmt}{Q:Flow->Cz->Prop}(h:wC M A (exec st env) (λf s'=>match f with | .next=>wC M A (execs rest env) Q E s' | f=>Q f s') E s):wC M A (execs (st::rest) env) Q E s:=by
 rw[execs_cons];refine aP (fP h λf s' h'=> ?_)
 cases f <;> first | exact aZ h' | exact h'
theorem zL {c:Expr}{a b:List Stmt}{Q:Flow->Cz->Prop}(h:wC M A (isTrue c env (eval c env)) (λk s'=>if k then wC M A (execs a env) Q E s' else wC M A (execs b env) Q E s') E s):wC M A (exec (.If c a b pos) env) Q E s:=by
 rw[exec_If];refine eR (aP (fP h λk s' h'=> ?_))
 cases k <;> exact h'
theorem ke {e:Expr}{Q:Flow->Cz->Prop}(h:wC M A (eval e env) (λv=>Q (.ret v)) E s):wC M A (exec (.Return (some e) pos) env) Q E s:=by
 rw[exec_Return_some];exact eR (aP (fP h λv s' q=>aZ q))
theorem rj {l r:Expr}{op:Jw}{Q:CB->Cz->Prop}(h:wC M A (eval l env) (λa s₁=>wC M A (eval r env) (λb s₂=>wC M A (Ed op a b) Q E s₂) E s₁) E s):wC M A (eval (.BinOp l op r pos) env) Q E s:=by
 rw[eval_BinOp];exact aP (fP h λa s₁ h₁=>aP (bD (fP h₁ λb s₂ h₂=>eR (i8 h₂))))
theorem uI {l r:Expr}{op:KJ}{whole:Sem CB}{Q:Bool->Cz->Prop}(h:wC M A (eval l env) (λa s₁=>wC M A (eval r env) (λb s₂=>wC M A (DN op a b) (λc s₃=>wC M A (truthy c) Q E s₃) E s₂) E s₁) E s)
  (hm:EA op r=false):wC M A (isTrue (.Compare l [op] [r] pos) env whole) Q E s:=by
 rw[isTrue_Compare1,markedBehindIn_of_false hm];exact aP (fP h λa s₁ h₁=>aP (bD (fP h₁ λb s₂ h₂=>eR (aP (i8 (fP h₂ λc s₃ h₃=>bD h₃))))))
theorem q0 {x:Expr}{rest:List Expr}{whole:Sem CB}{Q:Bool->Cz->Prop}(h:wC M A (isTrue x env (eval x env)) (λc s'=>if c=true then Q true s' else wC M A (isTrue (.BoolOp .Or rest pos) env whole) Q E s') E s):wC M A (isTrue (.BoolOp .Or (x::rest) pos) env whole) Q E s:=by
 show wC M A (isTrue x env (eval x env) >>= λb=>match Io,b with
  | .And,false=>pure false
  | .Or,true=>pure true
  | _,_=>allTrue .Or rest env) Q E s
 refine aP (fP h λc s' h'=> ?_)
 cases c with
 | true=>exact aZ (a:=true) h'
 | false=>exact h'
theorem uH {α:Type}{vs:List CB}{m:Sem α}{Q:α->Cz->Prop}(h:wC M A m Q E s):wC M A (m.keep vs) Q E s:=λk Γ p hΓ z=>by rw[Sem.wp_keep];exact h k Γ p hΓ z
theorem mn {P:Heap->Prop}{f:CB}{first:List CB}{Q:CB->Cz->Prop}{args:List (Bool×Sem CB)}(hplain:args.any (·.1)=false)
  (hk:∀h,P h->∃k,(k=Keeper.frame\/k=Keeper.machine\/k=Keeper.boundFrame)/\PySem.W.Looks M h (keeperOf f) k)
  (h:wC M A (Kv f true args []) (λa s₁=>P s₁.heap/\wC M A (call f (first++a.pos) a.kw) Q E s₁) E s):wC M A (Kw pos f first args []) Q E s:=by
 unfold Kw;refine aP (bD (fP h λa s₁ h₁=>eR ?_))
 obtain⟨k,hk',L⟩:=hk _ h₁.1
 have e:(args.any (·.1)||([]:List (Option Str×Sem CB)).any (·.1.isNone))=false:=by rw[hplain];rfl
 simp only[e];refine ay (L.here ?_)
 have tail:∀{t:Sem CB},wC M A t Q E s₁->wC M A (t >>= λr=>holding [r] point >>= λ_=>pure r) Q E s₁:=
  λht=>aP (fP ht λr s₂ hr=>ay (D0 (KQ (aZ hr))))
 have mk:∀m:CB,wC M A (callMarked m f (first++a.pos) a.kw) Q E s₁:=λm=>by unfold callMarked;exact uH h₁.2
 rcases hk' with rfl | rfl | rfl <;> dsimp only <;> first | exact tail h₁.2 | (split <;> first | exact tail h₁.2 | exact tail (mk _))
theorem oI {f:CB}{x:Sem CB}{rest:List (Bool×Sem CB)}{Q:Args->Cz->Prop}(h:wC M A (spliced ((false,x)::rest)) (λvs s'=>Q ⟨vs,[]⟩ s') E s):wC M A (Kv f true ((false,x)::rest) []) Q E s:=by
 unfold Kv
 show wC M A (spliced ((false,x)::rest) >>= _) Q E s
 refine aP (fP h λvs s' h'=>bD ?_)
 exact ay (CD (ay (CD (aZ h'))))
theorem i7 {x:Sem CB}{rest:List (Bool×Sem CB)}{Q:List CB->Cz->Prop}(h:wC M A x (λv s₁=>wC M A (spliced rest) (λvs s₂=>Q (v::vs) s₂) E s₁) E s):wC M A (spliced ((false,x)::rest)) Q E s:=by
 rw[spliced];refine aP (fP h λv s₁ h₁=> ?_)
 simp only[DL,if_false];exact ay (CD (aP (bD (fP h₁ λvs s₂ h₂=>aZ h₂))))
theorem oJ {id:Str}{p:Pos}{args:List Expr}{Q:CB->Cz->Prop}(h:wpAny M A (eval (.Name id p) env) (λf s₁=>wC M A (Kw pos f [] (backTo pos (CV args env)) []) Q E s₁) E s) :
  wC M A (eval (.Call (.Name id p) args [] pos) env) Q E s:=by
 rw[arm_eval_Call_Name'];exact ay h
theorem rb {α:Type}{m:Sem α}{Q:α->Cz->Prop}(h:wC M A m Q (notedBy M A env E) s):wC M A (m.onRaise λx=>do FQ x env;Iw x) Q E s:=
 gk (cV h (λ_ _ q=>q) λ_ _ hx=>ay (DP hx (λ_ _ e=> .of (wpAny_theTreesLotGoes e)) λ_ _ e=>e))
end
section
variable {prog:C4}{w:Du}{A:Dj}{E:CB->Cz->Prop}{s:Cz}{R:GR->Cz->Prop}
theorem ri {env:Env}{es:List Expr}{x1:Nat}{pos:Pos}{Q:CB->Cz->Prop}
  (h:wC (model prog w) A (spliced (backTo pos (CV es env))) (λvs s₁=>vs.length<=sizeLine/\Q (.ref s₁.heap.objs.size) { s₁ with heap:=s₁.heap.push { cls:=.type "tuple",data:=.seq vs.toArray } }) E s) :
  wC (model prog w) A (eval (.Tuple es x1 pos) env) Q E s:=by
 rw[arm_eval_Tuple];exact eR (aP (fP h λvs s₁ h₁=> .of (wpAny_newTuple h₁.2 h₁.1)))
theorem pR {body:List Stmt}{env:Env}
  (h:wC (model prog w) (A.deeper env) (execs body env) (λf s'=>R (.ok (.ret (match f with | .ret v=>v | _=> .none))) s')
   (λe s'=>wpAny (model prog w) (A.deeper env) (leaving env e) (λ_ s''=>R (.error e) s'') (λe' s''=>R (.error e') s'') s') s):cC (model prog w) A (.func body env) R s:=by
 refine cL ?_
 show wC _ (A.deeper env) (do point;match <-(execs body env).onRaise (leaving env)with | .ret v=>ret v | _=>ret .none) _ _ s
 refine ay (KQ (aP (gk (cV h (λf s' h'=> ?_) λ_ _ h'=> .of h'))))
 cases f <;> exact aZ h'
theorem xp {a:Addr}{args:Args}{o:Obj}{fd:DB}{body:List Stmt}(hroom:A.depth<Fm)(ho:s.heap.get? a=some o)
  (hd':o.data= .func fd) (hco:fd.scope.isCoroutine=false) (hgen:fd.scope.isGenerator=false) (hbody:fd.body= .stmts body) (hcd:s.heap.CodeRec fd.code fd.qualname)
  (h:wpAny (model prog w) A.in1 (Jx fd args) (λbinds s₁=>
   wpAny (model prog w) A.in1 (Hg fd.scope fd.globals fd.closure binds (fd.qualname++ ".<locals>.") (some a) fd.code none fd.builtins)
    (λenv s₂=>s₂.heap.NoLimit/\cC (model prog w) A (.func body env) R s₂) (λe s'=>R (.error e) s') s₁) (λe s'=>R (.error e) s') s) :
  cC (model prog w) A (.call (.ref a) args) R s:=by
 refine cL ?_
 show wC _ A.in1 (callAny (.ref a) args) _ _ s
 simp only[callAny];refine ay (wpAny_load ho ?_)
 obtain⟨c,oc,vs,tq,hc,hoc,hdc,hq⟩:=hcd;simp only[hd',callFunction,hco,hgen,hbody,hc];rw[hc]at h;refine ay (m:=field (.ref c) 1) (DV hoc hdc hq (ay (CD ?_)))
 refine ay (DP h (λbinds s₁ h₁=> ?_) λ_ _ h'=>h')
 refine ay (DP h₁ (λenv s₂ h₂=> ?_) λ_ _ h'=>h')
 exact ay (wpAny_enterFrame h₂.1 hroom (aZ (F5 rfl h₂.2)))
end
def DE (X:Cx)(e:Expr)(t:TE):Prop:=
 ∀(pins:List (Addr×Obj)) (s:Cz) (σ:St) (H:Hp) (Q:VK),Inv X pins σ H s->t σ H Q->wC (model X.prog X.w) X.A (eval e X.env) (EP X pins σ Q) X.xe s
def DS (X:Cx)(st:Stmt)(t:TS):Prop:=
 ∀(pins:List (Addr×Obj)) (s:Cz) (σ:St) (H:Hp) (D:Ends),Inv X pins σ H s->t D σ H->wC (model X.prog X.w) X.A (exec st X.env) (SP X pins D) X.xe s
section
variable {M:HB}{A:Dj}{E:CB->Cz->Prop}{s:Cz}{env:Env}
theorem rg {e:Expr}{scope:Fu}{pos:Pos}{newAcc first:Sem CB}{g:JE}{gs:List JE}{cl:List (Str×Addr)}{use:Option (CB->Sem Unit)}{Q:CB->Cz->Prop}
  (hcl:clausesOf e=g::gs) (hs:∀x,Dl g.iter env x=pure x) (hclos:closureFor scope env=pure cl) (hkind:scope.kind= .function) (hnames:∀x∈scope.names,x.2= .local->scope.names.lookup x.1=some .local)
  (h:wpAny M A first (λx s₁=>wpAny M A (pyIter x) (λit s₂=>wpAny M A newAcc (λacc s₃=>wpAny M A (Hg scope env.globals cl [] env.qual none .none (some env)) (λcenv s₄=>
    cC M A (.compStart e 0 it acc { cenv with scope:=relabel scope env }) (IH M A E use Q acc cenv.locals) s₄) E s₃) E s₂) E s₁) E s):wC M A (Gd e scope env pos newAcc false first use) Q E s:=by
 unfold Gd;rw[hclos,hcl]
 have step:∀{α β:Type} {m:Sem α} {f:α->Sem β} {Z:α->Cz->Prop} {Y:β->Cz->Prop} {x:Cz},wpAny M A m Z E x->(∀a s',Z a s'->wC M A (f a) Y E s')->wC M A (m >>= f) Y E x:=λh1 h2=>ay (DP h1 h2 λ_ _ z=>z)
 have stand:∀{α:Type} {c:Prop} [Decidable c] {pos:Pos} {k:PUnit->Sem α} {Y:α->Cz->Prop} {x:Cz},wC M A (k ()) Y E x->wC M A (if c then(standAt pos >>= k)else k ()) Y E x:=λh=>by
  split
  ·exact eR h
  ·exact h
 refine step h λx s₁ h₁=>eR (ay (FU (hs x) (step (D0 h₁) λit s₂ h₂=>stand (step h₂ λacc s₃ h₃=>ay (CD (step h₃ λcenv s₄ h₄=> ?_))))))
 dsimp only
 have low:∀y∈scope.names,y.2= .local->Env.kindOf { cenv with scope:=relabel scope env } y.1=some .local:=λy hy hl=>lookup_relabel_local (hnames y hy hl)
 have inn:∀{y:Str×Ft},y∈(scope.names.filter λx=>(x.2 == .local||x.2 == .cell)&&x.1 != (".0" : Str)).reverse->y∈scope.names:=λhy=>(Ig.mp (List.mem_reverse.mp hy)).1
 refine bD (aP (i9 (bD (xA (gW h₄ λr s' hr=> ?_)))))
 cases r with
 | ok f=>
  cases use with
  | none=>
   obtain⟨m,hn,hr⟩:=hr
   exact ay (D0 (HY (cenv:={ cenv with scope:=relabel scope env }) hkind _ s' m (λy hy=>low y (inn hy)) hn λh' m' _ hs'=>aZ (hr h' hs')))
  | some u=>
   refine ay (F1 (step (D0 hr) λ_ s'' hr'=> ?_))
   obtain⟨m,hn,hr'⟩:=hr'
   exact ay (HY (cenv:={ cenv with scope:=relabel scope env }) hkind _ s'' m (λy hy=>low y (inn ((CU.mp hy).elim IJ List.mem_of_mem_take))) hn λh' m' _ hs'=>aZ (hr' h' hs'))
 | error x=>
  have hr':∃m,s'.heap.Ns cenv.locals m/\∀h',Fb cenv.locals s'.heap h'->∀cenv':Env,cenv'.locals=cenv.locals->wpAny M A (passOn "comprehension.variables-let-go" x cenv':Sem CB) (λ_ _=>False) E { s' with heap:=h' }:=by cases use <;> exact hr
  obtain⟨m,hn,hr⟩:=hr';exact ay (D0 (HY (cenv:={ cenv with scope:=relabel scope env }) hkind _ s' m (λy hy=>low y (inn hy)) hn λh' m' _ hs'=> .of (DP (hr h' hs' _ rfl) (λ_ _ f=>f.elim) λ_ _ y=>y)))
end
theorem qF {pr:C4}{wd:Du}{Ar:Dj}{Rz:GR->Cz->Prop}{s0:Cz}{el tg it0:Expr}{cs:List Expr}{sc:Fu}{ps:Pos}{itv av:CB}{ev:Env}(W:Nat->Cz->Prop)
  (go:∀k st,W k st->wpAny (model pr wd) Ar (pyNext itv) (λr s1=>match r with
   | none=>Rz (.ok .next) s1
   | some v=>wpAny (model pr wd) Ar (FD tg itv v) (λ_ s2=>wpAny (model pr wd) Ar (assign tg ev v) (λ_ s3=>
     wpAny (model pr wd) Ar (forIn cs true λc b=>if b=true then do let z <-isTrue c ev (eval c ev);pure (EG z)else pure (EG b)) (λz s4=>
      if z=true then wC (model pr wd) Ar (eval el ev) (λy s5=>
       wpAny (model pr wd) Ar (call (.builtin "list.append") [av,y]) (λ_ s6=> ∃m,m<k/\W m s6) (λ_ _=>False) s5) (λ_ _=>False) s4
      else ∃m,m<k/\W m s4) (λ_ _=>False) s3) (λ_ _=>False) s2) (λ_ _=>False) s1) (λ_ _=>False) st)
  (k:Nat) (hk:W k s0):cC (model pr wd) Ar (.compLoop (.ListComp el [⟨tg,it0,cs,0⟩] sc ps) 0 itv av ev) Rz s0:=by
 refine wF rfl W (λk st hw=> ?_) k hk
 show wC (model pr wd) Ar ((compTurn (.ListComp el [⟨tg,it0,cs,0⟩] sc ps) 0 itv av ev).onRaise (λz=>do FQ z ev;Iw z)) _ _ st
 refine rb ?_
 rw[compTurn_list]
 have step:∀{α β:Type} {m:Sem α} {f:α->Sem β} {Z:α->Cz->Prop} {Y:β->Cz->Prop} {E':CB->Cz->Prop} {x:Cz},wpAny (model pr wd) Ar m Z (λ_ _=>False) x->(∀a s',Z a s'->wC (model pr wd) Ar (f a) Y E' s')->wC (model pr wd) Ar (m >>= f) Y E' x:=λh1 h2=>ay (DP h1 h2 λ_ _ z=>z.elim)
 refine eR (step (go k st hw) λr s1 g1=> ?_)
 cases r with
 | none=>exact aZ g1
 | some v=>
  refine step g1 λ_ s2 g2=>step g2 λ_ s3 g3=>step g3 λz s4 g4=> ?_
  cases z with
  | false=>exact aZ (F5 rfl g4)
  | true=>exact aP (aP (cV g4 (λy s5 g5=>step g5 λ_ s6 g6=>aZ (aZ (F5 rfl g6))) λ_ _ z=>z.elim))
theorem l0 {prog:C4}{w:Du}{A:Dj}{R:GR->Cz->Prop}{s:Cz}{elt target iter:Expr}{ifs:List Expr}{rest:List JE}{scope:Fu}{pos:Pos}{it acc:CB}{env:Env}
  (h0:cC (model prog w) A (.compLoop (.ListComp elt (⟨target,iter,ifs,0⟩::rest) scope pos) 0 it acc env) R s)
  (h:wpAny (model prog w) A (pyIter it) (λit' s'=>cC (model prog w) A (.compLoop (.ListComp elt (⟨target,iter,ifs,0⟩::rest) scope pos) 0 it' acc env) R s') (notedBy (model prog w) A env λx s'=>R (.error x) s') s) :
  cC (model prog w) A (.compStart (.ListComp elt (⟨target,iter,ifs,0⟩::rest) scope pos) 0 it acc env) R s:=by
 refine cL ?_
 show wC _ _ ((compStart (.ListComp elt (⟨target,iter,ifs,0⟩::rest) scope pos) 0 it acc env).onRaise (λx=>do FQ x env;standAt theWindowsPlace)) _ _ s
 refine gk (cV (E:=notedBy (model prog w) A env λx s'=>R (.error x) s') ?_ (λ_ _ q=>q) λ_ _ hx=>ay (DP hx (λ_ _ e=> .of (HR e)) λ_ _ e=>e))
 unfold compStart
 show wC _ _ (ask >>= _) _ _ s
 refine ay (Fj ?_)
 split
 ·first
   | exact ay (CD (aZ (F5 rfl h0)))
   | exact aZ (F5 rfl h0)
 ·refine ay (F1 ?_)
  show wC _ _ (standAt iter.pos >>= _) _ _ s
  exact eR (ay (DP h (λit' s' h'=>aZ (F5 rfl h')) λ_ _ x=>x))
section
variable {X:Cx}
theorem td {elt tg iter:Expr}{ifs:List Expr}{scope:Fu}{pos fpos:Pos}{N':List Str}{src:List (Option Nat)}{wi:TI}{g:TG}{tc:TT}{te:TE}{use:Option (CB->Sem Unit)}{Qf:CB->Cz->Prop}
  {pins:List (Addr×Obj)} {s:Cz} {σ:St} {H:Hp} {Q:VK}
  (hc:X.calm=true) (S:LcScope X scope N' src) (hi:PI X tg iter wi)
  (block:∀cl C s₀ H₀ fp,PG (aT X scope cl N' C s₀ H₀ fp) tg g/\nH (aT X scope cl N' C s₀ H₀ fp) ifs tc/\DE (aT X scope cl N' C s₀ H₀ fp) elt te)
  (hs:∀x,Dl iter X.env x=pure x) (I:Inv X pins σ H s) (h:xJ X.K wi src g tc te σ H Q)
  (hend:∀(D C:Addr) (H':Hp) (s':Cz),(∃m,s'.heap.Ns C m)->(∀h',Fb C s'.heap h'->Inv X pins σ H' { s' with heap:=h' })->(H' C=none/\C≠X.env.locals/\X.s₀.heap.objs.size<=C/\(∀x c,X.env.cells.lookup x=some c->c≠C)/\∀p∈X.pn++pins,p.1≠C)->Q (.ref D) H' →
   IH (model X.prog X.w) X.A X.xe use Qf (.ref D) C (.ok .next) s') :
  wC (model X.prog X.w) X.A (Gd (.ListComp elt [⟨tg,iter,ifs,0⟩] scope pos) scope X.env fpos (newList []) false (eval iter X.env) use) Qf X.xe s:=by
 have hcell:∀x,(x,Dp)∈scope.names->∃c,X.env.cells.lookup x=some c:=λx hx=>I.ok.has x (S.free x hx)
 obtain⟨cl0,hcl,cl01,cl02⟩:=jM (env:=X.env) (scope:=scope) hcell;refine rg (use:=use) rfl hs hcl S.kind S.loc (bF (hi pins s σ H _ I h) λv s1 h1=>bF h1 λitv s2 h2=> ?_)
 obtain⟨it,fp,tn,J,H2,e,I2,T,st2,f2,hq⟩:=h2;subst e
 -- the new list
 refine De ?_
 have hD:H2 s2.heap.objs.size=none:=I2.hok.fresh (CM _)
 have hDK:X.K.lookup s2.heap.objs.size=none:=by
  cases q:X.K.lookup s2.heap.objs.size with
  | none=>rfl
  | some o=>exact absurd (CN (I2.kIn _ o q)) (C9 _)
 obtain⟨W,⟨m0,w0⟩,turn⟩:=hq s2.heap.objs.size hD hDK
 have I3:=I2.B7 (its:=[]) (ys:=[]) (t':=s2.toks) .nil (Ey _)
 generalize hs3:({ s2 with heap:=s2.heap.push { cls:=.type "list",data:=.seq ([]:List CB).toArray },toks:=s2.toks }:Cz)=s3 at I3
 generalize hH3:dE H2 s2.heap.objs.size (.lst [])=H3 at I3 w0
 have hDsz:s2.heap.objs.size<s3.heap.objs.size:=by rw[<-hs3];simp[Eu]
 have fr3:∀b∈fp,H3 b=none:=λb hb=>by
  obtain⟨o,eo,_⟩:=T.obj _ _ st2 b hb;rw[<-hH3,aD (Dg (CN eo))];exact(f2 b hb).1
 have st3:tn 0 s3.heap:=T.keep _ _ _ st2 λb hb o e=>by rw[<-hs3];exact CG _ e
 have f3:∀b∈fp,iU X pins H3 b:=λb hb=>⟨fr3 b hb,(f2 b hb).2⟩
 have D3:H3 s2.heap.objs.size=some (.lst []):=by rw[<-hH3];exact aU
 generalize s2.heap.objs.size=D at*
 clear hs3 hH3 hD hDK
 -- the block's frame
 refine ku ?_
 have old:∀b o,s3.heap.get? b=some o->(Gu (s3.heap.push { cls:=.type "dict",data:=.dict #[] }) scope.names).get? b=some o:=λb o e=>Gc _ _ b o (CG _ e)
 have hns₁:(Gu (s3.heap.push { cls:=.type "dict",data:=.dict #[] }) scope.names).Ns s3.heap.objs.size (λ_=>none):=(Heap.Ns.new s3.heap (.type "dict")).keeps (Gc _ _)
 have hz3:(s3.heap.push { cls:=.type "dict",data:=.dict #[] }).objs.size=s3.heap.objs.size+1:=Eu ..
 have lt0:∀x c,cl0.lookup x=some c->c<s3.heap.objs.size:=λx c e=>let ⟨_,ic⟩:=I3.cell x c (cl01 x c e);ic.lt
 obtain⟨c1,c2,c3,c4,c5⟩:=fZ scope.names (s3.heap.push { cls:=.type "dict",data:=.dict #[] }) cl0 (λx y c e1 e2=>I3.ok.inj x y c (cl01 x c e1) (cl01 y c e2)) λx c e=>by rw[hz3];exact Er (lt0 x c e)
 rw[hz3]at c1 c2 c3 c4 c5
 generalize hcl':Ex (s3.heap.objs.size+1) scope.names cl0=cl at*
 generalize hh₁:Gu (s3.heap.push { cls:=.type "dict",data:=.dict #[] }) scope.names=h₁ at*
 have below:∀b o,s3.heap.get? b=some o->b≠s3.heap.objs.size:=λb o e=>Dg (CN e)
 -- a cell of the block's: one from around,or a new one
 have cl1:∀x c,cl.lookup x=some c->X.env.cells.lookup x=some c\/(s3.heap.objs.size<c/\h₁.IsCell c none):=λx c e=>(c1 x c e).imp (cl01 x c) id
 generalize hC:s3.heap.objs.size=C at*
 have stk:∀b,b≠X.env.locals->b∉X.fs->b∉gx X.stack:=λb h1 h2 z=>(CO.mp (I3.B0 b z)).elim h1 h2
 have apart:∀b∈fp,∀x c,cl.lookup x=some c->c≠b:=λb hb x c e=>by
  rcases cl1 x c e with z | z
  ·exact(f3 b hb).2.2.2.2.1 x c z
  ·obtain⟨o,eo,_⟩:=T.obj _ _ st3 b hb
   have h1:=CN eo;rw[hC]at h1;exact Fc (J5 h1 z.1)
 have I4:Inv (aT X scope cl N' C s3 H3 fp) pins (ck src σ) H3 { s3 with heap:=h₁ }:=by
  refine⟨⟨I3.ok.mod,S.kind,I3.ok.glob,I3.ok.blt,FZ hC,c2,λx hx=> ?_,λx c hx e=>Fv (hC▸c5 x c (cP (beq_iff_eq.mp hx)) e),I3.ok.hd,I3.ok.frames,.inl rfl,
    λb hb=>⟨?_,λx c e=>apart b hb x c e⟩,I3.bs,Dk I3.ok.bsz I3.sz,λb o e z=> ?_,λb hb=>stk b (f3 b hb).2.1 (f3 b hb).2.2.1,I3.stack,I3.BQ⟩,
   rfl,I3.bare,Un.kept old,⟨_,hns₁,λj x v e1 e2 e3=> ?_⟩,λx c e=> ?_,I3.hok.fresh (FZ hC),λx c e=>(cl1 x c e).elim (I3.freeC x c) λz=>I3.hok.fresh (by rw[hC];exact Fv z.1),λp hp=> ?_,I3.hok.kept old,?_⟩
  ·have key:∀k,(relabel scope X.env).names.lookup x=some k->(k= .cell\/k= .free)->∃c,cl.lookup x=some c:=λk e hk=>by
    obtain⟨k',e',z⟩:=dZ e
    have hk':k'= .cell\/k'= .free:=z.elim (λz=>z▸hk) .inr
    rcases hk' with q | q
    ·exact c4 x (.inl (q▸cP e'))
    ·exact c4 x (.inr (cl02 x (q▸cP e')))
   rcases hx with hx | hx
   ·exact key _ hx (.inl rfl)
   ·exact key _ hx (.inr rfl)
  ·obtain⟨o,eo,_⟩:=T.obj _ _ st3 b hb
   show b≠C
   exact below b o eo
  ·have z':b∈fp:=z
   obtain⟨_,_,_,z1,_⟩:=f3 b z';rcases z1 with z1 | z1
   ·exact I3.ok.noex b o e z1
   ·exact absurd (CS (CN (I3.ok.bs b o e).1) z1) (C9 _)
  ·unfold ck at e2
   rw[Dn]at e2
   cases q:src[j]? with
   | none=>rw[q]at e2;simp at e2
   | some o=>
    rw[q]at e2
    cases o with
    | none=>simp at e2
    | some i=>
     have e2':(σ[i]?).join=some v:=by simpa using e2
     have e2'':σ[i]? =some (some v):=by
      cases q2:σ[i]? with
      | none=>rw[q2]at e2';simp at e2'
      | some z=>rw[q2]at e2';simp at e2';rw[e2']
     obtain⟨hN,hfree⟩:=S.from_ j i x q e1
     have hm:=cP hfree
     have hk:=S.free x hm;obtain⟨m,hn,hl⟩:=I3.loc
     have hv:qK X.env.scope x:=by
      rcases hk with z | z
      ·exact .inr (.inl z)
      ·exact .inr (.inr z)
     obtain⟨u,r,l⟩:=hl i x v hN e2'' hv;refine⟨u,r,.inr ⟨?_,?_⟩⟩
     ·exact dB hfree
     ·rcases l with⟨z,_⟩ | ⟨_,c,ec,ic⟩
      ·rcases hk with z' | z' <;> rw[z']at z <;> cases z
      ·obtain⟨c',ec0⟩:=cl02 x hm
       have ec':cl.lookup x=some c':=(c3 x λz=>by have:=S.cel _ z rfl;rw[hfree]at this;cases this).trans ec0
       have:=cl01 x c' ec0;rw[ec]at this;cases this;obtain⟨o,ho,hd⟩:=ic;exact⟨c,ec',o,old _ _ ho,hd⟩
  ·rcases cl1 x c e with z | z
   ·obtain⟨v,o,ho,hd⟩:=I3.cell x c z
    exact⟨v,o,old _ _ ho,hd⟩
   ·exact⟨none,z.2⟩
  ·obtain⟨e,n,ne,nf,d⟩:=I3.pin p hp
   exact⟨old _ _ e,n,below _ _ e,stk _ ne nf,d⟩
  ·show(ck src σ).length=N'.length
   unfold ck;rw[CI];exact S.len
 obtain⟨bG,bI,bE⟩:=block cl C s3 H3 fp
 have stat:∀{H':Hp},(∀b∈fp,H' b=none)->∀b∈fp,iU (aT X scope cl N' C s3 H3 fp) pins H' b:=λhn b hb=>by
  obtain⟨o,eo,_⟩:=T.obj _ _ st3 b hb;exact⟨hn b hb,below b o eo,stk b (f3 b hb).2.1 (f3 b hb).2.2.1,.inl hb,apart b hb,(f3 b hb).2.2.2.2.2⟩
 have st4:tn 0 h₁:=T.keep _ _ _ st3 λb hb o e=>old b o e
 -- behind the block
 have after:∀(H':Hp) (s':Cz) (σ':St),Inv (aT X scope cl N' C s3 H3 fp) pins σ' H' s'->Q (.ref D) H' →
   IH (model X.prog X.w) X.A X.xe use Qf (.ref D) C (.ok .next) s':=λH' s' σ' I' q=>by
  obtain⟨m,hn,_⟩:=id I'.loc
  have fC:X.s₀.heap.objs.size<=C:=by rw[<-hC];exact I3.sz
  have ltC:∀b o,s3.heap.get? b=some o->b<C:=λb o e=>by rw[<-hC];exact CN e
  refine hend D C H' s' ⟨m,hn⟩ (λh' hsb=> ?_) ⟨I'.free,?_,fC,λx c e z=> ?_,λp hp z=> ?_⟩ q
  rotate_left
  ·have:=I3.lt;rw[hC]at this;exact Fc this
  ·obtain⟨v,ic⟩:=I3.cell x c e
   have:=ic.lt;rw[hC,z]at this;exact C9 _ this
  ·have:=ltC _ _ (I3.pin p hp).1;rw[z]at this;exact C9 _ this
  have u:Un (gx X.stack) fp H3 H' s3.heap s'.heap:=I'.base
  have lift:∀b o,s3.heap.get? b=some o->∀o',s'.heap.get? b=some o'->h'.get? b=some o':=λb o e o' e'=>hsb.extBut b o' (below b o e) e'
  have u':Un (gx X.stack) fp H3 H' s3.heap h':=
   ⟨λb o e n hb hx=>lift b o e o (u.keep b o e n hb hx),λb o e n hb hx=>by
     obtain⟨sl,z⟩:=u.slot b o e n hb hx;exact⟨sl,lift b o e _ z⟩,u.free,λb o e hx=>by
     obtain⟨o',z⟩:=u.there b o e hx;exact⟨o',lift b o e _ z⟩,u.tups,u.frzs,u.tbls⟩
  have hCn:H' C=none:=I'.free
  have hok':HOk X.prog X.w H' h':=λb ob e=>by
   refine(I'.hok b ob e).BW (λc w' hc' q'=>(hsb.2 c ?_).trans q') (λ_ q=>q) λ_ _ q=>q
   rintro rfl
   rcases hc' with rfl | hc'
   ·rw[hCn]at e;cases e
   ·rw[hCn]at hc';cases hc'
  have I5:Inv X pins σ H' { s' with heap:=h' }:=I3.B4 (s':={ s' with heap:=h' }) (ch:=fp) I'.os u' hok' I'.bare λb hb=>⟨(f3 b hb).2.2.2.1,(f3 b hb).2.1,(f3 b hb).2.2.2.2.1,(f3 b hb).2.2.2.2.2⟩
  exact I5
 have loop:cC (model X.prog X.w) X.A (.compLoop (.ListComp elt [⟨tg,iter,ifs,0⟩] scope pos) 0 (.ref it) (.ref D) (compEnvC scope cl C X.env))
   (IH (model X.prog X.w) X.A X.xe use Qf (.ref D) C) { s3 with heap:=h₁ }:=by
  refine qF (λn s'=> ∃i σ' ys H',Inv (aT X scope cl N' C s3 H3 fp) pins σ' H' s'/\tn i s'.heap/\(∀b∈fp,H' b=none)/\W i n σ' ys H') ?_ m0 ⟨0,_,[],H3,I4,st4,fr3,w0⟩
  rintro n s5 ⟨i,σ5,ys,H5,I5,st5,fr5,w5⟩
  obtain⟨hDl,alt⟩:=turn i n σ5 ys H5 w5;rcases alt with⟨stop,qn⟩ | ⟨go,hlen,step⟩
  ·refine bF (T.done (aT X scope cl N' C s3 H3 fp) rfl rfl rfl hc i pins s5 σ5 H5 _ I5 (stat fr5) st5 stop) λr s6 ⟨hr,I6⟩=> ?_
   subst hr;exact after H5 s6 σ5 I6 qn
  ·refine bF (T.item (aT X scope cl N' C s3 H3 fp) rfl rfl rfl hc i pins s5 σ5 H5 _ I5 (stat fr5) st5 go) λr s6 ⟨u,hr,h6⟩=> ?_
   subst hr;refine bF h6 λ_ s7 hh_=> ?_
   obtain⟨x,H7,I7,r7,y7,st7,fr7⟩:=hh_
   have I7':=I7.pinned (stat fr7) (T.obj _ _ st7);refine bF (bG _ s7 σ5 H7 x u _ I7' r7 (step x H7 y7)) λ_ s8 hh_=> ?_
   obtain⟨σ8,H8,I8,q8⟩:=hh_;refine bF (bI _ s8 σ8 H8 _ I8 q8) λok s9 hh_=> ?_
   obtain⟨H9,I9,q9⟩:=hh_
   have again:∀{σx:St} {Hx:Hp} {sx:Cz} {ys':List V},Inv (aT X scope cl N' C s3 H3 fp) (pins++ig fp s7.heap) σx Hx sx->(∃m',m'<n/\W (i+1) m' σx ys' Hx) →
     ∃m,m<n/\∃i σ' ys H',Inv (aT X scope cl N' C s3 H3 fp) pins σ' H' sx/\tn i sx.heap/\(∀b∈fp,H' b=none)/\W i m σ' ys H':=λ{σx Hx sx ys'} Ix nx=>by
    obtain⟨m',hm,wx⟩:=nx;refine⟨m',hm,i+1,σx,ys',Hx,Ix.BS,T.keep _ _ _ st7 λb hb o e=>(Ix.pin (b,o) (C2 _ (C2 _ (dh hb e)))).1,λb hb=> ?_,wx⟩
    obtain⟨o,e,d⟩:=T.obj _ _ st7 b hb;exact(Ix.pin (b,o) (C2 _ (C2 _ (dh hb e)))).2.1
   cases ok with
   | false=>
    rw[if_neg C1]at q9 ⊢
    exact again I9 q9
   | true=>
    rw[if_pos rfl]at q9 ⊢;refine fP (bE _ s9 σ8 H9 _ I9 q9) λv s10 hh_=> ?_
    obtain⟨y,H10,I10,r10,hD10,q10⟩:=hh_;refine bF (kv _ s10 σ8 H10 (.ref D) [y] (.ref D) [v] (λ_ H'=>H'=dE H10 D (.lst (ys++ [y]))) I10 rfl (.cons r10 .nil) ⟨D,ys,y,rfl,rfl,hD10,hlen,rfl⟩) λ_ s11 hh_=> ?_
    obtain⟨_,H11,I11,_,e11⟩:=hh_;subst e11;exact again I11 q10
 exact l0 loop (T.self _ 0 _ _ _ st4 loop)
theorem Bh {elt tg iter:Expr}{ifs:List Expr}{scope:Fu}{pos py spos:Pos}{N':List Str}{src:List (Option Nat)}{wi:TI}{g:TG}{tc:TT}{te:TE}{i:Nat}{y:Str}
  (hc:X.calm=true) (S:LcScope X scope N' src) (hi:PI X tg iter wi)
  (block:∀cl C s₀ H₀ fp,PG (aT X scope cl N' C s₀ H₀ fp) tg g/\nH (aT X scope cl N' C s₀ H₀ fp) ifs tc/\DE (aT X scope cl N' C s₀ H₀ fp) elt te)
  (hN:X.N.Nodup) (hiy:X.N[i]? =some y) (hy:Loc X.env.scope y) (hsw:F9 (.ListComp elt [⟨tg,iter,ifs,0⟩] scope pos) (some (.Name y py)) spos.line X.env=pure true)
  (hf:X.fn y=true\/X.env.scope.names.lookup y=some .local) (hs:autoParam (∀x,Dl iter X.env x=pure x) t_) :
  DS X (.Assign [.Name y py] (.ListComp elt [⟨tg,iter,ifs,0⟩] scope pos) spos) (rJ (xJ X.K wi src g tc te) (pD i)):=by
 intro pins s σ H D I h;rw[Iy _ _ _ _ hsw];refine eR (aP ?_)
 show wC (model X.prog X.w) X.A (do let _ <-Gd (.ListComp elt [⟨tg,iter,ifs,0⟩] scope pos) scope X.env _ (newList []) false (eval iter X.env) (some (assign (.Name y py) X.env))) _ _ s
 refine aP (fP (td (use:=some (assign (.Name y py) X.env)) (Qf:=λ_ s'=>SP X pins D .next s') (Q:=λv H'=>D.nx (σ.set i (some v)) H') hc S hi block hs I h λL C H' s' ⟨m,hn⟩ inv ⟨c0,c1,c2,c3,c4⟩ q=> ?_) λ_ s' hq=>aZ (aZ hq))
 have I0:Inv X pins σ H' s':=inv s'.heap (Hk ..)
 show wpAny (model X.prog X.w) X.A (assign (.Name y py) X.env (.ref L)) _ _ s'
 refine HC (hV I0 hN hiy hy (v:=.ref L) rfl (λs2 I2 ⟨b,sb,hb⟩=> ?_) hf)
 have hbC:C≠b:=by
  rcases hb with z | z
  ·rw[z];exact c1
  ·exact λw=>c3 y b z w.symm
 refine⟨m,hn.sameBut sb hbC,λh' hsb=> ?_⟩
 exact⟨_,H',I2.turned (t':=s2.toks) (λb' o hb' e=>(hsb.2 b' hb').trans e) c0 c1 (.inr c2) c3 c4,q⟩
end
def DT (X:Cx)(e:Expr)(t:TT):Prop:=
 ∀(pins:List (Addr×Obj)) (s:Cz) (σ:St) (H:Hp) (Q:Bool->Hp->Prop),Inv X pins σ H s->t σ H Q->wC (model X.prog X.w) X.A (isTrue e X.env (eval e X.env)) (TP X pins σ Q) X.xe s
def DW (X:Cx)(e:Expr)(t:TT):Prop:=
 ∀(whole:Sem CB) (pins:List (Addr×Obj)) (s:Cz) (σ:St) (H:Hp) (Q:Bool->Hp->Prop),Inv X pins σ H s->t σ H Q->wC (model X.prog X.w) X.A (isTrue e X.env whole) (TP X pins σ Q) X.xe s
def DA (X:Cx)(es:List Expr)(t:TA):Prop:=
 ∀(pos:Pos) (pins:List (Addr×Obj)) (s:Cz) (σ:St) (H:Hp) (Q:List V->Hp->Prop),Inv X pins σ H s->t σ H Q->wC (model X.prog X.w) X.A (spliced (backTo pos (CV es X.env))) (AP X pins σ Q) X.xe s
def DSs (X:Cx)(st:List Stmt)(t:TS):Prop:=
 ∀(pins:List (Addr×Obj)) (s:Cz) (σ:St) (H:Hp) (D:Ends),Inv X pins σ H s->t D σ H->wC (model X.prog X.w) X.A (execs st X.env) (SP X pins D) X.xe s
section
variable {X:Cx}{e:Expr}{es:List Expr}{st:Stmt}{sts:List Stmt}{te ue:TE}{tt ut:TT}{ta:TA}{ts us:TS}{pos:Pos}
theorem PE.d (h:PE X e te):DE X e te:=λpins s σ H Q I q=> .of (h pins s σ H Q I q)
theorem PT.d (h:PT X e tt):DT X e tt:=λpins s σ H Q I q=> .of (h pins s σ H Q I q)
theorem PA.d (h:PA X es ta):DA X es ta:=λp pins s σ H Q I q=> .of (h p pins s σ H Q I q)
theorem PS.d (h:PS X st ts):DS X st ts:=λpins s σ H D I q=> .of (h pins s σ H D I q)
theorem PSs.d (h:PSs X sts ts):DSs X sts ts:=λpins s σ H D I q=> .of (h pins s σ H D I q)
theorem DS.imp (h:DS X st ts)(w:∀D σ H,us D σ H->ts D σ H):DS X st us:=λpins s σ H D I q=>h pins s σ H D I (w D σ H q)
theorem DSs.imp (h:DSs X sts ts)(w:∀D σ H,us D σ H->ts D σ H):DSs X sts us:=λpins s σ H D I q=>h pins s σ H D I (w D σ H q)
theorem DSs.nox (h:DSs X.nox sts ts):DSs X sts ts:=λpins s σ H D I hw=>cV (h pins s σ H D (I.BM _) hw) (λ_ _ q=>q.BR) λ_ _ z=>Em z
theorem tW (h1:DS X st ts)(h2:DSs X sts us):DSs X (st::sts) (zT ts us):=by
 intro pins s σ H D I h;refine eI (fP (h1 pins s σ H { D with nx:=us D } I h) λf s1 q=> ?_)
 cases f with
 | next=>
  obtain⟨σ',H',I',q⟩:=q
  exact h2 pins s1 σ' H' D I' q
 | _=>exact q
theorem we (h1:DS X st ts):DSs X [st] ts:=by
 intro pins s σ H D I h;refine eI (fP (h1 pins s σ H D I h) λf s1 q=> ?_)
 cases f with
 | next=>exact .of (FC q)
 | _=>exact q
theorem zk (he:DE X e te):DS X (.Return (some e) pos) (zU te):=λpins s σ H D I h=>
 ke (fP (he pins s σ H _ I h) λv s1 ⟨x,H1,I1,r1,q1⟩=>⟨x,σ,H1,I1,r1,q1⟩)
theorem Bd {a b:List Stmt}(hc:DT X e tt)(ha:DSs X a ts)(hb:DSs X b us):DS X (.If e a b pos) (zY tt ts us):=by
 intro pins s σ H D I h;refine zL (fP (hc pins s σ H _ I h) λd s1 hh_=> ?_)
 obtain⟨H1,I1,q1⟩:=hh_
 cases d with
 | true=>exact ha pins s1 σ H1 D I1 q1
 | false=>exact hb pins s1 σ H1 D I1 q1
theorem zi (ha:DT X e tt):DW X (.BoolOp .Or [e] pos) tt:=by
 intro wh pins s σ H Q I h;refine q0 (fP (ha pins s σ H Q I h) λc s1 e=> ?_)
 cases c with
 | false=>exact .of (isTrue_or_nil e)
 | true=>exact e
theorem Bb {b:Expr}{rest:List Expr}(ha:DT X e tt)(hb:DW X (.BoolOp .Or (b::rest) pos) ut):DW X (.BoolOp .Or (e::b::rest) pos) (tOr tt ut):=by
 intro wh pins s σ H Q I h;refine q0 (fP (ha pins s σ H _ I h) λc s1 hh_=> ?_)
 obtain⟨H1,I1,q1⟩:=hh_
 cases c with
 | true=>exact⟨H1,I1,q1⟩
 | false=>exact hb wh pins s1 σ H1 Q I1 q1
theorem wt (ha:DE X e te)(hr:DA X es ta)(hs:CV (e::es) X.env=(false,eval e X.env)::CV es X.env):DA X (e::es) (gH te ta):=by
 intro pos pins s σ H Q I h;rw[hs]
 show wC _ _ (spliced ((false,eval e X.env)::backTo pos (CV es X.env))) _ _ s
 refine i7 (fP (ha pins s σ H _ I h) λu s1 hh_=> ?_)
 obtain⟨x,H1,I1,r1,q1⟩:=hh_;exact fP (hr pos pins s1 σ H1 _ I1 q1) λus s2 ⟨xs,H2,I2,r2,q2⟩=>⟨x::xs,H2,I2,.cons r1 r2,q2⟩
theorem zq {x1:Nat}(h:DA X es ta):DE X (.Tuple es x1 pos) (zQ ta):=by
 intro pins s σ H Q I hq;refine ri (fP (h pos pins s σ H _ I hq) λus s1 ⟨xs,H1,I1,r,z,q⟩=>⟨by rw[<-r.length];exact z,?_⟩)
 have hf:H1 s1.heap.objs.size=none:=I1.hok.fresh (CM _);refine⟨.ref s1.heap.objs.size,dE H1 s1.heap.objs.size (.tup xs),I1.laid (t':=s1.toks) (λb u e=>CG _ e) (CM _) ?_,rfl,q _ hf⟩
 exact⟨z,us,r,⟨_,CZ _ rfl,rfl,_,rfl⟩⟩
end
structure jW (P:C4)(w:Du)(K:CA)(mg:Str->Option CB)(base:Heap)(CX:qM)(k:Nat)(f:Addr)(fd:DB)(ps:List Str)(sp:Sp):Prop where
 len:∀vs H Q E,sp vs H Q E->vs.length=ps.length
 run:∀(A:Dj) (outer:List Env) (s:Cz) (H:Hp) (args:Args) (us:List CB) (vs:List V) (Q:VK) (E:XK),Room k A->kd P w K mg base A outer s H->HP s fd args (ps.zip us)->Vals vs us->sp vs H Q E →
  cC (model P w) A (.call (.ref f) args) (CR CX outer P w H s Q E) s
theorem y9 {CX:qM}{P:C4}{w:Du}{K:CA}{mg:Str->Option CB}{base:Heap}{k:Nat}{f:Addr}{name qual:Str}{params:HA}{body:List Stmt}{scope:Fu}{dV kV doc pm cdv ct oc:CB}{an od:Option Addr}
  {osl:Array (Option CB)} {N ps:List Str} {sp:Sp} (lk:K.lookup f=some ⟨oc,od,.func (E9 name qual params body scope dV kV doc pm an cdv ct),osl⟩) (hcd:G8 K cdv qual=true) (S:bq N ps scope)
  (len:∀vs H Q E,sp vs H Q E->vs.length=ps.length)
  (hbody:∀(A:Dj) (outer:List Env) (s:Cz) (H:Hp) (vs:List V) (Q:VK) (E:XK),Room k (A.deeper (envOfC qual scope s.heap.objs.size f cdv))->sp vs H Q E →
   ∃t,DSs (dN CX P w K mg base N qual scope f cdv A outer s H E) body t/\t { nx:=λ_ H'=>Q .non H',rt:=Q } (start N vs) H) :
  jW P w K mg base CX (k+1) f (E9 name qual params body scope dV kV doc pm an cdv ct) ps sp:=by
 refine⟨len,λA outer s H args us vs Q E hr e0 hb r hsp=> ?_⟩
 have hl:=len _ _ _ _ hsp
 have KX:K.In s.heap:=e0.mod.kin.keeps λb o e=>(e0.bs b o e).1
 have lim:s.heap.NoLimit:=e0.mod.nolimit.keeps λb o e=>(e0.bs b o e).1
 have hkind:∀y∈ps.zip us,scope.names.lookup y.1=some .local\/(scope.names.lookup y.1=some .cell/\((Ex (s.heap.objs.size+1) scope.names []).lookup y.1).isSome=true):=λ⟨n,v⟩ hy=>by
  rcases S.par n (E5 hy).1 with q | q
  ·exact .inl q
  ·exact .inr ⟨q,Ek _ _ _ (.inl q)⟩
 refine xp hr.depth (KX _ _ lk) rfl S.co S.gen rfl (Fs KX hcd) (hb _ _ _ _ ?_)
 refine Ej S.kind hkind λenv he s1 x=> ?_
 subst he;refine⟨lim.keeps x.toInCall.keep,pR ?_⟩
 obtain⟨t,ht,hq⟩:=hbody A outer s H vs Q E (hr.deeper _) hsp
 have I:Inv (dN CX P w K mg base N qual scope f cdv A outer s H E) [] (start N vs) H s1:=eZ S hr.hd e0 hl r x;refine cV (ht [] s1 (start N vs) H _ I hq) (λfl s' hs=> ?_) λe s' hs=>hs
 have fin:∀{σ':St} {H':Hp} {v:V} {u:CB},Inv (dN CX P w K mg base N qual scope f cdv A outer s H E) [] σ' H' s'->RelV v u->Q v H'->CE outer P w H s Q u s':=
  λ{σ' H' v u} J rv q=>⟨v,H',J.os,J.bare,J.base,J.hok,rv,q⟩
 cases fl with
 | ret u=>
  obtain⟨v,σ',H',J,rv,q⟩:=hs
  exact fin J rv q
 | next=>
  obtain⟨σ',H',J,q⟩:=hs
  exact fin (v:=V.non) (u:=C7) J rfl q
 | brk=>
  obtain⟨_,_,_,q⟩:=hs
  exact Em q
 | cont=>
  obtain⟨_,_,_,q⟩:=hs;exact Em q
section
variable {X:Cx}{CX:qM}{k:Nat}{f C:Addr}{fd:DB}{ps:List Str}{sp:Sp}{dvs:List V}{ds:List CB}{E:XK}{x m:Str}{p pos apos:Pos}{e o:Expr}{es:List Expr}{ta:TE}{t:TA}
theorem uQ {pins:List (Addr×Obj)}{σ:St}{H:Hp}{s:Cz}{Q:VK}{us:List CB}{vs:List V}(F:jW X.prog X.w X.K X.mg X.base CX k f fd ps sp)(hr:Room k X.A)(hb:Binds X.K fd ps ds)(hd:Vals dvs ds)(hx:ma CX X E)
  (I:Inv X pins σ H s) (r:Vals vs us) (h:sp (vs++dvs) H Q E):wC (model X.prog X.w) X.A (call (.ref f) us) (EP X pins σ Q) X.xe s:=by
 have r2:Vals (vs++dvs) (us++ds):=r.append hd
 have hl:(us++ds).length=ps.length:=by rw[<-r2.length];exact F.len _ _ _ _ h
 refine gF (gW (F.run X.A X.stack s H ⟨us,[]⟩ (us++ds) (vs++dvs) Q E hr I.B6 (hb s us I.kIn hl) r2 h) λr s' hq=> ?_)
 cases r with
 | error e=>exact hx pins σ H s e s' I hq
 | ok fl=>
  cases fl with
  | ret u=>exact I.after hq
  | next=>exact Em hq
  | brk=>exact Em hq
  | cont=>exact Em hq
end
end L2
namespace Tr
open PySem PySem.Spec PyProof.Rows L2
def Bs (P:C4)(w:Du)(K:CA)(mg:Str->Option CB)(base:Heap)(k:Nat)(f:Addr)(fd:DB)(ps:List Str)(n:Nat)(g:List T->Rs T):Prop:=
 ∀(A:Dj) (outer:List Env) (s:Cz) (H:Hp) (args:Args) (us:List CB) (vs:List V) (O:Ow) (ts:List T) (c:Str) (R:GR->Cz->Prop),Room k A->kd P w K mg base A outer s H->HP s fd args (ps.zip us)->Vals vs us →
  Reps K O H ts vs->(∀a,O a->Mtb H a)->ts.length=n->g ts= .err c->(∀ev s',RzC P w mg outer H s c ev s'->R (.error ev) s')->cC (model P w) A (.call (.ref f) args) R s
structure uj (P:C4)(w:Du)(K:CA)(mg:Str->Option CB)(base:Heap)(k:Nat)(f:Addr)(fd:DB)(ps:List Str)(n:Nat)(g:List T->Rs T):Prop where
 h:jW P w K mg base CX0 k f fd ps (spP K n g)
 x:Bs P w K mg base k f fd ps n g
abbrev nE (X:Cx)(s:List Stmt)(F:En->Rs Fl):Prop:=DSs X s (Bw X F)
section
variable {P:C4}{w:Du}{K:CA}{mg:Str->Option CB}{base:Heap}
theorem za {x qual:Str}{st:Stmt}{f:Addr}{fd:DB}{N ps:List Str}{k n:Nat}{g:List T->Rs T}(Fn:L2.Fun K x qual st f fd)(S:bq N ps (aj st))(hn:ps.length=n)
  (hbody:∀(cdv:CB) (A:Dj) (outer:List Env) (s:Cz) (H:Hp) (E:XK),Room k (A.deeper (envOfC qual (aj st) s.heap.objs.size f cdv)) →
   ∃F,nE (dN CX0 P w K mg base N qual (aj st) f cdv A outer s H E).nox (ba st) F/\∀ts,ts.length=n->∀t,g ts= .ok t->a0 F (az N.length ts)= .ok t):jW P w K mg base CX0 (k+1) f fd ps (spP K n g):=by
 have hpl:ps.length<=N.length:=by have:=congrArg Fy S.pre;rw[EM]at this;omega
 obtain⟨oc,od,kV,doc,pm,an,cdv,ct,osl,rfl,lk,hcd⟩:=Fn.ex;refine y9 lk hcd S (λvs H Q E h=> ?_) λA outer s H vs Q E hr h=> ?_
 ·obtain⟨ts,O,r,_,hl,_⟩:=h
  rw[<-r.length,hl,hn]
 ·obtain⟨ts,O,r,trk,hl,h⟩:=h
  obtain⟨F,hF,hv⟩:=hbody cdv A outer s H E hr;refine⟨_,hF.nox,az N.length ts,O,noM,fR r (by omega) trk,?_⟩
  have no:∀a,¬noM.u a:=λa ⟨_,z⟩=>z
  cases q:g ts with
  | bad=>rw[q]at h;exact h.elim
  | err c=>rw[q]at h;exact h.elim
  | ok t=>
   rw[q]at h
   have hb:=hv ts hl t q;unfold a0 at hb
   cases q2:F (az N.length ts)with
   | bad=>rw[q2]at hb;cases hb
   | err c=>rw[q2]at hb;cases hb
   | ok fl=>
    rw[q2,aF]at hb
    have sameOf:∀H',SameO noM.u H H'->Same H H':=λH' s b o e=>s b o e (no b)
    cases fl with
    | nx ρ'=>cases hb;exact λσ' H' M' s' E' o'=>h .non H' (sameOf H' s') Rep.B9
    | rt t'=>cases hb;exact λv H' s' r'=>h v H' (sameOf H' s') r'
    | bk ρ'=>cases hb
    | ct ρ'=>cases hb
theorem vX {x qual:Str}{st:Stmt}{f:Addr}{fd:DB}{N ps:List Str}{k n:Nat}{g:List T->Rs T}(Fn:L2.Fun K x qual st f fd)(S:bq N ps (aj st))(hn:ps.length=n)
  (hbody:∀(cdv:CB) (A:Dj) (outer:List Env) (s:Cz) (H:Hp) (E:XK),Room k (A.deeper (envOfC qual (aj st) s.heap.objs.size f cdv)) →
   ∃F,(∀xe,nE ((dN CX0 P w K mg base N qual (aj st) f cdv A outer s H E).BM xe) (ba st) F)/\∀ts,ts.length=n->∀c,g ts= .err c->F (az N.length ts)= .err c):Bs P w K mg base (k+1) f fd ps n g:=by
 intro A outer s H args us vs O ts c R hr e0 hb r rs trk hl hg hR
 have hpl:ps.length<=N.length:=by have:=congrArg Fy S.pre;rw[EM]at this;omega
 obtain⟨oc,od,kV,doc,pm,an,cdv,ct,osl,rfl,lk,hcd⟩:=Fn.ex
 have hlen:vs.length=ps.length:=by rw[<-rs.length,hl,hn]
 have KX:K.In s.heap:=e0.mod.kin.keeps λb o e=>(e0.bs b o e).1
 have lim:s.heap.NoLimit:=e0.mod.nolimit.keeps λb o e=>(e0.bs b o e).1
 have hkind:∀y∈ps.zip us,(aj st).names.lookup y.1=some .local\/((aj st).names.lookup y.1=some .cell/\((Ex (s.heap.objs.size+1) (aj st).names []).lookup y.1).isSome=true):=λ⟨n,v⟩ hy=>by
  rcases S.par n (E5 hy).1 with q | q
  ·exact .inl q
  ·exact .inr ⟨q,Ek _ _ _ (.inl q)⟩
 refine xp hr.depth (KX _ _ lk) rfl S.co S.gen rfl (Fs KX hcd) (hb _ _ _ _ ?_)
 refine Ej S.kind hkind λenv he s1 x=> ?_
 subst he;refine⟨lim.keeps x.toInCall.keep,pR ?_⟩
 obtain⟨F,hF,hv⟩:=hbody cdv A outer s H E0 (hr.deeper _)
 let xe:CB->Cz->Prop:=λev s'=>wpAny (model P w) (A.deeper (envOfC qual (aj st) s.heap.objs.size f cdv)) (leaving (envOfC qual (aj st) s.heap.objs.size f cdv) ev) (λ_ s''=>R (.error ev) s'') (λe' s''=>R (.error e') s'') s'
 have I:Inv ((dN CX0 P w K mg base N qual (aj st) f cdv A outer s H E0).BM xe) [] (start N vs) H s1:=(eZ S hr.hd e0 hlen r x).BM _
 have no:∀a,¬noM.u a:=λa ⟨_,z⟩=>z
 refine cV (hF xe [] s1 (start N vs) H { nx:=λ_ _=>False,rt:=λ_ _=>False,bk:=λ_ _=>False,ct:=λ_ _=>False } I ⟨az N.length ts,O,noM,fR rs (by omega) trk,?_⟩) (λfl s' z=> ?_) λe s' hs=>hs
 rotate_left
 ·cases fl with
  | next=>obtain⟨_,_,_,z⟩:=z;exact z.elim
  | cont=>obtain⟨_,_,_,z⟩:=z;exact z.elim
  | brk=>obtain⟨_,_,_,z⟩:=z;exact z.elim
  | ret v=>obtain⟨_,_,_,_,_,z⟩:=z;exact z.elim
 rw[hv ts hl c hg];intro pins ev s' w'
 show wpAny _ _ _ _ _ _
 obtain⟨e,T,C,σ',H',rfl,hm,I',sm,he,heo,fl,hT,_⟩:=w'
 have heo:=heo rfl
 have hT:∀t,T=some t->H' t=none/\s.heap.get? t=none:=λt z=>⟨(hT t z).1,(hT t z).2 rfl⟩
 refine sY (base:=base) (outer:=outer) (L:=s.heap.objs.size) I'.ok.frames I'.stack rfl fl λh' T' g=>hR _ _ ?_
 have hex:((dN CX0 P w K mg base N qual (aj st) f cdv A outer s H E0).BM xe).ex= []:=rfl
 have Tn:H' T'=none/\s.heap.get? T'=none:=by
  rcases g.new with z | z
  ·exact hT T' z
  ·exact⟨eW I' z,eL I' hex z⟩
 have out:∀b o,s.heap.get? b=some o->b≠s.heap.objs.size:=λb o q z=>by
  have:=CN q;rw[z]at this;exact absurd this (C9 _)
 have mem:∀b,b∈gx ((envOfC qual (aj st) s.heap.objs.size f cdv)::outer)->b=s.heap.objs.size\/b∈gx outer:=λb z=>by
  have z':b∈s.heap.objs.size::gx outer:=z;exact CO.mp z'
 have ne:∀b o,s.heap.get? b=some o->b≠e/\T≠some b:=λb o q=>⟨λz=>(by subst z;rw[show s.heap.get? b=none from heo]at q;cases q),λz=>(by rw[show s.heap.get? b=none from(hT b z).2]at q;cases q)⟩
 have keepH:∀b u,H' b≠none->s'.heap.get? b=some u->h'.get? b=some u:=λb u hb q=>by
  refine g.keep b u (λz=>hb (I'.BQ b z)) (λz=>hb (by rw[z];exact he)) (λz=>hb (hT b z).1) q
 refine⟨e,T',C,H',rfl,hm,I'.os,I'.bare,⟨λb o q n hb hx=> ?_,λb o q n hb hx=> ?_,λb o q n hx=>I'.base.free b o q n hx,λb o q hx=> ?_,I'.base.tups,I'.base.frzs,I'.base.tbls⟩,λa o q=> ?_,λb o q=>sm b o q (no b),he,heo,g.flt,Tn.1,Tn.2⟩
 ·exact g.keep b o (λz=>(mem b z).elim (out b o q) hb) (ne b o q).1 (ne b o q).2 (I'.base.keep b o q n hb hx)
 ·obtain⟨sl,q1⟩:=I'.base.slot b o q n hb hx
  obtain⟨sl',q2⟩:=g.slot b _ (CH _ hb) q1;exact⟨sl',q2⟩
 ·obtain⟨o',q1⟩:=I'.base.there b o q hx
  by_cases z:b∈gx ((envOfC qual (aj st) s.heap.objs.size f cdv)::outer)
  ·obtain⟨sl,q2⟩:=g.slot b o' z q1
   exact⟨_,q2⟩
  ·exact⟨o',g.keep b o' z (ne b o q).1 (ne b o q).2 q1⟩
 ·refine(I'.hok a o q).BW (λb u hb z=>keepH b u ?_ z) (λ_ z=>z) λ_ _ z=>z
  rcases hb with rfl | hb
  ·rw[q];simp
  ·rw[hb];simp
theorem pE {x qual:Str}{st:Stmt}{f:Addr}{fd:DB}{N ps:List Str}{k n:Nat}{F:En->Rs Fl}(Fn:L2.Fun K x qual st f fd)(S:bq N ps (aj st))(hn:ps.length=n)
  (hbody:∀(cdv:CB) (A:Dj) (outer:List Env) (s:Cz) (H:Hp) (E:XK),Room k (A.deeper (envOfC qual (aj st) s.heap.objs.size f cdv)) →
   ∀xe,nE ((dN CX0 P w K mg base N qual (aj st) f cdv A outer s H E).BM xe) (ba st) F):uj P w K mg base (k+1) f fd ps n (val n N.length F):=
 ⟨za Fn S hn λcdv A outer s H E hr=>⟨F,hbody cdv A outer s H E hr _,λts _ _ h=>rl h⟩,vX Fn S hn λcdv A outer s H E hr=>⟨F,hbody cdv A outer s H E hr,λts _ c h=>oK h⟩⟩
end
section
variable {X:Cx}{k n:Nat}{f:Addr}{fd:DB}{ps:List Str}{g:List T->Rs T}{pins:List (Addr×Obj)}{σ:L2.St}{H:Hp}{s:Cz}{us:List CB}{vs:List V}{ts:List T}{O:Ow}{Q:VK}
theorem xU (F:uj X.prog X.w X.K X.mg X.base k f fd ps n g)(hr:Room k X.A)(hb:Binds X.K fd ps [])(hps:ps.length=n)(I:Inv X pins σ H s)(r:Vals vs us)(rs:Reps X.K O H ts vs)(mt:∀a,O a->Mtb H a)(hl:ts.length=n)
  (hq:Post X H (g ts) λt H'=> ∀v,Rep X.K O H' t v->Q v H'):wC (model X.prog X.w) X.A (call (.ref f) us) (EP X pins σ Q) X.xe s:=by
 cases q2:g ts with
 | bad=>rw[q2]at hq;exact hq.elim
 | ok t=>
  rw[q2]at hq;refine uQ (E:=E0) (dvs:=[]) (ds:=[]) F.h hr hb .nil sC I r ⟨ts,O,by simpa using rs,mt,hl,?_⟩
  rw[q2]
  exact λv H' s2 rr=>hq H' s2 v rr
 | err c=>
  rw[q2]at hq
  have hlen:us.length=ps.length:=by rw[<-r.length,<-rs.length,hl,hps]
  have hb':=hb s us I.kIn (by rw[Do];exact hlen)
  rw[Do]at hb';refine gF (gW (F.x X.A X.stack s H ⟨us,[]⟩ us vs O ts c (λr s'=>match r with | .error ev=>X.xe ev s' | _=>False) hr I.B6 hb' r rs mt hl q2 λev s' w=> ?_) λr s' hq=> ?_)
  ·obtain⟨ea,T,C,H',rfl,hmc,ho,hbare,hun,hok,sm2,hea,heo,fl,hT,hTo⟩:=w
   have I2:Inv X pins σ H' s':=I.B4 ho hun hok hbare (λb z=>absurd z (by simp))
   exact hq pins _ _ ⟨ea,some T,C,σ,H',rfl,hmc,I2,λb o q _=>sm2 b o q,hea,λhex=>eL I hex heo,fl,(λt zt=>by cases zt;exact⟨hT,λhex=>eL I hex hTo⟩),λpp hpp=>⟨λzz=>(by have:=(I.pin pp hpp).1;rw[zz,heo]at this;cases this),λzz=>(by cases zz;have:=(I.pin pp hpp).1;rw[hTo]at this;cases this)⟩⟩
  ·cases r with
   | error ev=>exact hq
   | ok fl=>exact hq.elim
end
abbrev uo (X:Cx)(e:Expr)(f:En->Rs T):Prop:=DE X e (tP X f)
abbrev Bv (X:Cx)(e:List Expr)(f:En->Rs (List T)):Prop:=DA X e (tPA X f)
abbrev Bu (X:Cx)(e:Expr)(f:En->Rs Bool):Prop:=DT X e (qP X f)
abbrev BH (X:Cx)(e:Expr)(f:En->Rs Bool):Prop:=DW X e (qP X f)
abbrev zI (X:Cx)(s:Stmt)(F:En->Rs Fl):Prop:=DS X s (Bw X F)
section
variable {X:Cx}{a b c e:Expr}{es rest:List Expr}{fa fb fc:En->Rs T}{f g:En->Rs Bool}{fs:En->Rs (List T)}{pos p:Pos}{x:Str}
theorem Be {es:List Expr}{x1:Nat}{pos:Pos}{f:En->Rs (List T)}(h:Bv X es f):uo X (.Tuple es x1 pos) (cB f):=by
 intro pins s σ H Q I ⟨ρ,O,E,hq⟩;refine zq h pins s σ H Q I ?_
 obtain⟨ρ1,O1,E1,h1⟩:=du E hq;refine⟨ρ1,O1,E1,Post.mono h1 λts H1 s1 q vs r=> ?_⟩
 obtain⟨t',r',s',E',q'⟩:=q vs r;unfold eX at q'
 split at q'
 ·rename_i hz
  refine⟨by rw[<-r'.length];exact hz,λp hp=> ?_⟩
  exact q' _ (a7 hp _) _ (cW hp (E'.fresh hp) r')
 ·exact q'.elim
theorem da_c {e:Expr}{es:List Expr}{f:En->Rs T}{g:En->Rs (List T)}(he:uo X e f)(hr:Bv X es g)(hs:autoParam (CV (e::es) X.env=(false,eval e X.env)::CV es X.env) u_):Bv X (e::es) (ae f g):=by
 intro pos pins s σ H Q I h;obtain⟨ρ,O,E,h⟩:=h;refine wt he hr hs pos pins s σ H Q I ?_
 obtain⟨ρ1,O1,E1,h1⟩:=aR E h;refine⟨ρ1,O1,E1,Post.mono h1 λt H' s q v r=> ?_⟩
 obtain⟨t',r',s',E',q'⟩:=q v r;refine⟨ρ,O,E',Post.mono q'.bind λts H2 s2 q2 vs rs=> ?_⟩
 exact q2 H2 (Same.refl H2) _ (Reps.BP (r'.same s2) rs)
theorem Bf {op:Jw}{g:T->T->Rs T}(ho:OpT X (Ed op) g)(ha:uo X a fa)(hb:uo X b fb):uo X (.BinOp a op b pos) (o2 g fa fb):=by
 intro pins s σ H Q I ⟨ρ,O,E,hq⟩
 have h1:=aR E hq;refine rj (fP (ha pins s σ H _ I h1) λv s1 hh_=> ?_)
 obtain⟨x,H1,I1,r1,t,rt,s',E',q1⟩:=hh_
 have h2:=aR (f:=fb) E' q1;refine fP (hb pins s1 σ H1 _ I1 h2) λu s2 hh_=> ?_
 obtain⟨y,H2,I2,r2,t2,rt2,s'',E'',q2⟩:=hh_;exact .of (ho pins s2 σ H2 O t t2 x y v u Q I2 (λp=>E''.fresh) (rt.same s'') rt2 r1 r2 q2)
theorem zj {op:KJ}{g:T->T->Rs T}(ho:OpT X (DN op) g)(ha:uo X a fa)(hb:uo X b fb)(hm:autoParam (EA op b=false) u_):Bu X (.Compare a [op] [b] pos) (tb (o2 g fa fb)):=by
 intro pins s σ H Q I ⟨ρ,O,E,hq⟩
 have hq':Post X H (o2 g fa fb ρ) λt H'=> ∀v,Rep X.K O H' t v->∃k,v= .bl k/\Q k H':=Post.mono hq.bind λt H' s' q v r=>by
  split at q
  ·exact⟨_,Rep.BN.mp r,q H' (Same.refl H')⟩
  ·exact q.elim
 have h1:=aR E hq';refine uI (fP (ha pins s σ H _ I h1) λv s1 ⟨x,H1,I1,r1,t,rt,s',E',q1⟩=> ?_) hm
 have h2:=aR (f:=fb) E' q1;refine fP (hb pins s1 σ H1 _ I1 h2) λu s2 hh_=> ?_
 obtain⟨y,H2,I2,r2,t2,rt2,s'',E'',q2⟩:=hh_;refine fP (.of (ho pins s2 σ H2 O t t2 x y v u _ I2 (λp=>E''.fresh) (rt.same s'') rt2 r1 r2 q2)) λd s3 hh_=> ?_
 obtain⟨z,H3,I3,r3,k,e,q3⟩:=hh_;subst e;cases r3;exact .of (DZ ⟨H3,I3,q3⟩)
theorem wc (ha:Bu X a f):BH X (.BoolOp .Or [a] pos) f:=zi ha
theorem zh (ha:Bu X a f)(hb:BH X (.BoolOp .Or (b::rest) pos) g):BH X (.BoolOp .Or (a::b::rest) pos) (lj f g):=by
 intro wh pins s σ H Q I ⟨ρ,O,E,hq⟩;refine Bb ha hb wh pins s σ H Q I ?_
 obtain⟨ρ1,O1,E1,h1⟩:=gG E hq;refine⟨ρ1,O1,E1,Post.mono h1 λk H1 s1 q=> ?_⟩
 obtain⟨s',E',q'⟩:=q
 cases k with
 | true=>rw[if_pos rfl];exact q' H1 (Same.refl H1)
 | false=>rw[if_neg C1];exact⟨ρ,O,E',by simpa using q'⟩
theorem wj {st:Stmt}{rest:List Stmt}{F G:En->Rs Fl}(h1:zI X st F)(h2:nE X rest G):nE X (st::rest) (aL F G):=DSs.imp (tW h1 h2) λD σ H hh_=>by
 obtain⟨ρ,B,M,E,h⟩:=hh_;refine⟨ρ,B,M,E,?_⟩
 unfold aL at h
 cases q:F ρ with
 | bad=>rw[q]at h;exact h.elim
 | err c=>rw[q]at h;exact h
 | ok f=>
  rw[q,aF]at h
  cases f with
  | nx ρ'=>exact λσ' H' M' s' E' o'=>⟨ρ',B,M',E',h.later s' o'⟩
  | rt t=>exact h
  | bk ρ'=>exact h
  | ct ρ'=>exact h
theorem wg (ha:uo X a fa):zI X (.Return (some a) pos) (aS fa):=DS.imp (zk ha) λD σ H hh_=>by
 obtain⟨ρ,B,M,E,h⟩:=hh_;refine⟨ρ,OO B M,E.o,?_⟩
 unfold aS at h
 cases q:fa ρ with
 | bad=>rw[q]at h;exact h.elim
 | err c=>rw[q]at h;exact PostF.xa h
 | ok t=>
  rw[q,aF]at h;exact λH' s v r=>h v H' (SameO.of s) (r.less λ_ z=> .inl z)
theorem zl {f:En->Rs Bool}{A B:List Stmt}{F G:En->Rs Fl}(hc:Bu X c f)(ha:nE X A F)(hb:nE X B G):zI X (.If c A B pos) (gK f F G):=DS.imp (Bd hc ha hb) λD σ H hh_=>by
 obtain⟨ρ,B,M,E,h⟩:=hh_;refine⟨ρ,OO B M,E.o,?_⟩
 unfold gK at h
 cases q:f ρ with
 | bad=>rw[q]at h;exact h.elim
 | err c=>rw[q]at h;exact PostF.xa h
 | ok k=>
  rw[q,aF]at h;intro H' s
  have E':Ev X.K B M H' ρ σ:=E.same s
  cases k with
  | true=>refine L2.iteT ?_;exact⟨ρ,B,M,E',PostF.later (by simpa using h) (SameO.of s) λa z=> .inl z⟩
  | false=>refine L2.iteF ?_;exact⟨ρ,B,M,E',PostF.later (by simpa using h) (SameO.of s) λa z=> .inl z⟩
theorem Bc {elt tg iter:Expr}{ifs:List Expr}{scope:Fu}{spos py:Pos}{N':List Str}{src:List (Option Nat)}{fi:En->Rs (List T)}{tgt:T->En->Rs En}{fc:En->Rs Bool}{fe:En->Rs T}(i:Nat){y:Str}
  (hc:X.calm=true) (S:LcScope X scope N' src) (hi:uA X tg iter fi)
  (block:∀cl C s₀ H₀ fp,wL (aT X scope cl N' C s₀ H₀ fp) tg tgt/\nH (aT X scope cl N' C s₀ H₀ fp) ifs (qP (aT X scope cl N' C s₀ H₀ fp) fc)/\uo (aT X scope cl N' C s₀ H₀ fp) elt fe)
  (hN:X.N.Nodup) (hiy:autoParam (X.N[i]? =some y) u_) (hy:autoParam (Loc X.env.scope y) y_) (hsw:autoParam (F9 (.ListComp elt [⟨tg,iter,ifs,0⟩] scope pos) (some (.Name y py)) spos.line X.env=pure true) u_)
  (hf:autoParam (X.fn y=true\/X.env.scope.names.lookup y=some .local) r_) (hs:autoParam (∀x,Dl iter X.env x=pure x) t_) :
  zI X (.Assign [.Name y py] (.ListComp elt [⟨tg,iter,ifs,0⟩] scope pos) spos) (cH (ej fi src tgt fc fe) (gN i)):=by
 have hPG:∀cl C s₀ H₀ fp,PG (aT X scope cl N' C s₀ H₀ fp) tg (ur X tgt):=λcl C s₀ H₀ fp=>(block cl C s₀ H₀ fp).1
 have hPI:∀cl C s₀ H₀ fp,nH (aT X scope cl N' C s₀ H₀ fp) ifs (tPT0 X.K fc):=λcl C s₀ H₀ fp pins s σ H Q I h=>(block cl C s₀ H₀ fp).2.1 pins s σ H Q I (tPT0.up (X:=aT X scope cl N' C s₀ H₀ fp) h)
 have hPE:∀cl C s₀ H₀ fp,DE (aT X scope cl N' C s₀ H₀ fp) elt (tP0 X.K fe):=λcl C s₀ H₀ fp pins s σ H Q I h=>(block cl C s₀ H₀ fp).2.2 pins s σ H Q I (tP0.up (X:=aT X scope cl N' C s₀ H₀ fp) h)
 refine DS.imp (Bh (g:=ur X tgt) (tc:=tPT0 X.K fc) (te:=tP0 X.K fe) (i:=i) hc S hi (λcl C s₀ H₀ fp=>⟨hPG cl C s₀ H₀ fp,hPI cl C s₀ H₀ fp,hPE cl C s₀ H₀ fp⟩) hN hiy hy hsw hf hs) λD σ H ⟨ρ,B,M,E,h⟩=>lN (oO (nU E h) λv H' z=> ?_)
 obtain⟨ρ',O,M',t,E',r,q⟩:=z;unfold gN at q
 split at q
 ·rename_i ρ2 e
  split at e
  ·rename_i hl
   cases e;exact q _ (E'.set hl r)
  ·cases e
 ·exact q.elim
theorem zr {n k:Nat}{f:Addr}{fd:DB}{ps:List Str}{g:List T->Rs T}(F:uj X.prog X.w X.K X.mg X.base k f fd ps n g)(hr:Room k X.A)(hm:X.mg x=some (.ref f))(hk:Fk X.K (.ref f)=true)(hb:Binds X.K fd ps [])(hps:ps.length=n)
  (hl:∀ρ ts,fs ρ= .ok ts->ts.length=n) (ha:Bv X (e::es) fs) (hg:Gl X x) (hdb:(x == ("__debug__" : Str))=false) (hn:a8 (e::es)=true):uo X (.Call (.Name x p) (e::es) [] pos) (cl g fs):=by
 intro pins s σ H Q I ⟨ρ,O,E,hq⟩
 have hq':Post X H (fs ρ >>= g) λt H'=> ∀v,Rep X.K O H' t v->Q v H':=hq
 refine oJ (fh I hg hm ?_ hdb)
 have hs:=ha pos pins s σ H (λvs H'=> ∃ts,fs ρ= .ok ts/\Same H H'/\Reps X.K O H' ts vs) I ⟨ρ,O,E,by
  cases q:fs ρ with
  | bad=>rw[q]at hq';exact hq'.elim
  | err c=>rw[q]at hq';exact hq'
  | ok ts=>exact λH' s v r=>⟨ts,rfl,s,r⟩⟩
 have he:CV (e::es) X.env=(false,eval e X.env)::CV es X.env:=bz (by unfold a8 at hn;exact(DD.mp hn).1)
 have hpl:=eS (pos:=pos) (env:=X.env) hn;rw[he]at hs hpl ⊢;refine mn (P:=λh=>X.K.In h) hpl (PySem.W.keeps_K hk) (oI (fP hs λus s1 ⟨vs,H1,I1,r,ts,q,sm,rs⟩=>⟨I1.kIn,?_⟩))
 rw[q]at hq'
 have hq2:Post X H (g ts) λt H'=> ∀v,Rep X.K O H' t v->Q v H':=hq'
 exact xU F hr hb hps I1 r rs (E.same sm).mtb (hl ρ ts q) (hq2.later sm)
end
structure UE (X:Cx)(e:Expr)(f:En->Rs T):Prop where
 h:uo X e f
structure UA (X:Cx)(e:List Expr)(f:En->Rs (List T)):Prop where
 h:Bv X e f
structure UT (X:Cx)(e:Expr)(f:En->Rs Bool):Prop where
 h:Bu X e f
structure UW (X:Cx)(e:Expr)(f:En->Rs Bool):Prop where
 h:BH X e f
structure US (X:Cx)(e:Stmt)(f:En->Rs Fl):Prop where
 h:zI X e f
structure xu (X:Cx)(e:List Stmt)(f:En->Rs Fl):Prop where
 h:nE X e f
section
variable {X:Cx}{a b e:Expr}{es rest:List Expr}{fa fb:En->Rs T}{f g:En->Rs Bool}{fs:En->Rs (List T)}{pos p:Pos}{st:Stmt}{sts A B:List Stmt}{F G:En->Rs Fl}
theorem nG (h:QE X e fa):UE X e fa:=⟨h.h.d⟩
theorem qO (h:QA X es fs):UA X es fs:=⟨h.h.d⟩
theorem u_t (h:QT X e f):UT X e f:=⟨h.h.d⟩
theorem nL (h:QS X st F):US X st F:=⟨h.h.d⟩
theorem zM (h:qQ X sts F):xu X sts F:=⟨h.h.d⟩
theorem wU {x1:Nat}(h:UA X es fs):UE X (.Tuple es x1 pos) (cB fs):=⟨Be h.h⟩
theorem mf (he:UE X e fa)(hr:UA X es fs)(hn:autoParam (cI e=true) u_):UA X (e::es) (ae fa fs):=⟨da_c he.h hr.h (bz hn)⟩
theorem wV {op:Jw}{g:T->T->Rs T}(ho:OpT X (Ed op) g)(ha:UE X a fa)(hb:UE X b fb):UE X (.BinOp a op b pos) (o2 g fa fb):=⟨Bf ho ha.h hb.h⟩
theorem zP {op:KJ}{g:T->T->Rs T}(ho:OpT X (DN op) g)(ha:UE X a fa)(hb:UE X b fb)(hm:autoParam (EA op b=false) u_):UT X (.Compare a [op] [b] pos) (tb (o2 g fa fb)):=⟨zj ho ha.h hb.h hm⟩
theorem zN (ha:UT X a f):UW X (.BoolOp .Or [a] pos) f:=⟨wc ha.h⟩
theorem zO (ha:UT X a f)(hb:UW X (.BoolOp .Or (b::rest) pos) g):UW X (.BoolOp .Or (a::b::rest) pos) (lj f g):=⟨zh ha.h hb.h⟩
theorem u_w (h:UW X e f):UT X e f:=⟨h.h _⟩
theorem bY (h1:US X st F)(h2:xu X sts G):xu X (st::sts) (aL F G):=⟨wj h1.h h2.h⟩
theorem kg (h1:US X st F):xu X [st] F:=⟨we h1.h⟩
theorem rz (ha:UE X a fa):US X (.Return (some a) pos) (aS fa):=⟨wg ha.h⟩
theorem u_if (hc:UT X e f)(ha:xu X A F)(hb:xu X B G):US X (.If e A B pos) (gK f F G):=⟨zl hc.h ha.h hb.h⟩
theorem rq {elt tg iter:Expr}{ifs:List Expr}{scope:Fu}{spos py:Pos}{N':List Str}{src:List (Option Nat)}{fi:En->Rs (List T)}{tgt:T->En->Rs En}{fc:En->Rs Bool}{fe:En->Rs T}(i:Nat){y:Str}(hc:Cx.calm X=true)(S:LcScope X scope N' src)(hi:QI X tg iter fi)
  (block:∀(cl:List (Str×Addr)) (C:Addr) (s₀:Cz) (H₀:Hp) (fp:List Addr),QG (aT X scope cl N' C s₀ H₀ fp) tg tgt/\zG (aT X scope cl N' C s₀ H₀ fp) ifs fc/\UE (aT X scope cl N' C s₀ H₀ fp) elt fe) (hN:F0 (Cx.N X)) (hiy:autoParam ((Cx.N X)[i]? =some y) u_) (hy:autoParam (L2.Loc (Ht (Cx.env X)) y) y_)
  (hsw:autoParam (F9 (F6 elt [{ target:=tg,iter:=iter,ifs:=ifs,is_async:=0 }] scope pos) (some (E6 y py)) (Pos.line spos) (Cx.env X)=pure true) u_) (hf:autoParam (Cx.fn X y=true\/GK y (KD (Ht (Cx.env X)))=some NameKind.local) r_) (hs:autoParam (∀(x:CB),Dl iter (Cx.env X) x=pure x) t_) :
  US X (KF [E6 y py] (F6 elt [{ target:=tg,iter:=iter,ifs:=ifs,is_async:=0 }] scope pos) spos) (cH (ej fi src tgt fc fe) (gN i)):=
 ⟨Bc i hc S hi.h (λcl C s₀ H₀ fp=>⟨(block cl C s₀ H₀ fp).1.h,(block cl C s₀ H₀ fp).2.1.h,(block cl C s₀ H₀ fp).2.2.h⟩) hN hiy hy hsw hf hs⟩
end
structure pX (P:C4)(w:Du)(K:CA)(mg:Str->Option CB)(base:Heap)(k:Nat)(x:Str)(n:Nat)(m:List T->Rs T):Prop where
 ex:∃f fd ps,mg x=some (.ref f)/\Fk K (.ref f)=true/\Binds K fd ps []/\ps.length=n/\uj P w K mg base k f fd ps n m
section
variable {P:C4}{w:Du}{K:CA}{mg:Str->Option CB}{base:Heap}{x:Str}{st:Stmt}{ps:List Str}{k n:Nat}{F:En->Rs Fl}
theorem gV (N:List Str)(H:gh K mg x st ps)
  (hbody:N.Nodup->∀(f:Addr) (cdv:CB) (A:Dj) (outer:List Env) (s:Cz) (H:Hp) (E:XK),Room k (A.deeper (envOfC x (aj st) s.heap.objs.size f cdv)) →
   ∀xe,xu ((dN CX0 P w K mg base N x (aj st) f cdv A outer s H E).BM xe) (ba st) F) (S:autoParam (bq N ps (aj st)) a_) (hn:autoParam (ps.length=n) u_):pX P w K mg base (k+1) x n (val n N.length F):=by
 obtain⟨f,fd,h⟩:=H;exact⟨f,fd,ps,h.mg,h.fn.kp,h.bd,hn,pE h.fn S hn λcdv A outer s H E hr xe=>(hbody S.nd f cdv A outer s H E hr xe).h⟩
end
theorem uq {X:Cx}{e:Expr}{es:List Expr}{fs:En->Rs (List T)}{pos p:Pos}{x:Str}{n k k':Nat}{g:List T->Rs T}(c:pX X.prog X.w X.K X.mg X.base k x n g)(hr:Room k' X.A)(ha:UA X (e::es) fs)(hk:autoParam (k<=k') s_)
  (hl:∀(ρ:En) (ts:List T),fs ρ= .ok ts->ts.length=n:=by repeat first | exact xr | refine xq ?_) (hn:autoParam (a8 (e::es)=true) u_) (hg:autoParam (Gl X x) u_) (h2:autoParam ((x == C0 "__debug__")=false) s_):UE X (.Call (.Name x p) (e::es) [] pos) (cl g fs):=by
 obtain⟨f,fd,ps,h1,h3,h4,h5,h6⟩:=c.ex;exact⟨zr h6 (hr.mono hk) h1 h3 h4 h5 hl ha.h hg h2 hn⟩
end Tr
namespace L2
open PySem PySem.Spec PyProof.Rows
theorem qv {P:C4}{w:Du}{K:CA}{mg mb:Str->Option CB}{CX:qM}{k:Nat}{fa a:Addr}{fd:DB}{x:Str}{sp:Sp}{s₁:Cz}{vs:List CB}{ns:List Int}
  (KX:K.In s₁.heap) (hns:s₁.heap.Ns Dm mg) (hb:s₁.heap.Ns GD mb) (hbb:∀x:Str,x≠ "__name__"->mb x=Dh x) (hlim:s₁.heap.NoLimit) (hg:s₁.gens= #[])
  (ha:s₁.heap.get? a=some { cls:=.type "list",data:=.seq vs.toArray }) (hi:Gb vs ns) (hl:ns.length<=sizeLine) (hr:Room k callerA)
  (F:∀base:Heap,K.In base->base.Ns Dm mg->jW P w K mg base CX k fa fd [x] sp) (hbind:∀(s:Cz) (u:CB),HP s fd ⟨[u],[]⟩ [(x,u)])
  (hsp:∀H:Hp,zB H->SqL K H a (ns.map V.int)->sp [.ref a] H (λv _=>v= .bl true) λ_ _ _=>False)
  (hCX:∀H e s',CX [] H s₁ (λ_ _ _=>False) e s'->False) :
  cC (model P w) callerA (.call (.ref fa) ⟨[.ref a],[]⟩) (λr s'=>r= .ok (.ret (.bool true))/\OldK s₁.heap s'.heap/\s'.os=s₁.os/\Iu s'.gens) s₁:=by
 have rv:=hG hi
 have lenV:=hi.length
 -- from an abstract heap in which nothing but the script may be tracked
 have core:∀H:Hp,zB H->SqL K H a (ns.map V.int)->HOk P w H s₁.heap->(∀b,H b≠none->b=a)->(H a≠none->K.lookup a=none) →
   cC (model P w) callerA (.call (.ref fa) ⟨[.ref a],[]⟩) (λr s'=>r= .ok (.ret (.bool true))/\OldK s₁.heap s'.heap/\s'.os=s₁.os/\Iu s'.gens) s₁:=by
  intro H hO hS hok hA hK
  have base_of:∀{b:Addr} {o:Obj},s₁.heap.get? b=some o->H b=none->(lS s₁.heap H).get? b=some o:=λe n=>tK e n
  have noA:∀{b:Addr} {o:Obj} {es:Array DictEntry} {ep:Nat},s₁.heap.get? b=some o->o.data= .dict es ep->H b=none:=λ{b o es ep} e d=>by
   cases q:H b with
   | none=>rfl
   | some u=>
    have e':b=a:=hA b (by rw[q];simp)
    subst e';rw[ha]at e;cases e
    have d':Data.seq vs.toArray _=Data.dict es ep:=d;cases d'
  have nsK:∀{b:Addr} {m:Str->Option CB},s₁.heap.Ns b m->(lS s₁.heap H).Ns b m:=λ{b m} ⟨o,es,ep,e,d,r⟩=>⟨o,es,ep,base_of e (noA e d),d,r⟩
  have hKb:K.In (lS s₁.heap H):=λb o e=>base_of (KX b o e) (by
   cases q:H b with
   | none=>rfl
   | some u=>
    have e':b=a:=hA b (by rw[q];simp)
    subst e';rw[hK (by rw[q];simp)]at e;cases e)
  have hM:Mod K mg (lS s₁.heap H):=⟨hKb,nsK hns,⟨mb,nsK hb,hbb⟩,let ⟨mc,h1,h2⟩:=hlim;⟨mc,nsK h1,h2⟩⟩
  have e0:kd P w K mg (lS s₁.heap H) callerA [] s₁ H:=⟨rfl,hM,λb o e=>vE e,FZ (qA _ _),trivial,λb hb=>absurd (show b∈([]:List Addr)from hb) (by simp),hok,.of_eq hg⟩
  refine gW ((F _ hKb (nsK hns)).run callerA [] s₁ H ⟨[.ref a],[]⟩ [.ref a] [.ref a] _ _ hr e0 (hbind s₁ (.ref a)) (.cons rfl .nil) (hsp H hO hS)) λr s' h=> ?_
  cases r with
  | error e=>exact(hCX H e s' h).elim
  | ok fl=>
   cases fl with
   | next=>exact Em h
   | brk=>exact Em h
   | cont=>exact Em h
   | ret u=>
    obtain⟨v,H',os,bare,un,hok',r',q⟩:=h
    have q':v= .bl true:=q;subst q';obtain rfl:u=Dz true:=r';refine⟨rfl,OldK.of_keep λb o e=> ?_,os,bare⟩
    cases q:H b with
    | none=>exact un.keep b o e q (by intro z;exact absurd (show b∈([]:List Addr)from z) (by simp)) (by simp)
    | some u=>
     rcases hO b with z | ⟨ob,xs,z⟩
     ·rw[q]at z;cases z
     ·have z2:=un.frzs b ob _ z
      obtain⟨e1,_⟩:=hok b _ z;obtain⟨e2,_⟩:=hok' b _ z2;rw[e]at e1;cases e1;exact e2
 cases hk:K.lookup a with
 | some o=>
  -- the script is one of the module's own objects
  have e:=KX a o hk;rw[ha]at e;cases e
  refine core (λ_=>none) (λ_=> .inl rfl) (.inr ⟨_,vs.toArray,_,hk,rfl,rfl,rfl,by rw[CT,lenV];exact hl,by simpa using rv⟩) (λb u z=>by have z':(none:Option HO)=some u:=z;cases z') (λb z=>absurd rfl z) λz=>absurd rfl z
 | none=>
  refine core (λb=>if b=a then some (.frz { cls:=.type "list",data:=.seq vs.toArray } (.lst (ns.map V.int)))else none) (λb=> ?_) (.inl (.inr ⟨{ cls:=.type "list",data:=.seq vs.toArray },if_pos rfl⟩)) (λb u z=> ?_) (λb z=> ?_) λ_=>hk
  ·by_cases hb:b=a
   ·exact .inr ⟨_,_,if_pos hb⟩
   ·exact .inl (if_neg hb)
  ·by_cases hb:b=a
   ·have z':=(if_pos hb).symm.trans z
    cases z';subst hb;exact⟨ha,by rw[CI];exact hl,vs,_,rv,ha⟩
   ·have z':=(if_neg hb).symm.trans z
    cases z'
  ·by_cases hb:b=a
   ·exact hb
   ·exact absurd (if_neg hb) z
end L2
namespace Tr
open PySem PySem.Spec PyProof.Rows L2 PySem.W PySem.Calls
abbrev xt (q:C4)(loose:List Str)(XP:(Str->Option CB)->Heap->Prop)(YP:Du->Heap->Prop)(r:RowW)(d:DefRec):Prop:=
 ∀(w:Du) (s₀ s₁:Cz) (mg mb:Str->Option CB),Ground q loose r.records XP w s₀ mg mb s₁.heap->YP w s₁.heap->∀(fa:Addr) (o:Obj) (pm cd doc dV kV:CB),s₁.heap.get? fa=some o →
  o.data= .func { docDef d.name d.params d.body d.scope pm cd doc with defaults:=dV,kwdefaults:=kV }->s₁.heap.CodeRec cd d.name->Dflts mg s₁.heap d.params [] dV kV->mg d.name=some (.ref fa)->s₁.gens= #[] →
  ∀(args:List WData) (vals:List CB) (as:List Addr),r.claim.pre args=true->WData.layableAll args=true->ReadsAllW r.records (classAt s₀.heap) s₁.heap vals args as->WellAll w.params s₁.heap vals args->(∀a∈as,(a == sysModules)=false) →
   wC (model r.prog w) callerA (PySem.call (.ref fa) vals) (λv s'=>GoodWG r.claim (classAt s₀.heap) (Jq s₀.heap) args s₁ (.ok (.ret v)) s') (λe s'=>GoodWG r.claim (classAt s₀.heap) (Jq s₀.heap) args s₁ (.error e) s') s₁
theorem walk_C {l:OpenLaw}{n k:Nat}{q:C4}{loose:List Str}{XP:(Str->Option CB)->Heap->Prop}{d:DefRec}{S:nF}{top:Nat->Stmt}{CX:qM}{sp:Frag->Sp}{x:Str}
  (hn:l.most=some n) (hn2:n<=sizeLine) (hdf:d.params.defaults= []) (hr:Room k callerA)
  (F:∀(w:Du) (K:Frag) (mg:Str->Option CB) (fa:Addr) (h:Heap),K.In h->sM S K=rm S top->h.Ns Dm mg->mg d.name=some (.ref fa) →
   ∃fd:DB,(∀(s:Cz) (u:CB),HP s fd ⟨[u],[]⟩ [(x,u)])/\∀base:Heap,K.In base->base.Ns Dm mg->jW l.prog w K mg base CX k fa fd [x] (sp K))
  (hsp:∀(K:Frag) (H:Hp) (a:Addr) (ns:List Int),ns.length<=n->zB H->SqL K H a (ns.map V.int)->sp K [.ref a] H (λv _=>v= .bl true) λ_ _ _=>False)
  (hCX:∀(H:Hp) (s:Cz) (e:CB) (s':Cz),CX [] H s (λ_ _ _=>False) e s'->False) :
  xt q loose XP (hookC S top).says l.row.toRowW d:=by
 intro w s₀ s₁ mg mb G Y fa o pm cd doc dV kV ho hd hcd hD hmg hg args vals as hpre hlay hrd hwl hlo;obtain rfl:dV= .none:=Dflts.none hD hdf;obtain rfl:kV= .none:=Dflts.noKw hD;obtain⟨a,vs,ns,rfl,rfl,hobj,hints,hlen⟩:=Att.script_of hn hpre hwl;obtain⟨K,KX,e⟩:=Y;obtain⟨fd,hb,hF⟩:=F w K mg fa _ KX e G.T.g hmg;refine gF (gW (qv KX G.T.g G.T.b G.T.builtins G.T.nolimit hg hobj hints (Dk hlen hn2) hr hF hb (λH hO hS=>hsp K H a ns hlen hO hS) λH e s'=>hCX H s₁ e s') λr s' hq=> ?_)
 obtain⟨rfl,h2,h3,h4⟩:=hq;exact⟨.inl ⟨.bool true,.bool true,[],rfl,λ_=>rfl,.bool true,Att.post_true l _,λ_=>⟨JL,λ_ hm=>(nomatch hm)⟩⟩,h2,h3,h4⟩
theorem cal0:Cal ⟨.builtin "claim.caller" {},none,none,[],none⟩:=rfl
theorem rC {prog:C4}{w:Du}{t:Sem Fin}{s:Cz}{R:GR->Cz->Prop}(hk:zE<=s.toks)(hreg:s.asleep)
  (h:wC (model prog w) callerA t (λfin s'=> ∃f,fin= .done f/\(R (.ok f) s'/\FE s'.gens=false)) (λe s'=>R (.error e) s'/\FE s'.gens=false) s) :
  ∃n r s' s'',runN (denote table) prog w n s ⟨t,.builtin "claim.caller" {},default,[]⟩= .halted (outcomeOf r) s' ∧
   schedN (denote table) prog w n (.single s ⟨t,.builtin "claim.caller" {},default,[]⟩)= .halted (outcomeOf r) s'/\s'.forget=s''.forget/\R r s'':=by
 have z:=h hk ⟨.builtin "claim.caller" {},none,none,[],none⟩ default caller_in cal0
 obtain⟨n,r,s₁,s₂,hs,hn,hfo,hR⟩:=wp_halts_full (M:=model prog w) (R:=R) hreg (HN (model prog w) _ t (λfin p' s' q=>by
  obtain⟨f,rfl,q⟩:=q;exact(show Sem.finPost (model prog w) _ (λr s'=>R r s'/\FE s'.gens=false) (.done f) p' s' from q)) (λ_ _ _ q=>q) default s z)
 exact⟨n,r,s₂,s₁,hn,hs,hfo,hR⟩
theorem holds_C {r:OpenRow}{q:C4}{loose:List Str}{Xt:Cz->Bool}{XP:(Str->Option CB)->Heap->Prop}{α:Type}{Yf:Cz->α}{Ya:Du->α}{YP:Du->Heap->Prop}{d:DefRec}{N:Nat}
  (left:LeftO r.prog q loose Xt Yf Ya N) (hY:∀w s,Yf s=Ya w->YP w s.heap) (hYk:∀w h h',YP w h->(∀b o,h.get? b=some o->h'.get? b=some o)->YP w h')
  (hX:∀s,Xt s=true->XP (s.heap.nsMap Dm) s.heap) (hXk:∀mg h h',XP mg h->(∀b o,h.get? b=some o->h'.get? b=some o)->XP mg h')
  (hdef:defOf q r.name=some (d,[])) (hp:r.prog.theDef r.name=some (d.params,d.body,d.scope)) (hk:kwWritten? d.params.kwonlyargs d.params.kw_defaults=some []) (hRf:∀s,Xt s=true->RecFacts r.records s.heap) (hwr:(!r.writes||r.records.isEmpty)=true)
  (k1:r.wellSaid=true) (ok:(chainsOk q&&opensWell r.prog&&(frees r.toRowW&&r.within.isEmpty))=true) (hb:r.prog.bare) (hw:r.toRowW.promised)
  (call:xt q loose XP YP r.toRowW d):r.Holds:=by
 obtain⟨ok1,k5⟩:=DD.mp ok;obtain⟨hch,o1⟩:=DD.mp ok1;obtain⟨k5,k6⟩:=DD.mp k5;obtain⟨hsame,hu,ha,hap,hm⟩:=frees_parts k5;refine⟨k1,hw,⟨hb,o1,by show r.makers.map _= [];rw[hm];rfl⟩,hw.witness,λw=>⟨(left.behind hX hch w).1,λs' hs'=> ?_⟩⟩
 obtain⟨s₀,hf,hg0,s,hT,hz,hgens,hg,G00,y⟩:=(left.behind (XP:=λmg h=>XP mg h/\RecFacts r.records h) (λs hs=>⟨hX s hs,hRf s hs⟩) hch w).2 s' hs'
 have G0:Ground q loose [] XP w s (s.heap.nsMap Dm) (s.heap.nsMap GD) s.heap:={ G00 with X:=G00.X.1 }
 have RF:=G00.X.2;refine⟨s₀,hf,hg0,s,hT,λn hn=> ?_,RF.1,RF.2.1,?_⟩
 ·obtain rfl:n=r.name:=by split at hn <;> simp_all
  exact pinned_of_view hg G0 hdef hp hk
 have hgens:s.gens= #[]:=Array.eq_empty_of_size_eq_zero (beq_iff_eq.mp hgens)
 have G:Ground q loose r.records XP w s _ _ s.heap:=RF.ground G0;intro args hpre hlay ord hord;obtain⟨⟨vs,s₁⟩,hlaid⟩:=Hn.mp (layAllW_isSome (P:=w.params) (ord:=ord) G.has args r.args s (pre_splitW hpre).1)
 have keeps:=layAllW_keeps _ _ _ hlaid
 have hal:=layAllW_rest _ _ _ hlaid;obtain⟨as,hrd,hin,hold⟩:=reads_layAllW hord _ _ _ hlaid hlay s₁.heap (λ_ _ e=>e)
 have L:Laid r.records w s s₁ args vs as:=⟨⟨ord,hord,hlaid⟩,hrd,hin,hold,keeps,hal.1.trans hgens,hal.2.2.1⟩
 have G₁:=G.keeps hXk keeps
 have hi:=ident_freeW hu ha hap
 have hwi:r.claim.within= []:=List.isEmpty_iff.mp k6;obtain⟨fa,o,pm,cd,doc,dV,kV,h1,h2,h3,h4,h5⟩:=G₁.fn hdef
 have body:=call w s s₁ _ _ G₁ (hYk _ _ _ (hY w s y) keeps) fa o pm cd doc dV kV h2 h3 h4 h5 (defOf_name hdef▸h1) L.gens args vs as hpre hlay L.reads L.well (L.low G.low)
 have fin:∀{res:GR} {t:Cz},GoodWG r.toRowW.claim (classAt s.heap) (Jq s.heap) args s₁ res t->(r.toRowW.claim.Ends s args vs s₁ res t/\t.os=s.os/\(r.writes=true->namesKept r.prog r.keeps s.heap t.heap/\∀x∈r.records,∀a,classAt s.heap x.1=some a->recordClass t.heap a x.1 (x.2.map (·.1))=true))/\FE t.gens=false:=λg=>by
  have z:=g.laid (c:=r.toRowW.claim) hsame hwi hi L;exact⟨⟨z.1,z.2.1,λq=>⟨namesKept_of hT hg r.keeps keeps g.2.1.old,noTable hwr q⟩⟩,leftWithCleanup_false_of_bare z.2.2⟩
 have tree:wC (model r.prog w) callerA (do match <-nsGet mainNs r.name with | some f=>do ret (<-PySem.call f vs) | none=>unsupported "claim.caller:no-such-global")
   (λfin t=> ∃f,fin= .done f/\((r.toRowW.claim.Ends s args vs s₁ (.ok f) t/\t.os=s.os/\(r.writes=true->namesKept r.prog r.keeps s.heap t.heap/\∀x∈r.records,∀a,classAt s.heap x.1=some a->recordClass t.heap a x.1 (x.2.map (·.1))=true))/\FE t.gens=false))
   (λe t=>(r.toRowW.claim.Ends s args vs s₁ (.error e) t/\t.os=s.os/\(r.writes=true->namesKept r.prog r.keeps s.heap t.heap/\∀x∈r.records,∀a,classAt s.heap x.1=some a->recordClass t.heap a x.1 (x.2.map (·.1))=true))/\FE t.gens=false) s₁:=by
  refine ay (wpAny_nsGet G₁.T.g ?_)
  rw[h1];exact aP (cV body (λv t g=>aZ ⟨_,rfl,fin g⟩) λe t g=>fin g)
 obtain⟨k,res,t,t',hrun,hsched,hfo,hcase,hos,hkp⟩:=rC (R:=λres t=>r.toRowW.claim.Ends s args vs s₁ res t/\t.os=s.os/\(r.writes=true->namesKept r.prog r.keeps s.heap t.heap/\∀x∈r.records,∀a,classAt s.heap x.1=some a->recordClass t.heap a x.1 (x.2.map (·.1))=true)) (Ey _) (Shared.asleep_of_life hal.2.2.2 hz) tree
 obtain⟨eh,_,_,eo,_⟩:=Shared.forget_eq hfo
 have hcase:=hcase.congr eh;rw[<-eh]at hkp;rw[<-eo]at hos
 have hlife:t.heap.life=s.heap.life:=(runN_life _ _ _ hrun).trans hal.2.2.2;refine⟨vs,s₁,hlaid,k,_,t,hsched,?_,(λ_ i x hx=>by rw[hgens]at hx;simp at hx),hkp,by rw[hlife],Shared.rest_eq hos⟩
 rcases hcase with⟨v,rfl,d1,d2,d3,d4,d5⟩ | ⟨e,ob,cls,rfl,d1,d2,d3,d4,d5⟩
 ·exact .inl ⟨v,rfl,d1,d2,d3,λb o y _=>d4 b o y,d5⟩
 ·exact .inr ⟨e,ob,cls,rfl,d1,d2,d3,d4,λb o y _=>d5 b o y⟩
end Tr
namespace Tr
open PySem PySem.Spec PyProof.Rows L2 PySem.NumText
theorem vR (x:EN)(u:Tok):(int_private% "intFromObject") (.str x u)=(int_private% "intFromText") (.str x u) (JF x) 10:=by
 have f6:typeOf (.str x u)=pure (.type "str"):=rfl
 have g1:Kc (.str x u) (DK "__int__")=pure none:=by unfold Kc HG;rw[f6,pure_bind,W.KIN.str_int];rfl
 have g2:HG (.str x u) (DK "__index__")=pure none:=by unfold HG;rw[f6,pure_bind,W.KIN.str_idx]
 have g3:HG (.str x u) (DK "__trunc__")=pure none:=by unfold HG;rw[f6,pure_bind,W.KIN.str_trunc]
 refine Eq.trans (show _=(Kc (.str x u) (DK "__int__") >>= _)from rfl) ?_
 rw[g1,pure_bind];refine Eq.trans (show _=(HG (.str x u) (DK "__index__") >>= _)from rfl) ?_
 rw[g2,pure_bind];refine Eq.trans (show _=(HG (.str x u) (DK "__trunc__") >>= _)from rfl) ?_
 rw[g3,pure_bind]
 rfl
theorem tH (x:EN)(u:Tok):Builtin.«int.__new__» ⟨[.type "int",.str x u],[]⟩=(do let v <-(int_private% "intFromText") (.str x u) (JF x) 10;ret v):=by
 have f7:isType (.type "int")=pure true:=rfl;rw[<-vR x u];unfold Builtin.«int.__new__»;simp only[f7,F.conv_sub_int,F.madeHere_int,pure_bind,Bool.not_true,DL,if_false]
 rfl
theorem oH {M:HB}{A:Dj}{E:CB->Cz->Prop}{s:Cz}{own:List String}{e:CB}{Q:Unit->Cz->Prop}(h:Q () s):wC M A (markTheRefusal own e) Q E s:=λk Γ p hΓ z=>by
 have hc:IB own (((Γ.code,p)::Γ.below).map (·.1))=false:=by
  have tr:∀(A B C:Bool),A=true->((!A&&B)&&C)=false:=by intro A B C h;rw[h];rfl
  exact tr _ _ _ z
 unfold markTheRefusal;rw[Sem.wp_bind']
 show IS M Γ (if IB own (((Γ.code,p)::Γ.below).map (·.1))=true then _ else _) _ _ p s
 rw[hc];exact h
section
variable {prog:C4}{w:Du}{A:Dj}{E:CB->Cz->Prop}{s:Cz}{x:EN}{u:Tok}
theorem rf {Q:CB->Cz->Prop}(hl:(KR x).length<=640)(hn:Kx x=none)(hr:(reprText x).length<=sizeLine)(hh:A.handled=none)
  (h:∀h' tk e,Heap.NewExc s.heap h' e "ValueError"->E (.ref e) { s with heap:=h',toks:=tk }):wC (model prog w) A ((int_private% "intFromText") (.str x u) (JF x) 10) Q E s:=by
 have hb:(int_private% "bytesOf?") (.str x u)=pure none:=rfl
 show wC _ _ (if (KR x).length<=640 then _ else _) _ _ s
 rw[if_pos hl,pure_bind]
 dsimp only
 have hz:∀(y z:EN),y.length<=100->(y++⟨z.cps.extract 0 200⟩:EN).length<=sizeLine:=λy z hy=>by
  have h1:(⟨z.cps.extract 0 200⟩:EN).length<=200:=by show(z.cps.extract 0 200).size<=200;simp;omega
  rw[PySem.Str.length_append,Ea];omega
 have h100:(DK (toString "invalid literal for int() with base " ++toString 10++toString ": ")).length<=100:=by decide+kernel
 rcases read0 x hl with⟨m,h1,_⟩ | ⟨_,h2⟩
 ·rw[hn]at h1;cases h1
 ·rcases h2 with h2 | ⟨i,h2,h3⟩
  ·have h2':(int_private% "readNumeral") 0 10 (List.takeWhile (λx=>x != 0) (JF x))=_:=h2
   rw[h2']
   dsimp only
   refine ay (FU hb ?_)
   simp only[Option.isSome_none,Ha,DL,if_false];refine ay (F1 ?_)
   refine ay (FU hb ?_)
   dsimp only
   refine ay (Kr ?_ hr)
   refine ay (wpAny_mkStr ?_ (hz _ _ h100))
   refine ay (JG Ja (λh' e me=> ?_) (by rw[Ea];exact(by decide:1<=16777216)))
   refine aP (oH ?_)
   exact .of (Jb hh (h h' _ e me.newExc))
  ·have h2':(int_private% "readNumeral") 0 10 (List.takeWhile (λx=>x != 0) (JF x))=_:=h2
   rw[h2']
   dsimp only
   rw[if_neg h3];refine ay (F1 ?_)
   refine ay (FU hb ?_)
   dsimp only
   refine ay (Kr ?_ hr)
   refine ay (wpAny_mkStr ?_ (hz _ _ h100))
   refine ay (JG Ja (λh' e me=> ?_) (by rw[Ea];exact(by decide:1<=16777216)))
   refine aP (oH ?_)
   exact .of (Jb hh (h h' _ e me.newExc))
end
theorem pZ (x:EN)(u:Tok):∃K:CB->Sem Fin,Builtin.«type.__call__» ⟨[.type "int",.str x u],[]⟩=(holding [.builtin "int.__new__"] (call (.builtin "int.__new__") [.type "int",.str x u] []) >>= K):=by
 obtain⟨c,tl,hm⟩:=G4.mro
 have h1:=G4.notType
 have h2:=G4.canCreate;unfold Builtin.«type.__call__»
 dsimp only
 simp only[h1,h2,F.typeCall_int_1,hm,G4.made,pure_bind,DL,if_false,JW];exact⟨_,rfl⟩
section
variable {prog:C4}{w:Du}{A:Dj}{E:CB->Cz->Prop}{s:Cz}{x:EN}{u:Tok}
theorem jO {id:String}{args:Args}{b:Builtin}{R:GR->Cz->Prop}(hb:JD table id=some b)
  (h:wC (model prog w) (A.under (.builtin id args)) (b args) (λfin s'=>match fin with | .done f=>R (.ok f) s' | .again c'=>c'.quiet=true/\cC (model prog w) A c' R s') (λe s'=>R (.error e) s') s) :
  cC (model prog w) A (.builtin id args) R s:=by
 refine cL ?_
 show wC _ _ (match JD table id with | some b=>b args | none=>unsupported ((withoutEnding? id "#data").getD id)) _ _ s
 rw[hb];exact h
theorem ub {id:String}{args:Args}{b:Builtin}{R:GR->Cz->Prop}(hq:plainId id=true)(hb:JD table id=some b)(hc:FS id args=pure ())
  (h:wC (model prog w) (A.under (.builtin id args)) (b args) (λfin s'=>match fin with | .done f=>R (.ok f) s' | .again c'=>c'.quiet=true/\cC (model prog w) A c' R s') (λe s'=>R (.error e) s') s) :
  cC (model prog w) A (.call (.builtin id) args) R s:=by
 refine cL ?_
 show wC _ A.in1 (do FS id args;again (.builtin id args)) _ _ s
 exact ay (FU hc (aZ (F5 (GC hq args) (jO hb h))))
theorem pY {Q:CB->Cz->Prop}(hl:(KR x).length<=640)(hn:Kx x=none)(hr:(reprText x).length<=sizeLine)(hh:A.handled=none)
  (h:∀h' tk e,Heap.NewExc s.heap h' e "ValueError"->E (.ref e) { s with heap:=h',toks:=tk }):wC (model prog w) A (call (.type "int") [.str x u]) Q E s:=by
 refine gF (cL ?_)
 show wC _ _ (callAny (.type "int") _) _ _ _
 refine aZ (F5 (G1 _ (by decide+kernel)) (jO JV ?_))
 obtain⟨K,hK⟩:=pZ x u;rw[hK];refine aP (bD (gF (ub G4.plain F.entry_int_new (F.newCall_int_1 _) ?_)))
 rw[tH];exact aP (rf hl hn hr (by exact hh) λh' tk e me=>h h' tk e me)
end
def zC (h:Heap)(C:CB)(e:Addr):Option Addr->Prop
 | none=> ∃oe vs,h.get? e=some oe/\oe.cls=C/\oe.data= .fields vs/\vs[1]? =some .none
 | some T=>T≠e/\∃oe vs,h.get? e=some oe/\oe.cls=C/\oe.data= .fields vs/\vs[1]? =some (.ref T)/\∃oT ts,h.get? T=some oT/\oT.data= .fields ts/\ts[3]? =some .none
structure pV (fs:List Addr)(C:CB)(e:Addr)(T:Option Addr)(h h':Heap)(T':Addr):Prop where
 flt:zC h' C e (some T')
 new:T=some T'\/h.get? T'=none
 keep:∀b o,b∉fs->b≠e->T≠some b->h.get? b=some o->h'.get? b=some o
 slot:∀b o,b∈fs->h.get? b=some o->∃sl,h'.get? b=some { o with slots:=sl }
section
variable {M:HB}{A:Dj}{E:CB->Cz->Prop}{s:Cz}
theorem yH {base:Heap}{env:Env}{outer:List Env}{L e:Addr}{C:CB}{T:Option Addr}{Q:Unit->Cz->Prop}(hfr:A.frames=some (env::outer))(hl:s.heap.FunFrames base (env::outer))(hf:env.frame=some L)
  (F:zC s.heap C e T) (h:∀h' T',pV ((env::outer).filterMap (·.frame)) C e T s.heap h' T'->Q () { s with heap:=h' }) :
  wpAny M A (FQ (.ref e) env) (λ_ s'=>wpAny M A (setFlight (.ref e) none) Q E s') E s:=by
 generalize hB:GF s.heap (e::(T.toList++(env::outer).filterMap (·.frame)))=B
 have bm:∀b,b∈e::(T.toList++(env::outer).filterMap (·.frame))->B.get? b=none:=λb m=>by rw[<-hB];exact FL _ m
 have hl':s.heap.FunFrames B (env::outer):=dt hl λa ha=>bm a (CH _ (C2 _ ha))
 have hst:B.StaysIn s.heap:=λb o q=>by rw[<-hB]at q;exact F2 _ q
 have hen:B.get? e=none:=bm e CL
 have main:∀h',Heap.Left B (env::outer) e C s.heap h'->Q () { s with heap:=h' }:=λh' ⟨x1,x2,⟨oe,vs,T',oT,ts,he,hc,hd,h1,hnT,hTe,hT,hdT,h3⟩,x4⟩=>by
  refine h h' T' ⟨⟨hTe,oe,vs,he,hc,hd,h1,oT,ts,hT,hdT,h3⟩,?_,λb o n1 n2 n3 q=> ?_,λb o m q=> ?_⟩
  ·cases q:s.heap.get? T' with
   | none=>exact .inr rfl
   | some o=>
    left
    by_cases z:T'∈e::(T.toList++(env::outer).filterMap (·.frame))
    ·rcases CO.mp z with z | z
     ·exact absurd z hTe
     ·rcases CU.mp z with z | z
      ·cases T with
       | none=>simp at z
       | some t=>simp at z;rw[z]
      ·obtain⟨_,o',ho',hnf⟩:=x2.mem z
       rw[hT]at ho';cases ho';exact absurd hdT (hnf ts)
    ·rw[<-hB,El _ q z]at hnT;cases hnT
  ·refine x1 b o ?_
   rw[<-hB];refine El _ q λz=> ?_
   rcases CO.mp z with z | z
   ·exact n2 z
   ·rcases CU.mp z with z | z
    ·cases T with
     | none=>simp at z
     | some t=>simp at z;exact n3 (by rw[z])
    ·exact n1 z
  ·obtain⟨_,o',ho',hnf⟩:=hl.mem m
   rw[q]at ho';cases ho';exact x4 b o q hnf
 cases T with
 | none=>
  obtain⟨oe,vs,he,hc,hd,h1⟩:=F;unfold FQ;simp only[hf];refine Cy (DV he hd h1 ?_)
  rw[if_neg (by decide)]
  refine Hi hfr hl' hf he hst hen hd (Di.mp h1).1 λh' x=>main h' ?_
  rw[hc]at x;exact x
 | some t=>
  obtain⟨hte,oe,vs,he,hc,hd,h1,oT,ts,hT,hdT,h3⟩:=F
  have hnT:B.get? t=none:=bm t (CH _ (DC _ (by simp)))
  unfold FQ;simp only[hf];refine Cy (DV he hd h1 ?_)
  rw[if_pos (show(Df t != C7)=true from by simp)]
  refine Cy (DV hT hdT h3 ?_)
  rw[if_neg (show ¬((C7 == rawInt L)=true)from by simp[rawInt])]
  refine Cy (Fp hT hdT (Di.mp h3).1 ?_)
  have other:∀b,b≠t->(s.heap.update t (ER (·.setIfInBounds 3 C7))).get? b=s.heap.get? b:=λb hb=>D6 _ _ (DG hb)
  have noRec:∀b o,s.heap.get? b=some o->(∀vs,o.data≠ .fields vs)->b≠t:=λb o hb hnf q=>by
   rw[q,hT]at hb;injection hb with hb;subst hb;exact hnf ts hdT
  refine Hi hfr (hl'.of_keeps λb o hb hnf=>⟨o,(other b (noRec b o hb hnf)).trans hb,rfl⟩) hf ((other e (DG hte)).trans he)
   (λb o hbo=>(other b λq=>by rw[q,hnT]at hbo;cases hbo).trans (hst b o hbo)) hen hd (Di.mp h1).1
   λh' x=>main h' ?_
  obtain⟨x1,x2,x3,x4⟩:=x;rw[hc]at x3;exact⟨x1,x2,x3,λb o hb hnf=>x4 b o ((other b (noRec b o hb hnf)).trans hb) hnf⟩
end
section
variable {X:Cx}{pins:List (Addr×Obj)}{σ:L2.St}{H:Hp}{s:Cz}{h':Heap}
theorem Inv.Ce {C:CB}{e T':Addr}{T:Option Addr}(I:Inv X pins σ H s)(hst:X.stack=X.env::X.outer)(hfe:X.env.frame=some X.env.locals)(hcl:∀x c,X.env.cells.lookup x≠some c)(hex:X.ex= [])
  (g:pV ((X.env::X.outer).filterMap (·.frame)) C e T s.heap h' T') (he:H e=none) (heo:X.s₀.heap.get? e=none) (hT:∀t,T=some t->H t=none/\X.s₀.heap.get? t=none) (hp:∀p∈X.pn++pins,p.1≠e/\T≠some p.1) :
  Inv X pins σ H { s with heap:=h' }:=by
 have mem:∀b,b∈(X.env::X.outer).filterMap (·.frame)↔b=X.env.locals\/b∈X.fs:=λb=>by
  rw[Dy,hfe];exact CO
 have out:∀b o,X.s₀.heap.get? b=some o->b≠X.env.locals:=λb o q z=>by
  have h1:=CN q
  have h2:=I.ok.above;rw[z]at h1;exact absurd (CS h1 h2) (C9 _)
 have ne:∀b o,X.s₀.heap.get? b=some o->b≠e/\T≠some b:=λb o q=>⟨λz=>(by subst z;rw[heo]at q;cases q),λz=>(by rw[(hT b z).2]at q;cases q)⟩
 have fr:∀b,b∈(X.env::X.outer).filterMap (·.frame)->H b=none:=λb z=>I.BQ b (by rw[hst];exact z)
 have keepH:∀b u,H b≠none->s.heap.get? b=some u->h'.get? b=some u:=λb u hb q=>by
  refine g.keep b u (λz=>hb (fr b z)) (λz=>hb (by rw[z];exact he)) (λz=>hb (hT b z).1) q
 refine⟨I.ok,I.os,I.bare,⟨λb o q n hb hx=> ?_,λb o q n hb hx=> ?_,I.base.free,λb o q hx=> ?_,I.base.tups,I.base.frzs,I.base.tbls⟩,?_,λx c z=>absurd z (hcl x c),I.free,I.freeC,λp hp'=> ?_,λa o q=> ?_,I.len⟩
 ·exact g.keep b o (λz=>((mem b).mp z).elim (out b o q) hb) (ne b o q).1 (ne b o q).2 (I.base.keep b o q n hb hx)
 ·obtain⟨sl,q1⟩:=I.base.slot b o q n hb hx
  obtain⟨sl',q2⟩:=g.slot b _ ((mem b).mpr (.inr hb)) q1;exact⟨sl',q2⟩
 ·obtain⟨o',q1⟩:=I.base.there b o q hx
  by_cases z:b∈(X.env::X.outer).filterMap (·.frame)
  ·obtain⟨sl,q2⟩:=g.slot b o' z q1
   exact⟨_,q2⟩
  ·exact⟨o',g.keep b o' z (ne b o q).1 (ne b o q).2 q1⟩
 ·obtain⟨m,⟨o,es,ep,ho,hd,r⟩,hl⟩:=I.loc
  obtain⟨sl,q2⟩:=g.slot X.env.locals o ((mem _).mpr (.inl rfl)) ho;refine⟨m,⟨_,es,ep,q2,hd,r⟩,λi x v a1 a2 a3=> ?_⟩
  obtain⟨u,ru,lk⟩:=hl i x v a1 a2 a3;refine⟨u,ru,?_⟩
  rcases lk with z | ⟨_,c,z,_⟩
  ·exact .inl z
  ·exact absurd z (hcl x c)
 ·obtain⟨b1,b2,b3,b4,b5⟩:=I.pin p hp'
  exact⟨g.keep p.1 p.2 (λz=>((mem _).mp z).elim b3 b4) (hp p hp').1 (hp p hp').2 b1,b2,b3,b4,b5⟩
 ·refine(I.hok a o q).BW (λb u hb z=>keepH b u ?_ z) (λ_ z=>z) λ_ _ z=>z
  rcases hb with rfl | hb
  ·rw[q];simp
  ·rw[hb];simp
end
theorem vY {X:Cx}{pins:List (Addr×Obj)}{σ1:L2.St}{H1:Hp}{s1:Cz}{C:CB}{e T':Addr}{T:Option Addr}{h':Heap}(hst:X.stack=X.env::X.outer)(hfe:X.env.frame=some X.env.locals)(hcl:∀x c,X.env.cells.lookup x≠some c)(hex:X.ex= [])(I1:Inv X pins σ1 H1 s1)(g:pV ((X.env::X.outer).filterMap (·.frame)) C e T s1.heap h' T')
  (he:H1 e=none) (heo:X.s₀.heap.get? e=none) (hT:∀t,T=some t->H1 t=none/\X.s₀.heap.get? t=none) (hpp:∀p∈X.pn++pins,p.1≠e/\T≠some p.1)
  {Pp:Prop} (kk:∀oe ev oT ts,h'.get? e=some oe->oe.cls=C->oe.data= .fields ev->ev[1]? =some (.ref T')->h'.get? T'=some oT->oT.data= .fields ts->3<ts.size->Inv (lV X e oe) pins σ1 H1 { s1 with heap:=h' }->e∉gx X.stack->Inv (lV X e oe) pins σ1 H1 { s1 with heap:=h'.update T' (ER (·.setIfInBounds 3 C7)) }->Pp):Pp:=by
 have I2:=Inv.Ce I1 hst hfe hcl hex g he heo hT hpp
 have Tn:H1 T'=none/\X.s₀.heap.get? T'=none/\∀p∈X.pn++pins,p.1≠T':=by
  rcases g.new with z | z
  ·exact⟨(hT T' z).1,(hT T' z).2,λp hp y=>(hpp p hp).2 (by rw[z,y])⟩
  ·exact⟨eW I1 z,eL I1 hex z,λp hp y=>by have:=(I1.pin p hp).1;rw[y,z]at this;cases this⟩
 obtain⟨hTe,oe,ev,hoe,hoc,hod,h1,oT,ts,hoT,hdT,h3⟩:=g.flt
 have nfr:∀b o vs,h'.get? b=some o->o.data= .fields vs->b∉(X.env::X.outer).filterMap (·.frame):=λb o vs hb hd z=>by
  have:=I2.stack;rw[hst]at this;obtain⟨_,o',ho',hnf⟩:=this.mem z;rw[show h'.get? b=some o' from ho']at hb
  cases hb;exact hnf vs hd
 have hel:e≠X.env.locals:=λz=>nfr e oe ev hoe hod (by rw[Dy,hfe];exact z▸CL)
 have hef:e∉X.fs:=λz=>nfr e oe ev hoe hod (by rw[Dy,hfe];exact CH _ z)
 have hcell:∀v,oe.data≠ .cell v:=λv z=>by rw[hod]at z;cases z
 have I3:Inv (lV X e oe) pins σ1 H1 { s1 with heap:=h' }:=i0 I2 hoe he hel hef hcell
 refine kk oe ev oT ts hoe hoc hod h1 hoT hdT (Di.mp h3).1 I3 (by rw[hst];exact nfr e oe ev hoe hod) ?_
 generalize hU:h'.update T' (ER (·.setIfInBounds 3 C7))=h2
 have kp:∀b,b≠T'->h2.get? b=h'.get? b:=λb hb=>by rw[<-hU];exact D6 _ _ (DG hb)
 have hT2:h2.get? T'=some (ER (·.setIfInBounds 3 C7) oT):=by rw[<-hU];exact DR _ hoT (EO (DM hdT _))
 have hoe2:h2.get? e=some oe:=(kp e (DG hTe)).trans hoe
 have g2:pV ((X.env::X.outer).filterMap (·.frame)) C e (some T') h' h2 T':=⟨⟨hTe,oe,ev,hoe2,hoc,hod,h1,_,_,hT2,DM hdT _,by simp[(Di.mp h3).1]⟩,.inl rfl,λb o _ _ n3 q=>(kp b λz=>n3 (by rw[z])).trans q,λb o m q=>⟨o.slots,(kp b λz=>nfr T' oT ts hoT hdT (z▸m)).trans q⟩⟩
 have I4:Inv X pins σ1 H1 { s1 with heap:=h2 }:=Inv.Ce (s:={ s1 with heap:=h' }) I2 hst hfe hcl hex g2 he heo (λt z=>by cases z;exact⟨Tn.1,Tn.2.1⟩) λp hp=>⟨(hpp p hp).1,λz=>Tn.2.2 p hp (Dr z).symm⟩
 exact i0 I4 hoe2 he hel hef hcell
theorem xB {prog:C4}{w:Du}{A:Dj}{E:CB->Cz->Prop}{s:Cz}{env:Env}{body:List Stmt}{h₀:ExceptHandler}{hs:List ExceptHandler}{pos:Pos}{Q:Flow->Cz->Prop}
  (h:wC (model prog w) A (execs body env) (λf s₁=>match f with | .next=>Q .next s₁ | f=>Q f s₁)
   (λe s₁=>wpAny (model prog w) A (FQ e env) (λ_ s₂=>wpAny (model prog w) A (setFlight e none) (λ_ s₃=>wpAny (model prog w) A (handleBy e env (h₀::hs)) Q E s₃) E s₂) E s₁) s) :
  wC (model prog w) A (exec (.Try body (h₀::hs) [] [] pos) env) Q E s:=by
 rw[arm_exec_Try];refine eR ?_
 unfold tryStmt;simp only[Km,if_true,JW,Ha,DL,if_false];refine aP (i9 (cV h (λf s₁ h₁=> ?_) λe s₁ h₁=> ?_))
 ·cases f <;> first | exact .of (FC h₁) | exact aZ h₁
 ·exact ay (DP h₁ (λ_ _ h₂=>ay (DP h₂ (λ_ _ h₃=> .of h₃) λ_ _ x=>x)) λ_ _ x=>x)
theorem rh {M:HB}{A:Dj}{E:CB->Cz->Prop}{s:Cz}{pos:Pos}{T:String}{args:List (Bool×Sem CB)}{Q:CB->Cz->Prop}(hplain:args.any (·.1)=false)
  (h:wC M A (Kv (.type T) true args []) (λa s₁=>wC M A (call (.type T) a.pos a.kw) Q E s₁) E s):wC M A (Kw pos (.type T) [] args []) Q E s:=by
 unfold Kw;refine aP (bD (fP h λa s₁ h₁=>eR ?_))
 simp only[hplain,List.any_nil,HI];refine ay (CD ?_)
 exact aP (fP h₁ λr s₂ hr=>ay (D0 (KQ (aZ hr))))
def il (x:EN):T:=match Kx x with
 | some n=> .int n
 | none=> .non
def lG:T->Rs T
 | .str x=>if x.length<=640/\x.cps.all (· <1114112)=true then .ok (il x)else .bad
 | _=> .bad
def qe (f:En->Rs T)(ρ:En):Rs Fl:=f ρ >>= λt=>lG t >>= λv=> .ok (.rt v)
theorem nX {x:EN}(h1:x.length<=640)(h2:x.cps.all (· <1114112)=true):(reprText x).length<=sizeLine:=by
 have h3:=StrLaws.reprText_len x λc hc=>by
  have:=Gf.mp h2 c (by simpa using hc)
  have:c<1114112:=by simpa using this
  exact CS this (by decide)
 rw[Ea];omega
theorem xO:IA (.type "ValueError") (.type "ValueError")=pure true:=by rw[EC];kernel_rfl
theorem xP:IA (.type "ValueError") (.type "BaseException")=pure true:=by rw[EC];kernel_rfl
theorem xN:IA (.type ((Manifest.find? "ValueError").elim "type" λx=>x.metatype)) (.type "tuple")=pure false:=by rw[EC];kernel_rfl
theorem xR {X:Cx}(i:Nat){j:Nat}{y:EN}{p1 p2 p3 p4 p5 p6 np hpos pos:Pos}(hst:X.stack=X.env::X.outer)(hfe:X.env.frame=some X.env.locals)(hcl:∀x c,X.env.cells.lookup x≠some c)(hex:X.ex= [])(hc:X.calm=true)
  (hmi:X.mg "int" =none) (hmv:X.mg "ValueError" =none) (hbi:Dh "int" =some (.type "int")) (hbv:Dh "ValueError" =some (.type "ValueError")) (hgi:Gl X "int") (hgv:Gl X "ValueError")
  (hN:X.N[i]? =some y) (hv:qK X.env.scope y) (hd:(y == ("__debug__" : EN))=false) (hcd:(y == ("__classdict__" : EN))=false) :
  zI X (.Try [.Return (some (.Call (.Name "int" p1) [.Name y p2] [] p3)) p4] [.ExceptHandler (some (.Name "ValueError" np)) none [.Return (some (.Constant .none j p5)) p6] hpos] [] [] pos) (qe (vr i)):=by
 intro pins s σ H D I ⟨ρ,B,M,E,hq⟩;unfold qe vr at hq
 have hh:X.A.handled=none:=I.ok.hd hc
 have hw:∃x,ρ[i]? =some (.va (.str x))/\(x.length<=640/\x.cps.all (· <1114112)=true)/\∀v H',SameO M.u H H'->Rep X.K B H' (il x) v->D.rt v H':=by
  split at hq
  ·rename_i t ht
   rw[aF]at hq;unfold lG at hq
   split at hq
   ·rename_i x
    split at hq
    ·rename_i hx;rw[aF]at hq;exact⟨x,ht,hx,hq⟩
    ·exact hq.elim
   ·exact hq.elim
  ·exact hq.elim
 obtain⟨x,hx,⟨h640,hall⟩,hD⟩:=hw;obtain⟨v,hs,rv⟩:=E.env.val i _ hx;cases Rep.BO.mp rv
 have rd:wpAny (model X.prog X.w) X.A (eval (.Name y p2) X.env) (λu s1=>s1=s/\∃t,u= .str x t) (λ_ _=>False) s:=by
  obtain⟨m,hn,hl⟩:=I.loc;obtain⟨u,r,l⟩:=hl i y _ hN hs hv
  have fin:(λu s1=>s1=s/\∃t,u=Eb x t) u s:=⟨rfl,r⟩
  rcases l with⟨hk,hm⟩ | ⟨hk,c,hc',hcell⟩
  ·exact JY (IL I.ok.kind hk hn hm fin) hd
  ·exact absurd hc' (hcl y c)
 refine xB (eI (ke (oJ (dA I hgi hmi hbi (rh rfl (oI (i7 (.of (DP rd (λu s1 h1=> ?_) λ_ _ z=>z.elim)))))))))
 obtain⟨rfl,t,rfl⟩:=h1;refine .of (FF ?_)
 show wC _ _ (call (.type "int") [.str x t] []) _ _ s1
 cases hi:Kx x with
 | some n=>
  have e:il x= .int n:=by unfold il;rw[hi]
  rw[e]at hD
  exact .of (W.KIN.call_text hi h640 ⟨.int n,σ,H,I.tok _,⟨_,rfl⟩,hD _ H (λ_ _ e _=>e) (Rep.BU n)⟩)
 | none=>
  have e:il x= .non:=by unfold il;rw[hi]
  rw[e]at hD
  have hse:(KR x).length<=640:=Dk (seen_length x) h640;refine pY hse hi (nX h640 hall) hh λh1 tk e me=> ?_
  obtain⟨ob,ta,hob,hcls,hdat⟩:=me.there
  have I1:Inv X pins σ H { s1 with heap:=h1,toks:=tk }:=I.kept me.keeps
  have he:H e=none:=eW I me.new
  have heo:X.s₀.heap.get? e=none:=eL I hex me.new
  have hfr:X.A.frames=some (X.env::X.outer):=by rw[<-hst];exact I.ok.frames
  have hstk:h1.FunFrames X.base (X.env::X.outer):=by have:=I1.stack;rw[hst]at this;exact this
  have fl:zC h1 (.type "ValueError") e none:=⟨ob,_,hob,hcls,hdat,rfl⟩;refine yH (s:={ s1 with heap:=h1,toks:=tk }) hfr hstk hfe fl λh2 T' g=> ?_
  refine vY hst hfe hcl hex I1 g he heo (λt z=>by cases z) (λp hp=>⟨λz=>(by have:=(I.pin p hp).1;rw[z,me.new]at this;cases this),λz=>by cases z⟩) λoe ev oT ts hoe hoc hod hv1 hoT hdT h3 I3 hnf I5=> ?_
  refine IZ (Iz (dA (X:=lV X e oe) I3 hgv hmv hbv ?_)) (by intro z;cases z)
  refine wpAny_excMatches_type (T:="ValueError") (X:="ValueError") ⟨oe,hoe,hoc⟩ xP xN xO ?_
  refine codeAny_handlers_suite ?_
  refine IM hoe hod hv1 hoT hdT h3 ?_
  refine HV (JZ (Constant_none ?_))
  exact⟨.non,σ,H,pB I.ok I5,rfl,hD _ H (λ_ _ e _=>e) Rep.B9⟩
theorem xE {X:Cx}(i:Nat){j:Nat}{y:EN}{p1 p2 p3 p4 p5 p6 np hpos pos:Pos}(hcl:∀x c,X.env.cells.lookup x≠some c)(hmi:X.mg "int" =none)(hmv:X.mg "ValueError" =none)(hst:autoParam (X.stack=X.env::X.outer) u_)(hfe:autoParam (X.env.frame=some X.env.locals) u_)(hex:autoParam (X.ex= []) u_)(hc:autoParam (X.calm=true) u_)
  (hbi:autoParam (Dh "int" =some (.type "int")) z_) (hbv:autoParam (Dh "ValueError" =some (.type "ValueError")) z_) (hgi:autoParam (Gl X "int") u_) (hgv:autoParam (Gl X "ValueError") u_)
  (hN:autoParam (X.N[i]? =some y) u_) (hv:autoParam (qK X.env.scope y) v_) (hd:autoParam ((y == DK "__debug__")=false) s_) (hcd:autoParam ((y == DK "__classdict__")=false) s_) :
  US X (.Try [.Return (some (.Call (.Name "int" p1) [.Name y p2] [] p3)) p4] [.ExceptHandler (some (.Name "ValueError" np)) none [.Return (some (.Constant .none j p5)) p6] hpos] [] [] pos) (qe (vr i)):=
 ⟨xR i hst hfe hcl hex hc hmi hmv hbi hbv hgi hgv hN hv hd hcd⟩
end Tr
namespace Tr
open PySem PySem.Spec PyProof.Rows L2
section
variable {X:Cx}{a b:Expr}{fa fb:En->Rs T}{apos cpos:Pos}
theorem mi (ha:QE X a fa)(hb:QE X b fb)(hn:autoParam (cI b=true) u_)(hbase:autoParam (FH a "split" X.env (eval a X.env)=eval a X.env) u_)(hline:autoParam ((apos.endLine == cpos.line)=true) u_) :
  QE X (.Call (.Attribute a "split" apos) [b] [] cpos) (oS ff fa (ae fb ah)):=⟨oY Gw F.type_str_split tY ha.h hb.h hn hbase hline⟩
theorem cT (ha:QE X a fa)(hb:QE X b fb)(hn:autoParam (cI b=true) u_)(hbase:autoParam (FH a "partition" X.env (eval a X.env)=eval a X.env) u_)(hline:autoParam ((apos.endLine == cpos.line)=true) u_) :
  QE X (.Call (.Attribute a "partition" apos) [b] [] cpos) (oS fx fa (ae fb ah)):=⟨oY IK F.type_str_partition wy ha.h hb.h hn hbase hline⟩
theorem jZ (ha:QE X a fa)(hb:QE X b fb)(hn:autoParam (cI b=true) u_)(hbase:autoParam (FH a "startswith" X.env (eval a X.env)=eval a X.env) u_)(hline:autoParam ((apos.endLine == cpos.line)=true) u_) :
  QE X (.Call (.Attribute a "startswith" apos) [b] [] cpos) (oS fQ fa (ae fb ah)):=⟨oY F.slot_str_startswith F.type_str_startswith qE ha.h hb.h hn hbase hline⟩
theorem iV (ha:QE X a fa)(hb:QE X b fb)(hn:autoParam (cI b=true) u_)(hbase:autoParam (FH a "join" X.env (eval a X.env)=eval a X.env) u_)(hline:autoParam ((apos.endLine == cpos.line)=true) u_) :
  QE X (.Call (.Attribute a "join" apos) [b] [] cpos) (oS eF fa (ae fb ah)):=⟨oY F.slot_str_join F.type_str_join wz ha.h hb.h hn hbase hline⟩
end
theorem uC {X:Cx}{a:Expr}{fs:En->Rs (List T)}{p p1 p2 pos:Pos}(hc:X.calm=true)(hm:X.mg "sorted" =none)(hms:X.mg "set" =none)(ha:QA X [a] fs)(hst:autoParam (a8 [a] =true) u_)(hg:autoParam (Gl X "sorted") u_)(hgs:autoParam (Gl X "set") u_) :
  QE X (.Call (.Name "sorted" p) [.Call (.Name "set" p1) [a] [] p2] [] pos) (cl kj fs):=⟨yh hc hm hms ha.h hst hg hgs⟩
end Tr
namespace G
open PySem PySem.Spec PyProof.Rows L2 Tr
structure Bl (mg:Str->Option CB):Prop where
 b_ValueError:mg "ValueError" =none
 b_all:mg "all" =none
 b_bool:mg "bool" =none
 b_enumerate:mg "enumerate" =none
 b_int:mg "int" =none
 b_isinstance:mg "isinstance" =none
 b_len:mg "len" =none
 b_range:mg "range" =none
 b_set:mg "set" =none
 b_sorted:mg "sorted" =none
 b_str:mg "str" =none
 b_tuple:mg "tuple" =none
structure Cs (mg:Str->Option CB):Prop where
 MOST_CLOCKS:∃t,mg "MOST_CLOCKS" =some (.int 4 t)
 MOST_LETTERS:∃t,mg "MOST_LETTERS" =some (.int 8 t)
 MOST_READINGS:∃t,mg "MOST_READINGS" =some (.int 4 t)
 LAST_READING:∃t,mg "LAST_READING" =some (.int 99 t)
 SLOWEST:∃t,mg "SLOWEST" =some (.int 9 t)
 LONGEST:∃t,mg "LONGEST" =some (.int 999 t)
theorem l4:Dh "bool" =some (.type "bool"):=by decide+kernel
theorem iK:Dh "int" =some (.type "int"):=by decide+kernel
theorem aJ:Dh "str" =some (.type "str"):=by decide+kernel
theorem cE:Dh "tuple" =some (.type "tuple"):=by decide+kernel
structure Xs (K:CA)(mg:Str->Option CB)(C_NoRecord C_NoEvent C_NoNumber C_NoWorld C_Barred C_Nothing C_NoText C_ClockError:Addr):Prop where
 m_NoRecord:mg "NoRecord" =some (.ref C_NoRecord)
 m_NoEvent:mg "NoEvent" =some (.ref C_NoEvent)
 m_NoNumber:mg "NoNumber" =some (.ref C_NoNumber)
 m_NoWorld:mg "NoWorld" =some (.ref C_NoWorld)
 m_Barred:mg "Barred" =some (.ref C_Barred)
 m_Nothing:mg "Nothing" =some (.ref C_Nothing)
 m_NoText:mg "NoText" =some (.ref C_NoText)
 m_ClockError:mg "ClockError" =some (.ref C_ClockError)
 o_NoRecord:OX K C_NoRecord (.ref C_ClockError::iM)
 o_NoEvent:OX K C_NoEvent (.ref C_ClockError::iM)
 o_NoNumber:OX K C_NoNumber (.ref C_ClockError::iM)
 o_NoWorld:OX K C_NoWorld (.ref C_ClockError::iM)
 o_Barred:OX K C_Barred (.ref C_ClockError::iM)
 o_Nothing:OX K C_Nothing (.ref C_ClockError::iM)
 o_NoText:OX K C_NoText (.ref C_ClockError::iM)
 o_ClockError:OX K C_ClockError iM
 d:[C_NoRecord,C_NoEvent,C_NoNumber,C_NoWorld,C_Barred,C_Nothing,C_NoText,C_ClockError].Nodup
abbrev bo:Stmt:=top 46
theorem aak:bq ["_law_e","_law_flags"] ["_law_e"] (aj bo):=⟨rfl,rfl,rfl,by decide+kernel,rfl,by decide+kernel,by decide+kernel⟩
def jl (j:Nat):T:=.tup [.str "refused",.int (j:Nat)]
def y0 (c:Str):Rs T:=if c= "NoRecord" then .ok (jl 0)else if c= "NoEvent" then .ok (jl 1)else if c= "NoNumber" then .ok (jl 2)else if c= "NoWorld" then .ok (jl 3)else if c= "Barred" then .ok (jl 4)else if c= "Nothing" then .ok (jl 5)else .bad
section
variable {P:C4}{w:Du}{K:CA}{mg:Str->Option CB}{base:Heap}{C_NoRecord C_NoEvent C_NoNumber C_NoWorld C_Barred C_Nothing C_NoText C_ClockError:Addr}
theorem Xs.ne {C D:Addr}(h:C≠D):(Df C::iM).contains (.ref D)=false:=by
 rw[Ef]
 have:(Df D == Df C)=false:=by rw[beq_eq_false_iff_ne];exact λz=>h (Jc z).symm
 rw[this];rfl
theorem rX {C e f:Addr}{oe:Obj}{ev:Array CB}{A:Dj}{outer:List Env}{s:Cz}{H:Hp}{Q:VK}{j:Nat}(S:Xs K mg C_NoRecord C_NoEvent C_NoNumber C_NoWorld C_Barred C_Nothing C_NoText C_ClockError)(OC:OX K C (.ref C_ClockError::iM))
  (hc:oe.cls= .ref C) (hd:oe.data= .fields ev) (hi:mg "isinstance" =none) (hv:mg "ValueError" =none) (n_NoRecord:C_ClockError≠C_NoRecord) (n_NoEvent:C_ClockError≠C_NoEvent) (n_NoNumber:C_ClockError≠C_NoNumber) (n_NoWorld:C_ClockError≠C_NoWorld) (n_Barred:C_ClockError≠C_Barred) (n_Nothing:C_ClockError≠C_Nothing)
  {b0 b1 b2 b3 b4 b5:Bool} (h0:decide (C=C_NoRecord)=b0) (h1:decide (C=C_NoEvent)=b1) (h2:decide (C=C_NoNumber)=b2) (h3:decide (C=C_NoWorld)=b3) (h4:decide (C=C_Barred)=b4) (h5:decide (C=C_Nothing)=b5)
  (cnt:[b0,b1,b2,b3,b4,b5].countP id=1) (hj:[b0,b1,b2,b3,b4,b5][j]? =some true) (hno:∀m,m<j->[b0,b1,b2,b3,b4,b5][m]? =some false)
  (q:∀p H',Same H H'->H p=none->H' p=some (.tup [.str "refused",.int (j:Nat)])->Q (.ref p) H') (cdv:CB) :
  ∃t,PSs (BD P w K mg base ["_law_e","_law_flags"] "_law_refused" (aj bo) f cdv A outer s H e oe) (ba bo) t/\t { nx:=λ_ _=>False,rt:=Q } (start ["_law_e","_law_flags"] [.ref e]) H:=by
 have nd:=aak.nd
 have hp:(e,oe)∈(BD P w K mg base ["_law_e","_law_flags"] "_law_refused" (aj bo) f cdv A outer s H e oe).pn:=CL
 refine⟨_,gL (sf (i:=1) nd rfl (HS rfl) (nZ (bu (ij rfl (HS rfl) hp hc hd OC S.o_NoRecord b0 h0 (λ_=>Xs.ne n_NoRecord) hi S.m_NoRecord) (bu (ij rfl (HS rfl) hp hc hd OC S.o_NoEvent b1 h1 (λ_=>Xs.ne n_NoEvent) hi S.m_NoEvent) (bu (ij rfl (HS rfl) hp hc hd OC S.o_NoNumber b2 h2 (λ_=>Xs.ne n_NoNumber) hi S.m_NoNumber) eK)))))
  (gL (sf (i:=1) nd rfl (HS rfl) (Az sI (pv 1) (nZ (bu (ij rfl (HS rfl) hp hc hd OC S.o_NoWorld b3 h3 (λ_=>Xs.ne n_NoWorld) hi S.m_NoWorld) (bu (ij rfl (HS rfl) hp hc hd OC S.o_Barred b4 h4 (λ_=>Xs.ne n_Barred) hi S.m_Barred) (bu (ij rfl (HS rfl) hp hc hd OC S.o_Nothing b5 h5 (λ_=>Xs.ne n_Nothing) hi S.m_Nothing) eK))))))
  (gL (w4 (PW.pt (wZ (vh AF (w6 HH PySem.F.slot_list_count PySem.F.type_list_count qo (pv 1) (bu sA eK)) n4 (yI _)) (r9 (se (sd (yr rfl (HS rfl) hp hc OC hi hv)))))) (dH sg) oZ)
  (dH (fE (sj (bu sk (bu (w6 HH PySem.F.slot_list_index PySem.F.type_list_index qm (pv 1) (bu sA eK)) eK))))))),?_⟩
 refine⟨rfl,rfl,rfl,(by show 3<=sizeLine;decide),λl1 n1=> ?_⟩
 refine⟨.ref l1,rfl,rfl,rfl,rfl,(by show 3<=sizeLine;decide),λl2 n2=> ?_⟩
 have ne21:l1≠l2:=λz=>by subst z;rw[aU]at n2;cases n2
 refine⟨l1,l2,[.bl b0,.bl b1,.bl b2],[.bl b3,.bl b4,.bl b5],rfl,rfl,by rw[aD ne21,aU],aU,(by show 3+3<=sizeLine;decide),λl3 n3=> ?_⟩
 refine⟨.ref l3,rfl,.inl ⟨rfl,_,SqL.of aU⟩,⟨l3,[b0,b1,b2,b3,b4,b5],rfl,rfl,aU,?_⟩⟩
 have hz:(!decide (V.int (([b0,b1,b2,b3,b4,b5].countP id:Nat):Int)=V.int 1))=false:=by rw[cnt];simp
 refine⟨rfl,false,congrArg V.bl hz,iteF ⟨rfl,true,rfl,iteF ?_⟩⟩
 have hj6:j<6:=by have:=(CW.mp hj).1;simpa using this
 refine⟨.ref l3,rfl,.inl ⟨rfl,_,SqL.of aU⟩,⟨l3,[b0,b1,b2,b3,b4,b5],j,rfl,rfl,aU,hj,hno,by omega,(by show 2<=sizeLine;decide),λp np=>q p _ ?_ ?_ aU⟩⟩
 rotate_left
 ·have m3:p≠l3:=λz=>by subst z;rw[aU]at np;cases np
  have m2:p≠l2:=λz=>by subst z;rw[aD m3,aU]at np;cases np
  have m1:p≠l1:=λz=>by subst z;rw[aD m3,aD m2,aU]at np;cases np
  rw[aD m3,aD m2,aD m1]at np;exact np
 intro b o hb
 have m1:b≠l1:=λz=>by subst z;rw[n1]at hb;cases hb
 have m2:b≠l2:=λz=>by subst z;rw[aD m1,hb]at n2;cases n2
 have m3:b≠l3:=λz=>by subst z;rw[aD m2,aD m1,hb]at n3;cases n3
 have m4:b≠p:=λz=>by subst z;rw[aD m3,aD m2,aD m1,hb]at np;cases np
 rw[aD m4,aD m3,aD m2,aD m1];exact hb
end
section
variable {X:Cx}{C_NoRecord C_NoEvent C_NoNumber C_NoWorld C_Barred C_Nothing C_NoText C_ClockError:Addr}
def tRC (X:Cx)(i:Nat)(e:Addr)(j:Nat):TE:=λσ H Q=>σ[i]? =some (some (.ref e))/\H e=none/\e∉gx X.stack/\∀p H',Same H H'->H p=none->H' p=some (.tup [.str "refused",.int (j:Nat)])->Q (.ref p) H'
theorem df {en:Str}{p p1 pos:Pos}{i j:Nat}{C e f:Addr}{fd:DB}{oe:Obj}{ev:Array CB}(hN:X.N[i]? =some en)(hv:qK X.env.scope en)
  (Fn_:Fn X.K X.mg "_law_refused" bo ["_law_e"] f fd) (S:Xs X.K X.mg C_NoRecord C_NoEvent C_NoNumber C_NoWorld C_Barred C_Nothing C_NoText C_ClockError) (OC:OX X.K C (.ref C_ClockError::iM))
  (hc:oe.cls= .ref C) (hd:oe.data= .fields ev) (hi:X.mg "isinstance" =none) (hvv:X.mg "ValueError" =none) (n_NoRecord:C_ClockError≠C_NoRecord) (n_NoEvent:C_ClockError≠C_NoEvent) (n_NoNumber:C_ClockError≠C_NoNumber) (n_NoWorld:C_ClockError≠C_NoWorld) (n_Barred:C_ClockError≠C_Barred) (n_Nothing:C_ClockError≠C_Nothing)
  {b0 b1 b2 b3 b4 b5:Bool} (h0:decide (C=C_NoRecord)=b0) (h1:decide (C=C_NoEvent)=b1) (h2:decide (C=C_NoNumber)=b2) (h3:decide (C=C_NoWorld)=b3) (h4:decide (C=C_Barred)=b4) (h5:decide (C=C_Nothing)=b5)
  (cnt:[b0,b1,b2,b3,b4,b5].countP id=1) (hj:[b0,b1,b2,b3,b4,b5][j]? =some true) (hno:∀m,m<j->[b0,b1,b2,b3,b4,b5][m]? =some false) (hr:X.A.depth+3<Fm)
  (hg:autoParam (Gl (lV X e oe) "_law_refused") u_) (hde:autoParam ((en == ("__debug__" : Str))=false) s_) (hce:autoParam ((en == ("__classdict__" : Str))=false) s_)
  (he:autoParam (CV [.Name en p1] X.env=(false,eval (.Name en p1) X.env)::CV [] X.env) u_) (hpl:autoParam ((backTo pos (CV [] X.env)).any (·.1)=false) u_) :
  PE (lV X e oe) (.Call (.Name "_law_refused" p) [.Name en p1] [] pos) (tRC X i e j):=by
 intro pins s σ H Q I ⟨hσ,hH,hf,q⟩;refine DO (fh (X:=lV X e oe) I hg Fn_.mg ?_ (by decide))
 have hA:PA (lV X e oe) [.Name en p1] (gH (rG i) rH):=bu (jm (X:=lV X e oe) hN hv hde hce) eK he;refine GY (h₀:=X.base) I.ok.mod.kin Fn_.fn.kp (bF (hA pos pins s σ H (λvs H'=>vs= [.ref e]/\H'=H) I ⟨.ref e,hσ,rfl,rfl⟩) λus s1 ⟨vs,H1,I1,r,e1,e2⟩=>⟨I1.kIn,?_⟩) he hpl
 subst e1;subst e2;obtain⟨u,rfl,ru⟩:=iC r;cases ru
 have hoe:s1.heap.get? e=some oe:=(I1.pin (e,oe) (DC _ CL)).1
 have hb:=Fn_.bd s1 [.ref e] I1.kIn rfl;refine J0 (G6 (y6 (Q:=Q) Fn_.fn aak (vs:=[.ref e]) rfl hr I1.B6 hb r hoe hH hf (λv z=>by rw[hd]at z;cases z) λcdv=>rX S OC hc hd hi hvv n_NoRecord n_NoEvent n_NoNumber n_NoWorld n_Barred n_Nothing h0 h1 h2 h3 h4 h5 cnt hj hno q cdv) λr s' hq=> ?_)
 cases r with
 | error ev=>exact hq.elim
 | ok fl=>
  cases fl with
  | ret u=>exact I1.after hq
  | next=>exact hq.elim
  | brk=>exact hq.elim
  | cont=>exact hq.elim
theorem fS {K:CA}{O:Ow}{H H':Hp}{p:Addr}{j:Nat}(hO:∀p,H p=none->¬ O p)(hp:H p=none)(h:H' p=some (.tup [.str "refused",.int (j:Nat)])):Rep K O H' (jl j) (.ref p):=
 Rep.BK.mpr ⟨p,_,rfl,hO p hp,h,Reps.BP (Rep.B3 _) (Reps.BP (Rep.BU _) Reps.BV)⟩
theorem rK {en:Str}{p p1 pos rp:Pos}{i:Nat}{f:Addr}{fd:DB}(hN:X.N[i]? =some en)(hv:qK X.env.scope en)
  (Fn_:Fn X.K X.mg "_law_refused" bo ["_law_e"] f fd) (S:Xs X.K X.mg C_NoRecord C_NoEvent C_NoNumber C_NoWorld C_Barred C_Nothing C_NoText C_ClockError) (hi:X.mg "isinstance" =none) (hvv:X.mg "ValueError" =none) (hr:X.A.depth+3<Fm)
  (hg:autoParam (∀e oe,Gl (lV X e oe) "_law_refused") x_) (hde:autoParam ((en == ("__debug__" : Str))=false) s_) (hce:autoParam ((en == ("__classdict__" : Str))=false) s_)
  (he:autoParam (CV [.Name en p1] X.env=(false,eval (.Name en p1) X.env)::CV [] X.env) u_) (hpl:autoParam ((backTo pos (CV [] X.env)).any (·.1)=false) u_) :
  l9 X i [.Return (some (.Call (.Name "_law_refused" p) [.Name en p1] [] pos)) rp] C_ClockError y0:=by
 have dd:=S.d
 have ap:∀{a b:Addr} (i j:Nat),i<j->[C_NoRecord,C_NoEvent,C_NoNumber,C_NoWorld,C_Barred,C_Nothing,C_NoText,C_ClockError][i]? =some a->[C_NoRecord,C_NoEvent,C_NoNumber,C_NoWorld,C_Barred,C_Nothing,C_NoText,C_ClockError][j]? =some b->a≠b:=λ{a b} i j hij ha hb z=>by
  have:=(List.getElem?_inj (CW.mp ha).1 dd).mp (ha.trans (z▸hb.symm))
  omega
 have hin:∀C:Addr,(Df C:: .ref C_ClockError::iM).contains (.ref C_ClockError)=true:=λC=>by rw[Ef,Ef,beq_self_eq_true,Bool.true_or,J6]
 have n_NoRecord:C_ClockError≠C_NoRecord:=(DG (ap 0 7 (by decide) rfl rfl))
 have n_NoEvent:C_ClockError≠C_NoEvent:=(DG (ap 1 7 (by decide) rfl rfl))
 have n_NoNumber:C_ClockError≠C_NoNumber:=(DG (ap 2 7 (by decide) rfl rfl))
 have n_NoWorld:C_ClockError≠C_NoWorld:=(DG (ap 3 7 (by decide) rfl rfl))
 have n_Barred:C_ClockError≠C_Barred:=(DG (ap 4 7 (by decide) rfl rfl))
 have n_Nothing:C_ClockError≠C_Nothing:=(DG (ap 5 7 (by decide) rfl rfl))
 intro c C t hm ht;unfold y0 at ht
 by_cases z0:c= "NoRecord"
 ·rw[if_pos z0]at ht
  cases ht;rw[z0,S.m_NoRecord]at hm;cases hm;refine⟨_,S.o_NoRecord,hin _,λe oe ev hc hd pins s σ H O Q I hH hf hσ hO q=> ?_⟩
  exact dH (fE (df hN hv Fn_ S S.o_NoRecord hc hd hi hvv n_NoRecord n_NoEvent n_NoNumber n_NoWorld n_Barred n_Nothing (b0:=true) (b1:=false) (b2:=false) (b3:=false) (b4:=false) (b5:=false) (by simp) (by rw[decide_eq_false (ap 0 1 (by decide) rfl rfl)]) (by rw[decide_eq_false (ap 0 2 (by decide) rfl rfl)]) (by rw[decide_eq_false (ap 0 3 (by decide) rfl rfl)]) (by rw[decide_eq_false (ap 0 4 (by decide) rfl rfl)]) (by rw[decide_eq_false (ap 0 5 (by decide) rfl rfl)]) (by decide) (j:=0) rfl (λm hm=>by omega) hr (hg e oe) hde hce he hpl)) pins s σ H _ I ⟨hσ,hH,hf,λp H' sm hp h=>q _ _ sm (fS hO hp h)⟩
 rw[if_neg z0]at ht
 by_cases z1:c= "NoEvent"
 ·rw[if_pos z1]at ht
  cases ht;rw[z1,S.m_NoEvent]at hm;cases hm;refine⟨_,S.o_NoEvent,hin _,λe oe ev hc hd pins s σ H O Q I hH hf hσ hO q=> ?_⟩
  exact dH (fE (df hN hv Fn_ S S.o_NoEvent hc hd hi hvv n_NoRecord n_NoEvent n_NoNumber n_NoWorld n_Barred n_Nothing (b0:=false) (b1:=true) (b2:=false) (b3:=false) (b4:=false) (b5:=false) (by rw[decide_eq_false (DG (ap 0 1 (by decide) rfl rfl))]) (by simp) (by rw[decide_eq_false (ap 1 2 (by decide) rfl rfl)]) (by rw[decide_eq_false (ap 1 3 (by decide) rfl rfl)]) (by rw[decide_eq_false (ap 1 4 (by decide) rfl rfl)]) (by rw[decide_eq_false (ap 1 5 (by decide) rfl rfl)]) (by decide) (j:=1) rfl (λm hm=>by match m,hm with | 0,_=>rfl) hr (hg e oe) hde hce he hpl)) pins s σ H _ I ⟨hσ,hH,hf,λp H' sm hp h=>q _ _ sm (fS hO hp h)⟩
 rw[if_neg z1]at ht
 by_cases z2:c= "NoNumber"
 ·rw[if_pos z2]at ht
  cases ht;rw[z2,S.m_NoNumber]at hm;cases hm;refine⟨_,S.o_NoNumber,hin _,λe oe ev hc hd pins s σ H O Q I hH hf hσ hO q=> ?_⟩
  exact dH (fE (df hN hv Fn_ S S.o_NoNumber hc hd hi hvv n_NoRecord n_NoEvent n_NoNumber n_NoWorld n_Barred n_Nothing (b0:=false) (b1:=false) (b2:=true) (b3:=false) (b4:=false) (b5:=false) (by rw[decide_eq_false (DG (ap 0 2 (by decide) rfl rfl))]) (by rw[decide_eq_false (DG (ap 1 2 (by decide) rfl rfl))]) (by simp) (by rw[decide_eq_false (ap 2 3 (by decide) rfl rfl)]) (by rw[decide_eq_false (ap 2 4 (by decide) rfl rfl)]) (by rw[decide_eq_false (ap 2 5 (by decide) rfl rfl)]) (by decide) (j:=2) rfl (λm hm=>by match m,hm with | 0,_=>rfl | 1,_=>rfl) hr (hg e oe) hde hce he hpl)) pins s σ H _ I ⟨hσ,hH,hf,λp H' sm hp h=>q _ _ sm (fS hO hp h)⟩
 rw[if_neg z2]at ht
 by_cases z3:c= "NoWorld"
 ·rw[if_pos z3]at ht
  cases ht;rw[z3,S.m_NoWorld]at hm;cases hm;refine⟨_,S.o_NoWorld,hin _,λe oe ev hc hd pins s σ H O Q I hH hf hσ hO q=> ?_⟩
  exact dH (fE (df hN hv Fn_ S S.o_NoWorld hc hd hi hvv n_NoRecord n_NoEvent n_NoNumber n_NoWorld n_Barred n_Nothing (b0:=false) (b1:=false) (b2:=false) (b3:=true) (b4:=false) (b5:=false) (by rw[decide_eq_false (DG (ap 0 3 (by decide) rfl rfl))]) (by rw[decide_eq_false (DG (ap 1 3 (by decide) rfl rfl))]) (by rw[decide_eq_false (DG (ap 2 3 (by decide) rfl rfl))]) (by simp) (by rw[decide_eq_false (ap 3 4 (by decide) rfl rfl)]) (by rw[decide_eq_false (ap 3 5 (by decide) rfl rfl)]) (by decide) (j:=3) rfl (λm hm=>by match m,hm with | 0,_=>rfl | 1,_=>rfl | 2,_=>rfl) hr (hg e oe) hde hce he hpl)) pins s σ H _ I ⟨hσ,hH,hf,λp H' sm hp h=>q _ _ sm (fS hO hp h)⟩
 rw[if_neg z3]at ht
 by_cases z4:c= "Barred"
 ·rw[if_pos z4]at ht
  cases ht;rw[z4,S.m_Barred]at hm;cases hm;refine⟨_,S.o_Barred,hin _,λe oe ev hc hd pins s σ H O Q I hH hf hσ hO q=> ?_⟩
  exact dH (fE (df hN hv Fn_ S S.o_Barred hc hd hi hvv n_NoRecord n_NoEvent n_NoNumber n_NoWorld n_Barred n_Nothing (b0:=false) (b1:=false) (b2:=false) (b3:=false) (b4:=true) (b5:=false) (by rw[decide_eq_false (DG (ap 0 4 (by decide) rfl rfl))]) (by rw[decide_eq_false (DG (ap 1 4 (by decide) rfl rfl))]) (by rw[decide_eq_false (DG (ap 2 4 (by decide) rfl rfl))]) (by rw[decide_eq_false (DG (ap 3 4 (by decide) rfl rfl))]) (by simp) (by rw[decide_eq_false (ap 4 5 (by decide) rfl rfl)]) (by decide) (j:=4) rfl (λm hm=>by match m,hm with | 0,_=>rfl | 1,_=>rfl | 2,_=>rfl | 3,_=>rfl) hr (hg e oe) hde hce he hpl)) pins s σ H _ I ⟨hσ,hH,hf,λp H' sm hp h=>q _ _ sm (fS hO hp h)⟩
 rw[if_neg z4]at ht
 by_cases z5:c= "Nothing"
 ·rw[if_pos z5]at ht
  cases ht;rw[z5,S.m_Nothing]at hm;cases hm;refine⟨_,S.o_Nothing,hin _,λe oe ev hc hd pins s σ H O Q I hH hf hσ hO q=> ?_⟩
  exact dH (fE (df hN hv Fn_ S S.o_Nothing hc hd hi hvv n_NoRecord n_NoEvent n_NoNumber n_NoWorld n_Barred n_Nothing (b0:=false) (b1:=false) (b2:=false) (b3:=false) (b4:=false) (b5:=true) (by rw[decide_eq_false (DG (ap 0 5 (by decide) rfl rfl))]) (by rw[decide_eq_false (DG (ap 1 5 (by decide) rfl rfl))]) (by rw[decide_eq_false (DG (ap 2 5 (by decide) rfl rfl))]) (by rw[decide_eq_false (DG (ap 3 5 (by decide) rfl rfl))]) (by rw[decide_eq_false (DG (ap 4 5 (by decide) rfl rfl))]) (by simp) (by decide) (j:=5) rfl (λm hm=>by match m,hm with | 0,_=>rfl | 1,_=>rfl | 2,_=>rfl | 3,_=>rfl | 4,_=>rfl) hr (hg e oe) hde hce he hpl)) pins s σ H _ I ⟨hσ,hH,hf,λp H' sm hp h=>q _ _ sm (fS hO hp h)⟩
 rw[if_neg z5]at ht;cases ht
end
end G
namespace G
open PySem Tr
def gi:En->Rs Fl:=
 (aL (cH (gz ah) (gN 1)) (aL (jk (iE (ae (vr 0) ah)) (gT 2 (ka (gN 2) (ka (gN 3) vV))) (cH (o2 ax (vr 1) (ej (iR (ae (cl c8 (ae (o2 a9 (vr 3) (cn (.int 2))) ah)) ah)) [none,some 2] (gN 0) bT (cB (ae (vr 1) (ae (vr 0) ah))))) (gN 1))) (aS (vr 1))))
def dm:List T->Rs T:=val 1 4 gi
def fO:En->Rs Fl:=
 (aL (gK (tb (o2 xk (vr 0) (gz ah))) (aS (o2 cO (cn (.int 7)) (vr 1))) sN) (aS (o2 ax (o2 a9 (vr 0) (o2 gv (vr 1) (cl c8 (ae (vr 0) ah)))) (o2 cO (cn (.int 6553)) (o2 gS (vr 1) (cl c8 (ae (vr 0) ah)))))))
def dw:List T->Rs T:=val 2 2 fO
def fv:En->Rs Fl:=
 (aL (cH (o2 gv (o2 ax (o2 cO (o2 gv (cl dw (ae (vr 0) (ae (vr 1) ah))) (cn (.int 2147483563))) (cn (.int 69069))) (o2 cO (cn (.int 104723)) (o2 ax (vr 1) (cn (.int 1))))) (cn (.int 2147483563))) (gN 3)) (aL (cH (o2 gv (o2 ax (o2 cO (vr 3) (vr 3)) (o2 gS (vr 3) (cn (.int 3)))) (cn (.int 2147483399))) (gN 3)) (aS (o2 gv (o2 gS (o2 gv (o2 ax (o2 cO (vr 3) (vr 3)) (o2 gS (vr 3) (cn (.int 7)))) (cn (.int 2147483647))) (cn (.int 11))) (vr 2)))))
def ar:List T->Rs T:=val 3 4 fv
def fN:En->Rs Fl:=
 (aL (cH (cB ah) (gN 2)) (aL (jk (iR (ae (o2 ax (cn (.int 1)) (cl ar (ae (vr 0) (ae (vr 1) (ae (cn (.int 4)) ah))))) ah)) (gN 3) (aL (cH (o2 ax (o2 ax (vr 1) (cn (.int 1))) (o2 cO (cn (.int 8)) (vr 3))) (gN 4)) (aL (cH (o2 ax (cn (.int 1)) (cl ar (ae (vr 0) (ae (vr 4) (ae (cn (.int 9)) ah))))) (gN 5)) (aL (cH (ej (iR (ae (o2 ax (cn (.int 1)) (cl ar (ae (vr 0) (ae (o2 ax (vr 4) (cn (.int 1))) (ae (cn (.int 4)) ah))))) ah)) [none,some 0,some 4] (gN 0) bT (cl ar (ae (vr 1) (ae (o2 ax (o2 ax (vr 2) (cn (.int 2))) (vr 0)) (ae (cn (.int 100)) ah))))) (gN 6)) (aL (cH (o2 ax (vr 5) (cl ar (ae (vr 0) (ae (o2 ax (vr 4) (cn (.int 7))) (ae (o2 gm (cn (.int 10)) (vr 5)) ah))))) (gN 7)) (cH (o2 ax (vr 2) (cB (ae (cB (ae (vr 5) (ae (vr 7) (ae (cl eJ (ae (cl kj (ae (vr 6) ah)) ah)) ah)))) ah))) (gN 2))))))) (aL (cH (cl dm (ae (vr 2) ah)) (gN 8)) (aL (cH (cB ah) (gN 9)) (aL (jk (iR (ae (o2 cO (cl ar (ae (vr 0) (ae (o2 ax (vr 1) (cn (.int 40))) (ae (cn (.int 9)) ah)))) (cl tI (ae (o2 BC (cl c8 (ae (vr 8) ah)) (cn (.int 1))) ah))) ah)) (gN 3) (aL (cH (o2 ax (o2 ax (vr 1) (cn (.int 41))) (o2 cO (cn (.int 6)) (vr 3))) (gN 4)) (aL (cH (cl ar (ae (vr 0) (ae (vr 4) (ae (cl c8 (ae (vr 8) ah)) ah)))) (gN 10)) (aL (cH (o2 gv (o2 ax (o2 ax (vr 10) (cn (.int 1))) (cl ar (ae (vr 0) (ae (o2 ax (vr 4) (cn (.int 1))) (ae (o2 gm (cl c8 (ae (vr 8) ah)) (cn (.int 1))) ah))))) (cl c8 (ae (vr 8) ah))) (gN 11)) (aL (cH (cl ar (ae (vr 0) (ae (o2 ax (vr 4) (cn (.int 2))) (ae (o2 a9 (gz (ae (cn (.int 10)) (ae (cn (.int 1000)) ah))) (cl ar (ae (vr 0) (ae (o2 ax (vr 4) (cn (.int 3))) (ae (cn (.int 2)) ah))))) ah)))) (gN 12)) (aL (cH (o2 a9 (gz (ae (cn .non) (ae (vr 12) (ae (cn (.int 999)) (ae (o2 ax (vr 12) (cl ar (ae (vr 0) (ae (o2 ax (vr 4) (cn (.int 5))) (ae (o2 gm (cn (.int 1000)) (vr 12)) ah))))) ah))))) (cl ar (ae (vr 0) (ae (o2 ax (vr 4) (cn (.int 4))) (ae (cn (.int 4)) ah))))) (gN 13)) (cH (o2 ax (vr 9) (cB (ae (cB (ae (o2 a9 (vr 8) (vr 10)) (ae (o2 a9 (vr 8) (vr 11)) (ae (vr 12) (ae (vr 13) ah))))) ah))) (gN 9)))))))) (aS (cB (ae (vr 2) (ae (vr 9) ah)))))))))
def eC:List T->Rs T:=val 2 14 fN
def kO:En->Rs Fl:=
 (aS (bR (o1 (uu "tuple") (vr 0)) (ch AS AS (vr 1) (cl c8 (ae (vr 0) ah)) (vr 2))))
def aA:List T->Rs T:=val 3 3 kO
def oB:En->Rs Fl:=
 (aS (bR (o1 (uu "int") (vr 0)) (o1 vI (o1 (uu "bool") (vr 0)))))
def fg:List T->Rs T:=val 1 1 oB
def fM:En->Rs Fl:=
 (aS (bR (cl fg (ae (vr 0) ah)) (ch AS AS (vr 1) (vr 0) (vr 2))))
def aQ:List T->Rs T:=val 3 3 fM
def iz:En->Rs Fl:=
 (aS (bR (cl aQ (ae (vr 0) (ae (cn (.int 1)) (ae (cn (.int 9)) ah)))) (cl aQ (ae (vr 1) (ae (vr 0) (ae (cn (.int 9)) ah))))))
def dO:List T->Rs T:=val 2 2 iz
def pW:En->Rs Fl:=
 (aS (cl kc (ae (ej (iR (ae (o2 gm (cl c8 (ae (vr 0) ah)) (cn (.int 1))) ah)) [none,some 0] (gN 0) bT (o2 ltT (o2 a9 (vr 1) (vr 0)) (o2 a9 (vr 1) (o2 ax (vr 0) (cn (.int 1)))))) ah)))
def fU:List T->Rs T:=val 1 1 pW
def c7:En->Rs Fl:=
 (aL (gK (dv (tb (cl aA (ae (vr 0) (ae (cn (.int 1)) (ae (cn (.int 4)) ah)))))) (aS (cn (.bl false))) sN) (aS (bR (cl kc (ae (ej (iS (vr 0)) [none] (gN 0) bT (cl aQ (ae (vr 0) (ae (cn (.int 0)) (ae (cn (.int 99)) ah))))) ah)) (cl fU (ae (vr 0) ah)))))
def bj:List T->Rs T:=val 1 1 c7
def fo:En->Rs Fl:=
 (aS (bR (cl aA (ae (vr 0) (ae (cn (.int 3)) (ae (cn (.int 3)) ah)))) (bR (cl dO (ae (o2 a9 (vr 0) (cn (.int 0))) (ae (o2 a9 (vr 0) (cn (.int 1))) ah))) (cl bj (ae (o2 a9 (vr 0) (cn (.int 2))) ah)))))
def b6:List T->Rs T:=val 1 1 fo
def ft:En->Rs Fl:=
 (aS (bR (cl aA (ae (vr 0) (ae (cn (.int 1)) (ae (cn (.int 4)) ah)))) (cl kc (ae (ej (iS (vr 0)) [none] (gN 0) bT (cl b6 (ae (vr 0) ah))) ah))))
def cj:List T->Rs T:=val 1 1 ft
def fk:En->Rs Fl:=
 (aL (gK (lj (dv (tb (cl aA (ae (vr 1) (ae (cn (.int 2)) (ae (cn (.int 2)) ah)))))) (dv (tb (cl aQ (ae (o2 a9 (vr 1) (cn (.int 0))) (ae (cn (.int 0)) (ae (o2 gm (cl c8 (ae (vr 0) ah)) (cn (.int 1))) ah))))))) (aS (cn (.bl false))) sN) (aS (cl aQ (ae (o2 a9 (vr 1) (cn (.int 1))) (ae (cn (.int 0)) (ae (o2 gm (cl c8 (ae (o2 a9 (o2 a9 (vr 0) (o2 a9 (vr 1) (cn (.int 0)))) (cn (.int 2))) ah)) (cn (.int 1))) ah))))))
def bZ:List T->Rs T:=val 2 2 fk
def fm:En->Rs Fl:=
 (aS (bR (cl aQ (ae (vr 0) (ae (cn (.int 0)) (ae (cn (.int 999)) ah)))) (AE (o2 j9 (vr 1) (cn .non)) (cl aQ (ae (vr 1) (ae (vr 0) (ae (cn (.int 999)) ah)))))))
def cK:List T->Rs T:=val 2 2 fm
def cQ:En->Rs Fl:=
 (aL (gK (lj (dv (tb (cl aA (ae (vr 1) (ae (cn (.int 4)) (ae (cn (.int 4)) ah)))))) (dv (tb (cl cK (ae (o2 a9 (vr 1) (cn (.int 2))) (ae (o2 a9 (vr 1) (cn (.int 3))) ah)))))) (aS (cn (.bl false))) sN) (aS (bR (cl bZ (ae (vr 0) (ae (o2 a9 (vr 1) (cn (.int 0))) ah))) (bR (cl bZ (ae (vr 0) (ae (o2 a9 (vr 1) (cn (.int 1))) ah))) (o2 oa (o2 a9 (vr 1) (cn (.int 0))) (o2 a9 (vr 1) (cn (.int 1))))))))
def br:List T->Rs T:=val 2 2 cQ
def eP:En->Rs Fl:=
 (aS (bR (cl aA (ae (vr 1) (ae (cn (.int 0)) (ae (cn (.int 8)) ah)))) (cl kc (ae (ej (iS (vr 1)) [none,some 0] (gN 0) bT (cl br (ae (vr 1) (ae (vr 0) ah)))) ah))))
def bU:List T->Rs T:=val 2 2 eP
def eH:En->Rs Fl:=
 (aS (bR (cl aA (ae (vr 0) (ae (cn (.int 2)) (ae (cn (.int 2)) ah)))) (bR (cl cj (ae (o2 a9 (vr 0) (cn (.int 0))) ah)) (cl bU (ae (o2 a9 (vr 0) (cn (.int 0))) (ae (o2 a9 (vr 0) (cn (.int 1))) ah))))))
def aI:List T->Rs T:=val 1 1 eH
def cG:En->Rs Fl:=
 (gK (dv (tb (cl aI (ae (vr 0) ah)))) (rS "NoRecord") sN)
def cA:List T->Rs T:=val 1 1 cG
def fq:En->Rs Fl:=
 (aL (cH (oS eF (cn (.str " ")) (ae (ej (iS (o2 a9 (vr 0) (cn (.int 2)))) [none] (gN 0) bT (cl bM (ae (vr 0) ah))) ah)) (gN 1)) (aS (o2 ax (o2 ax (o2 ax (o2 ax (o2 ax (o2 ax (cn (.str "clock ")) (cl bM (ae (o2 a9 (vr 0) (cn (.int 0))) ah))) (cn (.str "-"))) (cl bM (ae (o2 a9 (vr 0) (cn (.int 1))) ah))) (cn (.str " "))) (vr 1)) (cn (.str "\n")))))
def bg:List T->Rs T:=val 1 2 fq
def md:En->Rs Fl:=
 (aS (o2 ax (o2 ax (cl bM (ae (o2 a9 (vr 0) (cn (.int 0))) ah)) (cn (.str "."))) (cl bM (ae (o2 a9 (vr 0) (cn (.int 1))) ah))))
def bN:List T->Rs T:=val 1 1 md
def eO:En->Rs Fl:=
 (aL (cH (vU (tb (o2 j9 (o2 a9 (vr 0) (cn (.int 3))) (cn .non))) (cn (.str "")) (cl bM (ae (o2 a9 (vr 0) (cn (.int 3))) ah))) (gN 1)) (aS (o2 ax (o2 ax (o2 ax (o2 ax (o2 ax (o2 ax (o2 ax (o2 ax (cn (.str "letter ")) (cl bN (ae (o2 a9 (vr 0) (cn (.int 0))) ah))) (cn (.str " "))) (cl bN (ae (o2 a9 (vr 0) (cn (.int 1))) ah))) (cn (.str " "))) (cl bM (ae (o2 a9 (vr 0) (cn (.int 2))) ah))) (cn (.str "-"))) (vr 1)) (cn (.str "\n")))))
def a6:List T->Rs T:=val 1 2 eO
def cF:En->Rs Fl:=
 (aL (wX (cl cA (ae (vr 0) ah))) (aL (cH (ej (iS (o2 a9 (vr 0) (cn (.int 0)))) [none] (gN 0) bT (cl bg (ae (vr 0) ah))) (gN 1)) (aL (cH (ej (iS (o2 a9 (vr 0) (cn (.int 1)))) [none] (gN 0) bT (cl a6 (ae (vr 0) ah))) (gN 2)) (aS (oS eF (cn (.str "")) (ae (o2 ax (vr 1) (vr 2)) ah))))))
def bf:List T->Rs T:=val 1 3 cF
def nC:En->Rs Fl:=
 (mH (aS (cl bf (ae (vr 0) ah))) y0)
def b9:List T->Rs T:=val 1 2 nC
def nB:En->Rs Fl:=
 (qe (vr 0))
def bA:List T->Rs T:=val 1 1 nB
def c6:En->Rs Fl:=
 (aL (cH (oS fx (vr 0) (ae (vr 1) ah)) (gN 2)) (aS (cB (ae (cl bA (ae (o2 a9 (vr 2) (cn (.int 0))) ah)) (ae (cl bA (ae (o2 a9 (vr 2) (cn (.int 2))) ah)) ah)))))
def aV:List T->Rs T:=val 2 3 c6
def gB:En->Rs Fl:=
 (aL (cH (oS fx (vr 0) (ae (cn (.str " ")) ah)) (gN 1)) (aL (cH (ej (iS (oS ff (o2 a9 (vr 1) (cn (.int 2))) (ae (cn (.str " ")) ah))) [none] (gN 0) bT (cl bA (ae (vr 0) ah))) (gN 2)) (aS (o2 ax (cl aV (ae (o2 a9 (vr 1) (cn (.int 0))) (ae (cn (.str "-")) ah))) (cB (ae (cl eJ (ae (vr 2) ah)) ah))))))
def b7:List T->Rs T:=val 1 3 gB
def fL:En->Rs Fl:=
 (aL (cH (oS fx (vr 0) (ae (cn (.str " ")) ah)) (gN 1)) (aL (cH (oS fx (o2 a9 (vr 1) (cn (.int 2))) (ae (cn (.str " ")) ah)) (gN 2)) (aS (o2 ax (cB (ae (cl aV (ae (o2 a9 (vr 1) (cn (.int 0))) (ae (cn (.str ".")) ah))) (ae (cl aV (ae (o2 a9 (vr 2) (cn (.int 0))) (ae (cn (.str ".")) ah))) ah))) (cl aV (ae (o2 a9 (vr 2) (cn (.int 2))) (ae (cn (.str "-")) ah)))))))
def bL:List T->Rs T:=val 1 3 fL
def um:En->Rs Fl:=
 (aS (ej (iS (vr 0)) [none,some 1] (gN 0) (tb (oS fQ (vr 0) (ae (vr 1) ah))) (o2 a9 (oS fx (vr 0) (ae (cn (.str " ")) ah)) (cn (.int 2)))))
def b8:List T->Rs T:=val 2 2 um
def eM:En->Rs Fl:=
 (aL (gK (dv (tb (o1 (uu "str") (vr 0)))) (rS "NoText") sN) (aL (cH (oS ff (vr 0) (ae (cn (.str "\n")) ah)) (gN 1)) (aL (cH (ej (iS (cl b8 (ae (vr 1) (ae (cn (.str "clock ")) ah)))) [none] (gN 0) bT (cl b7 (ae (vr 0) ah))) (gN 2)) (aL (cH (ej (iS (cl b8 (ae (vr 1) (ae (cn (.str "letter ")) ah)))) [none] (gN 0) bT (cl bL (ae (vr 0) ah))) (gN 3)) (aL (cH (cB (ae (cl eJ (ae (vr 2) ah)) (ae (cl eJ (ae (vr 3) ah)) ah))) (gN 4)) (aL (gK (lj (dv (tb (cl aI (ae (vr 4) ah)))) (tb (o2 oa (cl bf (ae (vr 4) ah)) (vr 0)))) (rS "NoText") sN) (aS (vr 4))))))))
def cz:List T->Rs T:=val 1 5 eM
def uk:En->Rs Fl:=
 (aL (cH (cl eC (ae (vr 0) (ae (cn (.int 0)) ah))) (gN 1)) (aL (cH (cn (.str "")) (gN 2)) (aL (jk (iS (o2 a9 (vr 1) (cn (.int 0)))) (gT 3 (ka (gN 3) (ka (gN 4) (ka (gN 5) vV)))) (cH (o2 ax (o2 ax (o2 ax (o2 ax (o2 ax (o2 ax (vr 2) (cn (.str "clock "))) (cl bM (ae (vr 3) ah))) (cn (.str "-"))) (cl bM (ae (vr 4) ah))) (oS eF (cn (.str "")) (ae (ej (iS (vr 5)) [none] (gN 0) bT (o2 ax (cn (.str " ")) (cl bM (ae (vr 0) ah)))) ah))) (cn (.str "\n"))) (gN 2))) (aL (jk (iS (o2 a9 (vr 1) (cn (.int 1)))) (gT 4 (ka (gN 6) (ka (gN 7) (ka (gN 8) (ka (gN 9) vV))))) (aL (cH (gz (ae (o2 ax (o2 ax (cl bM (ae (o2 a9 (vr 6) (cn (.int 0))) ah)) (cn (.str "."))) (cl bM (ae (o2 a9 (vr 6) (cn (.int 1))) ah))) (ae (o2 ax (o2 ax (cl bM (ae (o2 a9 (vr 7) (cn (.int 0))) ah)) (cn (.str "."))) (cl bM (ae (o2 a9 (vr 7) (cn (.int 1))) ah))) ah))) (gN 10)) (cH (o2 ax (o2 ax (o2 ax (o2 ax (o2 ax (o2 ax (o2 ax (vr 2) (cn (.str "letter "))) (oS eF (cn (.str " ")) (ae (vr 10) ah))) (cn (.str " "))) (cl bM (ae (vr 8) ah))) (cn (.str "-"))) (vU (tb (o2 j9 (vr 9) (cn .non))) (cn (.str "")) (cl bM (ae (vr 9) ah)))) (cn (.str "\n"))) (gN 2)))) (aL (gK (lj (dv (tb (cl aI (ae (vr 1) ah)))) (lj (tb (o2 oa (cl b9 (ae (vr 1) ah)) (vr 2))) (tb (o2 oa (cl cz (ae (vr 2) ah)) (vr 1))))) (aS (cn (.bl false))) sN) (aL (cH (o2 a9 (gz (ae (cn .non) (ae (sl (vr 1) pN (pS (cn (.int 1)))) (ae (o1 rW (vr 1)) (ae (cB (ae (o2 a9 (vr 1) (cn (.int 0))) (ae (cn .non) ah))) (ae (o2 ax (vr 1) (cB (ae (cB ah) ah))) ah)))))) (cl ar (ae (vr 0) (ae (cn (.int 120)) (ae (cn (.int 5)) ah))))) (gN 11)) (aS (o2 xk (cl b9 (ae (vr 11) ah)) (cB (ae (cn (.str "refused")) (ae (cn (.int 0)) ah)))))))))))
def m_law:List T->Rs T:=val 1 12 uk
end G
namespace G
open PySem PySem.Spec PyProof.Rows L2 Tr
section
variable (P:C4)(w:Du){K:CA}{mg:Str->Option CB}(base:Heap)
abbrev fD:Stmt:=top 45
abbrev fG:List Str:=["_law_clocks","_law_found","_law_number","_law_clock"]
theorem ju (F:gh K mg "_law_events" fD ["_law_clocks"])(B:Bl mg):Cl P w K mg base 1 "_law_events" 1 dm:=
 bp fG F λd f c A o s H E hr x=>(by(apply aE;exact(aK (g9 ag) (au 1 d));apply aE;exact(gE rfl (qW B.b_enumerate (ai (af 0) ag)) (kQ rfl (cg (au 2 d) (cg (au 3 d) i5))) (aB (aK (aq aw (af 1) (fA ["_law_place","_law_number"] fG fD (dP B.b_range (ai (dQ ee B.b_len Gk (ai (aG (af 3) ak) ag)) ag)) (λd _ _ _ _ _=>⟨(au 0 d),bJ,(cS (ai (af 1) (ai (af 0) ag)))⟩))) (au 1 d))));exact aB (aO (af 1))))
abbrev k7:Stmt:=top 42
theorem lB (F:gh K mg "_law_cell" k7 ["_law_script","_law_k"])(B:Bl mg):Cl P w K mg base 1 "_law_cell" 2 dw:=
 bp ["_law_script","_law_k"] F λd f c A o s H E hr x=>(aE (gj (gD (w8 (qz hr)) (af 0) (g9 ag)) (aB (aO (aq dI ak (af 1)))) eu) (aB (aO (aq aw (aG (af 0) (aq gp (af 1) (dQ ee B.b_len Gk (ai (af 0) ag)))) (aq dI ak (aq iZ (af 1) (dQ ee B.b_len Gk (ai (af 0) ag))))))))
abbrev j1:Stmt:=top 43
theorem j7 (F:gh K mg "_law_drawn" j1 ["_law_script","_law_k","_law_many"])(aal:Cl P w K mg base 1 "_law_cell" 2 dw):Cl P w K mg base 2 "_law_drawn" 3 ar:=
 bp ["_law_script","_law_k","_law_many","_law_cell_here"] F λd f c A o s H E hr x=>(by(apply aE;exact(aK (aq gp (aq aw (aq dI (aq gp (bc aal hr (ai (af 0) (ai (af 1) ag))) ak) ak) (aq dI ak (aq aw (af 1) ak))) ak) (au 3 d));apply aE;exact(aK (aq gp (aq aw (aq dI (af 3) (af 3)) (aq iZ (af 3) ak)) ak) (au 3 d));exact aB (aO (aq gp (aq iZ (aq gp (aq aw (aq dI (af 3) (af 3)) (aq iZ (af 3) ak)) ak) ak) (af 2)))))
abbrev gJ:Stmt:=top 44
abbrev gM:List Str:=["_law_script","_law_at","_law_clocks","_law_k","_law_here","_law_slow","_law_readings","_law_fast","_law_row","_law_letters","_law_place","_law_other","_law_least","_law_most"]
theorem lz (F:gh K mg "_law_wide" gJ ["_law_script","_law_at"])(aac:Cl P w K mg base 1 "_law_events" 1 dm)(aa0:Cl P w K mg base 2 "_law_drawn" 3 ar)(B:Bl mg):Cl P w K mg base 3 "_law_wide" 2 eC:=
 bp gM F λd f c A o s H E hr x=>(by(apply aE;exact(aK (cS ag) (au 2 d));apply aE;exact(gE rfl (dP B.b_range (ai (aq aw ak (bc aa0 hr (ai (af 0) (ai (af 1) (ai ak ag))))) ag)) (au 3 d) (by(apply aE;exact(aK (aq aw (aq aw (af 1) ak) (aq dI ak (af 3))) (au 4 d));apply aE;exact(aK (aq aw ak (bc aa0 hr (ai (af 0) (ai (af 4) (ai ak ag))))) (au 5 d));apply aE;exact(nJ 6 (N':=["_law_j","_law_script","_law_here"]) (src:=[none,some 0,some 4]) rfl (LcScope.by (N:=gM) (names:=(aj gJ).names) rfl rfl rfl (by decide+kernel)) (dP B.b_range (ai (aq aw ak (bc aa0 hr (ai (af 0) (ai (aq aw (af 4) ak) (ai ak ag))))) ag)) (λ_ _ _ _ _=>⟨(au 0 (show F0 (["_law_j","_law_script","_law_here"]:List Str)by decide+kernel)),bJ,(bc aa0 hr (ai (af 1) (ai (aq aw (aq aw (af 2) ak) (af 0)) (ai ak ag))))⟩) d);apply aE;exact(aK (aq aw (af 5) (bc aa0 hr (ai (af 0) (ai (aq aw (af 4) ak) (ai (aq ik ak (af 5)) ag))))) (au 7 d));exact aB (aK (aq aw (af 2) (cS (ai (cS (ai (af 5) (ai (af 7) (ai (cy gU B.b_tuple cE (ai (uC rfl B.b_sorted B.b_set (ai (af 6) ag)) ag)) ag)))) ag))) (au 2 d)))));apply aE;exact(aK (bc aac hr (ai (af 2) ag)) (au 8 d));apply aE;exact(aK (cS ag) (au 9 d));apply aE;exact(gE rfl (dP B.b_range (ai (aq dI (bc aa0 hr (ai (af 0) (ai (aq aw (af 1) ak) (ai ak ag)))) (cy zu B.b_int iK (ai (i6 AD (dQ ee B.b_len Gk (ai (af 8) ag)) ak) ag))) ag)) (au 3 d) (by(apply aE;exact(aK (aq aw (aq aw (af 1) ak) (aq dI ak (af 3))) (au 4 d));apply aE;exact(aK (bc aa0 hr (ai (af 0) (ai (af 4) (ai (dQ ee B.b_len Gk (ai (af 8) ag)) ag)))) (au 10 d));apply aE;exact(aK (aq gp (aq aw (aq aw (af 10) ak) (bc aa0 hr (ai (af 0) (ai (aq aw (af 4) ak) (ai (aq ik (dQ ee B.b_len Gk (ai (af 8) ag)) ak) ag))))) (dQ ee B.b_len Gk (ai (af 8) ag))) (au 11 d));apply aE;exact(aK (bc aa0 hr (ai (af 0) (ai (aq aw (af 4) ak) (ai (aG (g9 (ai ak (ai ak ag))) (bc aa0 hr (ai (af 0) (ai (aq aw (af 4) ak) (ai ak ag))))) ag)))) (au 12 d));apply aE;exact(aK (aG (g9 (ai g8 (ai (af 12) (ai ak (ai (aq aw (af 12) (bc aa0 hr (ai (af 0) (ai (aq aw (af 4) ak) (ai (aq ik ak (af 12)) ag))))) ag))))) (bc aa0 hr (ai (af 0) (ai (aq aw (af 4) ak) (ai ak ag))))) (au 13 d));exact aB (aK (aq aw (af 9) (cS (ai (cS (ai (aG (af 8) (af 10)) (ai (aG (af 8) (af 11)) (ai (af 12) (ai (af 13) ag))))) ag))) (au 9 d)))));exact aB (aO (cS (ai (af 2) (ai (af 9) ag))))))
abbrev nQ:Stmt:=top 18
theorem n9 (F:gh K mg "is_long" nQ ["thing","least","most"])(B:Bl mg):Cl P w K mg base 1 "is_long" 3 aA:=
 bp ["thing","least","most"] F λd f c A o s H E hr x=>(aB (aO (cU (oC B.b_isinstance B.b_tuple cE (af 0)) (dz (mm o9 o9 (af 1) (dQ ee B.b_len Gk (ai (af 0) ag)) (af 2))))))
abbrev mz:Stmt:=top 16
theorem mM (F:gh K mg "is_whole" mz ["thing"])(B:Bl mg):Cl P w K mg base 1 "is_whole" 1 fg:=
 bp ["thing"] F λd f c A o s H E hr x=>(aB (aO (cU (oC B.b_isinstance B.b_int iK (af 0)) (dz (xy (oC B.b_isinstance B.b_bool l4 (af 0)))))))
abbrev kX:Stmt:=top 17
theorem lu (F:gh K mg "is_within" kX ["thing","least","most"])(aap:Cl P w K mg base 1 "is_whole" 1 fg):Cl P w K mg base 2 "is_within" 3 aQ:=
 bp ["thing","least","most"] F λd f c A o s H E hr x=>(aB (aO (cU (bc aap hr (ai (af 0) ag)) (dz (mm o9 o9 (af 1) (af 0) (af 2))))))
abbrev nP:Stmt:=top 21
theorem n6 (F:gh K mg "is_pace" nP ["slow","fast"])(aa2:Cl P w K mg base 2 "is_within" 3 aQ)(C:Cs mg):Cl P w K mg base 3 "is_pace" 2 dO:=
 bp ["slow","fast"] F λd f c A o s H E hr x=>(aB (aO (cU (bc aa2 hr (ai (af 0) (ai ak (ai (mj C.SLOWEST) ag)))) (dz (bc aa2 hr (ai (af 1) (ai (af 0) (ai (mj C.SLOWEST) ag))))))))
abbrev my:Stmt:=top 19
abbrev mU:List Str:=["numbers"]
theorem sL (F:gh K mg "rises" my ["numbers"])(B:Bl mg):Cl P w K mg base 1 "rises" 1 fU:=
 bp mU F λd f c A o s H E hr x=>(aB (aO (dQ (lX rfl) B.b_all boot_all (ai (fA ["k","numbers"] mU my (dP B.b_range (ai (aq ik (dQ ee B.b_len Gk (ai (af 0) ag)) ak) ag)) (λd _ _ _ _ _=>⟨(au 0 d),bJ,(i6 AB (aG (af 1) (af 0)) (aG (af 1) (aq aw (af 0) ak)))⟩)) ag))))
abbrev fw:Stmt:=top 20
abbrev fy:List Str:=["thing"]
theorem iN (F:gh K mg "are_readings" fw ["thing"])(aa1:Cl P w K mg base 1 "is_long" 3 aA)(aav:Cl P w K mg base 1 "rises" 1 fU)(aa2:Cl P w K mg base 2 "is_within" 3 aQ)(B:Bl mg)(C:Cs mg):Cl P w K mg base 3 "are_readings" 1 bj:=
 bp fy F λd f c A o s H E hr x=>(aE (gj (dG (dk (bc aa1 hr (ai (af 0) (ai ak (ai (mj C.MOST_READINGS) ag)))))) (aB (aO oE)) eu) (aB (aO (cU (dQ (lX rfl) B.b_all boot_all (ai (fA ["part"] fy fw (cf (af 0)) (λd _ _ _ _ _=>⟨(au 0 d),bJ,(bc aa2 hr (ai (af 0) (ai ak (ai (mj C.LAST_READING) ag))))⟩)) ag)) (dz (bc aav hr (ai (af 0) ag)))))))
abbrev mE:Stmt:=top 22
theorem mQ (F:gh K mg "is_clock" mE ["thing"])(aa1:Cl P w K mg base 1 "is_long" 3 aA)(aau:Cl P w K mg base 3 "is_pace" 2 dO)(aaa:Cl P w K mg base 3 "are_readings" 1 bj):Cl P w K mg base 4 "is_clock" 1 b6:=
 bp ["thing"] F λd f c A o s H E hr x=>(aB (aO (cU (bc aa1 hr (ai (af 0) (ai ak (ai ak ag)))) (cU (bc aau hr (ai (aG (af 0) ak) (ai (aG (af 0) ak) ag))) (dz (bc aaa hr (ai (aG (af 0) ak) ag)))))))
abbrev gc:Stmt:=top 23
abbrev gf:List Str:=["thing"]
theorem j6 (F:gh K mg "are_clocks" gc ["thing"])(aa1:Cl P w K mg base 1 "is_long" 3 aA)(aaq:Cl P w K mg base 4 "is_clock" 1 b6)(B:Bl mg)(C:Cs mg):Cl P w K mg base 5 "are_clocks" 1 cj:=
 bp gf F λd f c A o s H E hr x=>(aB (aO (cU (bc aa1 hr (ai (af 0) (ai ak (ai (mj C.MOST_CLOCKS) ag)))) (dz (dQ (lX rfl) B.b_all boot_all (ai (fA ["part"] gf gc (cf (af 0)) (λd _ _ _ _ _=>⟨(au 0 d),bJ,(bc aaq hr (ai (af 0) ag))⟩)) ag))))))
abbrev mB:Stmt:=top 24
theorem mO (F:gh K mg "is_event" mB ["clocks","thing"])(aa2:Cl P w K mg base 2 "is_within" 3 aQ)(aa1:Cl P w K mg base 1 "is_long" 3 aA)(B:Bl mg):Cl P w K mg base 3 "is_event" 2 bZ:=
 bp ["clocks","thing"] F λd f c A o s H E hr x=>(aE (gj (qR (nI (dG (dk (bc aa1 hr (ai (af 1) (ai ak (ai ak ag)))))) (kP (dG (dk (bc aa2 hr (ai (aG (af 1) ak) (ai ak (ai (aq ik (dQ ee B.b_len Gk (ai (af 0) ag)) ak) ag))))))))) (aB (aO oE)) eu) (aB (aO (bc aa2 hr (ai (aG (af 1) ak) (ai ak (ai (aq ik (dQ ee B.b_len Gk (ai (aG (aG (af 0) (aG (af 1) ak)) ak) ag)) ak) ag)))))))
abbrev mC:Stmt:=top 25
theorem mP (F:gh K mg "is_delay" mC ["least","most"])(aa2:Cl P w K mg base 2 "is_within" 3 aQ)(C:Cs mg):Cl P w K mg base 3 "is_delay" 2 cK:=
 bp ["least","most"] F λd f c A o s H E hr x=>(aB (aO (cU (bc aa2 hr (ai (af 0) (ai ak (ai (mj C.LONGEST) ag)))) (dz (zJ (i6 sG (af 1) g8) (dz (bc aa2 hr (ai (af 1) (ai (af 0) (ai (mj C.LONGEST) ag))))))))))
abbrev kZ:Stmt:=top 26
theorem ly (F:gh K mg "is_letter" kZ ["clocks","thing"])(aah:Cl P w K mg base 3 "is_event" 2 bZ)(aa1:Cl P w K mg base 1 "is_long" 3 aA)(aar:Cl P w K mg base 3 "is_delay" 2 cK):Cl P w K mg base 4 "is_letter" 2 br:=
 bp ["clocks","thing"] F λd f c A o s H E hr x=>(aE (gj (qR (nI (dG (dk (bc aa1 hr (ai (af 1) (ai ak (ai ak ag)))))) (kP (dG (dk (bc aar hr (ai (aG (af 1) ak) (ai (aG (af 1) ak) ag)))))))) (aB (aO oE)) eu) (aB (aO (cU (bc aah hr (ai (af 0) (ai (aG (af 1) ak) ag))) (cU (bc aah hr (ai (af 0) (ai (aG (af 1) ak) ag))) (dz (i6 (o8 (qz hr)) (aG (af 1) ak) (aG (af 1) ak))))))))
abbrev fB:Stmt:=top 27
abbrev fF:List Str:=["clocks","thing"]
theorem jt (F:gh K mg "are_letters" fB ["clocks","thing"])(aa1:Cl P w K mg base 1 "is_long" 3 aA)(aam:Cl P w K mg base 4 "is_letter" 2 br)(B:Bl mg)(C:Cs mg):Cl P w K mg base 5 "are_letters" 2 bU:=
 bp fF F λd f c A o s H E hr x=>(aB (aO (cU (bc aa1 hr (ai (af 1) (ai ak (ai (mj C.MOST_LETTERS) ag)))) (dz (dQ (lX rfl) B.b_all boot_all (ai (fA ["part","clocks"] fF fB (cf (af 1)) (λd _ _ _ _ _=>⟨(au 0 d),bJ,(bc aam hr (ai (af 1) (ai (af 0) ag)))⟩)) ag))))))
abbrev kY:Stmt:=top 28
theorem lx (F:gh K mg "is_record" kY ["thing"])(aa1:Cl P w K mg base 1 "is_long" 3 aA)(aai:Cl P w K mg base 5 "are_clocks" 1 cj)(aad:Cl P w K mg base 5 "are_letters" 2 bU):Cl P w K mg base 6 "is_record" 1 aI:=
 bp ["thing"] F λd f c A o s H E hr x=>(aB (aO (cU (bc aa1 hr (ai (af 0) (ai ak (ai ak ag)))) (cU (bc aai hr (ai (aG (af 0) ak) ag)) (dz (bc aad hr (ai (aG (af 0) ak) (ai (aG (af 0) ak) ag))))))))
abbrev jf:Stmt:=top 29
theorem jq (F:gh K mg "need_record" jf ["thing"])(aa4:Cl P w K mg base 6 "is_record" 1 aI){C_NoRecord C_NoEvent C_NoNumber C_NoWorld C_Barred C_Nothing C_NoText C_ClockError:Addr}(S:Xs K mg C_NoRecord C_NoEvent C_NoNumber C_NoWorld C_Barred C_Nothing C_NoText C_ClockError):Cl P w K mg base 7 "need_record" 1 cA:=
 bp ["thing"] F λd f c A o s H E hr x=>(aB (gj (dG (dk (bc aa4 hr (ai (af 0) ag)))) (aB (g7 S.o_NoRecord S.m_NoRecord)) eu))
abbrev gb:Stmt:=top 31
abbrev gd:List Str:=["clock","readings"]
theorem j5 (F:gh K mg "clock_text" gb ["clock"])(B:Bl mg):Cl P w K mg base 1 "clock_text" 1 bg:=
 bp gd F λd f c A o s H E hr x=>(aE (aK (iV aH (fA ["reading"] gd gb (cf (aG (af 0) ak)) (λd _ _ _ _ _=>⟨(au 0 d),bJ,(cy cw B.b_str aJ (ai (af 0) ag))⟩))) (au 1 d)) (aB (aO (aq aw (aq aw (aq aw (aq aw (aq aw (aq aw aH (cy cw B.b_str aJ (ai (aG (af 0) ak) ag))) aH) (cy cw B.b_str aJ (ai (aG (af 0) ak) ag))) aH) (af 1)) aH))))
abbrev j0:Stmt:=top 32
theorem j4 (F:gh K mg "event_text" j0 ["event"])(B:Bl mg):Cl P w K mg base 1 "event_text" 1 bN:=
 bp ["event"] F λd f c A o s H E hr x=>(aB (aO (aq aw (aq aw (cy cw B.b_str aJ (ai (aG (af 0) ak) ag)) aH) (cy cw B.b_str aJ (ai (aG (af 0) ak) ag)))))
abbrev jg:Stmt:=top 33
theorem jr (F:gh K mg "letter_text" jg ["letter"])(aa8:Cl P w K mg base 1 "event_text" 1 bN)(B:Bl mg):Cl P w K mg base 2 "letter_text" 1 a6:=
 bp ["letter","most"] F λd f c A o s H E hr x=>(aE (aK (wR (gD sG (aG (af 0) ak) g8) aH (cy cw B.b_str aJ (ai (aG (af 0) ak) ag))) (au 1 d)) (aB (aO (aq aw (aq aw (aq aw (aq aw (aq aw (aq aw (aq aw (aq aw aH (bc aa8 hr (ai (aG (af 0) ak) ag))) aH) (bc aa8 hr (ai (aG (af 0) ak) ag))) aH) (cy cw B.b_str aJ (ai (aG (af 0) ak) ag))) aH) (af 1)) aH))))
abbrev dR:Stmt:=top 34
abbrev dX:List Str:=["record","clocks","letters"]
theorem jn (F:gh K mg "record_text" dR ["record"])(aae:Cl P w K mg base 7 "need_record" 1 cA)(aaj:Cl P w K mg base 1 "clock_text" 1 bg)(aaf:Cl P w K mg base 2 "letter_text" 1 a6):Cl P w K mg base 8 "record_text" 1 bf:=
 bp dX F λd f c A o s H E hr x=>(by(apply aE;exact(qS (bc aae hr (ai (af 0) ag)));apply aE;exact(nJ 1 (N':=["clock"]) (src:=[none]) rfl (LcScope.by (N:=dX) (names:=(aj dR).names) rfl rfl rfl (by decide+kernel)) (cf (aG (af 0) ak)) (λ_ _ _ _ _=>⟨(au 0 (show F0 (["clock"]:List Str)by decide+kernel)),bJ,(bc aaj hr (ai (af 0) ag))⟩) d);apply aE;exact(nJ 2 (N':=["letter"]) (src:=[none]) rfl (LcScope.by (N:=dX) (names:=(aj dR).names) rfl rfl rfl (by decide+kernel)) (cf (aG (af 0) ak)) (λ_ _ _ _ _=>⟨(au 0 (show F0 (["letter"]:List Str)by decide+kernel)),bJ,(bc aaf hr (ai (af 0) ag))⟩) d);exact aB (aO (iV aH (aq aw (af 1) (af 2))))))
abbrev k4:Stmt:=top 47
theorem lA (F:gh K mg "_law_told" k4 ["_law_record"])(aa5:Cl P w K mg base 8 "record_text" 1 bf)(B:Bl mg){C_NoRecord C_NoEvent C_NoNumber C_NoWorld C_Barred C_Nothing C_NoText C_ClockError:Addr}(S:Xs K mg C_NoRecord C_NoEvent C_NoNumber C_NoWorld C_Barred C_Nothing C_NoText C_ClockError){f_r:Addr}{fd_r:DB}(aa9:Fn K mg "_law_refused" bo ["_law_e"] f_r fd_r):Cl P w K mg base 9 "_law_told" 1 b9:=
 bp ["_law_record","_law_e"] F λd f c A o s H E hr x=>(aB (uB 1 d S.m_ClockError S.o_ClockError (λ_ _=>(aB (aO (bc aa5 hr (ai (af 0) ag))))) (rK rfl (HS rfl) aa9 S B.b_isinstance B.b_ValueError (z9 hr)) (hcl:=λ_ _ z=>by cases z)))
abbrev kU:Stmt:=top 35
theorem lp (F:gh K mg "number_of" kU ["word"])(B:Bl mg):pX P w K mg base 1 "number_of" 1 bA:=
 gV ["word"] F λd f c A o s H E hr x=>(kg (xE 0 (λ_ _ z=>by cases z) B.b_int B.b_ValueError))
abbrev gn:Stmt:=top 36
theorem gq (F:gh K mg "numbers_between" gn ["words","sign"])(aa7:pX P w K mg base 1 "number_of" 1 bA):pX P w K mg base 2 "numbers_between" 2 aV:=
 gV ["words","sign","parts"] F λd f c A o s H E hr x=>(by(apply bY;exact(nL (aK (cT (af 0) (af 1)) (au 2 d)));exact(kg (rz (wU (mf (uq aa7 hr (mf (nG (aG (af 2) ak)) (qO ag))) (mf (uq aa7 hr (mf (nG (aG (af 2) ak)) (qO ag))) (qO ag))))))))
abbrev iF:Stmt:=top 37
abbrev iG:List Str:=["words","parts","readings"]
theorem mR (F:gh K mg "clock_of" iF ["words"])(aa7:pX P w K mg base 1 "number_of" 1 bA)(aa3:pX P w K mg base 2 "numbers_between" 2 aV)(B:Bl mg):pX P w K mg base 3 "clock_of" 1 b7:=
 gV iG F λd f c A o s H E hr x=>(by(apply bY;exact(nL (aK (cT (af 0) aH) (au 1 d)));apply bY;exact(rq 2 (N':=["word"]) (src:=[none]) rfl (LcScope.by (N:=iG) (names:=(aj iF).names) rfl rfl rfl (by decide+kernel)) (cf (mi (aG (af 1) ak) aH)) (λ_ _ _ _ _=>⟨(au 0 (show F0 (["word"]:List Str)by decide+kernel)),bJ,(uq aa7 hr (mf (nG (af 0)) (qO ag)))⟩) d);exact(kg (rz (wV aw (uq aa3 hr (mf (nG (aG (af 1) ak)) (mf (nG aH) (qO ag)))) (nG (cS (ai (cy gU B.b_tuple cE (ai (af 2) ag)) ag))))))))
abbrev kW:Stmt:=top 38
theorem lq (F:gh K mg "letter_of" kW ["words"])(aa3:pX P w K mg base 2 "numbers_between" 2 aV):pX P w K mg base 3 "letter_of" 1 bL:=
 gV ["words","parts","rest"] F λd f c A o s H E hr x=>(by(apply bY;exact(nL (aK (cT (af 0) aH) (au 1 d)));apply bY;exact(nL (aK (cT (aG (af 1) ak) aH) (au 2 d)));exact(kg (rz (wV aw (wU (mf (uq aa3 hr (mf (nG (aG (af 1) ak)) (mf (nG aH) (qO ag)))) (mf (uq aa3 hr (mf (nG (aG (af 2) ak)) (mf (nG aH) (qO ag)))) (qO ag)))) (uq aa3 hr (mf (nG (aG (af 2) ak)) (mf (nG aH) (qO ag)))))))))
abbrev ki:Stmt:=top 39
abbrev kr:List Str:=["lines","word"]
theorem qi (F:gh K mg "behind" ki ["lines","word"]):Cl P w K mg base 1 "behind" 2 b8:=
 bp kr F λd f c A o s H E hr x=>(aB (aO (fA ["line","word"] kr ki (cf (af 0)) (λd _ _ _ _ _=>⟨(au 0 d),(qV (dk (jZ (af 0) (af 1)))),(aG (cT (af 0) aH) ak)⟩))))
abbrev dS:Stmt:=top 40
abbrev dY:List Str:=["text","lines","clocks","letters","record"]
theorem jo (F:gh K mg "read_record" dS ["text"])(aas:pX P w K mg base 3 "clock_of" 1 b7)(aan:pX P w K mg base 3 "letter_of" 1 bL)(aat:Cl P w K mg base 1 "behind" 2 b8)(aa4:Cl P w K mg base 6 "is_record" 1 aI)(aa5:Cl P w K mg base 8 "record_text" 1 bf)(B:Bl mg){C_NoRecord C_NoEvent C_NoNumber C_NoWorld C_Barred C_Nothing C_NoText C_ClockError:Addr}(S:Xs K mg C_NoRecord C_NoEvent C_NoNumber C_NoWorld C_Barred C_Nothing C_NoText C_ClockError):pX P w K mg base 9 "read_record" 1 cz:=
 gV dY F λd f c A o s H E hr x=>(by(apply bY;exact(nL (gj (dG (dk (oC B.b_isinstance B.b_str aJ (af 0)))) (aB (g7 S.o_NoText S.m_NoText)) eu));apply bY;exact(nL (aK (mi (af 0) aH) (au 1 d)));apply bY;exact(rq 2 (N':=["words"]) (src:=[none]) rfl (LcScope.by (N:=dY) (names:=(aj dS).names) rfl rfl rfl (by decide+kernel)) (cf (bc aat hr (ai (af 1) (ai aH ag)))) (λ_ _ _ _ _=>⟨(au 0 (show F0 (["words"]:List Str)by decide+kernel)),bJ,(uq aas hr (mf (nG (af 0)) (qO ag)))⟩) d);apply bY;exact(rq 3 (N':=["words"]) (src:=[none]) rfl (LcScope.by (N:=dY) (names:=(aj dS).names) rfl rfl rfl (by decide+kernel)) (cf (bc aat hr (ai (af 1) (ai aH ag)))) (λ_ _ _ _ _=>⟨(au 0 (show F0 (["words"]:List Str)by decide+kernel)),bJ,(uq aan hr (mf (nG (af 0)) (qO ag)))⟩) d);apply bY;exact(nL (aK (cS (ai (cy gU B.b_tuple cE (ai (af 2) ag)) (ai (cy gU B.b_tuple cE (ai (af 3) ag)) ag))) (au 4 d)));apply bY;exact(nL (gj (qR (nI (dG (dk (bc aa4 hr (ai (af 4) ag)))) (kP (gD (o8 (qz hr)) (bc aa5 hr (ai (af 4) ag)) (af 0))))) (aB (g7 S.o_NoText S.m_NoText)) eu));exact(kg (nL (aO (af 4))))))
abbrev nO:Stmt:=top 48
abbrev sR:List Str:=["_law_script","_law_record","_law_text","_law_slow","_law_fast","_law_readings","_law_one","_law_other","_law_least","_law_most","_law_ends","_law_bad"]
theorem aa6:bq sR ["_law_script"] (aj nO):=fsc
theorem yE {f:Addr}{fd:DB}(aaw:Fn K mg "law" nO ["_law_script"] f fd)(aao:Cl P w K mg base 3 "_law_wide" 2 eC)(aa0:Cl P w K mg base 2 "_law_drawn" 3 ar)(aab:Cl P w K mg base 9 "_law_told" 1 b9)(aa4:Cl P w K mg base 6 "is_record" 1 aI)(aag:pX P w K mg base 9 "read_record" 1 cz)(B:Bl mg):uj P w K mg base 10 f fd ["_law_script"] 1 m_law:=
 pE aaw.fn aa6 rfl λc A o s H E hr x=>(show xu _ _ _ from(by(apply bY;exact(nL (aK (bc aao hr (ai (af 0) (ai ak ag))) (au 1 aa6.nd)));apply bY;exact(nL (aK aH (au 2 aa6.nd)));apply bY;exact(nL (gE rfl (cf (aG (af 1) ak)) (kQ rfl (cg (au 3 aa6.nd) (cg (au 4 aa6.nd) (cg (au 5 aa6.nd) i5)))) (aB (aK (aq aw (aq aw (aq aw (aq aw (aq aw (aq aw (af 2) aH) (cy cw B.b_str aJ (ai (af 3) ag))) aH) (cy cw B.b_str aJ (ai (af 4) ag))) (iV aH (fA ["_law_one"] sR nO (cf (af 5)) (λd _ _ _ _ _=>⟨(au 0 d),bJ,(aq aw aH (cy cw B.b_str aJ (ai (af 0) ag)))⟩)))) aH) (au 2 aa6.nd)))));apply bY;exact(nL (gE rfl (cf (aG (af 1) ak)) (kQ rfl (cg (au 6 aa6.nd) (cg (au 7 aa6.nd) (cg (au 8 aa6.nd) (cg (au 9 aa6.nd) i5))))) (aE (aK (g9 (ai (aq aw (aq aw (cy cw B.b_str aJ (ai (aG (af 6) ak) ag)) aH) (cy cw B.b_str aJ (ai (aG (af 6) ak) ag))) (ai (aq aw (aq aw (cy cw B.b_str aJ (ai (aG (af 7) ak) ag)) aH) (cy cw B.b_str aJ (ai (aG (af 7) ak) ag))) ag))) (au 10 aa6.nd)) (aB (aK (aq aw (aq aw (aq aw (aq aw (aq aw (aq aw (aq aw (af 2) aH) (iV aH (af 10))) aH) (cy cw B.b_str aJ (ai (af 8) ag))) aH) (wR (gD sG (af 9) g8) aH (cy cw B.b_str aJ (ai (af 9) ag)))) aH) (au 2 aa6.nd))))));apply bY;exact(u_if (u_w (zO (u_t (dG (dk (bc aa4 hr (ai (af 1) ag))))) (zO (u_t (gD (o8 (qz hr)) (bc aab hr (ai (af 1) ag)) (af 2))) (zN (zP (o8 (qz hr)) (uq aag hr (mf (nG (af 2)) (qO ag))) (nG (af 1))))))) (zM (aB (aO oE))) (zM eu));apply bY;exact(nL (aK (aG (g9 (ai g8 (ai (qX (af 1) qU (qT ak)) (ai (xw (af 1)) (ai (cS (ai (aG (af 1) ak) (ai g8 ag))) (ai (aq aw (af 1) (cS (ai (cS ag) ag))) ag)))))) (bc aa0 hr (ai (af 0) (ai ak (ai ak ag))))) (au 11 aa6.nd)));exact(kg (nL (aO (i6 (w8 (qz hr)) (bc aab hr (ai (af 11) ag)) (cS (ai aH (ai ak ag)))))))))).h
end
theorem all_ok {l:PySem.W.OpenLaw}{w:Du}{K:CA}{h:Heap}{mg:Str->Option CB}{fa:Addr}(X:K.In h)(e0:sM asks K=rm asks top)(G:h.Ns Dm mg)(hfa:mg "law" =some (.ref fa)) :
  ∃fd:DB,(∀(s:Cz) (v:CB),HP s fd ⟨[v],[]⟩ [("_law_script",v)])/\∀base:Heap,K.In base->base.Ns Dm mg->jW l.prog w K mg base CX0 10 fa fd ["_law_script"] (spP K 1 m_law):=by
 have e:lC uc K=kS uc top:=congrArg (·.1) e0
 have B:Bl mg:=⟨dC 0 X G e rfl,dC 1 X G e rfl,dC 2 X G e rfl,dC 3 X G e rfl,dC 4 X G e rfl,dC 5 X G e rfl,dC 6 X G e rfl,dC 7 X G e rfl,dC 8 X G e rfl,dC 9 X G e rfl,dC 10 X G e rfl,dC 11 X G e rfl⟩
 have C:Cs mg:=⟨kz 0 X G e rfl,kz 1 X G e rfl,kz 2 X G e rfl,kz 3 X G e rfl,kz 4 X G e rfl,kz 5 X G e rfl⟩;obtain⟨C_ClockError,ls,xD,xl,nd⟩:=yF (A2 e);obtain⟨C_NoRecord,ls0,x_NoRecord,rfl,xl0⟩:=dj xl;obtain⟨C_NoEvent,ls1,x_NoEvent,rfl,xl1⟩:=dj xl0;obtain⟨C_NoNumber,ls2,x_NoNumber,rfl,xl2⟩:=dj xl1;obtain⟨C_NoWorld,ls3,x_NoWorld,rfl,xl3⟩:=dj xl2;obtain⟨C_Barred,ls4,x_Barred,rfl,xl4⟩:=dj xl3;obtain⟨C_Nothing,ls5,x_Nothing,rfl,xl5⟩:=dj xl4
 obtain⟨C_NoText,ls6,x_NoText,rfl,xl6⟩:=dj xl5;cases ud xl6
 have S:Xs K mg C_NoRecord C_NoEvent C_NoNumber C_NoWorld C_Barred C_Nothing C_NoText C_ClockError:=⟨Fe X G (dW x_NoRecord).1,Fe X G (dW x_NoEvent).1,Fe X G (dW x_NoNumber).1,Fe X G (dW x_NoWorld).1,Fe X G (dW x_Barred).1,Fe X G (dW x_Nothing).1,Fe X G (dW x_NoText).1,Fe X G (dW xD).1,yv x_NoRecord xD,yv x_NoEvent xD,yv x_NoNumber xD,yv x_NoWorld xD,yv x_Barred xD,yv x_Nothing xD,yv x_NoText xD,ox0 xD,nd⟩
 obtain⟨fd29,aaw,bnd⟩:=AY (n:="law") (i:=48) (x:="_law_script") 29 X G e rfl hfa λ_ _ _ _ _ _ _=>rfl
 obtain⟨f30,fd30,aa9⟩:=A0 (n:="_law_refused") (i:=46) (ps:=["_law_e"]) 30 X G e rfl λ_ _ _ _ _ _ us hl=>w9 (λ_=>rfl) us hl
 refine⟨fd29,bnd,λbase _ _=> ?_⟩
 have aac:=ju l.prog w base (cY 0 X G e) B
 have aal:=lB l.prog w base (cY 1 X G e) B
 have aa0:=j7 l.prog w base (cY 2 X G e) aal
 have aao:=lz l.prog w base (cY 3 X G e) aac aa0 B
 have aa1:=n9 l.prog w base (cY 4 X G e) B
 have aap:=mM l.prog w base (cY 5 X G e) B
 have aa2:=lu l.prog w base (cY 6 X G e) aap
 have aau:=n6 l.prog w base (cY 7 X G e) aa2 C
 have aav:=sL l.prog w base (cY 8 X G e) B
 have aaa:=iN l.prog w base (cY 9 X G e) aa1 aav aa2 B C
 have aaq:=mQ l.prog w base (cY 10 X G e) aa1 aau aaa
 have aai:=j6 l.prog w base (cY 11 X G e) aa1 aaq B C
 have aah:=mO l.prog w base (cY 12 X G e) aa2 aa1 B
 have aar:=mP l.prog w base (cY 13 X G e) aa2 C
 have aam:=ly l.prog w base (cY 14 X G e) aah aa1 aar
 have aad:=jt l.prog w base (cY 15 X G e) aa1 aam B C
 have aa4:=lx l.prog w base (cY 16 X G e) aa1 aai aad
 have aae:=jq l.prog w base (cY 17 X G e) aa4 S
 have aaj:=j5 l.prog w base (cY 18 X G e) B
 have aa8:=j4 l.prog w base (cY 19 X G e) B
 have aaf:=jr l.prog w base (cY 20 X G e) aa8 B
 have aa5:=jn l.prog w base (cY 21 X G e) aae aaj aaf
 have aab:=lA l.prog w base (cY 22 X G e) aa5 B S aa9
 have aa7:=lp l.prog w base (cY 23 X G e) B
 have aa3:=gq l.prog w base (cY 24 X G e) aa7
 have aas:=mR l.prog w base (cY 25 X G e) aa7 aa3 B
 have aan:=lq l.prog w base (cY 26 X G e) aa3
 have aat:=qi l.prog w base (cY 27 X G e)
 have aag:=jo l.prog w base (cY 28 X G e) aas aan aat aa4 aa5 B S;exact(yE l.prog w base aaw aao aa0 aab aa4 aag B).h
end G
namespace Tr
open PySem
abbrev RR (cs ls:List T):T:=.tup [.tup cs,.tup ls]
mutual
def T.pl:T->Bool
 | .scr _=>false
 | .dct _ _=>false
 | .ob _ _ _=>false
 | .tup l=>plS l
 | .lst l=>plS l
 | _=>true
def plS:List T->Bool
 | [] =>true
 | t::l=>t.pl&&plS l
end
theorem iY:∀{l:List T} {t:T},plS l=true->t∈l->t.pl=true
 | [],_,_,h=>by cases h
 | u::l,t,h,m=>by
  unfold plS at h;rw[CC]at h;rcases CO.mp m with rfl | m
  ·exact h.1
  ·exact iY h.2 m
mutual
theorem T.BZ:∀(t:T),t.pl=true->t.nd=true
 | .non,_=>rfl
 | .bl _,_=>rfl
 | .int _,_=>rfl
 | .str _,_=>rfl
 | .scr _,h=>by cases h
 | .dct _ _,h=>by cases h
 | .ob _ _ _,h=>by cases h
 | .tup l,h=>by unfold T.pl at h;unfold T.nd;exact plS_nds l h
 | .lst l,h=>by unfold T.pl at h;unfold T.nd;exact plS_nds l h
theorem plS_nds:∀(l:List T),plS l=true->nds l=true
 | [],_=>rfl
 | t::l,h=>by
  unfold plS at h;rw[CC]at h;unfold nds;rw[T.BZ t h.1,plS_nds l h.2];rfl
end
theorem oj {fe:En->Rs T}{h:T->T}:∀(ts:List T) (ρ:En),0<ρ.length->(∀t∈ts,fe (ρ.set 0 (.va t))= .ok (h t))->cb (gN 0) bT fe ts ρ= .ok (ts.map h)
 | [],_,_,_=>rfl
 | t::r,ρ,hl,hf=>by
  unfold cb
  have e1:gN 0 t ρ= .ok (ρ.set 0 (.va t)):=by unfold gN;rw[if_pos hl]
  have ih:=oj r (ρ.set 0 (.va t)) (by rw[GL];exact hl) (λu hu=>by rw[List.set_set];exact hf u (CH _ hu))
  simp only[e1,aF,bT,if_true,hf t CL,ih,C3]
theorem ky {fc:En->Rs Bool}{fe:En->Rs T}{p:T->Bool}{h:T->T}:∀(ts:List T) (ρ:En),0<ρ.length->(∀t∈ts,fc (ρ.set 0 (.va t))= .ok (p t)/\(p t=true->fe (ρ.set 0 (.va t))= .ok (h t)))->cb (gN 0) fc fe ts ρ= .ok ((ts.filter p).map h)
 | [],_,_,_=>rfl
 | t::r,ρ,hl,hf=>by
  unfold cb
  have e1:gN 0 t ρ= .ok (ρ.set 0 (.va t)):=by unfold gN;rw[if_pos hl]
  have ih:=ky r (ρ.set 0 (.va t)) (by rw[GL];exact hl) (λu hu=>by rw[List.set_set];exact hf u (CH _ hu))
  obtain⟨h1,h2⟩:=hf t CL;simp only[e1,aF,h1]
  cases q:p t with
  | true=>simp only[if_true,h2 q,aF,ih,Kn,q,C3]
  | false=>simp only[DL,if_false,ih,Kn,q]
theorem kI (p:T->Bool):∀l:List T,jR (l.map λt=>T.bl (p t))=some (l.map p)
 | [] =>rfl
 | t::l=>by rw[C3,jR,kI p l];rfl
theorem all_map (p:T->Bool)(l:List T):kc [.lst (l.map λt=>T.bl (p t))] = .ok (.bl (l.all p)):=by
 simp only[kc,kI,List.all_map]
 rfl
theorem ix {α:Type}{l:List α}{k:Nat}{t:α}(h:l[k]? =some t):L2.atI l (k:Int)=some t:=by
 have hk:k<l.length:=(CW.mp h).1
 unfold L2.atI L2.ixN;rw[if_pos (by omega),if_pos (by omega),Eo]
 exact h
theorem eE {n k:Nat}(h:n<=k)(hk:autoParam (k<=1000) s_):n<=sizeLine:=by unfold sizeLine;omega
section
variable {f fa fb fc:En->Rs T}{fs:En->Rs (List T)}{b c:En->Rs Bool}{F G:En->Rs Fl}{ρ ρ' ρ1 ρ2:En}{t u r:T}{ts l m:List T}
theorem AV {i:Nat}(h:ρ[i]? =some (.va t)):vr i ρ= .ok t:=by unfold vr;rw[h]
theorem bh {g:T->T->Rs T}{x:Rs T}(ha:fa ρ= .ok t)(hb:fb ρ= .ok u)(hg:g t u=x):o2 g fa fb ρ=x:=by unfold o2;rw[ha,hb];exact hg
theorem k_o1 {g:T->Rs T}{x:Rs T}(ha:fa ρ= .ok t)(hg:g t=x):o1 g fa ρ=x:=by unfold o1;rw[ha];exact hg
theorem aC:ah ρ= .ok []:=rfl
theorem ao (h:f ρ= .ok t)(hs:fs ρ= .ok ts):ae f fs ρ= .ok (t::ts):=by unfold ae;rw[h,hs];rfl
theorem bO {g:List T->Rs T}{x:Rs T}(h:fs ρ= .ok ts)(hg:g ts=x):cl g fs ρ=x:=by unfold cl;rw[h];exact hg
theorem jC {k:Bool}(h:f ρ= .ok (.bl k)):tb f ρ= .ok k:=by unfold tb;rw[h];rfl
theorem m6 {k:Bool}(h:b ρ= .ok k):dv b ρ= .ok (!k):=by unfold dv;rw[h];rfl
theorem tu {x:Rs Bool}(h:b ρ= .ok false)(h2:c ρ=x):lj b c ρ=x:=by unfold lj;rw[h];exact h2
theorem pj {p:Bool}(h:b ρ= .ok p):vU b fa fb ρ=if p then fa ρ else fb ρ:=by unfold vU;rw[h];rfl
theorem bX {g:T->En->Rs En}(h:f ρ= .ok t)(hg:g t ρ= .ok ρ'):cH f g ρ= .ok (.nx ρ'):=by unfold cH;rw[h];show(match g t ρ with | .ok ρ'=>Rs.ok (Fl.nx ρ') | _=> .bad)=_;rw[hg]
theorem aY (h:F ρ= .ok (.nx ρ')):aL F G ρ=G ρ':=by unfold aL;rw[h];rfl
theorem yT (h:F ρ= .ok (.rt t)):aL F G ρ= .ok (.rt t):=by unfold aL;rw[h];rfl
theorem yU {c:Str}(h:F ρ= .err c):aL F G ρ= .err c:=by unfold aL;rw[h];rfl
theorem xf (h:b ρ= .ok true):gK b F G ρ=F ρ:=by unfold gK;rw[h];rfl
theorem m9 (h:b ρ= .ok false):gK b F G ρ=G ρ:=by unfold gK;rw[h];rfl
theorem d8 (h:f ρ= .ok t):aS f ρ= .ok (.rt t):=by unfold aS;rw[h];rfl
theorem yV {c:Str}(h:f ρ= .err c):aS f ρ= .err c:=by unfold aS;rw[h];rfl
theorem k_ex (h:f ρ= .ok t):wX f ρ= .ok (.nx ρ):=by unfold wX;rw[h];rfl
theorem A1 {c:Str}(h:f ρ= .err c):wX f ρ= .err c:=by unfold wX;rw[h];rfl
theorem kA {fi:En->Rs (List T)}{g:T->En->Rs En}{x:Fl}(h:fi ρ= .ok ts)(h2:cN g F ts ρ= .ok x):jk fi g F ρ= .ok x:=by unfold jk;rw[h];show(match cN g F ts ρ with | .ok f=>Rs.ok f | _=> .bad)=_;rw[h2]
theorem jD {g:T->En->Rs En}(h:g t ρ= .ok ρ1)(h2:F ρ1= .ok (.nx ρ2)):cN g F (t::ts) ρ=cN g F ts ρ2:=by rw[cN,h];show(F ρ1 >>= _)=_;rw[h2];rfl
theorem c9 {n m:Nat}(hl:ts.length=n)(h:F (az m ts)= .ok (.rt t)):val n m F ts= .ok t:=by unfold val;rw[if_pos hl];unfold a0;rw[h];rfl
theorem tm {n m:Nat}{c:Str}(hl:ts.length=n)(h:F (az m ts)= .err c):val n m F ts= .err c:=by unfold val;rw[if_pos hl];unfold a0;rw[h];rfl
theorem yR {n m:Nat}(hl:ts.length=n)(h:F (az m ts)= .ok (.nx ρ)):val n m F ts= .ok .non:=by unfold val;rw[if_pos hl];unfold a0;rw[h];rfl
theorem AW {h:Str->Rs T}{k:Fl}(e:F ρ= .ok k):mH F h ρ= .ok k:=by unfold mH;rw[e]
theorem yS {h:Str->Rs T}{c:Str}(e:F ρ= .err c)(e2:h c= .ok t):mH F h ρ= .ok (.rt t):=by unfold mH;rw[e];simp only[e2]
theorem lO {fi:En->Rs (List T)}{src:List (Option Nat)}{fe:En->Rs T}{h:T->T}(hi:fi ρ= .ok ts)(hs:ts.length<=sizeLine)(hn:0<src.length)(hf:∀t∈ts,fe ((bS src ρ).set 0 (.va t))= .ok (h t)) :
  ej fi src (gN 0) bT fe ρ= .ok (.lst (ts.map h)):=by
 have e:=oj (fe:=fe) (h:=h) ts (bS src ρ) (by unfold bS;rw[CI];exact hn) hf
 unfold ej;rw[hi,aF,if_pos hs,e]
theorem AX {fi:En->Rs (List T)}{src:List (Option Nat)}{fc:En->Rs Bool}{fe:En->Rs T}{p:T->Bool}{h:T->T}(hi:fi ρ= .ok ts)(hs:ts.length<=sizeLine)(hn:0<src.length)
  (hf:∀t∈ts,fc ((bS src ρ).set 0 (.va t))= .ok (p t)/\(p t=true->fe ((bS src ρ).set 0 (.va t))= .ok (h t))):ej fi src (gN 0) fc fe ρ= .ok (.lst ((ts.filter p).map h)):=by
 have e:=ky (fc:=fc) (fe:=fe) (p:=p) (h:=h) ts (bS src ρ) (by unfold bS;rw[CI];exact hn) hf
 unfold ej;rw[hi,aF,if_pos hs,e]
theorem d7 (h:fs ρ= .ok ts)(hl:ts.length<=sizeLine):cB fs ρ= .ok (.tup ts):=by unfold cB;rw[h];show eX ts=_;unfold eX;rw[if_pos hl]
theorem m7 (h:fs ρ= .ok ts)(hl:ts.length<=sizeLine):gz fs ρ= .ok (.lst ts):=by unfold gz;rw[h];show iH ts=_;unfold iH;rw[if_pos hl]
theorem yW (h:f ρ= .ok (.tup l)):iS f ρ= .ok l:=by unfold iS;rw[h];rfl
theorem tv (h:f ρ= .ok (.lst l)):iS f ρ= .ok l:=by unfold iS;rw[h];rfl
theorem AZ {n:Nat}(e:l[n]? =some t):a9 (.tup l) (.int (n:Int))= .ok t:=by show(match L2.atI l _ with | some t=>Rs.ok t | none=> .bad)=_;rw[ix e]
theorem vP {n:Nat}(h:fa ρ= .ok (.tup l))(h2:fb ρ= .ok (.int (n:Int)))(e:l[n]? =some t):o2 a9 fa fb ρ= .ok t:=bh h h2 (AZ e)
theorem k_sl {fe:En->Rs T}{fl fu:En->Rs (Option Int)}{lo hi:Option Int}(h:fe ρ= .ok (.tup l))(h1:fl ρ= .ok lo)(h2:fu ρ= .ok hi):sl fe fl fu ρ= .ok (.tup (lW l lo hi)):=by
 unfold sl;rw[h,h1,h2];rfl
theorem k_pS {i:Int}(h:f ρ= .ok (.int i)):pS f ρ= .ok (some i):=by unfold pS;rw[h];rfl
theorem tX (l:List T)(n:Nat):lW l none (some (n:Int))=l.take n:=by
 unfold lW;rw[HT.sIx_none,HT.sIx_nat,List.drop_zero,Nat.sub_zero,List.take_eq_take_iff];omega
end
theorem mk2 (a b:T):eX [a,b] = .ok (.tup [a,b]):=by unfold eX;rw[if_pos (eE (k:=1000) (by simp only[CJ,Ds];omega))]
theorem iW (n:Nat):(rng 0 n).length=n:=by unfold rng;rw[CI,Gi];omega
end Tr
namespace G
open PySem Tr
def isI:T->Bool
 | .int _=>true
 | _=>false
theorem v5 (t:T)(h:t.pl=true):fg [t] = .ok (.bl (isI t)):=by
 cases t <;> first | rfl | (simp[T.pl]at h;done)
def within (t:T)(a b:Int):Bool:=match t with
 | .int i=>decide (a<=i)&&decide (i<=b)
 | _=>false
theorem d9 (t:T)(a b:Int)(h:t.pl=true):aQ [t,.int a,.int b] = .ok (.bl (within t a b)):=by
 have w:=v5 t h
 cases t with
 | int i=>
  simp[aQ,val,a0,fM,az,aS,bR,vr,ch,cl,ae,ah,nu,within,w,isI]
  cases decide (a<=i) <;> rfl
 | scr _=>simp[T.pl]at h
 | dct _ _=>simp[T.pl]at h
 | ob _ _ _=>simp[T.pl]at h
 | _=>simp[aQ,val,a0,fM,az,aS,bR,vr,ch,cl,ae,ah,within,w,isI]
def cR (t:T)(a b:Nat):Bool:=match t with
 | .tup l=>decide (a<=l.length)&&decide (l.length<=b)
 | _=>false
theorem gy (t:T)(a b:Nat)(h:t.pl=true):aA [t,.int a,.int b] = .ok (.bl (cR t a b)):=by
 cases t with
 | tup l=>
  simp[aA,val,a0,kO,az,aS,bR,o1,vr,uu,T.ty,pz,ch,cl,ae,ah,c8,T.items,nu,cR]
  cases decide (a<=l.length) <;> rfl
 | scr _=>simp[T.pl]at h
 | dct _ _=>simp[T.pl]at h
 | ob _ _ _=>simp[T.pl]at h
 | _=>rfl
def mL (x y:T):Bool:=within x 1 9&&(match x with
 | .int i=>within y i 9
 | _=>false)
theorem ze (x y:T)(hx:x.pl=true)(hy:y.pl=true):dO [x,y] = .ok (.bl (mL x y)):=by
 have w:=d9 x 1 9 hx;unfold mL
 cases q:within x 1 9 with
 | false=>rw[q]at w;simp[dO,val,a0,iz,az,aS,bR,vr,cn,cl,ae,ah,w]
 | true=>
  rw[q]at w
  cases x with
  | int i=>simp[dO,val,a0,iz,az,aS,bR,vr,cn,cl,ae,ah,w,d9 y i 9 hy]
  | _=>cases q
def nW:List Int->Bool
 | a::b::r=>decide (a<b)&&nW (b::r)
 | _=>true
theorem ris2 (a b:Int)(r:List Int):nW (a::b::r)=(decide (a<b)&&nW (b::r)):=rfl
theorem l7 {fe:En->Rs T}{p:T->Bool}{l:List T}{fi:En->Rs (List T)}{src:List (Option Nat)}{ρ:En}(hi:fi ρ= .ok l)(hs:l.length<=sizeLine)(hn:0<src.length)(hf:∀t∈l,fe ((bS src ρ).set 0 (.va t))= .ok (.bl (p t))) :
  cl kc (ae (ej fi src (gN 0) bT fe) ah) ρ= .ok (.bl (l.all p)):=by
 have e:=oj (fe:=fe) (h:=λt=>T.bl (p t)) l (bS src ρ) (by unfold bS;rw[CI];exact hn) hf
 simp only[cl,ae,ah,ej,hi,aF,if_pos hs,e,all_map]
def ir (l:List T):T->Bool
 | .int k=>match L2.atI l k,L2.atI l (k+1)with
  | some (.int a),some (.int b)=>decide (a<b)
  | _,_=>false
 | _=>false
theorem lb {t:T}{j:Int}(h:t∈rng 0 j):∃k:Nat,t= .int k/\(k:Int)<j:=by
 unfold rng at h;obtain⟨k,hk,e⟩:=CY.mp h;rw[FO]at hk;exact⟨k,by rw[<-e];simp,by omega⟩
theorem xV:(l:List Int)->l.length<=4->(rng 0 ((l.length:Int) - 1)).all (ir (l.map .int))=nW l
 | [],_=>rfl
 | [a],_=>rfl
 | [a,b],_=>by simp[rng,GO,ir,L2.atI,L2.ixN,nW]
 | [a,b,c],_=>by simp[rng,GO,ir,L2.atI,L2.ixN,nW]
 | [a,b,c,d],_=>by simp[rng,GO,ir,L2.atI,L2.ixN,nW,Bool.and_assoc]
 | a::b::c::d::e::r,h=>absurd h (by simp only[CJ];omega)
theorem v8 (l:List Int)(h:l.length<=4):fU [.tup (l.map .int)] = .ok (.bl (nW l)):=by
 have hr:iR (ae (o2 gm (cl c8 (ae (vr 0) ah)) (cn (.int 1))) ah) [.va (.tup (l.map .int))] = .ok (rng 0 ((l.length:Int) - 1)):=by
  have:uv ((l.length:Int) - 1)=true:=by unfold uv;rw[CC];exact⟨decide_eq_true (by omega),decide_eq_true (by omega)⟩
  simp[iR,ae,ah,o2,cl,vr,cn,c8,T.items,gm,this]
 have hs:(rng 0 ((l.length:Int) - 1)).length<=sizeLine:=by
  unfold rng sizeLine;rw[CI,Gi];omega
 have e:=l7 (fe:=o2 ltT (o2 a9 (vr 1) (vr 0)) (o2 a9 (vr 1) (o2 ax (vr 0) (cn (.int 1))))) (p:=ir (l.map .int)) (src:=[none,some 0]) hr hs (by decide) (λt ht=>by
  obtain⟨k,rfl,hk⟩:=lb ht
  have h1:(l.map T.int)[k]? =some (.int (l[k]'(by omega))):=by simp
  have h2:(l.map T.int)[k+1]? =some (.int (l[k+1]'(by omega))):=by rw[Dn,CP (by omega)];rfl
  have g1:=ix h1
  have g2:L2.atI (l.map T.int) ((k:Int)+1)=some (.int (l[k+1]'(by omega))):=ix h2
  simp[o2,vr,bS,cn,ax,a9,T.items,g1,g2,nu,ir])
 rw[xV l h]at e;simp only[fU,val,Gm,if_true,pW,a0,aS,az]
 show(do let f <-(do let t <-cl kc _ [.va (.tup (l.map .int))];Rs.ok (Fl.rt t));_)=_
 rw[e]
 rfl
def jy:List T->Option (List Int)
 | [] =>some []
 | .int i::l=>match jy l with
  | some m=>some (i::m)
  | none=>none
 | _::_=>none
def dq (t:T):Bool:=cR t 1 4&&(match t with
 | .tup l=>l.all (λu=>within u 0 99)&&(match jy l with | some m=>nW m | none=>false)
 | _=>false)
theorem jw:∀{l:List T} {m:List Int},jy l=some m->l=m.map .int
 | [],m,h=>by cases h;rfl
 | t::l,m,h=>by
  cases t with
  | int i=>
   unfold jy at h
   cases q:jy l with
   | none=>rw[q]at h;cases h
   | some m'=>rw[q]at h;cases h;rw[C3,<-jw q]
  | _=>cases h
theorem lE:∀{l:List T} {a b:Int},(l.all λu=>within u a b)=true->∃m,jy l=some m
 | [],_,_,_=>⟨[],rfl⟩
 | t::l,a,b,h=>by
  rw[HK,CC]at h
  cases t with
  | int i=>
   obtain⟨m,e⟩:=lE h.2
   exact⟨i::m,by unfold jy;rw[e]⟩
  | _=>exact absurd h.1 (by simp[within])
theorem bK {t:T}{a b:Nat}(h:cR t a b=true):∃l,t= .tup l/\a<=l.length/\l.length<=b:=by
 cases t with
 | tup l=>unfold cR at h;rw[CC]at h;exact⟨l,rfl,of_decide_eq_true h.1,of_decide_eq_true h.2⟩
 | _=>cases h
theorem rR {n k:Nat}(h:n<=k)(hk:autoParam (k<=1000) s_):n<=sizeLine:=by unfold sizeLine;omega
theorem oq (t:T)(h:t.pl=true):bj [t] = .ok (.bl (dq t)):=by
 have w:aA [t,.int 1,.int 4] = .ok (.bl (cR t 1 4)):=gy t 1 4 h;unfold dq
 cases q:cR t 1 4 with
 | false=>rw[q]at w;simp[bj,val,a0,c7,az,aL,gK,dv,tb,sN,aS,cl,vr,cn,ae,ah,w]
 | true=>
  rw[q]at w;obtain⟨l,rfl,h1,h2⟩:=bK q
  have hp:∀u∈l,u.pl=true:=λu hu=>iY (by unfold T.pl at h;exact h) hu
  have e:=l7 (fe:=cl aQ (ae (vr 0) (ae (cn (.int 0)) (ae (cn (.int 99)) ah)))) (p:=λu=>within u 0 99) (src:=[none]) (fi:=iS (vr 0)) (ρ:=[.va (.tup l)]) rfl (rR h2) (by decide) (λu hu=>by
   simp[cl,ae,ah,vr,cn,bS,d9 u 0 99 (hp u hu)])
  have w':cl aA (ae (vr 0) (ae (cn (.int 1)) (ae (cn (.int 4)) ah))) [.va (.tup l)] = .ok (.bl true):=w
  show bj _= .ok (.bl (true&&(l.all (λu=>within u 0 99)&&(match jy l with | some m=>nW m | none=>false))))
  cases qa:l.all λu=>within u 0 99 with
  | false=>
   rw[qa]at e
   simp[bj,val,a0,c7,az,aL,gK,dv,tb,sN,aS,bR,e,w']
  | true=>
   rw[qa]at e;obtain⟨m,em⟩:=lE qa
   have el:=jw em
   have er:=v8 m (by rw[el,CI]at h2;exact h2)
   rw[<-el]at er
   have er':cl fU (ae (vr 0) ah) [.va (.tup l)] = .ok (.bl (nW m)):=er;simp[bj,val,a0,c7,az,aL,gK,dv,tb,sN,aS,bR,e,w',er',em]
def at_ (t:T)(k:Nat):T:=match t.items with
 | some l=>l.getD k .non
 | none=> .non
def bw (t:T):Bool:=cR t 3 3&&(match t with
 | .tup [x,y,r] =>mL x y&&dq r
 | _=>false)
theorem wb (t:T)(h:t.pl=true):b6 [t] = .ok (.bl (bw t)):=by
 have w:aA [t,.int 3,.int 3] = .ok (.bl (cR t 3 3)):=gy t 3 3 h;unfold bw
 cases q:cR t 3 3 with
 | false=>rw[q]at w;simp[b6,val,a0,fo,az,aS,bR,cl,vr,cn,ae,ah,w]
 | true=>
  rw[q]at w;obtain⟨l,rfl,h1,h2⟩:=bK q
  match l,h1,h2 with
  | [x,y,r],_,_=>
   simp[T.pl,plS]at h;obtain⟨px,py,pr⟩:=h
   have g0:a9 (.tup [x,y,r]) (.int 0)= .ok x:=rfl
   have g1:a9 (.tup [x,y,r]) (.int 1)= .ok y:=rfl
   have g2:a9 (.tup [x,y,r]) (.int 2)= .ok r:=rfl
   have ep:=ze x y px py
   have er:=oq r pr
   cases qp:mL x y with
   | false=>rw[qp]at ep;simp[b6,val,a0,fo,az,aS,bR,cl,vr,cn,ae,ah,o2,w,g0,g1,ep,qp]
   | true=>rw[qp]at ep;simp[b6,val,a0,fo,az,aS,bR,cl,vr,cn,ae,ah,o2,w,g0,g1,g2,ep,er,qp]
def aN (t:T):Bool:=cR t 1 4&&(match t with
 | .tup l=>l.all bw
 | _=>false)
theorem tV (t:T)(h:t.pl=true):cj [t] = .ok (.bl (aN t)):=by
 have w:aA [t,.int 1,.int 4] = .ok (.bl (cR t 1 4)):=gy t 1 4 h;unfold aN
 cases q:cR t 1 4 with
 | false=>rw[q]at w;simp[cj,val,a0,ft,az,aS,bR,cl,vr,cn,ae,ah,w]
 | true=>
  rw[q]at w;obtain⟨l,rfl,h1,h2⟩:=bK q
  have hp:∀u∈l,u.pl=true:=λu hu=>iY (by unfold T.pl at h;exact h) hu
  have e:=l7 (fe:=cl b6 (ae (vr 0) ah)) (p:=bw) (src:=[none]) (fi:=iS (vr 0)) (ρ:=[.va (.tup l)]) rfl (rR h2) (by decide) (λu hu=>by
   simp[cl,ae,ah,vr,cn,bS,wb u (hp u hu)])
  have w':cl aA (ae (vr 0) (ae (cn (.int 1)) (ae (cn (.int 4)) ah))) [.va (.tup l)] = .ok (.bl true):=w;simp[cj,val,a0,ft,az,aS,bR,e,w']
def dr (x y:T):Bool:=within x 0 999&&(match x,y with
 | _,.non=>true
 | .int i,_=>within y i 999
 | _,_=>false)
theorem wa (x y:T)(hx:x.pl=true)(hy:y.pl=true):cK [x,y] = .ok (.bl (dr x y)):=by
 have w:=d9 x 0 999 hx;unfold dr
 cases q:within x 0 999 with
 | false=>rw[q]at w;simp[cK,val,a0,fm,az,aS,bR,vr,cn,cl,ae,ah,w]
 | true=>
  rw[q]at w
  cases x with
  | int i=>
   have e:=d9 y i 999 hy
   cases y with
   | non=>simp[cK,val,a0,fm,az,aS,bR,AE,vr,cn,cl,ae,ah,o2,j9,T.isN,w]
   | _=>simp[cK,val,a0,fm,az,aS,bR,AE,vr,cn,cl,ae,ah,o2,j9,T.isN,w,e]
  | _=>cases q
def reads (cs:List T)(c:Int):Nat:=if 0<=c then(match cs[c.toNat]? with
 | some (.tup [_,_,.tup r])=>r.length
 | _=>0)else 0
def aX (cs:List T)(t:T):Bool:=match t with
 | .tup [.int c,.int k] =>decide (0<=c)&&decide (c<cs.length)&&(decide (0<=k)&&decide (k<reads cs c))
 | _=>false
theorem iJ {t:T}(h:bw t=true):∃x y r,t= .tup [x,y,.tup r]:=by
 unfold bw at h;rw[CC]at h;obtain⟨h1,h2⟩:=h;obtain⟨l,rfl,h3,h4⟩:=bK h1
 match l,h3,h4,h2 with
 | [x,y,r],_,_,h2=>
  simp only[CC]at h2;obtain⟨_,h5⟩:=h2;unfold dq at h5;rw[CC]at h5;obtain⟨m,rfl,_⟩:=bK h5.1;exact⟨x,y,m,rfl⟩
theorem da {t:T}{a b:Int}(h:within t a b=true):∃i,t= .int i/\a<=i/\i<=b:=by
 cases t with
 | int i=>unfold within at h;rw[CC]at h;exact⟨i,rfl,of_decide_eq_true h.1,of_decide_eq_true h.2⟩
 | _=>cases h
theorem pJ (cs:List T)(t:T)(hc:aN (.tup cs)=true)(h:t.pl=true):bZ [.tup cs,t] = .ok (.bl (aX cs t)):=by
 have w:aA [t,.int 2,.int 2] = .ok (.bl (cR t 2 2)):=gy t 2 2 h
 cases q:cR t 2 2 with
 | false=>
  rw[q]at w
  have:aX cs t=false:=by
   unfold aX;split
   ·cases q
   ·rfl
  simp[bZ,val,a0,fk,az,aL,gK,lj,dv,tb,sN,aS,cl,vr,cn,ae,ah,w,this]
 | true=>
  rw[q]at w;obtain⟨l,rfl,h1,h2⟩:=bK q
  match l,h1,h2 with
  | [x,y],_,_=>
   simp[T.pl,plS]at h;obtain⟨px,py⟩:=h
   have g0:a9 (.tup [x,y]) (.int 0)= .ok x:=rfl
   have g1:a9 (.tup [x,y]) (.int 1)= .ok y:=rfl
   have gl:c8 [.tup cs] = .ok (.int cs.length):=rfl
   have e1:=d9 x 0 ((cs.length:Int) - 1) px
   cases q1:within x 0 ((cs.length:Int) - 1)with
   | false=>
    rw[q1]at e1
    have:aX cs (.tup [x,y])=false:=by
     cases x with
     | int c=>
      cases y with
      | int k=>
       simp only[within,Gq,decide_eq_false_iff_not]at q1;simp only[aX,Gq,decide_eq_false_iff_not]
       omega
      | _=>rfl
     | _=>rfl
    simp[bZ,val,a0,fk,az,aL,gK,lj,dv,tb,sN,aS,cl,vr,cn,ae,ah,o2,gm,w,g0,gl,e1,this]
   | true=>
    rw[q1]at e1;obtain⟨c,rfl,c1,c2⟩:=da q1;obtain⟨n,rfl⟩:=Dw c1
    have hn:n<cs.length:=by omega
    have hcl:bw cs[n] =true:=by
     unfold aN at hc;rw[CC]at hc;exact Dc.mp hc.2 _ (FR hn)
    obtain⟨a,b,r,er⟩:=iJ hcl
    have g2:a9 (.tup cs) (.int (n:Int))= .ok (.tup [a,b,.tup r]):=by
     simp only[a9,T.items];rw[ix (CP hn),er]
    have g3:a9 (.tup [a,b,.tup r]) (.int 2)= .ok (.tup r):=rfl
    have gr:c8 [.tup r] = .ok (.int r.length):=rfl
    have e2:=d9 y 0 ((r.length:Int) - 1) py
    have:aX cs (.tup [.int n,y])=within y 0 ((r.length:Int) - 1):=by
     have er2:reads cs (n:Int)=r.length:=by
      unfold reads;rw[if_pos c1,Eo,CP hn,er]
     cases y with
     | int k=>
      simp only[aX,within,er2];rw[decide_eq_true c1,decide_eq_true (show(n:Int)<cs.length by omega)]
      simp only[Jr]
      congr 1
      exact decide_eq_decide.mpr (by omega)
     | _=>rfl
    simp[bZ,val,a0,fk,az,aL,gK,lj,dv,tb,sN,aS,cl,vr,cn,ae,ah,o2,gm,w,g0,g1,g2,g3,gl,gr,e1,e2,this]
def bC (cs:List T)(t:T):Bool:=match t with
 | .tup [a,b,x,y] =>dr x y&&(aX cs a&&(aX cs b&& !bH a b))
 | _=>false
theorem eG {cs:List T}{t:T}(h:aX cs t=true):∃c k:Int,t= .tup [.int c,.int k]:=by
 unfold aX at h
 split at h
 ·exact⟨_,_,rfl⟩
 ·cases h
theorem tT (cs:List T)(t:T)(hc:aN (.tup cs)=true)(h:t.pl=true):br [.tup cs,t] = .ok (.bl (bC cs t)):=by
 have w:aA [t,.int 4,.int 4] = .ok (.bl (cR t 4 4)):=gy t 4 4 h
 cases q:cR t 4 4 with
 | false=>
  rw[q]at w
  have:bC cs t=false:=by
   unfold bC;split
   ·cases q
   ·rfl
  simp[br,val,a0,cQ,az,aL,gK,lj,dv,tb,sN,aS,cl,vr,cn,ae,ah,w,this]
 | true=>
  rw[q]at w;obtain⟨l,rfl,h1,h2⟩:=bK q
  match l,h1,h2 with
  | [a,b,x,y],_,_=>
   simp[T.pl,plS]at h;obtain⟨pa,pb,px,py⟩:=h
   have g0:a9 (.tup [a,b,x,y]) (.int 0)= .ok a:=rfl
   have g1:a9 (.tup [a,b,x,y]) (.int 1)= .ok b:=rfl
   have g2:a9 (.tup [a,b,x,y]) (.int 2)= .ok x:=rfl
   have g3:a9 (.tup [a,b,x,y]) (.int 3)= .ok y:=rfl
   have e1:=wa x y px py
   have e2:=pJ cs a hc pa
   have e3:=pJ cs b hc pb
   show _=Rs.ok (T.bl (dr x y&&(aX cs a&&(aX cs b&& !bH a b))))
   cases q1:dr x y with
   | false=>
    rw[q1]at e1
    simp[br,val,a0,cQ,az,aL,gK,lj,dv,tb,sN,aS,cl,vr,cn,ae,ah,o2,w,g2,g3,e1]
   | true=>
    rw[q1]at e1
    cases q2:aX cs a with
    | false=>
     rw[q2]at e2
     simp[br,val,a0,cQ,az,aL,gK,lj,dv,tb,sN,aS,bR,cl,vr,cn,ae,ah,o2,w,g0,g2,g3,e1,e2]
    | true=>
     rw[q2]at e2
     cases q3:aX cs b with
     | false=>
      rw[q3]at e3
      simp[br,val,a0,cQ,az,aL,gK,lj,dv,tb,sN,aS,bR,cl,vr,cn,ae,ah,o2,w,g0,g1,g2,g3,e1,e2,e3]
     | true=>
      rw[q3]at e3;obtain⟨c,k,rfl⟩:=eG q2
      have f:fj (.tup [.int c,.int k]) b=true:=gR (by simp[T.dep,deps]) rfl (T.BZ _ pb)
      have g4:oa (.tup [.int c,.int k]) b= .ok (.bl (!bH (.tup [.int c,.int k]) b)):=by unfold oa;rw[if_pos f]
      simp[br,val,a0,cQ,az,aL,gK,lj,dv,tb,sN,aS,bR,cl,vr,cn,ae,ah,o2,w,g0,g1,g2,g3,g4,e1,e2,e3]
def cm (cs:List T)(t:T):Bool:=cR t 0 8&&(match t with
 | .tup l=>l.all (bC cs)
 | _=>false)
theorem qC (cs:List T)(t:T)(hc:aN (.tup cs)=true)(h:t.pl=true):bU [.tup cs,t] = .ok (.bl (cm cs t)):=by
 have w:aA [t,.int 0,.int 8] = .ok (.bl (cR t 0 8)):=gy t 0 8 h;unfold cm
 cases q:cR t 0 8 with
 | false=>rw[q]at w;simp[bU,val,a0,eP,az,aS,bR,cl,vr,cn,ae,ah,w]
 | true=>
  rw[q]at w;obtain⟨l,rfl,h1,h2⟩:=bK q
  have hp:∀u∈l,u.pl=true:=λu hu=>iY (by unfold T.pl at h;exact h) hu
  have e:=l7 (fe:=cl br (ae (vr 1) (ae (vr 0) ah))) (p:=bC cs) (src:=[none,some 0]) (fi:=iS (vr 1)) (ρ:=[.va (.tup cs),.va (.tup l)]) rfl (rR h2) (by decide) (λu hu=>by
   simp[cl,ae,ah,vr,cn,bS,tT cs u hc (hp u hu)])
  have w':cl aA (ae (vr 1) (ae (cn (.int 0)) (ae (cn (.int 8)) ah))) [.va (.tup cs),.va (.tup l)] = .ok (.bl true):=w;simp[bU,val,a0,eP,az,aS,bR,e,w']
def eY (t:T):Bool:=match t with
 | .tup [.tup cs,ls] =>aN (.tup cs)&&cm cs ls
 | _=>false
theorem nk (t:T)(h:t.pl=true):aI [t] = .ok (.bl (eY t)):=by
 have w:aA [t,.int 2,.int 2] = .ok (.bl (cR t 2 2)):=gy t 2 2 h
 cases q:cR t 2 2 with
 | false=>
  rw[q]at w
  have:eY t=false:=by
   unfold eY;split
   ·cases q
   ·rfl
  simp[aI,val,a0,eH,az,aS,bR,cl,vr,cn,ae,ah,w,this]
 | true=>
  rw[q]at w;obtain⟨l,rfl,h1,h2⟩:=bK q
  match l,h1,h2 with
  | [x,y],_,_=>
   simp[T.pl,plS]at h;obtain⟨px,py⟩:=h
   have g0:a9 (.tup [x,y]) (.int 0)= .ok x:=rfl
   have g1:a9 (.tup [x,y]) (.int 1)= .ok y:=rfl
   have e1:=tV x px
   cases q1:aN x with
   | false=>
    rw[q1]at e1
    have:eY (.tup [x,y])=false:=by
     cases x with
     | tup cs=>show(aN (.tup cs)&&_)=false;rw[q1];rfl
     | _=>rfl
    simp[aI,val,a0,eH,az,aS,bR,cl,vr,cn,ae,ah,o2,w,g0,e1,this]
   | true=>
    rw[q1]at e1
    cases x with
    | tup cs=>
     have e2:=qC cs y q1 py
     have:eY (.tup [.tup cs,y])=cm cs y:=by show(aN (.tup cs)&&_)=_;rw[q1];rfl
     simp[aI,val,a0,eH,az,aS,bR,cl,vr,cn,ae,ah,o2,w,g0,g1,e1,e2,this]
    | _=>cases q1
theorem di:∀m:List Int,deps (m.map .int)=0
 | [] =>rfl
 | a::m=>by rw[C3,deps,di m];rfl
def lT (i n:Nat):List T:=(rng 0 n).map λt=>T.tup [.int i,t]
def Bx:T->Nat
 | .tup [_,_,.tup r] =>r.length
 | _=>0
def eQ:Nat->List T->List T
 | _,[] => []
 | i,c::r=>lT i (Bx c)++eQ (i+1) r
theorem fJ {t:T}(h:bw t=true):∃x y r,t= .tup [x,y,.tup r]/\1<=r.length/\r.length<=4:=by
 obtain⟨x,y,r,rfl⟩:=iJ h
 have:dq (.tup r)=true:=by
  have h':(mL x y&&dq (.tup r))=true:=h;rw[CC]at h';exact h'.2
 unfold dq at this;rw[CC]at this;obtain⟨l,e,h1,h2⟩:=bK this.1;cases e;exact⟨x,y,r,rfl,h1,h2⟩
theorem jK (i n:Nat):(lT i n).length=n:=by unfold lT;rw[CI,iW]
abbrev evF:En->Rs Fl:=cH (o2 ax (vr 1) (ej (iR (ae (cl c8 (ae (o2 a9 (vr 3) (cn (.int 2))) ah)) ah)) [none,some 2] (gN 0) bT (cB (ae (vr 1) (ae (vr 0) ah))))) (gN 1)
abbrev evG:T->En->Rs En:=gT 2 (ka (gN 2) (ka (gN 3) vV))
theorem A3 {f:En->Rs (List T)}{ρ:En}{j:Int}(h:f ρ= .ok [.int j])(h0:0<=j)(h1:j<=100000):iR f ρ= .ok (rng 0 j):=by
 have e:uv j=true:=by unfold uv;rw[CC];exact⟨decide_eq_true (by omega),decide_eq_true (by omega)⟩
 unfold iR;rw[h]
 show(if uv j=true then _ else _)=_
 rw[e];rfl
theorem pT (l m:List T)(h:(l++m).length<=1000):ax (.lst l) (.lst m)= .ok (.lst (l++m)):=by
 show iH (l++m)=_
 unfold iH;rw[if_pos (eE h)]
theorem gY (l m:List T)(h:(l++m).length<=1000):ax (.tup l) (.tup m)= .ok (.tup (l++m)):=by
 show eX (l++m)=_
 unfold eX;rw[if_pos (eE h)]
theorem A8 (c0 acc x y:T)(r:List T)(i:Nat)(h:r.length<=4) :
  ej (iR (ae (cl c8 (ae (o2 a9 (vr 3) (cn (.int 2))) ah)) ah)) [none,some 2] (gN 0) bT (cB (ae (vr 1) (ae (vr 0) ah))) [.va c0,.va acc,.va (.int i),.va (.tup [x,y,.tup r])] = .ok (.lst (lT i r.length)):=
 lO (A3 (j:=(r.length:Int)) rfl (by omega) (by omega)) (eE (k:=4) (by rw[iW];exact h)) (by simp) λt _=>mk2 _ _
theorem vZ (c0 x y:T)(acc r:List T)(i:Nat)(h:r.length<=4)(ha:acc.length<=100):evF [.va c0,.va (.lst acc),.va (.int i),.va (.tup [x,y,.tup r])] = .ok (.nx [.va c0,.va (.lst (acc++lT i r.length)),.va (.int i),.va (.tup [x,y,.tup r])]):=
 bX (bh (t:=.lst acc) rfl (A8 c0 (.lst acc) x y r i h) (pT _ _ (by rw[CF,jK];omega))) rfl
theorem pG:∀(cs:List T) (c0:T) (acc:List T) (i:Nat) (s2 s3:Sl),(∀c∈cs,bw c=true)->acc.length+4*cs.length<=100 →
  ∃y2 y3,cN evG evF (fz i cs) [.va c0,.va (.lst acc),s2,s3] = .ok (.nx [.va c0,.va (.lst (acc++eQ i cs)),y2,y3])
 | [],c0,acc,i,s2,s3,_,_=>⟨s2,s3,by simp[fz,cN,eQ]⟩
 | c::cs,c0,acc,i,s2,s3,hc,hl=>by
  obtain⟨x,y,r,rfl,r1,r2⟩:=fJ (hc c CL);rw[CJ]at hl;obtain⟨z2,z3,ih⟩:=pG cs c0 (acc++lT i r.length) (i+1) (.va (.int i)) (.va (.tup [x,y,.tup r])) (λc h=>hc c (CH _ h)) (by rw[CF,jK];omega)
  refine⟨z2,z3,?_⟩
  rw[fz,jD (ρ1:=[.va c0,.va (.lst acc),.va (.int i),.va (.tup [x,y,.tup r])]) rfl (vZ c0 x y acc r i r2 (by omega)),ih,eQ,Dq]
  rfl
theorem ei {cs:List T}(hc:aN (.tup cs)=true):(∀c∈cs,bw c=true)/\1<=cs.length/\cs.length<=4:=by
 unfold aN at hc;rw[CC]at hc;obtain⟨l,e,h1,h2⟩:=bK hc.1;cases e;exact⟨λc h=>Dc.mp hc.2 c h,h1,h2⟩
theorem tU (cs:List T)(hc:aN (.tup cs)=true):dm [.tup cs] = .ok (.lst (eQ 0 cs)):=by
 obtain⟨ha,h1,h2⟩:=ei hc;obtain⟨y2,y3,e⟩:=pG cs (.tup cs) [] 0 .em .em ha (by simp;omega)
 rw[Ew]at e;refine c9 rfl ?_
 unfold gi;rw[aY (ρ':=[.va (.tup cs),.va (.lst []),.em,.em]) rfl,aY ((kA (ts:=fz 0 cs) rfl e))]
 rfl
theorem qf (cs:List T)(c:Nat):reads cs (c:Int)=Bx (cs.getD c .non):=by
 unfold reads;rw[if_pos (by omega),Eo,FK]
 cases cs[c]? with
 | none=>rfl
 | some t=>
  cases t with
  | tup l=>
   match l with
   | [] =>rfl
   | [_] =>rfl
   | [_,_] =>rfl
   | [_,_,z] =>cases z <;> rfl
   | _::_::z::_::_=>cases z <;> rfl
  | _=>rfl
mutual
def sm (n:Nat):T->Bool
 | .dct _ _=>false
 | .ob _ _ _=>false
 | .scr _=>false
 | .tup l=>decide (l.length<=n)&&sms n l
 | .lst l=>decide (l.length<=n)&&sms n l
 | _=>true
def sms (n:Nat):List T->Bool
 | [] =>true
 | t::l=>sm n t&&sms n l
end
mutual
theorem wW {n:Nat}:∀(t:T),sm n t=true->t.pl=true
 | .scr _,h=>by simp[sm]at h
 | .dct _ _,h=>by simp[sm]at h
 | .ob _ _ _,h=>by simp[sm]at h
 | .tup l,h=>by rw[sm,CC]at h;rw[T.pl];exact sms_pl l h.2
 | .lst l,h=>by rw[sm,CC]at h;rw[T.pl];exact sms_pl l h.2
 | .non,_=>by simp[T.pl]
 | .bl _,_=>by simp[T.pl]
 | .int _,_=>by simp[T.pl]
 | .str _,_=>by simp[T.pl]
theorem sms_pl {n:Nat}:∀(l:List T),sms n l=true->plS l=true
 | [],_=>by simp[plS]
 | t::l,h=>by rw[sms,CC]at h;rw[plS,wW t h.1,sms_pl l h.2];rfl
end
theorem oQ {n:Nat}:∀{l:List T},sms n l=true↔ ∀t∈l,sm n t=true
 | [] =>by simp[sms]
 | t::l=>by rw[sms,CC,oQ (l:=l)];simp
theorem sm_tup {n:Nat}{l:List T}:sm n (.tup l)=true↔l.length<=n/\∀t∈l,sm n t=true:=by rw[sm,CC,oQ,decide_eq_true_iff]
theorem gu {i j:Int}(h:0<j):gv (.int i) (.int j)= .ok (.int (i % j)):=by show(if _ then _ else _)=_;rw[if_pos h]
theorem i3 {i j:Int}(h:0<j)(h2:j<1073741824):gS (.int i) (.int j)= .ok (.int (i / j)):=by show(if _ then _ else _)=_;rw[if_pos ⟨h,h2⟩]
theorem gO {i j:Int}(h : -18446744073709551616<i)(h2:i<18446744073709551616):cO (.int i) (.int j)= .ok (.int (i*j)):=by
 show sU (.int i) (.int j)=_
 show(if _ then _ else _)=_
 rw[if_pos (.inl ⟨by omega,by omega⟩)]
theorem AN {i j:Int}(h : -18446744073709551616<j)(h2:j<18446744073709551616):cO (.int i) (.int j)= .ok (.int (i*j)):=by
 show sU (.int i) (.int j)=_
 show(if _ then _ else _)=_
 rw[if_pos (.inr ⟨by omega,by omega⟩)]
theorem zg (ns:List Int)(k:Nat)(hn:ns.length<=63):∃c,dw [.scr ns,.int k] = .ok (.int c):=by
 have e0:o2 xk (vr 0) (gz ah) [.va (.scr ns),.va (.int k)] = .ok (.bl (gg ns [])):=by
  refine bh (t:=.scr ns) (u:=.lst []) rfl (m7 (ts:=[]) rfl (eE (k:=0) (CM _))) ?_
  unfold xk;rw[if_pos (gR (by simp[T.dep]) rfl rfl)]
  rfl
 cases ns with
 | nil=>
  refine⟨7*k,c9 rfl ?_⟩
  unfold fO
  refine yT ((xf (jC e0)).trans (d8 (bh (t:=.int 7) (u:=.int k) rfl rfl (gO (by omega) (by omega)))))
 | cons a r=>
  have hl:(0:Int)<((a::r).length:Nat):=by simp only[CJ];omega
  have hl2:(((a::r).length:Nat):Int)<1073741824:=by simp only[CJ]at hn ⊢;omega
  have hi:k % (a::r).length<(a::r).length:=Nat.mod_lt _ (by simp)
  have g0:o2 gv (vr 1) (cl c8 (ae (vr 0) ah)) [.va (.scr (a::r)),.va (.int k)] = .ok (.int ((k % (a::r).length:Nat):Int)):=by
   refine bh (t:=.int k) (u:=.int ((a::r).length:Nat)) rfl ?_ (by rw[gu hl];rfl)
   refine bO (ts:=[.scr (a::r)]) rfl ?_
   show Rs.ok (T.int (((a::r).map T.int).length:Nat))=_
   rw[CI]
  have g1:a9 (.scr (a::r)) (.int ((k % (a::r).length:Nat):Int))= .ok (.int (a::r)[k % (a::r).length]):=by
   have e:((a::r).map T.int)[k % (a::r).length]? =some (.int (a::r)[k % (a::r).length]):=by rw[Dn,CP hi];rfl
   show(match L2.atI ((a::r).map T.int) ((k % (a::r).length:Nat):Int)with | some t=>Rs.ok t | none=> .bad)=_
   rw[ix e]
  have g2:o2 gS (vr 1) (cl c8 (ae (vr 0) ah)) [.va (.scr (a::r)),.va (.int k)] = .ok (.int ((k:Int) / ((a::r).length:Nat))):=by
   refine bh (t:=.int k) (u:=.int ((a::r).length:Nat)) rfl ?_ (i3 hl hl2)
   refine bO (ts:=[.scr (a::r)]) rfl ?_
   show Rs.ok (T.int (((a::r).map T.int).length:Nat))=_
   rw[CI]
  refine⟨(a::r)[k % (a::r).length] +6553*((k:Int) / ((a::r).length:Nat)),c9 rfl ?_⟩
  unfold fO
  show aL _ _ [.va (.scr (a::r)),.va (.int k)] =_
  refine(aY (ρ':=[.va (.scr (a::r)),.va (.int k)]) ((m9 (jC e0)).trans rfl)).trans ?_
  exact d8 (bh (bh (t:=.scr (a::r)) rfl g0 g1) (bh (t:=.int 6553) rfl g2 (gO (by omega) (by omega))) rfl)
theorem cp (ns:List Int)(k:Nat)(m:Int)(hn:ns.length<=63)(hm:0<m):∃r,ar [.scr ns,.int k,.int m] = .ok (.int r)/\0<=r/\r<m:=by
 obtain⟨c,hc⟩:=zg ns k hn
 have b1:∀x:Int,0<=x % 2147483563/\x % 2147483563<2147483563:=λx=>⟨Iq _ (by omega),G5 _ (by omega)⟩
 have b2:∀x:Int,0<=x % 2147483399/\x % 2147483399<2147483399:=λx=>⟨Iq _ (by omega),G5 _ (by omega)⟩
 generalize hx:(c % 2147483563*69069+104723*((k:Int)+1)) % 2147483563=x
 have hx':=b1 (c % 2147483563*69069+104723*((k:Int)+1));rw[hx]at hx'
 generalize hy:(x*x+x / 3) % 2147483399=y
 have hy':=b2 (x*x+x / 3);rw[hy]at hy';refine⟨(y*y+y / 7) % 2147483647 / 11 % m,c9 rfl ?_,Iq _ (by omega),G5 _ hm⟩
 show fv [.va (.scr ns),.va (.int k),.va (.int m),.em] =_
 unfold fv
 have s1:cH (o2 gv (o2 ax (o2 cO (o2 gv (cl dw (ae (vr 0) (ae (vr 1) ah))) (cn (.int 2147483563))) (cn (.int 69069))) (o2 cO (cn (.int 104723)) (o2 ax (vr 1) (cn (.int 1))))) (cn (.int 2147483563))) (gN 3) [.va (.scr ns),.va (.int k),.va (.int m),.em] = .ok (.nx [.va (.scr ns),.va (.int k),.va (.int m),.va (.int x)]):=by
  refine bX (t:=.int x) (bh (u:=.int 2147483563) (bh (bh (u:=.int 69069) (bh (u:=.int 2147483563) (bO (ts:=[.scr ns,.int k]) rfl hc) rfl (gu (by omega))) rfl (AN (by omega) (by omega))) (bh (t:=.int 104723) (u:=.int ((k:Int)+1)) rfl rfl (gO (by omega) (by omega))) rfl) rfl ?_) rfl
  rw[gu (by omega),hx]
 have s2:cH (o2 gv (o2 ax (o2 cO (vr 3) (vr 3)) (o2 gS (vr 3) (cn (.int 3)))) (cn (.int 2147483399))) (gN 3) [.va (.scr ns),.va (.int k),.va (.int m),.va (.int x)] = .ok (.nx [.va (.scr ns),.va (.int k),.va (.int m),.va (.int y)]):=by
  refine bX (t:=.int y) (bh (u:=.int 2147483399) (bh (bh (t:=.int x) (u:=.int x) rfl rfl (gO (by omega) (by omega))) (bh (t:=.int x) (u:=.int 3) rfl rfl (i3 (by omega) (by omega))) rfl) rfl ?_) rfl
  rw[gu (by omega),hy]
 rw[aY s1,aY s2];exact d8 (bh (u:=.int m) (bh (u:=.int 11) (bh (u:=.int 2147483647) (bh (bh (t:=.int y) (u:=.int y) rfl rfl (gO (by omega) (by omega))) (bh (t:=.int y) (u:=.int 7) rfl rfl (i3 (by omega) (by omega))) rfl) rfl (gu (by omega))) rfl (i3 (by omega) (by omega))) rfl (gu hm))
theorem bV {ns:List Int}{k:Nat}{m r:Int}{f g h:En->Rs T}{ρ:En}(e:ar [.scr ns,.int k,.int m] = .ok (.int r))(h1:f ρ= .ok (.scr ns))(h2:g ρ= .ok (.int k))(h3:h ρ= .ok (.int m)) :
  cl ar (ae f (ae g (ae h ah))) ρ= .ok (.int r):=bO (ao h1 (ao h2 (ao h3 rfl))) e
theorem mS:∀l:List Int,jy (l.map .int)=some l
 | [] =>rfl
 | a::l=>by rw[C3,jy,mS l]
theorem oW (n:Nat):rng 0 (n:Int)=(DH n).map λ(j:Nat)=>T.int j:=by
 unfold rng;simp
theorem uM (n:Nat)(l:List Int)(h:l.length<=n):sm n (.tup (l.map .int))=true:=sm_tup.mpr ⟨by rw[CI];exact h,λt ht=>by obtain⟨x,_,rfl⟩:=CY.mp ht;simp[sm]⟩
theorem lJ {y:T}:∀(cs:List T) (i:Nat),y∈eQ i cs->∃c k:Nat,y= .tup [.int c,.int k]/\i<=c/\c<i+cs.length/\k<Bx (cs.getD (c - i) .non)
 | [],i,h=>by cases h
 | x::cs,i,h=>by
  rw[eQ]at h;rcases CU.mp h with h | h
  ·unfold lT at h
   obtain⟨t,ht,rfl⟩:=CY.mp h;obtain⟨j,rfl,hj⟩:=lb ht;refine⟨i,j,rfl,CM _,by rw[CJ];omega,?_⟩
   rw[Nat.sub_self]
   show j<Bx x
   omega
  ·obtain⟨c,k,e,h1,h2,h3⟩:=lJ cs (i+1) h
   refine⟨c,k,e,by omega,by rw[CJ];omega,?_⟩
   have:c - i=(c - (i+1))+1:=by omega
   rw[this];exact h3
theorem xj {cs:List T}{y:T}(h:y∈eQ 0 cs):aX cs y=true:=by
 obtain⟨c,k,rfl,_,h2,h3⟩:=lJ cs 0 h
 show(decide ((0:Int)<=(c:Int))&&decide ((c:Int)<(cs.length:Int))&&(decide ((0:Int)<=(k:Int))&&decide ((k:Int)<(reads cs (c:Int):Int))))=true
 rw[Nat.sub_zero]at h3;rw[qf];simp only[CC,decide_eq_true_eq];omega
theorem ko:∀(cs:List T) (i:Nat),(eQ i cs).Nodup
 | [],i=>List.nodup_nil
 | x::cs,i=>by
  rw[eQ,JX];refine⟨?_,ko cs (i+1),?_⟩
  ·unfold lT rng
   rw[Dd];rw[GX,List.pairwise_map];refine List.nodup_range.imp ?_
   intro a b hab e
   simp at e
   exact hab (by omega)
  ·intro a ha b hb e
   subst e;unfold lT at ha;obtain⟨t,ht,rfl⟩:=CY.mp ha;obtain⟨c,k,e,h1,_,_⟩:=lJ cs (i+1) hb
   simp at e
   omega
theorem sQ {l:List T}(h:l.Nodup){i j:Nat}(hi:i<l.length)(hj:j<l.length)(hij:i≠j):l[i] ≠l[j]:=by
 rw[GX,Hb]at h;rcases G2 i j with q | q
 ·exact h i j hi hj q
 ·exact λe=>h j i hj hi (by omega) e.symm
theorem pF:∀(cs:List T) (i:Nat),(∀c∈cs,bw c=true)->(eQ i cs).length<=4*cs.length
 | [],i,_=>CM _
 | x::cs,i,h=>by
  obtain⟨a,b,r,rfl,_,h2⟩:=fJ (h x CL)
  have:=pF cs (i+1) λc hc=>h c (CH _ hc)
  rw[eQ,CF,jK,CJ]
  show r.length+_<=_
  omega
theorem tQ {cs:List T}{a b:T}(ha:aX cs a=true)(hb:aX cs b=true)(h:a≠b):bH a b=false:=by
 obtain⟨c,k,rfl⟩:=eG ha;obtain⟨c',k',rfl⟩:=eG hb;rw[Bool.eq_false_iff];intro e;simp[bH,beqTs]at e;exact h (by rw[e.1,e.2])
theorem mF {cs:List T}{a:T}(ha:aX cs a=true):sm 8 a=true:=by
 obtain⟨c,k,rfl⟩:=eG ha;simp[sm,sms]
theorem tD {l:List T}{i:Nat}(h:i<l.length):a9 (.lst l) (.int (i:Int))= .ok l[i]:=by
 show(match L2.atI l (i:Int)with | some t=>Rs.ok t | none=> .bad)=_
 rw[ix (CP h)]
def okv:Rs T->T
 | .ok t=>t
 | _=> .non
def wM (cs ls:List T):Prop:=∀t∈ls,bC cs t=true/\sm 8 t=true
theorem gP {cs:List T}{t:T}(h:bC cs t=true):∃a b x y,t= .tup [a,b,x,y]/\dr x y=true/\aX cs a=true/\aX cs b=true/\bH a b=false:=by
 unfold bC at h
 split at h
 ·simp only[CC,JR]at h
  exact⟨_,_,_,_,rfl,h.1,h.2.1,h.2.2.1,h.2.2.2⟩
 ·cases h
theorem xW {cs ls:List T}(hc:aN (.tup cs)=true)(hs:∀c∈cs,sm 8 c=true)(hl:wM cs ls)(hn:ls.length<=8):eY (RR cs ls)=true/\sm 8 (RR cs ls)=true:=by
 refine⟨?_,?_⟩
 ·show(aN (.tup cs)&&(cR (.tup ls) 0 8&&ls.all (bC cs)))=true
  rw[hc,Jr,CC,Dc];exact⟨by simp[cR];exact hn,λt ht=>(hl t ht).1⟩
 ·refine sm_tup.mpr ⟨by simp,λt ht=> ?_⟩
  simp only[CO,Ei,or_false]at ht;rcases ht with rfl | rfl
  ·exact sm_tup.mpr ⟨by have:=(ei hc).2.2;omega,hs⟩
  ·exact sm_tup.mpr ⟨hn,λt ht=>(hl t ht).2⟩
end G
namespace Tr
open PySem
section
variable {f fa fb:En->Rs T}{fs:En->Rs (List T)}{b c:En->Rs Bool}{F G:En->Rs Fl}{ρ ρ' ρ1 ρ2:En}{t u r:T}{ts l m:List T}
mutual
theorem iw:∀(t:T),t.pl=true->bH t t=true
 | .non,_=>rfl
 | .bl a,_=>by simp[bH]
 | .int a,_=>by simp[bH]
 | .str a,_=>by simp[bH]
 | .tup l,h=>by rw[bH];exact beqTs_refl l (by unfold T.pl at h;exact h)
 | .lst l,h=>by rw[bH];exact beqTs_refl l (by unfold T.pl at h;exact h)
 | .scr _,h=>by simp[T.pl]at h
theorem beqTs_refl:∀(l:List T),plS l=true->beqTs l l=true
 | [],_=>rfl
 | t::l,h=>by
  unfold plS at h;rw[CC]at h;rw[beqTs,iw t h.1,beqTs_refl l h.2];rfl
end
theorem lI (hp:t.pl=true)(hd:t.dep<=60):oa t t= .ok (.bl false):=by
 unfold oa;rw[if_pos (gR hd (T.BZ _ hp) (T.BZ _ hp)),iw t hp];rfl
theorem v3 (hp:t.pl=true)(hd:t.dep<=60):xk t t= .ok (.bl true):=by
 unfold xk;rw[if_pos (gR hd (T.BZ _ hp) (T.BZ _ hp)),iw t hp]
theorem lU {n:Nat}:∀{l:List T},(∀t∈l,t.dep<=n)->deps l<=n
 | [],_=>by unfold deps;omega
 | t::l,h=>by
  unfold deps
  have:=lU (l:=l) λu hu=>h u (CH _ hu)
  have:=h t CL;omega
end
end Tr
namespace G
open PySem Tr PySem.StrLaws
def tx (l:List Nat):Str:=⟨l.toArray⟩
theorem e9 (l:List Nat):(tx l).cps.toList=l:=by simp[tx]
theorem cJ (l:List Nat):(tx l).length=l.length:=by show l.toArray.size=_;simp
theorem jb (a b:List Nat):tx a++tx b=tx (a++b):=Str.ext' (by simp[Str.cps_append,tx])
theorem rA (x:Str):tx x.cps.toList=x:=Str.ext' (by simp[tx])
theorem xG {a b:List Nat}(h:tx a=tx b):a=b:=by
 have:=congrArg (λx:Str=>x.cps.toList) h
 rwa [e9,e9]at this
theorem rB (l:List Str):(l.map λx=>x.cps.toList).map tx=l:=by
 rw[Dd];exact(DU λx _=>rA x).trans (List.map_id l)
def aM (c:Nat):List (List Nat)->List Nat
 | [] => []
 | [p] =>p
 | p::q::r=>p++c::aM c (q::r)
theorem lP (c:Nat):∀ps:List (List Nat),Str.join (tx [c]) (ps.map tx)=tx (aM c ps)
 | [] =>rfl
 | [p] =>rfl
 | p::q::r=>by
  show tx p++tx [c] ++Str.join (tx [c]) ((q::r).map tx)=_
  rw[lP c (q::r),jb,jb]
  show tx ((p++ [c])++aM c (q::r))=tx (p++c::aM c (q::r))
  rw[Dq];rfl
theorem Bg {c:Nat}:∀{p q r r':List Nat},c∉p->c∉q->(r= []\/∃t,r=c::t)->(r'= []\/∃t,r'=c::t)->p++r=q++r'->p=q/\r=r'
 | [],[],r,r',_,_,_,_,h=>⟨rfl,h⟩
 | [],b::q,r,r',_,hq,hr,_,h=>by
  rcases hr with rfl | ⟨t,rfl⟩
  ·cases h
  ·injection h with h1 _;exact absurd (h1▸CL) hq
 | a::p,[],r,r',hp,_,_,hr,h=>by
  rcases hr with rfl | ⟨t,rfl⟩
  ·cases h
  ·injection h with h1 _;exact absurd (h1▸CL) hp
 | a::p,b::q,r,r',hp,hq,hr,hr',h=>by
  injection h with h1 h2
  obtain⟨e1,e2⟩:=Bg (λz=>hp (CH _ z)) (λz=>hq (CH _ z)) hr hr' h2
  exact⟨by rw[h1,e1],e2⟩
def rF (c:Nat):List (List Nat)->List Nat
 | [] => []
 | q::r=>c::aM c (q::r)
theorem jE (c:Nat)(p:List Nat):∀r,aM c (p::r)=p++rF c r
 | [] =>(Do p).symm
 | _::_=>rfl
theorem mq (c:Nat):∀r,rF c r= []\/∃t,rF c r=c::t
 | [] => .inl rfl
 | _::_=> .inr ⟨_,rfl⟩
theorem kE {c:Nat}:∀{ps qs:List (List Nat)},ps≠ []->qs≠ []->(∀p∈ps,c∉p)->(∀q∈qs,c∉q)->aM c ps=aM c qs->ps=qs
 | [],_,h,_,_,_,_=>absurd rfl h
 | _::_,[],_,h,_,_,_=>absurd rfl h
 | p::ps,q::qs,_,_,hp,hq,h=>by
  rw[jE,jE]at h;obtain⟨e1,e2⟩:=Bg (hp p CL) (hq q CL) (mq c ps) (mq c qs) h
  cases ps with
  | nil=>
   cases qs with
   | nil=>rw[e1]
   | cons=>cases e2
  | cons a ps=>
   cases qs with
   | nil=>cases e2
   | cons b qs=>
    have e3:aM c (a::ps)=aM c (b::qs):=by injection e2
    rw[e1,kE (by simp) (by simp) (λx hx=>hp x (CH _ hx)) (λx hx=>hq x (CH _ hx)) e3]
theorem rP (x y:Str):FB x y≠ []:=by
 unfold FB;split
 ·simp
 ·split
  ·simp
  ·rw[partsBetween_eq]
   obtain⟨p,r,e⟩:=partsFrom_ne x y.length 0 (Fd x y 0 x.length (x.length+1));rw[e];simp
theorem rO (c:Nat){ps:List (List Nat)}(hne:ps≠ [])(hf:∀p∈ps,c∉p):FB (tx (aM c ps)) (tx [c])=ps.map tx:=by
 have e:=join_split (tx (aM c ps)) (tx [c])
 have f:=split_free (tx (aM c ps)) c
 have n:=rP (tx (aM c ps)) (tx [c])
 have f':∀p∈FB (tx (aM c ps)) (tx [c]),c∉p.cps.toList:=f
 generalize FB (tx (aM c ps)) (tx [c])=S at e n f'
 rw[<-rB S,lP]at e
 have:=kE (by intro z;exact n (GP.mp z)) hne (λp hp=>by obtain⟨s,hs,rfl⟩:=CY.mp hp;exact f' s hs) hf (xG e)
 rw[<-this,rB]
theorem ox (l:List Nat)(c i:Nat):At (tx l) (tx [c]) (tx l).length i↔l[i]? =some c:=by
 have:=subAt_one (tx l) c i;rw[e9]at this;exact this
theorem rL (l:List Nat)(i j:Nat):Jd (tx l) i j=tx ((l.drop i).take (j - i)):=by
 rw[<-rA (Jd (tx l) i j),strSub_toList,e9]
theorem vA (c:Nat)(a b:List Nat)(h:c∉a):D9 (tx (a++c::b)) (tx [c])=(tx a,tx [c],tx b):=by
 have hat:(a++c::b)[a.length]? =some c:=by rw[EK (CM _),Nat.sub_self];rfl
 unfold D9;rcases occ_head (tx (a++c::b)) (tx [c]) 1 (CM _)with⟨_,hn⟩ | ⟨i,r,e,hi,hmin⟩
 ·exact absurd ((ox _ c a.length).mpr hat) (hn _)
 ·rw[e]
  have hi':=(ox _ c i).mp hi
  have:i=a.length:=by
   rcases Hv i a.length with z | z | z
   ·rw[Et z]at hi'
    exact absurd (EX hi') h
   ·exact z
   ·exact absurd ((ox _ c a.length).mpr hat) (hmin _ z)
  subst this
  dsimp only
  rw[rL,rL,cJ,cJ];simp;rw[List.take_of_length_le (by omega)]
theorem kh (p r:List Nat):EW (tx (p++r)) (tx p)=true:=by
 unfold EW;rw[subAt_eq,e9,cJ,cJ,e9];simp
theorem cM {p x:List Nat}(h:x.take p.length≠p):EW (tx x) (tx p)=false:=by
 unfold EW;rw[subAt_eq,e9,cJ,cJ,e9];simp only[List.drop_zero,Gq];exact .inr (by simpa using h)
end G
namespace G
open PySem Tr PySem.StrLaws PySem.NumText PyProof.Rows
theorem gX {n:Nat}(h:n<=100000):n<=sizeLine:=by rw[Ea];omega
theorem addS {a b:List Nat}(h:a.length+b.length<=100000):ax (.str (tx a)) (.str (tx b))= .ok (.str (tx (a++b))):=by
 show(if (tx a).length+(tx b).length<=sizeLine then Rs.ok (T.str (tx a++tx b))else .bad)=_
 rw[cJ,cJ,if_pos (gX h),jb]
theorem rM:∀ps:List (List Nat),gI (ps.map λp=>T.str (tx p))=some (ps.map tx)
 | [] =>rfl
 | p::ps=>by
  show(gI (ps.map λp=>T.str (tx p))).map (tx p:: ·)=_
  rw[rM ps];rfl
theorem vM (ps:List (List Nat)):((ps.map tx).map (·.length)).sum=(ps.map (·.length)).sum:=by
 rw[Dd];exact congrArg List.sum (DU λp _=>cJ p)
theorem kB {sep:List Nat}{ps:List (List Nat)}(h:(ps.map (·.length)).sum+ps.length*sep.length<=100000):JoinOk (tx sep) (ps.map tx)=true:=by
 unfold JoinOk Builtin.Str.tooLong;rw[joinTotal,vM,CI,cJ,decide_eq_false (by rw[Ea];omega)]
 rfl
theorem xg {c:Nat}{ps:List (List Nat)}(h:(ps.map (·.length)).sum+ps.length<=100000):eF [.str (tx [c]),.lst (ps.map λp=>T.str (tx p))] = .ok (.str (tx (aM c ps))):=by
 show(match gI (ps.map λp=>T.str (tx p))with | some ss=>if JoinOk (tx [c]) ss=true then Rs.ok (T.str (Txt.join (tx [c]) ss))else .bad | none=> .bad)=_
 rw[rM]
 dsimp only
 rw[if_pos (kB (by simpa using h))]
 show Rs.ok (T.str (JM (tx [c]) (ps.map tx)))=_
 rw[glued_eq_join,lP]
theorem tw:∀ps:List (List Nat),Str.join (tx []) (ps.map tx)=tx ps.flatten
 | [] =>rfl
 | [p] =>by show tx p=tx (p++ []);rw[Do]
 | p::q::r=>by
  show tx p++tx [] ++Str.join (tx []) ((q::r).map tx)=_
  rw[tw (q::r),jb,jb,Do];rfl
theorem xh {ps:List (List Nat)}(h:(ps.map (·.length)).sum<=100000):eF [.str (tx []),.lst (ps.map λp=>T.str (tx p))] = .ok (.str (tx ps.flatten)):=by
 show(match gI (ps.map λp=>T.str (tx p))with | some ss=>if JoinOk (tx []) ss=true then Rs.ok (T.str (Txt.join (tx []) ss))else .bad | none=> .bad)=_
 rw[rM]
 dsimp only
 rw[if_pos (kB (by simpa using h))]
 show Rs.ok (T.str (JM (tx []) (ps.map tx)))=_
 rw[glued_eq_join,tw]
theorem rQ {c:Nat}{ps:List (List Nat)}(hne:ps≠ [])(hf:∀p∈ps,c∉p)(h1:(aM c ps).length<=100000)(h2:ps.length<=100000):ff [.str (tx (aM c ps)),.str (tx [c])] = .ok (.lst (ps.map λp=>T.str (tx p))):=by
 show(if (tx [c]).length≠0/\(tx (aM c ps)).length<=1000000/\(FB (tx (aM c ps)) (tx [c])).length<=1000000 then Rs.ok (T.lst ((FB (tx (aM c ps)) (tx [c])).map .str))else .bad)=_
 rw[rO c hne hf,cJ,cJ,if_pos ⟨by simp,by omega,by rw[CI];omega⟩,Dd]
 rfl
theorem kl {c:Nat}{a b:List Nat}(hf:c∉a)(h:(a++c::b).length<=100000):fx [.str (tx (a++c::b)),.str (tx [c])] = .ok (.tup [.str (tx a),.str (tx [c]),.str (tx b)]):=by
 show(if (tx [c]).length≠0/\(tx (a++c::b)).length<=1000000 then Rs.ok (T.tup [.str (D9 (tx (a++c::b)) (tx [c])).1,.str (D9 (tx (a++c::b)) (tx [c])).2.1,.str (D9 (tx (a++c::b)) (tx [c])).2.2])else .bad)=_
 rw[vA c a b hf,cJ,cJ,if_pos ⟨by simp,by omega⟩]
theorem iO {g:List T->Rs T}{fa:En->Rs T}{fs:En->Rs (List T)}{ρ:En}{s:Str}{ts:List T}{x:Rs T}(h1:fa ρ= .ok (.str s))(h2:fs ρ= .ok ts)(h3:g (.str s::ts)=x):oS g fa fs ρ=x:=by
 unfold oS;rw[h1]
 show(fs ρ >>= λts=>g (.str s::ts))=x
 rw[h2];exact h3
def dg (i:Int):List Nat:=(C0 (toString i)).cps.toList
theorem xo (i:Int):tx (dg i)=C0 (toString i):=rA _
theorem strS {i:Int}(h0:0<=i)(h1:i<10000):bM [.int i] = .ok (.str (tx (dg i))):=by
 show(if i.natAbs.log2<1920 then Rs.ok (T.str (C0 (toString i)))else .bad)=_
 rw[xo,if_pos]
 by_cases z:i.natAbs=0
 ·rw[z];decide
 ·have h2:i.natAbs<2 ^ 14:=by omega
  exact CS ((Nat.log2_lt z).mpr h2) (by decide)
theorem pM {i:Int}(h0:0<=i):∀c∈dg i,48<=c/\c<=57:=by
 obtain⟨m,rfl⟩:=Dw h0;intro c hc;unfold dg at hc;rw[W.KIN.signs_num]at hc;obtain⟨ch,hch,e⟩:=CY.mp hc
 have r:=digit_range (Nat.isDigit_of_mem_toDigits (by decide) (by decide) hch)
 rw[<-e];exact r
theorem bW {i:Int}(h0:0<=i){c:Nat}(hc:c<48):c∉dg i:=λz=>by have:=pM h0 c z;omega
theorem bQ {i:Int}(h0:0<=i)(h1:i<10000):(dg i).length<=10:=by
 have:=W.KT.len_num h0 (by omega:i<10 ^ 10)
 exact this
theorem lF {i:Int}(h0:0<=i)(h1:i<10000):il (tx (dg i))= .int i:=by
 unfold il;rw[xo,W.KIN.num_reads h0 (by omega)]
theorem dJ {i:Int}(h0:0<=i)(h1:i<10000):lG (.str (tx (dg i)))= .ok (.int i):=by
 show(if (tx (dg i)).length<=640/\(tx (dg i)).cps.all (· <1114112)=true then Rs.ok (il (tx (dg i)))else .bad)=_
 have ha:(tx (dg i)).cps.all (· <1114112)=true:=by
  rw[Gf];intro c hc
  have hm:c∈dg i:=by simpa [tx]using hc
  have:=pM h0 c hm
  simp;omega
 rw[if_pos ⟨by rw[cJ];have:=bQ h0 h1;omega,ha⟩,lF h0 h1]
theorem vG:lG (.str (tx []))= .ok .non:=by
 have e:Kx (tx [])=none:=by decide+kernel
 show(if (tx []).length<=640/\(tx []).cps.all (· <1114112)=true then Rs.ok (il (tx []))else .bad)=_
 rw[if_pos ⟨by decide,by decide+kernel⟩]
 unfold il;rw[e]
theorem tS {t:T}{s:Str}(h:lG (.str s)= .ok t):bA [.str s] = .ok t:=by
 refine c9 rfl ?_
 show qe (vr 0) [.va (.str s)] =_
 unfold qe
 show(lG (.str s) >>= λv=>Rs.ok (Fl.rt v))=_
 rw[h];rfl
def Lc:List Nat:=[99,108,111,99,107,32]
def Ll:List Nat:=[108,101,116,116,101,114,32]
theorem z8:C0 " " =tx [32]:=rfl
theorem s_e:C0 "" =tx []:=rfl
def zx (s f:Int)(rs:List Int):List Nat:=(dg s++45::dg f)++32::aM 32 (rs.map dg)
def mw:Option Int->List Nat
 | none=> []
 | some m=>dg m
def cZ (c k:Int):List Nat:=dg c++46::dg k
def vO (a b c d l:Int)(m:Option Int):List Nat:=cZ a b++32::(cZ c d++32::(dg l++45::mw m))
def uz (s f:Int)(rs:List Int):T:=.tup [.int s,.int f,.tup (rs.map .int)]
def mV:Option Int->T
 | none=> .non
 | some m=> .int m
def xb (a b c d l:Int)(m:Option Int):T:=.tup [.tup [.int a,.int b],.tup [.int c,.int d],.int l,mV m]
structure Ck (s f:Int)(rs:List Int):Prop where
 s0:0<=s
 s1:s<10000
 f0:0<=f
 f1:f<10000
 n0:rs≠ []
 n1:rs.length<=4
 r:∀r∈rs,0<=r/\r<10000
structure Le (a b c d l:Int)(m:Option Int):Prop where
 a:0<=a/\a<10000
 b:0<=b/\b<10000
 c:0<=c/\c<10000
 d:0<=d/\d<10000
 l:0<=l/\l<10000
 m:∀k,m=some k->0<=k/\k<10000
theorem fW (c:Nat):∀ps:List (List Nat),(aM c ps).length<=(ps.map (·.length)).sum+ps.length
 | [] =>CM _
 | [p] =>by simp[aM]
 | p::q::r=>by
  have:=fW c (q::r)
  show(p++c::aM c (q::r)).length<=_
  rw[CF,CJ,C3,GB,CJ];omega
theorem kT:∀(rs:List Int),(∀r∈rs,0<=r/\r<10000)->((rs.map dg).map (·.length)).sum<=10*rs.length
 | [],_=>CM _
 | r::rs,h=>by
  have h1:=kT rs λx hx=>h x (CH _ hx)
  have h2:=bQ (h r CL).1 (h r CL).2;rw[C3,C3,GB,CJ];omega
theorem jN {s f:Int}{rs:List Int}(h:Ck s f rs):(zx s f rs).length<=100:=by
 have h1:=bQ h.s0 h.s1
 have h2:=bQ h.f0 h.f1
 have h3:=fW 32 (rs.map dg)
 have h4:=kT rs h.r
 have h5:=h.n1;rw[CI]at h3;unfold zx;simp only[CF,CJ];omega
theorem iu {c k:Int}(h:0<=c/\c<10000)(h':0<=k/\k<10000):(cZ c k).length<=21:=by
 have h1:=bQ h.1 h.2
 have h2:=bQ h'.1 h'.2;unfold cZ;simp only[CF,CJ];omega
theorem og {m:Option Int}(h:∀k,m=some k->0<=k/\k<10000):(mw m).length<=10:=by
 cases m with
 | none=>exact Ey _
 | some k=>exact bQ (h k rfl).1 (h k rfl).2
theorem lM {a b c d l:Int}{m:Option Int}(h:Le a b c d l m):(vO a b c d l m).length<=100:=by
 have h1:=iu h.a h.b
 have h2:=iu h.c h.d
 have h3:=bQ h.l.1 h.l.2
 have h4:=og h.m;unfold vO;simp only[CF,CJ];omega
theorem aW {fa fb:En->Rs T}{ρ:En}{a b:List Nat}(ha:fa ρ= .ok (.str (tx a)))(hb:fb ρ= .ok (.str (tx b)))(h:a.length+b.length<=100000):o2 ax fa fb ρ= .ok (.str (tx (a++b))):=bh ha hb (addS h)
theorem cX {f:En->Rs T}{ρ:En}{i:Int}(h:f ρ= .ok (.int i))(h0:0<=i/\i<10000):cl bM (ae f ah) ρ= .ok (.str (tx (dg i))):=bO (ao h aC) (strS h0.1 h0.2)
theorem pL {s f:Int}{rs:List Int}(h:Ck s f rs):bg [uz s f rs] = .ok (.str (tx (Lc++zx s f rs++ [10]))):=by
 have hl:=jN h
 have hi:=fW 32 (rs.map dg)
 have h4:=kT rs h.r
 have h5:=h.n1
 have d1:=bQ h.s0 h.s1
 have d2:=bQ h.f0 h.f1;rw[CI]at hi;refine c9 rfl ?_
 show fq [.va (uz s f rs),.em] =_
 unfold fq
 have e1:ej (iS (o2 a9 (vr 0) (cn (.int 2)))) [none] (gN 0) bT (cl bM (ae (vr 0) ah)) [.va (uz s f rs),.em] = .ok (.lst ((rs.map dg).map λp=>T.str (tx p))):=by
  have:=lO (fe:=cl bM (ae (vr 0) ah)) (h:=λt=>match t with | .int i=>T.str (tx (dg i)) | _=> .non) (src:=[none]) (ρ:=[.va (uz s f rs),.em]) (fi:=iS (o2 a9 (vr 0) (cn (.int 2)))) (ts:=rs.map .int) (yW (l:=rs.map .int) (vP (n:=2) (l:=[.int s,.int f,.tup (rs.map .int)]) rfl rfl rfl)) (by rw[CI];exact gX (by omega)) (by decide) (λt ht=>by
   obtain⟨r,hr,rfl⟩:=CY.mp ht;exact cX rfl (h.r r hr))
  rw[this,Dd,Dd]
  rfl
 have e2:oS eF (cn (.str " ")) (ae (ej (iS (o2 a9 (vr 0) (cn (.int 2)))) [none] (gN 0) bT (cl bM (ae (vr 0) ah))) ah) [.va (uz s f rs),.em] = .ok (.str (tx (aM 32 (rs.map dg)))):=
  iO rfl (ao e1 aC) (by rw[z8];exact xg (by rw[CI];omega))
 rw[aY (bX e2 (show gN 1 _ _= .ok [.va (uz s f rs),.va (.str (tx (aM 32 (rs.map dg))))]from rfl))]
 have x0:o2 a9 (vr 0) (cn (.int 0)) [.va (uz s f rs),.va (.str (tx (aM 32 (rs.map dg))))] = .ok (.int s):=rfl
 have x1:o2 a9 (vr 0) (cn (.int 1)) [.va (uz s f rs),.va (.str (tx (aM 32 (rs.map dg))))] = .ok (.int f):=rfl;refine d8 ((aW (aW (aW (aW (aW (aW (a:=Lc) rfl (cX x0 ⟨h.s0,h.s1⟩) ?_) (b:=[45]) rfl ?_) (cX x1 ⟨h.f0,h.f1⟩) ?_) (b:=[32]) rfl ?_) (b:=aM 32 (rs.map dg)) rfl ?_) (b:=[10]) rfl ?_).trans ?_)
 any_goals (simp only[CF,CJ,Ds,Lc];omega)
 unfold zx;simp only[Dq,Fi,Ew]
theorem pK {c k:Int}(hc:0<=c/\c<10000)(hk:0<=k/\k<10000):bN [.tup [.int c,.int k]] = .ok (.str (tx (cZ c k))):=by
 have h1:=bQ hc.1 hc.2
 have h2:=bQ hk.1 hk.2;refine c9 rfl (d8 ((aW (aW (cX (i:=c) rfl hc) (b:=[46]) rfl ?_) (cX (i:=k) rfl hk) ?_).trans ?_))
 any_goals (simp only[CF,CJ,Ds];omega)
 unfold cZ;simp only[Dq,Fi,Ew]
theorem pI {a b c d l:Int}{m:Option Int}(h:Le a b c d l m):a6 [xb a b c d l m] = .ok (.str (tx (Ll++vO a b c d l m++ [10]))):=by
 have h1:=iu h.a h.b
 have h2:=iu h.c h.d
 have h3:=bQ h.l.1 h.l.2
 have h4:=og h.m;refine c9 rfl ?_
 show eO [.va (xb a b c d l m),.em] =_
 unfold eO
 have e1:vU (tb (o2 j9 (o2 a9 (vr 0) (cn (.int 3))) (cn .non))) (cn (.str "")) (cl bM (ae (o2 a9 (vr 0) (cn (.int 3))) ah)) [.va (xb a b c d l m),.em] = .ok (.str (tx (mw m))):=by
  cases m with
  | none=>exact(pj (p:=true) rfl).trans rfl
  | some k=>exact(pj (p:=false) rfl).trans (cX (i:=k) rfl (h.m k rfl))
 rw[aY (bX e1 (show gN 1 _ _= .ok [.va (xb a b c d l m),.va (.str (tx (mw m)))]from rfl))]
 have x0:cl bN (ae (o2 a9 (vr 0) (cn (.int 0))) ah) [.va (xb a b c d l m),.va (.str (tx (mw m)))] = .ok (.str (tx (cZ a b))):=bO (ao (t:=.tup [.int a,.int b]) rfl aC) (pK h.a h.b)
 have x1:cl bN (ae (o2 a9 (vr 0) (cn (.int 1))) ah) [.va (xb a b c d l m),.va (.str (tx (mw m)))] = .ok (.str (tx (cZ c d))):=bO (ao (t:=.tup [.int c,.int d]) rfl aC) (pK h.c h.d);refine d8 ((aW (aW (aW (aW (aW (aW (aW (aW (a:=Ll) rfl x0 ?_) (b:=[32]) rfl ?_) x1 ?_) (b:=[32]) rfl ?_) (cX (i:=l) rfl h.l) ?_) (b:=[45]) rfl ?_) (b:=mw m) rfl ?_) (b:=[10]) rfl ?_).trans ?_)
 any_goals (simp only[CF,CJ,Ds,Ll];omega)
 unfold vO;simp only[Dq,Fi,Ew]
abbrev CK:=Int×Int×List Int
abbrev LE:=(Int×Int)×(Int×Int)×Int×Option Int
def cx (x:CK):T:=uz x.1 x.2.1 x.2.2
def gZ (x:CK):List Nat:=zx x.1 x.2.1 x.2.2
abbrev wQ (x:CK):Prop:=Ck x.1 x.2.1 x.2.2
def dy (x:LE):T:=xb x.1.1 x.1.2 x.2.1.1 x.2.1.2 x.2.2.1 x.2.2.2
def jX (x:LE):List Nat:=vO x.1.1 x.1.2 x.2.1.1 x.2.1.2 x.2.2.1 x.2.2.2
abbrev wN (x:LE):Prop:=Le x.1.1 x.1.2 x.2.1.1 x.2.1.2 x.2.2.1 x.2.2.2
def lines (cs:List CK)(ls:List LE):List (List Nat):=(cs.map λx=>Lc++gZ x)++ls.map λx=>Ll++jX x
def ja (cs:List CK)(ls:List LE):List Nat:=((lines cs ls).map (· ++ [10])).flatten
theorem ng:∀ls:List (List Nat),(ls.map (· ++ [10])).flatten=aM 10 (ls++ [[]])
 | [] =>rfl
 | [p] =>by simp[aM]
 | p::q::r=>by
  have:=ng (q::r);rw[C3,DI,this]
  show(p++ [10])++aM 10 (q::r++ [[]])=p++10::aM 10 (q::(r++ [[]]))
  rw[Dq];rfl
theorem kD {c x:Nat}:∀{ps:List (List Nat)},x∈aM c ps->x=c\/∃p∈ps,x∈p
 | [],h=>by cases h
 | [p],h=> .inr ⟨p,CL,h⟩
 | p::q::r,h=>by
  rcases CU.mp (show x∈p++c::aM c (q::r)from h)with h | h
  ·exact .inr ⟨p,CL,h⟩
  ·rcases CO.mp h with h | h
   ·exact .inl h
   ·rcases kD h with h | ⟨p',hp,h⟩
    ·exact .inl h
    ·exact .inr ⟨p',CH _ hp,h⟩
theorem wB {x:CK}(h:wQ x):10∉gZ x:=λz=>by
 unfold gZ zx at z
 have f1:=@bW x.1 h.s0 10 (by decide)
 have f2:=@bW x.2.1 h.f0 10 (by decide)
 rcases CU.mp z with z | z
 ·rcases CU.mp z with z | z
  ·exact f1 z
  ·rcases CO.mp z with z | z
   ·cases z
   ·exact f2 z
 ·rcases CO.mp z with z | z
  ·cases z
  ·rcases kD z with z | ⟨p,hp,z⟩
   ·cases z
   ·obtain⟨r,hr,rfl⟩:=CY.mp hp
    exact bW (h.r r hr).1 (by decide) z
theorem i4 {c k:Int}(hc:0<=c)(hk:0<=k){n:Nat}(hn:n<46):n∉cZ c k:=λz=>by
 unfold cZ at z;rcases CU.mp z with z | z
 ·exact bW hc (by omega) z
 ·rcases CO.mp z with z | z
  ·omega
  ·exact bW hk (by omega) z
theorem vJ {m:Option Int}(h:∀k,m=some k->0<=k/\k<10000){n:Nat}(hn:n<46):n∉mw m:=λz=>by
 cases m with
 | none=>cases z
 | some k=>exact bW (h k rfl).1 (by omega) z
theorem vN {x:LE}(h:wN x):10∉jX x:=λz=>by
 unfold jX vO at z;rcases CU.mp z with z | z
 ·exact i4 h.a.1 h.b.1 (by decide) z
 ·rcases CO.mp z with z | z
  ·cases z
  ·rcases CU.mp z with z | z
   ·exact i4 h.c.1 h.d.1 (by decide) z
   ·rcases CO.mp z with z | z
    ·cases z
    ·rcases CU.mp z with z | z
     ·exact bW h.l.1 (by decide) z
     ·rcases CO.mp z with z | z
      ·cases z
      ·exact vJ h.m (by decide) z
section
variable {cs:List CK}{ls:List LE}(hc:∀x∈cs,wQ x)(hl:∀x∈ls,wN x)
include hc hl
theorem gw:∀p∈lines cs ls,10∉p/\p.length<=110:=by
 intro p hp;rcases CU.mp hp with hp | hp
 ·obtain⟨x,hx,rfl⟩:=CY.mp hp
  refine⟨λz=>(CU.mp z).elim (λz=>by revert z;decide) (wB (hc x hx)),?_⟩
  have:(gZ x).length<=100:=jN (hc x hx);rw[CF]
  show 6+_<=110
  omega
 ·obtain⟨x,hx,rfl⟩:=CY.mp hp
  refine⟨λz=>(CU.mp z).elim (λz=>by revert z;decide) (vN (hl x hx)),?_⟩
  have:(jX x).length<=100:=lM (hl x hx);rw[CF]
  show 7+_<=110
  omega
end
theorem jG {n:Nat}:∀{ps:List (List Nat)},(∀p∈ps,p.length<=n)->ps.flatten.length<=ps.length*n/\(ps.map (·.length)).sum<=ps.length*n
 | [],_=>⟨Ey _,Ey _⟩
 | p::ps,h=>by
  obtain⟨h1,h2⟩:=jG λx hx=>h x (CH _ hx)
  have h3:=h p CL;rw[DI,CF,C3,GB,CJ,Nat.succ_mul];exact⟨by omega,by omega⟩
theorem zf {t:T}(h:aI [t] = .ok (.bl true)):cA [t] = .ok .non:=by
 refine yR (ρ:=[.va t]) rfl ?_
 show cG [.va t] =_
 unfold cG;rw[m9 (m6 (jC (bO (ao (t:=t) rfl aC) h)))]
 rfl
theorem pH {cs:List CK}{ls:List LE}(hc:∀x∈cs,wQ x)(hl:∀x∈ls,wN x)(h4:cs.length<=4)(h8:ls.length<=8)(hr:aI [RR (cs.map cx) (ls.map dy)] = .ok (.bl true)) :
  bf [RR (cs.map cx) (ls.map dy)] = .ok (.str (tx (ja cs ls))):=by
 have hf:=gw hc hl;refine c9 rfl ?_
 show cF [.va (RR (cs.map cx) (ls.map dy)),.em,.em] =_
 unfold cF;rw[aY (k_ex (t:=.non) (bO (ao (t:=RR (cs.map cx) (ls.map dy)) rfl aC) (zf hr)))]
 have e1:ej (iS (o2 a9 (vr 0) (cn (.int 0)))) [none] (gN 0) bT (cl bg (ae (vr 0) ah)) [.va (RR (cs.map cx) (ls.map dy)),.em,.em] = .ok (.lst ((cs.map λx=>Lc++gZ x++ [10]).map λp=>T.str (tx p))):=by
  have:=lO (fe:=cl bg (ae (vr 0) ah)) (h:=λt=>match bg [t]with | .ok u=>u | _=> .non) (src:=[none]) (ρ:=[.va (RR (cs.map cx) (ls.map dy)),.em,.em]) (fi:=iS (o2 a9 (vr 0) (cn (.int 0)))) (ts:=cs.map cx) rfl (by rw[CI];exact gX (by omega)) (by decide) (λt ht=>by
   obtain⟨x,hx,rfl⟩:=CY.mp ht;refine bO (ao (t:=cx x) rfl aC) ?_
   rw[show bg [cx x] =_ from pL (hc x hx)])
  rw[this,Dd,Dd]
  congr 2
  refine DU λx hx=> ?_
  show(match bg [cx x]with | .ok u=>u | _=> .non)=_
  rw[show bg [cx x] =_ from pL (hc x hx)]
  rfl
 rw[aY (bX e1 (show gN 1 _ _= .ok [.va (RR (cs.map cx) (ls.map dy)),.va (.lst ((cs.map λx=>Lc++gZ x++ [10]).map λp=>T.str (tx p))),.em]from rfl))]
 have e2:ej (iS (o2 a9 (vr 0) (cn (.int 1)))) [none] (gN 0) bT (cl a6 (ae (vr 0) ah)) [.va (RR (cs.map cx) (ls.map dy)),.va (.lst ((cs.map λx=>Lc++gZ x++ [10]).map λp=>T.str (tx p))),.em] = .ok (.lst ((ls.map λx=>Ll++jX x++ [10]).map λp=>T.str (tx p))):=by
  have:=lO (fe:=cl a6 (ae (vr 0) ah)) (h:=λt=>match a6 [t]with | .ok u=>u | _=> .non) (src:=[none]) (ρ:=[.va (RR (cs.map cx) (ls.map dy)),.va (.lst ((cs.map λx=>Lc++gZ x++ [10]).map λp=>T.str (tx p))),.em]) (fi:=iS (o2 a9 (vr 0) (cn (.int 1)))) (ts:=ls.map dy) rfl (by rw[CI];exact gX (by omega)) (by decide) (λt ht=>by
   obtain⟨x,hx,rfl⟩:=CY.mp ht;refine bO (ao (t:=dy x) rfl aC) ?_
   rw[show a6 [dy x] =_ from pI (hl x hx)])
  rw[this,Dd,Dd]
  congr 2
  refine DU λx hx=> ?_
  show(match a6 [dy x]with | .ok u=>u | _=> .non)=_
  rw[show a6 [dy x] =_ from pI (hl x hx)]
  rfl
 rw[aY (bX e2 (show gN 2 _ _= .ok [.va (RR (cs.map cx) (ls.map dy)),.va (.lst ((cs.map λx=>Lc++gZ x++ [10]).map λp=>T.str (tx p))),.va (.lst ((ls.map λx=>Ll++jX x++ [10]).map λp=>T.str (tx p)))]from rfl))]
 have hln:((lines cs ls).map (· ++ [10]))=(cs.map λx=>Lc++gZ x++ [10])++(ls.map λx=>Ll++jX x++ [10]):=by
  unfold lines;rw[F7,Dd,Dd];rfl
 have hlen:(lines cs ls).length<=12:=by unfold lines;rw[CF,CI,CI];omega
 have hsum:(((lines cs ls).map (· ++ [10])).map (·.length)).sum<=100000:=by
  have:=(jG (n:=111) (ps:=(lines cs ls).map (· ++ [10])) λp hp=>by
   obtain⟨q,hq,rfl⟩:=CY.mp hp
   have:=(hf q hq).2;rw[CF];show _+1<=111;omega).2
  rw[CI]at this;omega
 refine d8 (iO rfl (ao (bh rfl rfl (pT _ _ (by simp only[CF,CI];omega))) aC) ?_)
 rw[<-F7,<-hln,s_e];exact xh hsum
theorem xH {l:List T}(h:l.length<=1000):eJ [.lst l] = .ok (.tup l):=by
 first | rfl | (show eX l=_;unfold eX;rw[if_pos (gX (by omega))])
theorem v9 {c:Nat}{a b:List Nat}{x y:T}(hf:c∉a)(hl:(a++c::b).length<=100000)(ha:lG (.str (tx a))= .ok x)(hb:lG (.str (tx b))= .ok y):aV [.str (tx (a++c::b)),.str (tx [c])] = .ok (.tup [x,y]):=by
 refine c9 rfl ?_
 show c6 [.va (.str (tx (a++c::b))),.va (.str (tx [c])),.em] =_
 unfold c6;rw[aY (bX (iO rfl (ao (t:=.str (tx [c])) rfl aC) (kl hf hl)) (show gN 2 _ _= .ok [.va (.str (tx (a++c::b))),.va (.str (tx [c])),.va (.tup [.str (tx a),.str (tx [c]),.str (tx b)])]from rfl))]
 exact d8 (d7 (ao (bO (ao (t:=.str (tx a)) rfl aC) (tS ha)) (ao (bO (ao (t:=.str (tx b)) rfl aC) (tS hb)) aC)) (gX (by simp)))
theorem xn {x:CK}(h:wQ x):b7 [.str (tx (gZ x))] = .ok (cx x):=by
 obtain⟨s,f,rs⟩:=x
 have hl:=jN h
 have h5:rs.length<=4:=h.n1
 have hsf:32∉dg s++45::dg f:=λz=>by
  rcases CU.mp z with z | z
  ·exact bW h.s0 (by decide) z
  ·rcases CO.mp z with z | z
   ·cases z
   ·exact bW h.f0 (by decide) z
 have hl2:((dg s++45::dg f)++32::aM 32 (rs.map dg)).length<=100:=hl
 have hl3:=hl2;simp only[CF,CJ]at hl3;refine c9 rfl ?_
 show gB [.va (.str (tx ((dg s++45::dg f)++32::aM 32 (rs.map dg)))),.em,.em] =_
 unfold gB;rw[aY (bX (iO rfl (ao (t:=.str (tx [32])) rfl aC) (kl hsf (by omega))) (show gN 1 _ _= .ok [.va (.str (tx ((dg s++45::dg f)++32::aM 32 (rs.map dg)))),.va (.tup [.str (tx (dg s++45::dg f)),.str (tx [32]),.str (tx (aM 32 (rs.map dg)))]),.em]from rfl))]
 have sp:oS ff (o2 a9 (vr 1) (cn (.int 2))) (ae (cn (.str " ")) ah) [.va (.str (tx ((dg s++45::dg f)++32::aM 32 (rs.map dg)))),.va (.tup [.str (tx (dg s++45::dg f)),.str (tx [32]),.str (tx (aM 32 (rs.map dg)))]),.em] = .ok (.lst ((rs.map dg).map λp=>T.str (tx p))):=
  iO (s:=tx (aM 32 (rs.map dg))) rfl (ao (t:=.str (tx [32])) rfl aC) (rQ (λz=>h.n0 (GP.mp z)) (λp hp=>by
   obtain⟨r,hr,rfl⟩:=CY.mp hp;exact bW (h.r r hr).1 (by decide)) (by omega) (by rw[CI];omega))
 have e1:ej (iS (oS ff (o2 a9 (vr 1) (cn (.int 2))) (ae (cn (.str " ")) ah))) [none] (gN 0) bT (cl bA (ae (vr 0) ah)) [.va (.str (tx ((dg s++45::dg f)++32::aM 32 (rs.map dg)))),.va (.tup [.str (tx (dg s++45::dg f)),.str (tx [32]),.str (tx (aM 32 (rs.map dg)))]),.em] = .ok (.lst (rs.map .int)):=by
  have:=lO (fe:=cl bA (ae (vr 0) ah)) (h:=λt=>match t with | .str x=>il x | _=> .non) (src:=[none]) (tv sp) (by rw[CI,CI];exact gX (by omega)) (by decide) (λt ht=>by
   obtain⟨p,hp,rfl⟩:=CY.mp ht;obtain⟨r,hr,rfl⟩:=CY.mp hp;refine bO (ao (t:=.str (tx (dg r))) rfl aC) (tS ?_)
   rw[dJ (h.r r hr).1 (h.r r hr).2]
   show _=Rs.ok (il (tx (dg r)))
   rw[lF (h.r r hr).1 (h.r r hr).2])
  rw[this,Dd,Dd]
  congr 2
  exact DU λr hr=>lF (h.r r hr).1 (h.r r hr).2
 rw[aY (bX e1 (show gN 2 _ _= .ok [.va (.str (tx ((dg s++45::dg f)++32::aM 32 (rs.map dg)))),.va (.tup [.str (tx (dg s++45::dg f)),.str (tx [32]),.str (tx (aM 32 (rs.map dg)))]),.va (.lst (rs.map .int))]from rfl))]
 exact d8 (bh (bO (ao (t:=.str (tx (dg s++45::dg f))) rfl (ao (t:=.str (tx [45])) rfl aC)) (v9 (bW h.s0 (by decide)) (by simp only[CF,CJ];omega) (dJ h.s0 h.s1) (dJ h.f0 h.f1))) (d7 (ao (bO (x:=.ok (.tup (rs.map .int))) (ao (t:=.lst (rs.map .int)) rfl aC) (xH (by rw[CI];omega))) aC) (gX (by simp))) (gY _ _ (by simp)))
theorem vH {m:Option Int}(h:∀k,m=some k->0<=k/\k<10000):lG (.str (tx (mw m)))= .ok (mV m):=by
 cases m with
 | none=>exact vG
 | some k=>exact dJ (h k rfl).1 (h k rfl).2
theorem xm {x:LE}(h:wN x):bL [.str (tx (jX x))] = .ok (dy x):=by
 obtain⟨⟨a,b⟩,⟨c,d⟩,l,m⟩:=x
 have hl:(vO a b c d l m).length<=100:=lM h
 have hl3:=hl;unfold vO at hl3;simp only[CF,CJ]at hl3
 have h1:(cZ a b).length<=100:=by omega
 unfold cZ at h1
 have h2:(cZ c d).length<=100:=by omega
 unfold cZ at h2;refine c9 rfl ?_
 show fL [.va (.str (tx (cZ a b++32::(cZ c d++32::(dg l++45::mw m))))),.em,.em] =_
 unfold fL;rw[aY (bX (iO rfl (ao (t:=.str (tx [32])) rfl aC) (kl (i4 h.a.1 h.b.1 (by decide)) (by simp only[CF,CJ];omega))) (show gN 1 _ _= .ok [.va (.str (tx (cZ a b++32::(cZ c d++32::(dg l++45::mw m))))),.va (.tup [.str (tx (cZ a b)),.str (tx [32]),.str (tx (cZ c d++32::(dg l++45::mw m)))]),.em]from rfl))]
 rw[aY (bX (iO (s:=tx (cZ c d++32::(dg l++45::mw m))) rfl (ao (t:=.str (tx [32])) rfl aC) (kl (i4 h.c.1 h.d.1 (by decide)) (by simp only[CF,CJ];omega))) (show gN 2 _ _= .ok [.va (.str (tx (cZ a b++32::(cZ c d++32::(dg l++45::mw m))))),.va (.tup [.str (tx (cZ a b)),.str (tx [32]),.str (tx (cZ c d++32::(dg l++45::mw m)))]),.va (.tup [.str (tx (cZ c d)),.str (tx [32]),.str (tx (dg l++45::mw m))])]from rfl))]
 have n1:=bO (ρ:=[.va (.str (tx (cZ a b++32::(cZ c d++32::(dg l++45::mw m))))),.va (.tup [.str (tx (cZ a b)),.str (tx [32]),.str (tx (cZ c d++32::(dg l++45::mw m)))]),.va (.tup [.str (tx (cZ c d)),.str (tx [32]),.str (tx (dg l++45::mw m))])]) (fs:=ae (o2 a9 (vr 1) (cn (.int 0))) (ae (cn (.str ".")) ah)) (ao (t:=.str (tx (dg a++46::dg b))) rfl (ao (t:=.str (tx [46])) rfl aC)) (v9 (bW h.a.1 (by decide)) (by omega) (dJ h.a.1 h.a.2) (dJ h.b.1 h.b.2))
 have n2:=bO (ρ:=[.va (.str (tx (cZ a b++32::(cZ c d++32::(dg l++45::mw m))))),.va (.tup [.str (tx (cZ a b)),.str (tx [32]),.str (tx (cZ c d++32::(dg l++45::mw m)))]),.va (.tup [.str (tx (cZ c d)),.str (tx [32]),.str (tx (dg l++45::mw m))])]) (fs:=ae (o2 a9 (vr 2) (cn (.int 0))) (ae (cn (.str ".")) ah)) (ao (t:=.str (tx (dg c++46::dg d))) rfl (ao (t:=.str (tx [46])) rfl aC)) (v9 (bW h.c.1 (by decide)) (by omega) (dJ h.c.1 h.c.2) (dJ h.d.1 h.d.2))
 have n3:=bO (ρ:=[.va (.str (tx (cZ a b++32::(cZ c d++32::(dg l++45::mw m))))),.va (.tup [.str (tx (cZ a b)),.str (tx [32]),.str (tx (cZ c d++32::(dg l++45::mw m)))]),.va (.tup [.str (tx (cZ c d)),.str (tx [32]),.str (tx (dg l++45::mw m))])]) (fs:=ae (o2 a9 (vr 2) (cn (.int 2))) (ae (cn (.str "-")) ah)) (ao (t:=.str (tx (dg l++45::mw m))) rfl (ao (t:=.str (tx [45])) rfl aC)) (v9 (bW h.l.1 (by decide)) (by simp only[CF,CJ];omega) (dJ h.l.1 h.l.2) (vH h.m))
 exact d8 (bh (d7 (ao n1 (ao n2 aC)) (gX (by simp))) n3 (gY _ _ (by simp)))
theorem nq {q:List Nat}{ps:List (List Nat)}(g:List Nat->List Nat)(hn:ps.length<=1000)(hp:∀p∈ps,EW (tx p) (tx q)=true->∃x y,fx [.str (tx p),.str (tx [32])] = .ok (.tup [x,y,.str (tx (g p))])) :
  b8 [.lst (ps.map λp=>T.str (tx p)),.str (tx q)] = .ok (.lst (((ps.filter λp=>EW (tx p) (tx q)).map g).map λp=>T.str (tx p))):=by
 refine c9 rfl (d8 ?_)
 have:=AX (fc:=tb (oS fQ (vr 0) (ae (vr 1) ah))) (fe:=o2 a9 (oS fx (vr 0) (ae (cn (.str " ")) ah)) (cn (.int 2))) (p:=λt=>match t with | .str s=>EW s (tx q) | _=>false) (h:=λt=>match t with | .str s=>T.str (tx (g s.cps.toList)) | _=> .non) (src:=[none,some 1]) (fi:=iS (vr 0)) (ρ:=[.va (.lst (ps.map λp=>T.str (tx p))),.va (.str (tx q))]) rfl (by rw[CI];exact gX (by omega)) (by decide) (λt ht=>by
  obtain⟨p,hpp,rfl⟩:=CY.mp ht;refine⟨jC (iO (s:=tx p) rfl (ao (t:=.str (tx q)) rfl aC) rfl),λhs=> ?_⟩
  obtain⟨x,y,e⟩:=hp p hpp hs
  show _=Rs.ok (T.str (tx (g (tx p).cps.toList)))
  rw[e9];exact vP (n:=2) (iO (s:=tx p) rfl (ao (t:=.str (tx [32])) rfl aC) e) rfl rfl)
 show ej (iS (vr 0)) [none,some 1] (gN 0) (tb (oS fQ (vr 0) (ae (vr 1) ah))) (o2 a9 (oS fx (vr 0) (ae (cn (.str " ")) ah)) (cn (.int 2))) [.va (.lst (ps.map λp=>T.str (tx p))),.va (.str (tx q))] =_
 rw[this,List.filter_map,Dd,Dd]
 congr 2
theorem jI {α:Type}{p:α->Bool}:∀{l:List α},(∀a∈l,p a=true)->l.filter p=l:=λh=>List.filter_eq_self.mpr h
theorem fY {α:Type}{p:α->Bool}{l:List α}(h:∀a∈l,p a=false):l.filter p= []:=List.filter_eq_nil_iff.mpr λa ha z=>by rw[h a ha]at z;cases z
section
variable {cs:List CK}{ls:List LE}(hc:∀x∈cs,wQ x)(hl:∀x∈ls,wN x)(h4:cs.length<=4)(h8:ls.length<=8)
include hc hl h4 h8
theorem fV:(lines cs ls).length<=12:=by unfold lines;rw[CF,CI,CI];omega
theorem Bm:b8 [.lst ((lines cs ls++ [[]]).map λp=>T.str (tx p)),.str (tx Lc)] = .ok (.lst ((cs.map gZ).map λp=>T.str (tx p))):=by
 have hn:=fV hc hl h4 h8;rw[nq (q:=Lc) (λp=>p.drop 6) (by rw[CF];show _+1<=_;omega)]
 ·refine congrArg (λl=>Rs.ok (T.lst (Ku (λp=>T.str (tx p)) l))) ?_
  unfold lines;rw[F8,F8,jI (l:=cs.map λx=>Lc++gZ x),fY (l:=ls.map λx=>Ll++jX x),fY (l:=[[]]),Do,Do,Dd]
  ·exact DU λx _=>rfl
  ·intro p hp;obtain rfl:=C8.mp hp;exact cM (by decide)
  ·intro p hp
   obtain⟨x,hx,rfl⟩:=CY.mp hp;exact cM (by show([108,101,116,116,101,114]:List Nat)≠Lc;decide)
  ·intro p hp
   obtain⟨x,hx,rfl⟩:=CY.mp hp;exact kh Lc _
 ·intro p hp hs
  rcases CU.mp hp with hp | hp
  ·rcases CU.mp hp with hp | hp
   ·obtain⟨x,hx,rfl⟩:=CY.mp hp
    have:(gZ x).length<=100:=jN (hc x hx);exact⟨_,_,kl (c:=32) (a:=[99,108,111,99,107]) (b:=gZ x) (by decide) (by simp only[CF,CJ,Ds];omega)⟩
   ·obtain⟨x,hx,rfl⟩:=CY.mp hp
    rw[cM (by show([108,101,116,116,101,114]:List Nat)≠Lc;decide)]at hs;cases hs
  ·obtain rfl:=C8.mp hp
   rw[cM (by decide)]at hs;cases hs
theorem Bk:b8 [.lst ((lines cs ls++ [[]]).map λp=>T.str (tx p)),.str (tx Ll)] = .ok (.lst ((ls.map jX).map λp=>T.str (tx p))):=by
 have hn:=fV hc hl h4 h8
 have no:∀x:CK,(Lc++gZ x).take Ll.length≠Ll:=λx z=>by
  have:=congrArg List.head? z;cases this
 rw[nq (q:=Ll) (λp=>p.drop 7) (by rw[CF];show _+1<=_;omega)]
 ·refine congrArg (λl=>Rs.ok (T.lst (Ku (λp=>T.str (tx p)) l))) ?_
  unfold lines;rw[F8,F8,fY (l:=cs.map λx=>Lc++gZ x),jI (l:=ls.map λx=>Ll++jX x),fY (l:=[[]]),Do,Ew,Dd]
  ·exact DU λx _=>rfl
  ·intro p hp;obtain rfl:=C8.mp hp;exact cM (by decide)
  ·intro p hp
   obtain⟨x,hx,rfl⟩:=CY.mp hp;exact kh Ll _
  ·intro p hp
   obtain⟨x,hx,rfl⟩:=CY.mp hp;exact cM (no x)
 ·intro p hp hs
  rcases CU.mp hp with hp | hp
  ·rcases CU.mp hp with hp | hp
   ·obtain⟨x,hx,rfl⟩:=CY.mp hp
    rw[cM (no x)]at hs;cases hs
   ·obtain⟨x,hx,rfl⟩:=CY.mp hp
    have:(jX x).length<=100:=lM (hl x hx);exact⟨_,_,kl (c:=32) (a:=[108,101,116,116,101,114]) (b:=jX x) (by decide) (by simp only[CF,CJ,Ds];omega)⟩
  ·obtain rfl:=C8.mp hp
   rw[cM (by decide)]at hs;cases hs
theorem oM:(ja cs ls).length<=2000:=by
 have hf:=gw hc hl
 have hn:=fV hc hl h4 h8
 have:=(jG (n:=111) (ps:=(lines cs ls).map (· ++ [10])) λp hp=>by
  obtain⟨q,hq,rfl⟩:=CY.mp hp
  have:=(hf q hq).2;rw[CF];show _+1<=111;omega).1
 rw[CI]at this;unfold ja;omega
theorem zd (hr:aI [RR (cs.map cx) (ls.map dy)] = .ok (.bl true)):cz [.str (tx (ja cs ls))] = .ok (RR (cs.map cx) (ls.map dy)):=by
 have hf:=gw hc hl
 have hn:=fV hc hl h4 h8
 have ht:=oM hc hl h4 h8
 have et:ja cs ls=aM 10 (lines cs ls++ [[]]):=ng _;refine c9 rfl ?_
 show eM [.va (.str (tx (ja cs ls))),.em,.em,.em,.em] =_
 unfold eM;rw[aY ((m9 (m6 (k:=true) (jC (k_o1 (t:=.str (tx (ja cs ls))) rfl rfl)))).trans rfl)]
 have sp:oS ff (vr 0) (ae (cn (.str "\n")) ah) [.va (.str (tx (ja cs ls))),.em,.em,.em,.em] = .ok (.lst ((lines cs ls++ [[]]).map λp=>T.str (tx p))):=by
  refine iO (s:=tx (ja cs ls)) rfl (ao (t:=.str (tx [10])) rfl aC) ?_
  rw[et]at ht ⊢;refine rQ (by simp) (λp hp=> ?_) (by omega) (by rw[CF];show _+1<=_;omega)
  rcases CU.mp hp with hp | hp
  ·exact(hf p hp).1
  ·obtain rfl:=C8.mp hp;simp
 generalize hL:(lines cs ls++ [[]]).map (λp=>T.str (tx p))=L at sp
 rw[aY (bX sp (show gN 1 _ _= .ok [.va (.str (tx (ja cs ls))),.va (.lst L),.em,.em,.em]from rfl))]
 have e1:ej (iS (cl b8 (ae (vr 1) (ae (cn (.str "clock ")) ah)))) [none] (gN 0) bT (cl b7 (ae (vr 0) ah)) [.va (.str (tx (ja cs ls))),.va (.lst L),.em,.em,.em] = .ok (.lst (cs.map cx)):=by
  have hb:cl b8 (ae (vr 1) (ae (cn (.str "clock ")) ah)) [.va (.str (tx (ja cs ls))),.va (.lst L),.em,.em,.em] = .ok (.lst ((cs.map gZ).map λp=>T.str (tx p))):=
   bO (ao (t:=.lst L) rfl (ao (t:=.str (tx Lc)) rfl aC)) (by rw[<-hL];exact Bm hc hl h4 h8)
  have:=lO (fe:=cl b7 (ae (vr 0) ah)) (h:=λt=>match b7 [t]with | .ok u=>u | _=> .non) (src:=[none]) (tv hb) (by rw[CI,CI];exact gX (by omega)) (by decide) (λt ht=>by
   obtain⟨p,hp,rfl⟩:=CY.mp ht;obtain⟨x,hx,rfl⟩:=CY.mp hp;refine bO (ao (t:=.str (tx (gZ x))) rfl aC) ?_
   rw[xn (hc x hx)])
  rw[this,Dd,Dd]
  congr 2
  refine DU λx hx=> ?_
  show(match b7 [.str (tx (gZ x))]with | .ok u=>u | _=> .non)=_
  rw[xn (hc x hx)]
 rw[aY (bX e1 (show gN 2 _ _= .ok [.va (.str (tx (ja cs ls))),.va (.lst L),.va (.lst (cs.map cx)),.em,.em]from rfl))]
 have e2:ej (iS (cl b8 (ae (vr 1) (ae (cn (.str "letter ")) ah)))) [none] (gN 0) bT (cl bL (ae (vr 0) ah)) [.va (.str (tx (ja cs ls))),.va (.lst L),.va (.lst (cs.map cx)),.em,.em] = .ok (.lst (ls.map dy)):=by
  have hb:cl b8 (ae (vr 1) (ae (cn (.str "letter ")) ah)) [.va (.str (tx (ja cs ls))),.va (.lst L),.va (.lst (cs.map cx)),.em,.em] = .ok (.lst ((ls.map jX).map λp=>T.str (tx p))):=
   bO (ao (t:=.lst L) rfl (ao (t:=.str (tx Ll)) rfl aC)) (by rw[<-hL];exact Bk hc hl h4 h8)
  have:=lO (fe:=cl bL (ae (vr 0) ah)) (h:=λt=>match bL [t]with | .ok u=>u | _=> .non) (src:=[none]) (tv hb) (by rw[CI,CI];exact gX (by omega)) (by decide) (λt ht=>by
   obtain⟨p,hp,rfl⟩:=CY.mp ht;obtain⟨x,hx,rfl⟩:=CY.mp hp;refine bO (ao (t:=.str (tx (jX x))) rfl aC) ?_
   rw[xm (hl x hx)])
  rw[this,Dd,Dd]
  congr 2
  refine DU λx hx=> ?_
  show(match bL [.str (tx (jX x))]with | .ok u=>u | _=> .non)=_
  rw[xm (hl x hx)]
 rw[aY (bX e2 (show gN 3 _ _= .ok [.va (.str (tx (ja cs ls))),.va (.lst L),.va (.lst (cs.map cx)),.va (.lst (ls.map dy)),.em]from rfl))]
 have e3:cB (ae (cl eJ (ae (vr 2) ah)) (ae (cl eJ (ae (vr 3) ah)) ah)) [.va (.str (tx (ja cs ls))),.va (.lst L),.va (.lst (cs.map cx)),.va (.lst (ls.map dy)),.em] = .ok (RR (cs.map cx) (ls.map dy)):=
  d7 (ao (bO (x:=.ok (.tup (cs.map cx))) (ao (t:=.lst (cs.map cx)) rfl aC) rfl) (ao (bO (x:=.ok (.tup (ls.map dy))) (ao (t:=.lst (ls.map dy)) rfl aC) rfl) aC)) (gX (by simp))
 rw[aY (bX e3 (show gN 4 _ _= .ok [.va (.str (tx (ja cs ls))),.va (.lst L),.va (.lst (cs.map cx)),.va (.lst (ls.map dy)),.va (RR (cs.map cx) (ls.map dy))]from rfl))]
 have t1:dv (tb (cl aI (ae (vr 4) ah))) [.va (.str (tx (ja cs ls))),.va (.lst L),.va (.lst (cs.map cx)),.va (.lst (ls.map dy)),.va (RR (cs.map cx) (ls.map dy))] = .ok false:=m6 (jC (bO (ao (t:=RR (cs.map cx) (ls.map dy)) rfl aC) hr))
 have t2:tb (o2 oa (cl bf (ae (vr 4) ah)) (vr 0)) [.va (.str (tx (ja cs ls))),.va (.lst L),.va (.lst (cs.map cx)),.va (.lst (ls.map dy)),.va (RR (cs.map cx) (ls.map dy))] = .ok false:=
  jC (bh (bO (ao (t:=RR (cs.map cx) (ls.map dy)) rfl aC) (pH hc hl h4 h8 hr)) rfl (lI rfl (Ey _)))
 rw[aY ((m9 (tu t1 t2)).trans rfl)];exact d8 rfl
end
theorem l6 {α:Type}{f:α->T}{P:α->Prop}:∀{l:List T},(∀t∈l,∃x,t=f x/\P x)->∃xs:List α,l=xs.map f/\∀x∈xs,P x
 | [],_=>⟨[],rfl,λ_ h=>by cases h⟩
 | t::l,h=>by
  obtain⟨x,rfl,px⟩:=h t CL;obtain⟨xs,rfl,ps⟩:=l6 λu hu=>h u (CH _ hu)
  exact⟨x::xs,rfl,λy hy=>(CO.mp hy).elim (λe=>e▸px) (ps y)⟩
theorem ou {t:T}(h:bw t=true):∃x:CK,t=cx x/\wQ x:=by
 unfold bw at h;rw[CC]at h;obtain⟨_,h⟩:=h
 split at h
 ·rename_i x y r
  rw[CC]at h;obtain⟨hp,hr⟩:=h;unfold mL at hp;rw[CC]at hp;obtain⟨s,rfl,s1,s2⟩:=da hp.1;obtain⟨f,rfl,f1,f2⟩:=da hp.2;unfold dq at hr;rw[CC]at hr;obtain⟨l,rfl,l1,l2⟩:=bK hr.1
  have hr2:=hr.2
  dsimp only at hr2
  rw[CC]at hr2;obtain⟨m,hm⟩:=lE hr2.1;obtain rfl:=jw hm;rw[CI]at l1 l2;refine⟨(s,f,m),rfl,show Ck s f m from⟨by omega,by omega,by omega,by omega,λz=>by rw[z]at l1;exact absurd l1 (by decide),l2,λr hr=> ?_⟩⟩
  obtain⟨i,e,i1,i2⟩:=da (Dc.mp hr2.1 (.int r) (List.mem_map_of_mem hr));cases e;exact⟨i1,by omega⟩
 ·cases h
theorem jJ {cs:List T}{t:T}(hc:aN (.tup cs)=true)(h:aX cs t=true):∃c k:Int,t= .tup [.int c,.int k]/\(0<=c/\c<10000)/\(0<=k/\k<10000):=by
 obtain⟨hall,h1,h2⟩:=ei hc;unfold aX at h
 split at h
 ·rename_i c k
  simp only[CC,decide_eq_true_eq]at h;obtain⟨⟨a1,a2⟩,b1,b2⟩:=h;refine⟨c,k,rfl,⟨a1,by omega⟩,⟨b1,?_⟩⟩
  have:reads cs c<=4:=by
   unfold reads;split
   ·split
    ·rename_i x y r e
     obtain⟨x',y',r',e',_,r4⟩:=fJ (hall _ (EX e));cases e';exact r4
    ·omega
   ·omega
  omega
 ·cases h
theorem m5 {cs:List T}{t:T}(hc:aN (.tup cs)=true)(h:bC cs t=true):∃x:LE,t=dy x/\wN x:=by
 obtain⟨a,b,x,y,rfl,hd,ha,hb,_⟩:=gP h;obtain⟨c,k,rfl,e1,e2⟩:=jJ hc ha;obtain⟨d,m,rfl,e3,e4⟩:=jJ hc hb;unfold dr at hd;rw[CC]at hd;obtain⟨l,rfl,l1,l2⟩:=da hd.1
 have hd2:=hd.2
 cases y with
 | non=>exact⟨((c,k),(d,m),l,none),rfl,show Le c k d m l none from⟨e1,e2,e3,e4,⟨l1,by omega⟩,λk hk=>by cases hk⟩⟩
 | int i=>
  obtain⟨i',e,i1,i2⟩:=da (show within (.int i) l 999=true from hd2)
  cases e
  exact⟨((c,k),(d,m),l,some i),rfl,show Le c k d m l (some i)from⟨e1,e2,e3,e4,⟨l1,by omega⟩,λk hk=>by cases hk;exact⟨by omega,by omega⟩⟩⟩
 | _=>cases hd2
theorem rY {cs ls:List T}(h:eY (RR cs ls)=true):∃(ks:List CK) (es:List LE),cs=ks.map cx/\ls=es.map dy/\(∀x∈ks,wQ x)/\(∀x∈es,wN x)/\ks.length<=4/\es.length<=8:=by
 have h':(aN (.tup cs)&&cm cs (.tup ls))=true:=h;rw[CC]at h';obtain⟨hc,hl⟩:=h';obtain⟨hall,h1,h2⟩:=ei hc;unfold cm at hl;rw[CC]at hl;obtain⟨l,e,_,l8⟩:=bK hl.1;cases e;obtain⟨ks,rfl,pk⟩:=l6 λt ht=>ou (hall t ht)
 obtain⟨es,rfl,pe⟩:=l6 λt ht=>m5 hc (Dc.mp hl.2 t ht)
 rw[CI]at h2 l8;exact⟨ks,es,rfl,rfl,pk,pe,h2,l8⟩
theorem pO:∀(ns σ:List Int),σ.Nodup->(ns.foldl (λσ k=>if k∈σ then σ else σ++ [k]) σ).Nodup/\(∀x∈ns.foldl (λσ k=>if k∈σ then σ else σ++ [k]) σ,x∈σ\/x∈ns)/\(ns.foldl (λσ k=>if k∈σ then σ else σ++ [k]) σ).length<=σ.length+ns.length/\σ.length<=(ns.foldl (λσ k=>if k∈σ then σ else σ++ [k]) σ).length
 | [],σ,h=>⟨h,λx hx=> .inl hx,CM _,CM _⟩
 | k::ns,σ,h=>by
  rw[Kz]
  by_cases hk:k∈σ
  ·rw[if_pos hk]
   obtain⟨a,b,c,d⟩:=pO ns σ h;exact⟨a,λx hx=>(b x hx).imp id (CH _),by rw[CJ];omega,d⟩
  ·rw[if_neg hk]
   obtain⟨a,b,c,d⟩:=pO ns (σ++ [k]) (JX.mpr ⟨h,EZ.mpr ⟨by simp,.nil⟩,λx hx y hy z=>hk (by rw[C8]at hy;rw[<-hy,<-z];exact hx)⟩)
   rw[CF]at c d
   have e1:([k]:List Int).length=1:=rfl;refine⟨a,λx hx=> ?_,by rw[CJ];omega,by omega⟩
   rcases b x hx with z | z
   ·rcases CU.mp z with z | z
    ·exact .inl z
    ·exact .inr (by rw[C8]at z;rw[z];exact CL)
   ·exact .inr (CH _ z)
theorem rV:∀{m:List Int},m.Pairwise (· < ·)->nW m=true
 | [],_=>rfl
 | [_],_=>rfl
 | a::b::r,h=>by
  obtain⟨h1,h2⟩:=Jn.mp h;rw[ris2,decide_eq_true (h1 b CL),rV h2];rfl
theorem kn:∀l:List Int,jx (l.map .int)=some l
 | [] =>rfl
 | i::l=>by
  show(jx (l.map .int)).map (i:: ·)=_
  rw[kn l];rfl
theorem uL {ns:List Int}(h0:ns≠ [])(h4:ns.length<=4)(hr:∀x∈ns,0<=x/\x<100):∃m:List Int,kj [.lst (ns.map .int)] = .ok (.lst (m.map .int))/\1<=m.length/\m.length<=4/\nW m=true/\∀x∈m,0<=x/\x<100:=by
 obtain⟨nd,sub,le,ge⟩:=pO ns [] .nil
 have hp:=IY (uw ns) mh
 have hs:=HM (le:=mh) (λa b c h g=>by simp only[mh,decide_eq_true_eq]at*;omega) (λa b=>by simp only[mh,Im,decide_eq_true_eq];omega) (uw ns)
 have hlen:=hp.length_eq
 have nd':((uw ns).mergeSort mh).Nodup:=hp.nodup_iff.mpr nd
 have ne:1<=(uw ns).length:=by
  cases ns with
  | nil=>exact absurd rfl h0
  | cons k r=>
   have:=(pO r [k] (EZ.mpr ⟨by simp,.nil⟩)).2.2.2
   exact this
 refine⟨(uw ns).mergeSort mh,?_,by omega,by rw[hlen];exact Dk le (by simpa using h4),rV ?_,λx hx=> ?_⟩
 ·show(match jx (ns.map .int)with | some ns=>if (decide (ns.length<=4)&&ns.all λn=>decide (0<=n)&&decide (n<100))=true then Rs.ok (T.lst (((uw ns).mergeSort mh).map .int))else .bad | none=> .bad)=_
  rw[kn]
  dsimp only
  rw[if_pos];rw[CC];exact⟨decide_eq_true h4,Dc.mpr λx hx=>by rw[decide_eq_true (hr x hx).1,decide_eq_true (hr x hx).2];rfl⟩
 ·refine List.Pairwise.imp₂ (R:=λa b=>mh a b=true) (S:=λa b=>a≠b) (λa b h g=> ?_) hs nd'
  simp only[mh,decide_eq_true_eq]at h;omega
 ·exact(sub x (hp.mem_iff.mp hx)).elim (λz=>by cases z) (hr x)
abbrev cwF:En->Rs Fl:=(aL (cH (o2 ax (o2 ax (vr 1) (cn (.int 1))) (o2 cO (cn (.int 8)) (vr 3))) (gN 4)) (aL (cH (o2 ax (cn (.int 1)) (cl ar (ae (vr 0) (ae (vr 4) (ae (cn (.int 9)) ah))))) (gN 5)) (aL (cH (ej (iR (ae (o2 ax (cn (.int 1)) (cl ar (ae (vr 0) (ae (o2 ax (vr 4) (cn (.int 1))) (ae (cn (.int 4)) ah))))) ah)) [none,some 0,some 4] (gN 0) bT (cl ar (ae (vr 1) (ae (o2 ax (o2 ax (vr 2) (cn (.int 2))) (vr 0)) (ae (cn (.int 100)) ah))))) (gN 6)) (aL (cH (o2 ax (vr 5) (cl ar (ae (vr 0) (ae (o2 ax (vr 4) (cn (.int 7))) (ae (o2 gm (cn (.int 10)) (vr 5)) ah))))) (gN 7)) (cH (o2 ax (vr 2) (cB (ae (cB (ae (vr 5) (ae (vr 7) (ae (cl eJ (ae (cl kj (ae (vr 6) ah)) ah)) ah)))) ah))) (gN 2))))))
abbrev BB:En->Rs Fl:=(aL (cH (o2 ax (o2 ax (vr 1) (cn (.int 41))) (o2 cO (cn (.int 6)) (vr 3))) (gN 4)) (aL (cH (cl ar (ae (vr 0) (ae (vr 4) (ae (cl c8 (ae (vr 8) ah)) ah)))) (gN 10)) (aL (cH (o2 gv (o2 ax (o2 ax (vr 10) (cn (.int 1))) (cl ar (ae (vr 0) (ae (o2 ax (vr 4) (cn (.int 1))) (ae (o2 gm (cl c8 (ae (vr 8) ah)) (cn (.int 1))) ah))))) (cl c8 (ae (vr 8) ah))) (gN 11)) (aL (cH (cl ar (ae (vr 0) (ae (o2 ax (vr 4) (cn (.int 2))) (ae (o2 a9 (gz (ae (cn (.int 10)) (ae (cn (.int 1000)) ah))) (cl ar (ae (vr 0) (ae (o2 ax (vr 4) (cn (.int 3))) (ae (cn (.int 2)) ah))))) ah)))) (gN 12)) (aL (cH (o2 a9 (gz (ae (cn .non) (ae (vr 12) (ae (cn (.int 999)) (ae (o2 ax (vr 12) (cl ar (ae (vr 0) (ae (o2 ax (vr 4) (cn (.int 5))) (ae (o2 gm (cn (.int 1000)) (vr 12)) ah))))) ah))))) (cl ar (ae (vr 0) (ae (o2 ax (vr 4) (cn (.int 4))) (ae (cn (.int 4)) ah))))) (gN 13)) (cH (o2 ax (vr 9) (cB (ae (cB (ae (o2 a9 (vr 8) (vr 10)) (ae (o2 a9 (vr 8) (vr 11)) (ae (vr 12) (ae (vr 13) ah))))) ah))) (gN 9)))))))
theorem rZ {m:List Int}(h1:1<=m.length)(h4:m.length<=4)(hr:nW m=true)(hb:∀x∈m,0<=x/\x<100):dq (.tup (m.map .int))=true:=by
 show(cR (.tup (m.map .int)) 1 4&&((m.map T.int).all (λu=>within u 0 99)&&(match jy (m.map .int)with | some m=>nW m | none=>false)))=true
 rw[mS]
 dsimp only
 rw[hr,Js,CC,Dc];refine⟨by simp[cR];omega,λu hu=> ?_⟩
 obtain⟨x,hx,rfl⟩:=CY.mp hu
 have:=hb x hx;simp only[within,CC,decide_eq_true_eq];omega
theorem wu (ns:List Int)(hn:ns.length<=63)(j:Nat)(cs:List T)(hc:cs.length<=100)(s4 s5 s6 s7:Sl):∃c t4 t5 t6 t7,cwF [.va (.scr ns),.va (.int 0),.va (.tup cs),.va (.int (j:Nat)),s4,s5,s6,s7,.em,.em,.em,.em,.em,.em] = .ok (.nx [.va (.scr ns),.va (.int 0),.va (.tup (cs++ [c])),.va (.int (j:Nat)),t4,t5,t6,t7,.em,.em,.em,.em,.em,.em])/\bw c=true/\sm 8 c=true:=by
 obtain⟨d1,e1,p1,q1⟩:=cp ns (1+8*j) 9 hn (by omega)
 obtain⟨d2,e2,p2,q2⟩:=cp ns (1+8*j+1) 4 hn (by omega)
 obtain⟨d3,e3,p3,q3⟩:=cp ns (1+8*j+7) (10 - (1+d1)) hn (by omega)
 obtain⟨n2,rfl⟩:=Dw p2
 let hd:T->T:=λt=>match t with
  | .int k=>okv (ar [.scr ns,.int (((1+8*j:Nat):Int)+2+k),.int 100])
  | _=> .non
 have hh:∀t∈rng 0 ((1+n2:Nat):Int),∃k:Nat,t= .int k/\∃r:Int,ar [.scr ns,.int ((1+8*j+2+k:Nat):Int),.int 100] = .ok (.int r)/\hd t= .int r/\0<=r/\r<100:=λt ht=>by
  obtain⟨k,rfl,_⟩:=lb ht;obtain⟨r,er,h1,h2⟩:=cp ns (1+8*j+2+k) 100 hn (by omega)
  refine⟨k,rfl,r,er,?_,h1,h2⟩
  show okv (ar [.scr ns,.int ((1+8*j+2+k:Nat):Int),.int 100])=_
  rw[er];rfl
 obtain⟨rs,hrs,pr⟩:=l6 (f:=T.int) (P:=λr=>0<=r/\r<100) (l:=(rng 0 ((1+n2:Nat):Int)).map hd) λu hu=>by
  obtain⟨t,ht,rfl⟩:=CY.mp hu;obtain⟨k,rfl,r,_,e,h1,h2⟩:=hh t ht;exact⟨r,e,h1,h2⟩
 have lr:rs.length=1+n2:=by
  have:=congrArg Fy hrs;rw[CI,CI,iW]at this;exact this.symm
 obtain⟨m,em,m1,m4,mr,mb⟩:=uL (ns:=rs) (λz=>by rw[z]at lr;simp at lr;omega) (by omega) pr
 refine⟨.tup [.int (1+d1),.int (1+d1+d3),.tup (m.map .int)],.va (.int ((1+8*j:Nat):Int)),.va (.int (1+d1)),.va (.lst (rs.map .int)),.va (.int (1+d1+d3)),?_,?_,?_⟩
 ·unfold cwF
  rw[aY (ρ':=[.va (.scr ns),.va (.int 0),.va (.tup cs),.va (.int (j:Nat)),.va (.int ((1+8*j:Nat):Int)),s5,s6,s7,.em,.em,.em,.em,.em,.em]) (bX (t:=.int ((1+8*j:Nat):Int)) (bh (t:=.int (0+1)) (u:=.int (8*(j:Int))) rfl (bh (t:=.int 8) (u:=.int j) rfl rfl (gO (by omega) (by omega))) (by show Rs.ok (T.int _)=_;congr 2 <;> omega)) rfl)]
  rw[aY (ρ':=[.va (.scr ns),.va (.int 0),.va (.tup cs),.va (.int (j:Nat)),.va (.int ((1+8*j:Nat):Int)),.va (.int (1+d1)),s6,s7,.em,.em,.em,.em,.em,.em]) (bX (t:=.int (1+d1)) (bh (t:=.int 1) rfl (bV e1 rfl rfl rfl) rfl) rfl)]
  have el:ej (iR (ae (o2 ax (cn (.int 1)) (cl ar (ae (vr 0) (ae (o2 ax (vr 4) (cn (.int 1))) (ae (cn (.int 4)) ah))))) ah)) [none,some 0,some 4] (gN 0) bT (cl ar (ae (vr 1) (ae (o2 ax (o2 ax (vr 2) (cn (.int 2))) (vr 0)) (ae (cn (.int 100)) ah)))) [.va (.scr ns),.va (.int 0),.va (.tup cs),.va (.int (j:Nat)),.va (.int ((1+8*j:Nat):Int)),.va (.int (1+d1)),s6,s7,.em,.em,.em,.em,.em,.em] = .ok (.lst (rs.map .int)):=by
   rw[<-hrs];refine lO (ts:=rng 0 ((1+n2:Nat):Int)) (h:=hd) (A3 (ao (t:=.int ((1+n2:Nat):Int)) (bh (t:=.int 1) (u:=.int n2) rfl (bV (k:=1+8*j+1) e2 rfl rfl rfl) rfl) rfl) (by omega) (by omega)) (eE (k:=4) (by rw[iW];omega)) (by simp) λt ht=> ?_
   obtain⟨k,rfl,r,er,e,_,_⟩:=hh t ht;rw[e];exact bV (k:=1+8*j+2+k) er rfl rfl rfl
  rw[aY (ρ':=[.va (.scr ns),.va (.int 0),.va (.tup cs),.va (.int (j:Nat)),.va (.int ((1+8*j:Nat):Int)),.va (.int (1+d1)),.va (.lst (rs.map .int)),s7,.em,.em,.em,.em,.em,.em]) (bX el rfl)];rw[aY (ρ':=[.va (.scr ns),.va (.int 0),.va (.tup cs),.va (.int (j:Nat)),.va (.int ((1+8*j:Nat):Int)),.va (.int (1+d1)),.va (.lst (rs.map .int)),.va (.int (1+d1+d3)),.em,.em,.em,.em,.em,.em]) (bX (t:=.int (1+d1+d3)) (bh (t:=.int (1+d1)) rfl (bV (k:=1+8*j+7) e3 rfl rfl rfl) rfl) rfl)]
  exact bX (bh (t:=.tup cs) (u:=.tup [.tup [.int (1+d1),.int (1+d1+d3),.tup (m.map .int)]]) rfl (d7 (ao (d7 (ao (t:=.int (1+d1)) rfl (ao (t:=.int (1+d1+d3)) rfl (ao (t:=.tup (m.map .int)) (bO (ts:=[.lst (m.map .int)]) (ao (bO (ts:=[.lst (rs.map .int)]) rfl em) aC) rfl) aC))) (gX (by simp))) aC) (gX (by simp))) (gY _ _ (by simp;omega))) rfl
 ·show(true&&(mL (.int (1+d1)) (.int (1+d1+d3))&&dq _))=true
  rw[rZ m1 m4 mr mb];simp only[mL,within,Jr,Js,CC,decide_eq_true_eq];omega
 ·refine sm_tup.mpr ⟨by simp,λt ht=> ?_⟩
  rcases CO.mp ht with rfl | ht
  ·simp[sm]
  ·rcases CO.mp ht with rfl | ht
   ·simp[sm]
   ·rw[C8]at ht;subst ht;exact uM 8 m (by omega)
theorem pP (ns:List Int)(hn:ns.length<=63):∀(js:List Nat) (cs:List T) (s3 s4 s5 s6 s7:Sl),(∀c∈cs,bw c=true/\sm 8 c=true)->cs.length+js.length<=100 →
  ∃cs2 t3 t4 t5 t6 t7,cN (gN 3) cwF (js.map λ(j:Nat)=>T.int j) [.va (.scr ns),.va (.int 0),.va (.tup cs),s3,s4,s5,s6,s7,.em,.em,.em,.em,.em,.em] = .ok (.nx [.va (.scr ns),.va (.int 0),.va (.tup cs2),t3,t4,t5,t6,t7,.em,.em,.em,.em,.em,.em])/\(∀c∈cs2,bw c=true/\sm 8 c=true)/\cs2.length=cs.length+js.length
 | [],cs,s3,s4,s5,s6,s7,h,_=>⟨cs,s3,s4,s5,s6,s7,rfl,h,rfl⟩
 | j::js,cs,s3,s4,s5,s6,s7,h,hl=>by
  rw[CJ]at hl;obtain⟨c,u4,u5,u6,u7,e2,h2,n2⟩:=wu ns hn j cs (by omega) s4 s5 s6 s7
  obtain⟨l3,t3,t4,t5,t6,t7,e3,h3,n3⟩:=pP ns hn js (cs++ [c]) (.va (.int j)) u4 u5 u6 u7 (λx hx=>(CU.mp hx).elim (h x) λz=>by rw[C8]at z;subst z;exact⟨h2,n2⟩) (by rw[CF];show _+1+_<=_;omega)
  refine⟨l3,t3,t4,t5,t6,t7,?_,h3,by simp only[n3,CF,CJ,Ds];omega⟩
  rw[C3,jD (ρ1:=[.va (.scr ns),.va (.int 0),.va (.tup cs),.va (.int (j:Nat)),s4,s5,s6,s7,.em,.em,.em,.em,.em,.em]) rfl e2];exact e3
theorem vL (ns:List Int)(hn:ns.length<=63)(j:Nat)(cs ls:List T)(hc:aN (.tup cs)=true)(h2:2<=(eQ 0 cs).length)(hl:ls.length<=100)(s4 s5 s6 s7 s10 s11 s12 s13:Sl) :
  ∃c t4 t10 t11 t12 t13,BB [.va (.scr ns),.va (.int 0),.va (.tup cs),.va (.int (j:Nat)),s4,s5,s6,s7,.va (.lst (eQ 0 cs)),.va (.tup ls),s10,s11,s12,s13] = .ok (.nx [.va (.scr ns),.va (.int 0),.va (.tup cs),.va (.int (j:Nat)),t4,s5,s6,s7,.va (.lst (eQ 0 cs)),.va (.tup (ls++ [c])),t10,t11,t12,t13])/\bC cs c=true/\sm 8 c=true:=by
 obtain⟨ha,h1,h4⟩:=ei hc
 have hlen:=pF cs 0 ha
 have gl:∀t4 t10 t11 t12 t13:Sl,cl c8 (ae (vr 8) ah) [.va (.scr ns),.va (.int 0),.va (.tup cs),.va (.int (j:Nat)),t4,s5,s6,s7,.va (.lst (eQ 0 cs)),.va (.tup ls),t10,t11,t12,t13] = .ok (.int ((eQ 0 cs).length:Nat)):=λ_ _ _ _ _=>rfl
 generalize hN:(eQ 0 cs).length=n at*
 obtain⟨d1,e1,p1,q1⟩:=cp ns (41+6*j) (n:Int) hn (by omega)
 obtain⟨d2,e2,p2,q2⟩:=cp ns (41+6*j+1) ((n:Int) - 1) hn (by omega)
 obtain⟨b,eb,pb,qb⟩:=cp ns (41+6*j+3) 2 hn (by omega)
 obtain⟨z,ez,hz⟩:∃z:Int,a9 (.lst [.int 10,.int 1000]) (.int b)= .ok (.int z)/\(0<z/\z<=1000):=by
  have:b=0\/b=1:=by omega
  rcases this with rfl | rfl
  ·exact⟨10,rfl,by omega⟩
  ·exact⟨1000,rfl,by omega⟩
 obtain⟨d3,e3,p3,q3⟩:=cp ns (41+6*j+2) z hn hz.1;obtain⟨d4,e4,p4,q4⟩:=cp ns (41+6*j+4) 4 hn (by omega)
 obtain⟨d5,e5,p5,q5⟩:=cp ns (41+6*j+5) (1000 - d3) hn (by omega)
 obtain⟨y,ey,hy⟩:∃y:T,a9 (.lst [.non,.int d3,.int 999,.int (d3+d5)]) (.int d4)= .ok y/\(y= .non\/∃k:Int,y= .int k/\d3<=k/\k<=999):=by
  have:d4=0\/d4=1\/d4=2\/d4=3:=by omega
  rcases this with rfl | rfl | rfl | rfl
  ·exact⟨_,rfl,.inl rfl⟩
  ·exact⟨_,rfl,.inr ⟨_,rfl,by omega,by omega⟩⟩
  ·exact⟨_,rfl,.inr ⟨_,rfl,by omega,by omega⟩⟩
  ·exact⟨_,rfl,.inr ⟨_,rfl,by omega,by omega⟩⟩
 obtain⟨i,rfl⟩:=Dw p1;obtain⟨d2,rfl⟩:=Dw p2
 have hi:i<(eQ 0 cs).length:=by omega
 have hj:(i+1+d2) % n<(eQ 0 cs).length:=by rw[hN];exact Nat.mod_lt _ (by omega)
 have hij:i≠(i+1+d2) % n:=by
  rcases G2 (i+1+d2) n with q | q
  ·rw[Ko q];omega
  ·have:(i+1+d2) % n=i+1+d2 - n:=by
    rw[Nat.mod_eq_sub_mod q,Ko (by omega)]
   rw[this];omega
 have eA:=xj (FR hi)
 have eB:=xj (FR hj)
 have eN:(eQ 0 cs)[i] ≠(eQ 0 cs)[(i+1+d2) % n]:=sQ (ko cs 0) hi hj hij
 have iA:=tD hi
 have iB:=tD hj
 generalize hA:(eQ 0 cs)[i] =A at*
 generalize hB:(eQ 0 cs)[(i+1+d2) % n] =B at*
 refine⟨.tup [A,B,.int d3,y],.va (.int ((41+6*j:Nat):Int)),.va (.int (i:Nat)),.va (.int ((i+1+d2) % n:Nat)),.va (.int d3),.va y,?_,?_,?_⟩
 ·unfold BB
  rw[aY (ρ':=[.va (.scr ns),.va (.int 0),.va (.tup cs),.va (.int (j:Nat)),.va (.int ((41+6*j:Nat):Int)),s5,s6,s7,.va (.lst (eQ 0 cs)),.va (.tup ls),s10,s11,s12,s13]) (bX (t:=.int ((41+6*j:Nat):Int)) (bh (t:=.int (0+41)) (u:=.int (6*(j:Int))) rfl (bh (t:=.int 6) (u:=.int j) rfl rfl (gO (by omega) (by omega))) (by show Rs.ok (T.int _)=_;congr 2 <;> omega)) rfl)]
  rw[aY (ρ':=[.va (.scr ns),.va (.int 0),.va (.tup cs),.va (.int (j:Nat)),.va (.int ((41+6*j:Nat):Int)),s5,s6,s7,.va (.lst (eQ 0 cs)),.va (.tup ls),.va (.int (i:Nat)),s11,s12,s13]) (bX (bV e1 rfl rfl (gl _ _ _ _ _)) rfl)];rw[aY (ρ':=[.va (.scr ns),.va (.int 0),.va (.tup cs),.va (.int (j:Nat)),.va (.int ((41+6*j:Nat):Int)),s5,s6,s7,.va (.lst (eQ 0 cs)),.va (.tup ls),.va (.int (i:Nat)),.va (.int ((i+1+d2) % n:Nat)),s12,s13]) (bX (t:=.int ((i+1+d2) % n:Nat)) (bh (t:=.int ((i:Int)+1+d2)) (u:=.int n) (bh (t:=.int ((i:Int)+1)) (u:=.int d2) rfl (bV (k:=41+6*j+1) e2 rfl rfl (bh (t:=.int n) (u:=.int 1) (gl _ _ _ _ _) rfl rfl)) rfl) (gl _ _ _ _ _) (gu (by omega))) rfl)]
  rw[aY (ρ':=[.va (.scr ns),.va (.int 0),.va (.tup cs),.va (.int (j:Nat)),.va (.int ((41+6*j:Nat):Int)),s5,s6,s7,.va (.lst (eQ 0 cs)),.va (.tup ls),.va (.int (i:Nat)),.va (.int ((i+1+d2) % n:Nat)),.va (.int d3),s13]) (bX (bV (k:=41+6*j+2) e3 rfl rfl (bh (t:=.lst [.int 10,.int 1000]) (m7 (ao (t:=.int 10) rfl (ao (t:=.int 1000) rfl aC)) (gX (by simp))) (bV (k:=41+6*j+3) eb rfl rfl rfl) ez)) rfl)]
  rw[aY (ρ':=[.va (.scr ns),.va (.int 0),.va (.tup cs),.va (.int (j:Nat)),.va (.int ((41+6*j:Nat):Int)),s5,s6,s7,.va (.lst (eQ 0 cs)),.va (.tup ls),.va (.int (i:Nat)),.va (.int ((i+1+d2) % n:Nat)),.va (.int d3),.va y]) (bX (bh (m7 (ao (t:=.non) rfl (ao (t:=.int d3) rfl (ao (t:=.int 999) rfl (ao (bh (t:=.int d3) rfl (bV (k:=41+6*j+5) e5 rfl rfl rfl) rfl) aC)))) (gX (by simp))) (bV (k:=41+6*j+4) e4 rfl rfl rfl) ey) rfl)]
  exact bX (bh (t:=.tup ls) (u:=.tup [.tup [A,B,.int d3,y]]) rfl (d7 (ao (d7 (ao (t:=A) (bh (t:=.lst (eQ 0 cs)) (u:=.int (i:Nat)) rfl rfl iA) (ao (t:=B) (bh (t:=.lst (eQ 0 cs)) (u:=.int ((i+1+d2) % n:Nat)) rfl rfl iB) (ao (t:=.int d3) rfl (ao (t:=y) rfl aC)))) (gX (by simp))) aC) (gX (by simp))) (gY _ _ (by simp;omega))) rfl
 ·show(dr (.int d3) y&&(aX cs A&&(aX cs B&& !bH A B)))=true
  rw[eA,eB,tQ eA eB eN]
  have hd:dr (.int d3) y=true:=by
   unfold dr;rcases hy with rfl | ⟨k,rfl,k1,k2⟩
   ·simp only[within,CC,decide_eq_true_eq];exact⟨by omega,trivial⟩
   ·simp only[within,CC,decide_eq_true_eq];omega
  rw[hd];rfl
 ·refine sm_tup.mpr ⟨by simp,λt ht=> ?_⟩
  rcases CO.mp ht with rfl | ht
  ·exact mF eA
  ·rcases CO.mp ht with rfl | ht
   ·exact mF eB
   ·rcases CO.mp ht with rfl | ht
    ·simp[sm]
    ·rw[C8]at ht;subst ht
     rcases hy with rfl | ⟨k,rfl,_⟩ <;> simp[sm]
theorem pf (ns:List Int)(hn:ns.length<=63)(cs:List T)(hc:aN (.tup cs)=true)(h2:2<=(eQ 0 cs).length)(s5 s6 s7:Sl):∀(js:List Nat) (ls:List T) (s3 s4 s10 s11 s12 s13:Sl),wM cs ls->ls.length+js.length<=100 →
  ∃ls2 t3 t4 t10 t11 t12 t13,cN (gN 3) BB (js.map λ(j:Nat)=>T.int j) [.va (.scr ns),.va (.int 0),.va (.tup cs),s3,s4,s5,s6,s7,.va (.lst (eQ 0 cs)),.va (.tup ls),s10,s11,s12,s13] = .ok (.nx [.va (.scr ns),.va (.int 0),.va (.tup cs),t3,t4,s5,s6,s7,.va (.lst (eQ 0 cs)),.va (.tup ls2),t10,t11,t12,t13])/\wM cs ls2/\ls2.length=ls.length+js.length
 | [],ls,s3,s4,s10,s11,s12,s13,h,_=>⟨ls,s3,s4,s10,s11,s12,s13,rfl,h,rfl⟩
 | j::js,ls,s3,s4,s10,s11,s12,s13,h,hl=>by
  rw[CJ]at hl;obtain⟨c,u4,u10,u11,u12,u13,e2,i2,n2⟩:=vL ns hn j cs ls hc h2 (by omega) s4 s5 s6 s7 s10 s11 s12 s13
  obtain⟨l3,t3,t4,t10,t11,t12,t13,e3,h3,n3⟩:=pf ns hn cs hc h2 s5 s6 s7 js (ls++ [c]) (.va (.int j)) u4 u10 u11 u12 u13 (λx hx=>(CU.mp hx).elim (h x) λz=>by rw[C8]at z;subst z;exact⟨i2,n2⟩) (by rw[CF];show _+1+_<=_;omega)
  refine⟨l3,t3,t4,t10,t11,t12,t13,?_,h3,by simp only[n3,CF,CJ,Ds];omega⟩
  rw[C3,jD (ρ1:=[.va (.scr ns),.va (.int 0),.va (.tup cs),.va (.int (j:Nat)),s4,s5,s6,s7,.va (.lst (eQ 0 cs)),.va (.tup ls),s10,s11,s12,s13]) rfl e2];exact e3
theorem zb (ns:List Int)(hn:ns.length<=63):∃cs ls,eC [.scr ns,.int 0] = .ok (RR cs ls)/\eY (RR cs ls)=true/\sm 8 (RR cs ls)=true:=by
 obtain⟨d1,e1,p1,q1⟩:=cp ns 0 4 hn (by omega)
 obtain⟨d2,e2,p2,q2⟩:=cp ns 40 9 hn (by omega)
 obtain⟨d1,rfl⟩:=Dw p1;obtain⟨d2,rfl⟩:=Dw p2;obtain⟨cs,t3,t4,t5,t6,t7,el,hcs,nc⟩:=pP ns hn (DH (1+d1)) [] .em .em .em .em .em (λc h=>by cases h) (by simp;omega)
 rw[Gi,Ds]at nc
 have hc:aN (.tup cs)=true:=by
  show(cR (.tup cs) 1 4&&cs.all bw)=true
  rw[CC,Dc];exact⟨by simp[cR];omega,λc h=>(hcs c h).1⟩
 have er:=tU cs hc
 have key:∃ls u3 u4 u10 u11 u12 u13,jk (iR (ae (o2 cO (cl ar (ae (vr 0) (ae (o2 ax (vr 1) (cn (.int 40))) (ae (cn (.int 9)) ah)))) (cl tI (ae (o2 BC (cl c8 (ae (vr 8) ah)) (cn (.int 1))) ah))) ah)) (gN 3) BB [.va (.scr ns),.va (.int 0),.va (.tup cs),t3,t4,t5,t6,t7,.va (.lst (eQ 0 cs)),.va (.tup []),.em,.em,.em,.em] = .ok (.nx [.va (.scr ns),.va (.int 0),.va (.tup cs),u3,u4,t5,t6,t7,.va (.lst (eQ 0 cs)),.va (.tup ls),u10,u11,u12,u13])/\wM cs ls/\ls.length<=8:=by
  have gt:cl tI (ae (o2 BC (cl c8 (ae (vr 8) ah)) (cn (.int 1))) ah) [.va (.scr ns),.va (.int 0),.va (.tup cs),t3,t4,t5,t6,t7,.va (.lst (eQ 0 cs)),.va (.tup []),.em,.em,.em,.em] = .ok (.int (if decide (((eQ 0 cs).length:Int) > 1)then 1 else 0)):=rfl
  by_cases h2:2<=(eQ 0 cs).length
  ·rw[decide_eq_true (by omega)]at gt
   obtain⟨ls,u3,u4,u10,u11,u12,u13,e3,h3,n3⟩:=pf ns hn cs hc h2 t5 t6 t7 (DH d2) [] t3 t4 .em .em .em .em (λt h=>by cases h) (by simp;omega)
   refine⟨ls,u3,u4,u10,u11,u12,u13,kA (A3 (j:=(d2:Int)) (ao (bh (t:=.int (d2:Int)) (u:=.int 1) (bV (k:=40) e2 rfl rfl rfl) gt ((gO (by omega) (by omega)).trans (by rw[Int.mul_one]))) aC) (by omega) (by omega)) (by rw[oW];exact e3),h3,by rw[n3];simp;omega⟩
  ·rw[decide_eq_false (by omega)]at gt
   exact⟨[],t3,t4,.em,.em,.em,.em,kA (A3 (j:=0) (ao (bh (t:=.int (d2:Int)) (u:=.int 0) (bV (k:=40) e2 rfl rfl rfl) gt ((gO (by omega) (by omega)).trans (by rw[Int.mul_zero]))) aC) (by omega) (by omega)) rfl,λt h=>(by cases h),Ey _⟩
 obtain⟨ls,u3,u4,u10,u11,u12,u13,ef,hl,n8⟩:=key;refine⟨cs,ls,c9 rfl ?_,xW hc (λc h=>(hcs c h).2) hl n8⟩
 show fN [.va (.scr ns),.va (.int 0),.em,.em,.em,.em,.em,.em,.em,.em,.em,.em,.em,.em] =_
 unfold fN;rw[aY (ρ':=[.va (.scr ns),.va (.int 0),.va (.tup []),.em,.em,.em,.em,.em,.em,.em,.em,.em,.em,.em]) (bX (d7 (ts:=[]) rfl (gX (by simp))) rfl)]
 rw[aY (kA (A3 (ao (t:=.int ((1+d1:Nat):Int)) (bh (t:=.int 1) (u:=.int d1) rfl (bV (k:=0) e1 rfl rfl rfl) rfl) aC) (by omega) (by omega)) (by rw[oW];exact el))]
 rw[aY (ρ':=[.va (.scr ns),.va (.int 0),.va (.tup cs),t3,t4,t5,t6,t7,.va (.lst (eQ 0 cs)),.em,.em,.em,.em,.em]) (bX (bO (ts:=[.tup cs]) rfl er) rfl)];rw[aY (ρ':=[.va (.scr ns),.va (.int 0),.va (.tup cs),t3,t4,t5,t6,t7,.va (.lst (eQ 0 cs)),.va (.tup []),.em,.em,.em,.em]) (bX (d7 (ts:=[]) rfl (gX (by simp))) rfl)]
 rw[aY ef];exact d8 (d7 (ao (t:=.tup cs) rfl (ao (t:=.tup ls) rfl aC)) (gX (by simp)))
theorem jH (c:Nat):∀ps:List (List Nat),ps≠ []->(ps.map λp=>c::p).flatten=c::aM c ps
 | [],h=>absurd rfl h
 | [p],_=>by simp[aM]
 | p::q::r,_=>by
  have:=jH c (q::r) (by simp)
  rw[C3,DI,this]
  rfl
abbrev wcF:En->Rs Fl:=(cH (o2 ax (o2 ax (o2 ax (o2 ax (o2 ax (o2 ax (vr 2) (cn (.str "clock "))) (cl bM (ae (vr 3) ah))) (cn (.str "-"))) (cl bM (ae (vr 4) ah))) (oS eF (cn (.str "")) (ae (ej (iS (vr 5)) [none] (gN 0) bT (o2 ax (cn (.str " ")) (cl bM (ae (vr 0) ah)))) ah))) (cn (.str "\n"))) (gN 2))
abbrev wlF:En->Rs Fl:=(aL (cH (gz (ae (o2 ax (o2 ax (cl bM (ae (o2 a9 (vr 6) (cn (.int 0))) ah)) (cn (.str "."))) (cl bM (ae (o2 a9 (vr 6) (cn (.int 1))) ah))) (ae (o2 ax (o2 ax (cl bM (ae (o2 a9 (vr 7) (cn (.int 0))) ah)) (cn (.str "."))) (cl bM (ae (o2 a9 (vr 7) (cn (.int 1))) ah))) ah))) (gN 10)) (cH (o2 ax (o2 ax (o2 ax (o2 ax (o2 ax (o2 ax (o2 ax (vr 2) (cn (.str "letter "))) (oS eF (cn (.str " ")) (ae (vr 10) ah))) (cn (.str " "))) (cl bM (ae (vr 8) ah))) (cn (.str "-"))) (vU (tb (o2 j9 (vr 9) (cn .non))) (cn (.str "")) (cl bM (ae (vr 9) ah)))) (cn (.str "\n"))) (gN 2)))
abbrev wcG:T->En->Rs En:=(gT 3 (ka (gN 3) (ka (gN 4) (ka (gN 5) vV))))
abbrev wlG:T->En->Rs En:=(gT 4 (ka (gN 6) (ka (gN 7) (ka (gN 8) (ka (gN 9) vV)))))
section
variable {ns:List Int}{r:T}
theorem uG {x:CK}(h:wQ x){w:List Nat}(hw:w.length<=5000)(s6 s7 s8 s9 s10:Sl):wcF [.va (.scr ns),.va r,.va (.str (tx w)),.va (.int x.1),.va (.int x.2.1),.va (.tup (x.2.2.map .int)),s6,s7,s8,s9,s10,.em] = .ok (.nx [.va (.scr ns),.va r,.va (.str (tx (w++(Lc++gZ x++ [10])))),.va (.int x.1),.va (.int x.2.1),.va (.tup (x.2.2.map .int)),s6,s7,s8,s9,s10,.em]):=by
 obtain⟨s,f,rs⟩:=x
 have h4:=kT rs h.r
 have h5:rs.length<=4:=h.n1
 have d1:(dg s).length<=10:=bQ h.s0 h.s1
 have d2:(dg f).length<=10:=bQ h.f0 h.f1
 have hi:=fW 32 (rs.map dg);rw[CI]at hi
 have e1:ej (iS (vr 5)) [none] (gN 0) bT (o2 ax (cn (.str " ")) (cl bM (ae (vr 0) ah))) [.va (.scr ns),.va r,.va (.str (tx w)),.va (.int s),.va (.int f),.va (.tup (rs.map .int)),s6,s7,s8,s9,s10,.em] = .ok (.lst (((rs.map dg).map λp=>32::p).map λp=>T.str (tx p))):=by
  have:=lO (fe:=o2 ax (cn (.str " ")) (cl bM (ae (vr 0) ah))) (h:=λt=>match t with | .int i=>T.str (tx (32::dg i)) | _=> .non) (src:=[none]) (ρ:=[.va (.scr ns),.va r,.va (.str (tx w)),.va (.int s),.va (.int f),.va (.tup (rs.map .int)),s6,s7,s8,s9,s10,.em]) (fi:=iS (vr 5)) (ts:=rs.map .int) rfl (by rw[CI];exact gX (by omega)) (by decide) (λt ht=>by
   obtain⟨q,hq,rfl⟩:=CY.mp ht
   have:=bQ (h.r q hq).1 (h.r q hq).2;exact aW (a:=[32]) (b:=dg q) rfl (cX rfl (h.r q hq)) (by show 1+(dg q).length<=_;omega))
  rw[this,Dd,Dd,Dd]
  rfl
 have sl:(((rs.map dg).map λp=>32::p).map (·.length)).sum<=100:=by
  have:(((rs.map dg).map λp=>32::p).map (·.length)).sum=((rs.map dg).map (·.length)).sum+rs.length:=by
   clear h e1 h4 h5 hi
   induction rs with
   | nil=>rfl
   | cons a l ih=>simp only[C3,GB,CJ]at ih ⊢;omega
  omega
 have e2:oS eF (cn (.str "")) (ae (ej (iS (vr 5)) [none] (gN 0) bT (o2 ax (cn (.str " ")) (cl bM (ae (vr 0) ah)))) ah) [.va (.scr ns),.va r,.va (.str (tx w)),.va (.int s),.va (.int f),.va (.tup (rs.map .int)),s6,s7,s8,s9,s10,.em] = .ok (.str (tx (32::aM 32 (rs.map dg)))):=by
  refine iO rfl (ao e1 aC) ?_
  rw[s_e,xh (by omega),jH 32 _ (λz=>h.n0 (GP.mp z))]
 refine bX ((aW (aW (aW (aW (aW (aW (a:=w) rfl (b:=Lc) rfl ?_) (cX (i:=s) rfl ⟨h.s0,h.s1⟩) ?_) (b:=[45]) rfl ?_) (cX (i:=f) rfl ⟨h.f0,h.f1⟩) ?_) e2 ?_) (b:=[10]) rfl ?_)) ?_
 any_goals (simp only[CF,CJ,Ds,Lc];omega)
 show Rs.ok _=Rs.ok _
 unfold gZ zx;simp only[Dq,Fi,Ew,List.set]
theorem oG (s6 s7 s8 s9 s10:Sl):∀(ks:List CK) (w:List Nat) (s3 s4 s5:Sl),(∀x∈ks,wQ x)->w.length+111*ks.length<=5000->∃t3 t4 t5,cN wcG wcF (ks.map cx) [.va (.scr ns),.va r,.va (.str (tx w)),s3,s4,s5,s6,s7,s8,s9,s10,.em] = .ok (.nx [.va (.scr ns),.va r,.va (.str (tx (w++(ks.map λx=>Lc++gZ x++ [10]).flatten))),t3,t4,t5,s6,s7,s8,s9,s10,.em])
 | [],w,s3,s4,s5,_,_=>⟨s3,s4,s5,by rw[FY,FY,Kp,Do];rfl⟩
 | x::ks,w,s3,s4,s5,h,hl=>by
  rw[CJ]at hl
  have hx:=h x CL
  have hk:(gZ x).length<=100:=jN hx;obtain⟨t3,t4,t5,e⟩:=oG s6 s7 s8 s9 s10 ks (w++(Lc++gZ x++ [10])) (.va (.int x.1)) (.va (.int x.2.1)) (.va (.tup (x.2.2.map .int))) (λy hy=>h y (CH _ hy)) (by simp only[CF,CJ,Ds,Lc];omega)
  refine⟨t3,t4,t5,?_⟩
  rw[C3,jD (ρ1:=[.va (.scr ns),.va r,.va (.str (tx w)),.va (.int x.1),.va (.int x.2.1),.va (.tup (x.2.2.map .int)),s6,s7,s8,s9,s10,.em]) rfl (uG hx (by omega) s6 s7 s8 s9 s10),e,C3,DI,Dq w]
theorem uF {x:LE}(h:wN x){w:List Nat}(hw:w.length<=5000)(s3 s4 s5 s10:Sl):wlF [.va (.scr ns),.va r,.va (.str (tx w)),s3,s4,s5,.va (.tup [.int x.1.1,.int x.1.2]),.va (.tup [.int x.2.1.1,.int x.2.1.2]),.va (.int x.2.2.1),.va (mV x.2.2.2),s10,.em] = .ok (.nx [.va (.scr ns),.va r,.va (.str (tx (w++(Ll++jX x++ [10])))),s3,s4,s5,.va (.tup [.int x.1.1,.int x.1.2]),.va (.tup [.int x.2.1.1,.int x.2.1.2]),.va (.int x.2.2.1),.va (mV x.2.2.2),.va (.lst ([cZ x.1.1 x.1.2,cZ x.2.1.1 x.2.1.2].map λp=>T.str (tx p))),.em]):=by
 obtain⟨⟨a,b⟩,⟨c,d⟩,l,m⟩:=x
 have h1:(cZ a b).length<=21:=iu h.a h.b
 have h2:(cZ c d).length<=21:=iu h.c h.d
 have h3:(dg l).length<=10:=bQ h.l.1 h.l.2
 have h4:(mw m).length<=10:=og h.m
 have ea:∀{fa fb:En->Rs T} {ρ:En} {i j:Int},fa ρ= .ok (.int i)->fb ρ= .ok (.int j)->0<=i/\i<10000->0<=j/\j<10000->o2 ax (o2 ax (cl bM (ae fa ah)) (cn (.str "."))) (cl bM (ae fb ah)) ρ= .ok (.str (tx (cZ i j))):=λ{fa fb ρ i j} p q hi hj=>by
  have d1:=bQ hi.1 hi.2
  have d2:=bQ hj.1 hj.2;refine(aW (aW (cX p hi) (b:=[46]) rfl ?_) (cX q hj) ?_).trans ?_
  any_goals (simp only[CF,CJ,Ds];omega)
  unfold cZ;simp only[Dq,Fi,Ew]
 unfold wlF;rw[aY (ρ':=[.va (.scr ns),.va r,.va (.str (tx w)),s3,s4,s5,.va (.tup [.int a,.int b]),.va (.tup [.int c,.int d]),.va (.int l),.va (mV m),.va (.lst ([cZ a b,cZ c d].map λp=>T.str (tx p))),.em]) (bX (m7 (ao (ea (i:=a) (j:=b) rfl rfl h.a h.b) (ao (ea (i:=c) (j:=d) rfl rfl h.c h.d) aC)) (gX (by simp))) rfl)]
 have e2:oS eF (cn (.str " ")) (ae (vr 10) ah) [.va (.scr ns),.va r,.va (.str (tx w)),s3,s4,s5,.va (.tup [.int a,.int b]),.va (.tup [.int c,.int d]),.va (.int l),.va (mV m),.va (.lst ([cZ a b,cZ c d].map λp=>T.str (tx p))),.em] = .ok (.str (tx (cZ a b++32::cZ c d))):=
  iO rfl (ao (t:=.lst ([cZ a b,cZ c d].map λp=>T.str (tx p))) rfl aC) (by rw[z8,xg (by simp only[C3,FY,GB,List.sum_nil,CJ,Ds];omega)];rfl)
 have e3:vU (tb (o2 j9 (vr 9) (cn .non))) (cn (.str "")) (cl bM (ae (vr 9) ah)) [.va (.scr ns),.va r,.va (.str (tx w)),s3,s4,s5,.va (.tup [.int a,.int b]),.va (.tup [.int c,.int d]),.va (.int l),.va (mV m),.va (.lst ([cZ a b,cZ c d].map λp=>T.str (tx p))),.em] = .ok (.str (tx (mw m))):=by
  cases m with
  | none=>exact(pj (p:=true) rfl).trans rfl
  | some k=>exact(pj (p:=false) rfl).trans (cX (i:=k) rfl (h.m k rfl))
 refine bX (aW (aW (aW (aW (aW (aW (aW (a:=w) rfl (b:=Ll) rfl ?_) e2 ?_) (b:=[32]) rfl ?_) (cX (i:=l) rfl h.l) ?_) (b:=[45]) rfl ?_) e3 ?_) (b:=[10]) rfl ?_) ?_
 any_goals (simp only[CF,CJ,Ds,Ll];omega)
 show Rs.ok _=Rs.ok _
 unfold jX vO;simp only[Dq,Fi,Ew,List.set]
theorem oF (s3 s4 s5:Sl):∀(es:List LE) (w:List Nat) (s6 s7 s8 s9 s10:Sl),(∀x∈es,wN x)->w.length+111*es.length<=5000->∃t6 t7 t8 t9 t10,cN wlG wlF (es.map dy) [.va (.scr ns),.va r,.va (.str (tx w)),s3,s4,s5,s6,s7,s8,s9,s10,.em] = .ok (.nx [.va (.scr ns),.va r,.va (.str (tx (w++(es.map λx=>Ll++jX x++ [10]).flatten))),s3,s4,s5,t6,t7,t8,t9,t10,.em])
 | [],w,s6,s7,s8,s9,s10,_,_=>⟨s6,s7,s8,s9,s10,by rw[FY,FY,Kp,Do];rfl⟩
 | x::es,w,s6,s7,s8,s9,s10,h,hl=>by
  rw[CJ]at hl
  have hx:=h x CL
  have hk:(jX x).length<=100:=lM hx;obtain⟨t6,t7,t8,t9,t10,e⟩:=oF s3 s4 s5 es (w++(Ll++jX x++ [10])) (.va (.tup [.int x.1.1,.int x.1.2])) (.va (.tup [.int x.2.1.1,.int x.2.1.2])) (.va (.int x.2.2.1)) (.va (mV x.2.2.2)) (.va (.lst ([cZ x.1.1 x.1.2,cZ x.2.1.1 x.2.1.2].map λp=>T.str (tx p)))) (λy hy=>h y (CH _ hy)) (by simp only[CF,CJ,Ds,Ll];omega)
  refine⟨t6,t7,t8,t9,t10,?_⟩
  rw[C3,jD (ρ1:=[.va (.scr ns),.va r,.va (.str (tx w)),s3,s4,s5,.va (.tup [.int x.1.1,.int x.1.2]),.va (.tup [.int x.2.1.1,.int x.2.1.2]),.va (.int x.2.2.1),.va (mV x.2.2.2),s10,.em]) rfl (uF hx (by omega) s3 s4 s5 s10),e,C3,DI,Dq w]
end
theorem zc {t:T}{w:List Nat}(h:bf [t] = .ok (.str (tx w))):b9 [t] = .ok (.str (tx w)):=
 c9 rfl (AW (d8 (bO (ao (t:=t) rfl aC) h)))
theorem v7 {t:T}(hp:t.pl=true)(h:eY t=false):b9 [t] = .ok (jl 0):=by
 have hr:=nk t hp;rw[h]at hr
 have hn:cA [t] = .err "NoRecord":=by
  refine tm rfl ?_
  show cG [.va t] =_
  unfold cG;rw[xf (m6 (jC (bO (ao (t:=t) rfl aC) hr)))]
  rfl
 have he:bf [t] = .err "NoRecord":=by
  refine tm rfl ?_
  show cF [.va t,.em,.em] =_
  unfold cF;exact yU (A1 (bO (ao (t:=t) rfl aC) hn))
 exact c9 rfl (yS (c:="NoRecord") (yV (bO (ao (t:=t) rfl aC) he)) rfl)
theorem zo (x:CK):(cx x).dep<=2:=by simp[cx,uz,T.dep,deps,di]
theorem zm (x:LE):(dy x).dep<=2:=by
 obtain⟨⟨a,b⟩,⟨c,d⟩,l,m⟩:=x;cases m <;> simp[dy,xb,mV,T.dep,deps]
theorem wk (ks:List CK)(es:List LE):(RR (ks.map cx) (es.map dy)).dep<=60:=by
 have h1:=lU (n:=2) (l:=ks.map cx) λt ht=>by obtain⟨x,_,rfl⟩:=CY.mp ht;exact zo x
 have h2:=lU (n:=2) (l:=es.map dy) λt ht=>by obtain⟨x,_,rfl⟩:=CY.mp ht;exact zm x
 simp only[RR,T.dep,deps];omega
theorem pl2 {cs ls:List T}(h:(RR cs ls).pl=true):(T.tup cs).pl=true/\(T.tup ls).pl=true:=by
 unfold RR at h;rw[T.pl,plS,plS,plS,Js,CC]at h;exact h
theorem wH {cs ls:List T}(h:eY (RR cs ls)=true):eY (.tup [.tup ls,.tup cs])=false:=by
 have h':(aN (.tup cs)&&cm cs (.tup ls))=true:=h
 show(aN (.tup ls)&&cm ls (.tup cs))=false
 rw[CC]at h';obtain⟨hc,_⟩:=h';unfold aN at hc;rw[CC]at hc;obtain⟨l1,l2⟩:=hc
 dsimp only at l2
 cases cs with
 | nil=>simp[cR]at l1
 | cons c cs=>
  rw[HK,CC]at l2;obtain⟨l2,_⟩:=l2
  have:cm ls (.tup (c::cs))=false:=by
   show(_&&(List.all (c::cs) (bC ls)))=false
   rw[HK]
   have:bC ls c=false:=by
    cases q:bC ls c with
    | false=>rfl
    | true=>
     obtain⟨a,b,x,y,rfl,_⟩:=gP q;simp[bw,cR]at l2
   rw[this,Ha,Hd]
  rw[this,Hd]
theorem pure_law (ns:List Int)(hn:ns.length<=63):m_law [.scr ns] = .ok (.bl true):=by
 obtain⟨cs,ls,ew,hr,hs⟩:=zb ns hn;obtain⟨ks,es,rfl,rfl,hk,he,h4,h8⟩:=rY hr
 have hp:=wW _ hs
 have er:aI [RR (ks.map cx) (es.map dy)] = .ok (.bl true):=by rw[nk _ hp,hr]
 have et:=pH hk he h4 h8 er
 have ed:=zd hk he h4 h8 er
 have dp:=wk ks es
 have ht:ja ks es=([] ++(ks.map λx=>Lc++gZ x++ [10]).flatten)++(es.map λx=>Ll++jX x++ [10]).flatten:=by
  unfold ja lines;rw[F7,List.flatten_append,Dd,Dd];rfl
 have hlen:=oM hk he h4 h8;obtain⟨hp1,hp2⟩:=pl2 hp
 have hrv:=wH hr
 have plr:(T.tup [.tup (es.map dy),.tup (ks.map cx)]).pl=true:=by rw[T.pl,plS,plS,plS,hp1,hp2];rfl
 have pl1:(T.tup [.tup (ks.map cx)]).pl=true:=by rw[T.pl,plS,plS,hp1];rfl
 have pln:(T.tup [.tup (ks.map cx),.non]).pl=true:=by rw[T.pl,plS,plS,plS,hp1];rfl
 have pl3:(T.tup [.tup (ks.map cx),.tup (es.map dy),.tup []]).pl=true:=by rw[T.pl,plS,plS,plS,plS,hp1,hp2];rfl
 have rn:eY (.tup [.tup (ks.map cx),.non])=false:=by show(aN (T.tup (ks.map cx))&&false)=false;exact Hd _
 generalize hR:RR (ks.map cx) (es.map dy)=R at*
 obtain⟨t3,t4,t5,e1⟩:=oG (ns:=ns) (r:=R) .em .em .em .em .em ks [] .em .em .em hk (by simp;omega)
 have hl1:([] ++(ks.map λx=>Lc++gZ x++ [10]).flatten).length<=3000:=by rw[ht,CF]at hlen;omega
 obtain⟨t6,t7,t8,t9,t10,e2⟩:=oF (ns:=ns) (r:=R) t3 t4 t5 es ([] ++(ks.map λx=>Lc++gZ x++ [10]).flatten) .em .em .em .em .em he (by omega)
 rw[<-ht]at e2
 generalize hW:ja ks es=W at*
 refine c9 rfl ?_
 show uk [.va (.scr ns),.em,.em,.em,.em,.em,.em,.em,.em,.em,.em,.em] =_
 unfold uk;rw[aY (ρ':=[.va (.scr ns),.va R,.em,.em,.em,.em,.em,.em,.em,.em,.em,.em]) (bX (bO (ao (t:=.scr ns) rfl (ao (t:=.int 0) rfl aC)) ew) rfl)];rw[aY (ρ':=[.va (.scr ns),.va R,.va (.str (tx [])),.em,.em,.em,.em,.em,.em,.em,.em,.em]) (bX (t:=.str (tx [])) rfl rfl)]
 have i1:∀ρ:En,ρ[1]? =some (.va R)->iS (o2 a9 (vr 1) (cn (.int 0))) ρ= .ok (ks.map cx):=λρ h=>yW (vP (n:=0) (l:=[.tup (ks.map cx),.tup (es.map dy)]) ((AV h).trans (by rw[<-hR])) rfl rfl)
 have i2:∀ρ:En,ρ[1]? =some (.va R)->iS (o2 a9 (vr 1) (cn (.int 1))) ρ= .ok (es.map dy):=λρ h=>yW (vP (n:=1) (l:=[.tup (ks.map cx),.tup (es.map dy)]) ((AV h).trans (by rw[<-hR])) rfl rfl)
 rw[aY (kA (i1 _ rfl) e1)];rw[aY (kA (i2 _ rfl) e2)]
 have c1:dv (tb (cl aI (ae (vr 1) ah))) [.va (.scr ns),.va R,.va (.str (tx W)),t3,t4,t5,t6,t7,t8,t9,t10,.em] = .ok false:=m6 (jC (bO (ao (t:=R) rfl aC) er))
 have c2:tb (o2 oa (cl b9 (ae (vr 1) ah)) (vr 2)) [.va (.scr ns),.va R,.va (.str (tx W)),t3,t4,t5,t6,t7,t8,t9,t10,.em] = .ok false:=jC (bh (bO (ao (t:=R) rfl aC) (zc et)) rfl (lI rfl (Ey _)))
 have c3:tb (o2 oa (cl cz (ae (vr 2) ah)) (vr 1)) [.va (.scr ns),.va R,.va (.str (tx W)),t3,t4,t5,t6,t7,t8,t9,t10,.em] = .ok false:=jC (bh (bO (ao (t:=.str (tx W)) rfl aC) ed) rfl (lI hp dp));rw[aY ((m9 (tu c1 (tu c2 c3))).trans rfl)];obtain⟨d,e3,d0,d5⟩:=cp ns 120 5 hn (by omega)
 have elst:gz (ae (cn .non) (ae (sl (vr 1) pN (pS (cn (.int 1)))) (ae (o1 rW (vr 1)) (ae (cB (ae (o2 a9 (vr 1) (cn (.int 0))) (ae (cn .non) ah))) (ae (o2 ax (vr 1) (cB (ae (cB ah) ah))) ah))))) [.va (.scr ns),.va R,.va (.str (tx W)),t3,t4,t5,t6,t7,t8,t9,t10,.em] = .ok (.lst [.non,.tup [.tup (ks.map cx)],.tup [.tup (es.map dy),.tup (ks.map cx)],.tup [.tup (ks.map cx),.non],.tup [.tup (ks.map cx),.tup (es.map dy),.tup []]]):=by
  subst hR;refine m7 (ao (t:=.non) rfl (ao (t:=.tup [.tup (ks.map cx)]) ((k_sl (l:=[.tup (ks.map cx),.tup (es.map dy)]) rfl rfl (k_pS (i:=((1:Nat):Int)) rfl)).trans (by rw[tX];rfl)) (ao (t:=.tup [.tup (es.map dy),.tup (ks.map cx)]) rfl (ao (t:=.tup [.tup (ks.map cx),.non]) (d7 (ao (t:=.tup (ks.map cx)) rfl (ao (t:=.non) rfl aC)) (gX (by simp))) (ao (bh (t:=.tup [.tup (ks.map cx),.tup (es.map dy)]) (u:=.tup [.tup []]) rfl (d7 (ao (d7 (ts:=[]) rfl (gX (by simp))) aC) (gX (by simp))) (gY _ _ (by simp))) aC))))) (gX (by simp))
 obtain⟨bd,eb,pb,nb⟩:∃bd:T,a9 (.lst [.non,.tup [.tup (ks.map cx)],.tup [.tup (es.map dy),.tup (ks.map cx)],.tup [.tup (ks.map cx),.non],.tup [.tup (ks.map cx),.tup (es.map dy),.tup []]]) (.int d)= .ok bd/\bd.pl=true/\eY bd=false:=by
  have:d=0\/d=1\/d=2\/d=3\/d=4:=by omega
  rcases this with rfl | rfl | rfl | rfl | rfl
  ·exact⟨_,rfl,rfl,rfl⟩
  ·exact⟨_,rfl,pl1,rfl⟩
  ·exact⟨_,rfl,plr,hrv⟩
  ·exact⟨_,rfl,pln,rn⟩
  ·exact⟨_,rfl,pl3,rfl⟩
 rw[aY (ρ':=[.va (.scr ns),.va R,.va (.str (tx W)),t3,t4,t5,t6,t7,t8,t9,t10,.va bd]) (bX (bh elst (bV (k:=120) e3 rfl rfl rfl) eb) rfl)];exact d8 (bh (t:=jl 0) (u:=jl 0) (bO (ao (t:=bd) rfl aC) (v7 pb nb)) (d7 (ao (t:=.str "refused") rfl (ao (t:=.int 0) rfl aC)) (gX (by simp))) (v3 rfl (by simp[jl,T.dep,deps])))
end G
end
open PySem PySem.W PyProof.Rows
set_option maxRecDepth 100000 in
set_option maxHeartbeats 0 in
theorem PySem.Challenge.cw_farclocks_k90_texts_holds : PySem.Challenge.rw_farclocks_k90_texts.Holds := by
  w_on; o_law
  refine Tr.holds_C (q := G.vw) (loose := G.lse) (Xt := λ_ => true) (XP := λ_ _ => True) (Yf := (Tr.hookC G.asks G.top).obs) (Ya := (Tr.hookC G.asks G.top).val) (YP := (Tr.hookC G.asks G.top).says) (N := 9000) (Tr.left_of (by rfl) (by rfl) (λ_ => rfl) λw os => ?hl) (Tr.hookC G.asks G.top).of (Tr.hookC G.asks G.top).keeps (λ_ _ => trivial) (λ_ _ _ _ _ => trivial) (by rfl) (by rfl) (by rfl) (λs _ => recFacts_of (s := s) rfl) (by rfl) (by assumption) (by decide +kernel) ⟨rfl, rfl, rfl, rfl, rfl, by decide +kernel⟩ ?hw ?hc
  case hl => exact G.Cj w os
  case hw => w_witness2
  case hc => exact Tr.walk_C (n := 63) (k := 10) (x := "_law_script") (CX := L2.CX0) (sp := λK => Tr.spP K 1 G.m_law) rfl (by decide) rfl ⟨rfl, by decide, by decide⟩ (λw K mg fa h X e g hf => G.all_ok X e g hf) (λK H a ns hl _ hS => Tr.sp_script hS (G.pure_law ns hl)) λ_ _ _ _ z => z
