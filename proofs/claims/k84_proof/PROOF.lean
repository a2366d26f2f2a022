import PyProof.Rows.All
import Wide.All
import OpenK.AllK
import Wide.FinOn
import Lean
import PyProof.EqAt
import PyProof.EqKinds
import PyProof.TupleCall
import PyProof.ExcClass3
import PyProof.StationsW
import PyProof.ExcBaseAll.ValueError
import PyProof.ExcArgsOwn
import PyProof.IsiBase
import PyProof.IsiH_tuple
import PyProof.ExcAttrAll.ValueError
import PyProof.Rows.RuleN_isinstance
import PyProof.MeetsSeq
import PyProof.RulesAs
import PyProof.IsiH_list
import PyProof.AttrMiss
import KE.KDictOf
import PyProof.Rows.SumAny
import PyProof.Rows.MinMaxN
import PyProof.Rows.SortShellK
import PyProof.Rows.SortWalk
import PyProof.ZipIter
import PyProof.WalksMore
import PyProof.DictWalks
import PyProof.AutoSeq1
import PyProof.Rows.Range3
import PyProof.CollectWalk
import KE.KSortTup
import PyProof.EnumMake
import PyProof.ListRange
import KE.KRevIter
import PySem.Challenge.RW_farclocks_k84_whole_sketches
noncomputable section
open PySem.Challenge renaming pw_farclocks_k84_whole_sketches→Jm,rw_farclocks_k84_whole_sketches→ME
open PySem.AutoListH renaming list___mul___list_int_3→N5
open PyProof.Rows renaming slot_tuple_getitem→JW,callWith_builtin1→LZ,callWith_type1→Kg,subscriptTail_builtinR→Nc,entry_tuple_getitem→NZ,args_tuple_getitem→Oj,tupleItemsOf_→Ol,subscriptTail→Om,IntsAre→Mp,AllBare→M0,IsTup→Py
open Int renaming mul_le_mul_of_nonneg_left→L7,eq_ofNat_of_zero_le→JS,emod_lt_of_pos→MB,toNat_natCast→Kc,emod_nonneg→Nx,le_refl→Po
open PySem.F renaming args_tuple_iterator_next_1→Mc,entry_tuple_iterator_next→Mj,slot_tuple_iterator_next→KJ,excBase_ValueError→Mt,slot_list_getattribute→K3,args_tuple_add_2→Lv,slot_list_append→MJ,type_list_append→MK,plainAttrs_list→K8,entry_tuple_add→Lz,args_dict_get_2→MS,slot_tuple_add→LM,entry_dict_get→M9,slot_dict_get→L0,slot_enumerate_next→Nn,args_int_rmul_2→Os,slot_tuple_rmul→Ov,slot_tuple_mul→M6,slot_int_index→OZ,entry_int_rmul→O0,slot_int_rmul→Mi,fills_int_mul→Ph
open PySem.Builtin.Slice renaming slicePartIndex→O9,sliceApplied→Mq,slicePlaces→KP,sliceAdjust→Lm
open Array renaming getElem?_eq_some_iff→Kl,length_toList→Mh,find?_toList→N4,toList→Ni
open List renaming getElem?_append_right→KI,nodup_iff_pairwise_ne→Mv,getElem?_eq_some_iff→Jh,getElem?_append_left→J2,drop_eq_getElem_cons→Ln,getElem?_eq_getElem→Jt,getElem?_replicate→JZ,getElem?_cons_succ→Kj,length_eq_zero_iff→MZ,getElem?_set_self→Jy,drop_eq_nil_of_le→LQ,mem_append_right→Jx,length_singleton→Ku,getElem?_eq_none→L4,singleton_append→Nk,take_append_drop→Nt,mem_cons_of_mem→IX,getElem?_set_ne→Jv,mem_append_left→JN,mem_of_getElem?→Ky,mem_erase_of_ne→NO,filterMap_cons→Ko,replicate_succ→Kq,getElem_of_mem→La,map_congr_left→Lc,drop_succ_cons→NY,length_append→Jc,mem_cons_self→Je,mem_singleton→Jk,contains_cons→LF,mem_filterMap→Mz,size_toArray→Jn,getElem?_map→Jz,append_assoc→JE,nodup_append→Kd,flatten_cons→K0,length_range→Lh,flatMap_cons→MO,length_cons→Jb,all_eq_true→JC,lookup_cons→JO,not_mem_nil→J9,length_take→Kx,getElem_mem→KM,length_drop→Lp,mem_flatMap→Lq,getElem_map→M7,drop_length→O4,cons_append→O6,length_map→Jd,mem_append→Ju,append_nil→JA,nodup_cons→JH,length_set→Ki,find?_cons→KG,map_append→KH,of_mem_zip→LB,nil_append→LC,range_succ→Nu,mem_filter→Pe,forIn_cons→Pj,length_nil→Pl,idxOf_cons→Pn,replicate→Js,mem_range→Kf,nodup_nil→LW,map_cons→IZ,mem_cons→Jg,sum_cons→Kz,any_cons→Lb,mem_map→JQ,map_nil→Nj,map_map→Nr,toArray→OM,lookup→Kp,length→K9,range→J1,Nodup→KC,foldl→MM
open PySem renaming wpAny_newFunctionEnv_cells→Lk,wpAny_binaryOp_repeat_ref→MG,wpAny_callSpecial?_slot→KA,wpAny_pyNext_list_item→Nb,wpAny_Call_method_late→Nd,codeAny_call_function→L5,wpAny_pyNext_list_end→NA,wpAny_isTrue_Compare1→NG,builtinLookup_eq_fast→NH,wpAny_pyIter_revIter→NP,mem_of_lookup→KF,wpAny_isSubtype_exc→N1,wpAny_Call_Name_kw→Kk,wpAny_pyIter_tuple→LJ,tupleKind_room_in1→LL,wpAny_List_spliced→Og,foldedSetIterable→J5,wpAny_truthy_bool→Ke,wpAny_newObj_type→Ks,wpAny_pyIter_list→MR,wpAny_assign_Name→Oy,wpAny_sequenceKey→Oz,wpAny_pyIter_enum→OD,wpAny_loadPart_at→OF,wpAny_call_entry→Lr,noFill_tuple_add→M8,seqSlot_of→O5,wpAny_execs_cons→O8,wpAny_loadPart'→K6,wpAny_execs_nil→LH,letOwnedTupleGo→LI,importedModules→Nz,pushCells_keeps→NF,wpAny_passesOwn→Pp,typeLookup_type→Pu,codeAny_builtin→Pv,wpAny_seqItems→NR,wpAny_setField→NS,attributeBase→JM,behindInMarks→LK,wpAny_holding→M4,swapsWithSole→Oe,swappedStores→Of,seq_tuple_add→Oh,bootBuiltins→JT,codeAny_mono→Ly,wpAny_typeOf→MC,Within→OH,codeAny_func→OR,concat_meets→OS,mainGlobals→JG,wpAny_field→KW,excClassObj→Lu,sliceBounds→LU,keywordEach→LV,sizeLine_eq→Mo,subscripted→N0,wpAny_bind→Ja,wpAny_pure→Jl,assignEach→Kr,wpAny_mono→KN,sysModules→Lj,call_meets→Me,builtinsNs→MP,wpAny_call→NJ,typeIs_int→NK,typeLookup→OA,wpAny_rule→OB,swapsWith→JU,compareOp→J3,cellsFrom→K5,tupleKind→MQ,Arguments→Ny,getMethod→NB,pushCells→ND,treeTable→Od,noteFrame→Pt,starEach→Jo,FuncData→J0,binaryOp→Kw,boot_len→KB,NameKind→Li,backToKw→NL,bindArgs→Pa,Program→JB,OsState→MF,BindsTo→NC,Keyword→Pr,Shared→IY,Around→JK,IsPart→Oi,Result→Pq,Paired→Px,Value→IW,World→JY,Scope→L8,CmpOp→Pw
open PySem.Builtin.Tuple renaming tupleItemsOf→Mr,tupleIsExact→Ms,tupleExact→Kv
open PySem.Calls renaming Name_function_global→Mu,callWith_builtin→LN,evalArgs_plain→Ll,spliced_cons→LA,Constant_str→N3,spliced_nil→LR
open PySem.Builtin.SmallTypes renaming nextOf→KQ
open PySem.Builtin.List renaming listTooLong→KY
open PySem.Builtin.Dict renaming updateFrom→MT
open PySem.Heap renaming get?_push_of_some→Jf,get?_update_other→LP,get?_update_self→Nl,get?_push_size→Jq,NewAttrErr→Pm,size_push→KR,lt_size→Jj,SameBut→L1
open PySem.W renaming cellsFrom_some→Ld,methodCall_KW→Nh,hideAll_none→L9,hideAll_get→K7,plainGet_of→Mg,callWith_K→Le,of_hideAll→Mw,codeRec_of→Mx,emptyDict→Ka,methodObj→MH,hasDictIn→MI,plainOver→On,kitx_list→Oo,kitx_dict→Oq,plainGet→L6,openSeen→OU,openGood→OV,handedIn→OW,kia_one→J7,instObj→KD,topFrom→Mf,hideAll→Nf,takerIn→Ng,makesIn→Pb,findIn→Kt,keepIn→KO,lookIn→MD,codeIn→NQ,mg_of→Ma,Frag→IU,nsIn→Lw,fnOf→LY,isFn→OG
open Option renaming map_eq_some_iff→Na,isSome_some→N6,getD_none→OY,some→JX
open PySem.Obj renaming isFreed_of_fields→Nm,data_mapFields→LD,mapFields→N8
open Bool renaming and_eq_false_iff→Nv,and_eq_true_iff→J6,or_eq_false_iff→NN,false_ne_true→Jw,not_eq_true'→Ox,and_eq_true→IV,or_eq_true→Pk,true_and→MY,false_or→N7,and_true→Oc
open PySem.Around renaming under_plainId→NM,units→MA,under→OI
open PySem.Heap.SameBut renaming update→NT
open Nat renaming lt_of_lt_of_le→Jp,lt_of_le_of_lt→Ob,le_of_succ_le→MN,lt_succ_of_lt→Ot,lt_succ_self→M5,mod_eq_of_lt→O7,lt_irrefl→JF,le_trans→JV,ne_of_lt→Kb,le_of_lt→Lx,le_of_eq→L3,ne_of_gt→My,sub_self→Np,sub_zero→Nq,add_comm→OK,mul_comm→OL,lt_or_ge→OQ,le_refl→Ji,zero_le→KS
open Option.some renaming injEq→ML,inj→JJ
open ForInStep renaming yield→Lf
open PySem.Expr renaming Attribute→Lo,Subscript→LX,Constant→MW,ListComp→Oa,Compare→ON,UnaryOp→OP,BoolOp→KU,Name→JR,Call→K4
open PySem.NameKind renaming free→JL,cell→Kh
open Prod.mk renaming injEq→MU,inj→Pc
open PySem.Paired renaming length→MV
open PySem.Str renaming ofString→Jr
open PySem.Code renaming isFrame→OJ
open PySem.Stmt renaming Assign→MX
open PySem.Scope renaming names→NW
open PySem.Pos renaming endLine→NX,line→LG
open PySem.Value renaming float→Pd,none→JI,bool→J4,type→Md,ref→JD,int→Km,str→Kn
open PySem.Data renaming fields→Pf
open False renaming elim→KL
open True renaming intro→KZ
open PySem.BoolOp renaming And→NI,Or→N9
open PySem.Env renaming scope→Lg
open PyProof.Rows.IsTup renaming new→Pg
open Ne renaming symm→Ls
open Iff renaming rfl→LS
open Sum renaming inl→NU,inr→NV
open Prod renaming mk→Ou
open Or renaming inr→JP,inl→J8
set_option Elab.async false
set_option linter.all false
set_option maxRecDepth 100000
set_option maxHeartbeats 8000000
noncomputable section
abbrev fE (x:PySem.Str):Prop:=(x == PySem.Str.ofString "__debug__")=false
namespace L2
open PySem PySem.Spec PyProof.Rows
inductive V where
 | non | bl (b:Bool) | int (i:Int) | str (x:Str) | byt (b:Array UInt8) | flt (b:UInt64) | ref (a:Addr) | ty (n:String)
 deriving DecidableEq
def bX (s:Stmt)(j:Nat):Stmt:=match s with
 | .ClassDef _ _ _ body _ _ _ _ _ _ _=>body.getD j (.Pass ⟨0,0,0,0⟩)
 | _=> .Pass ⟨0,0,0,0⟩
def eU (s:Stmt):Ny:=match s with
 | .FunctionDef _ a _ _ _ _ _ _ _ _=>a
 | _=> { posonlyargs:=[],args:=[],vararg:=none,kwonlyargs:=[],kw_defaults:=[],kwarg:=none,defaults:=[] }
def bJ (s:Stmt):List Stmt:=match s with
 | .FunctionDef _ _ b _ _ _ _ _ _ _=>b
 | _=> []
def ai (s:Stmt):L8:=match s with
 | .FunctionDef _ _ _ _ _ _ sc _ _ _=>sc
 | _=> { kind:=.function,names:=[],isGenerator:=false,isCoroutine:=false }
end L2
namespace Tr
open PySem PySem.Spec PyProof.Rows L2
inductive T where
 | non | bl (b:Bool) | int (i:Int) | str (x:Str) | tup (l:List T) | lst (l:List T)
 /-- the law's script: a list of ints that is only read -/
 | scr (l:List Int)
 /-- a dict: its keys,its values -/
 | dct (ks vs:List T)
 /-- an instance: its class,the names of its attributes,what they are -/
 | ob (C:Str) (ns:List Str) (ts:List T)
inductive OT where
 | lst (l:List T) | dct (ks ts:List T) | dd (ks:List T) (rows:List (List T×List T))
 /-- an instance,its attributes own lists -/
 | ob (C:Str) (ns:List Str) (ls:List (List T))
def OT.view:OT->T
 | .lst l=> .lst l
 | .dct ks ts=> .dct ks ts
 | .dd ks rows=> .dct ks (rows.map λr=> .dct r.1 r.2)
 | .ob C ns ls=> .ob C ns (ls.map T.lst)
def calmNames:List Str:=["__init__","__getattribute__","__getattr__","__class__"]
def xE:IW->Bool
 | .str _ _=>true
 | _=>false
end Tr
namespace Tr
def fy:List Int->List Int->Bool
 | [],[] =>false
 | [],_::_=>true
 | _::_,[] =>false
 | a::l,b::m=>if a=b then fy l m else decide (a<b)
end Tr
namespace Tr
open PySem PySem.Spec PyProof.Rows L2
structure RK where
 V:Heap->IW->List Int->Prop
 inj:∀{h v a b},V h v a->V h v b->a=b
 on:∀{h h':Heap} {v a},V h v a->(∀b o,h.get? b=some o->h'.get? b=some o)->V h' v a
 fst:∀{h v a},V h v a->∃ad xs n o m t,v= .ref ad/\h.get? ad=some o/\o.cls= .type "tuple"/\o.data= .seq xs n/\xs[0]? =some (.int m t)
 lt:∀{prog w A s E x y a b} {Q:Bool->IY->Prop},A.units+60<cLine->V s.heap x a->V s.heap y b->Q (fy a b) s->wpAny (model prog w) A (keyLt' (tuples' true) x y) Q E s
variable (R:RK)
open Classical in
def RK.key (h:Heap)(v:IW):Option (List Int):=if e:∃ns,R.V h v ns then some e.choose else none
variable {R:RK}
end Tr
namespace Tr
open PySem PySem.Spec PyProof.Rows L2 PySem.W
def sG (h:Heap):Frag:=(J1 h.objs.size).filterMap λa=>(h.get? a).map λo=>(a,o)
def obF (K:Frag)(n:Str):Option (Str×Str×Ny×FuncBody×L8×Addr×List (Str×Addr)×IW×Addr×Bool×Bool):=match nsIn K JG n with
 | some (some (.ref f))=>match K.lookup f with
  | some ⟨_,_,.func d,_⟩=>some (d.name,d.qualname,d.params,d.body,d.scope,d.globals,d.closure,d.defaults,d.builtins,codeIn K d.code n,keepIn K (.ref f))
  | _=>none
 | _=>none
def exF (n:Str)(st:Stmt):Option (Str×Str×Ny×FuncBody×L8×Addr×List (Str×Addr)×IW×Addr×Bool×Bool):=
 some (n,n,eU st,.stmts (bJ st),ai st,JG,[],.none,MP,true,true)
def GB (K:Frag)(N:Addr)(n:Str):Bool:=match nsIn K N n with | some none=>true | _=>false
def HH (K:Frag)(n:Str):Option Int:=match nsIn K JG n with | some (some (.int i _))=>some i | _=>none
def uM:List IW->Bool
 | [.type a,.type b,.type c,.type d] =>a == "ValueError" &&b == "Exception" &&c == "BaseException" &&d == "object"
 | _=>false
def under (D:Option Addr)(m:List IW):Bool:=match D with
 | none=>uM m
 | some D=>match m with
  | .ref E::m=>E == D&&uM m
  | _=>false
def Br (K:Frag)(D:Option Addr)(n:Str):Option Addr:=match nsIn K JG n with
 | some (some (.ref C))=>match K.lookup C with
  | some ⟨.type t,_,.cls c,⟨[_,_,_,_,some (.builtin b),_]⟩⟩=>match c.mro,K.lookup c.ns with
   | .ref E::m,some ⟨_,_,.dict es _,_⟩=>
    if (t == "type" &&b == "ValueError.__new__" && !c.hasDel&&(es.toList.all λe=>xE e.key)&&calmNames.all (GB K c.ns)&&E == C&&under D m)=true then some C else none
   | _,_=>none
  | _=>none
 | _=>none
def uC {α:Type}:List (Option α)->Option (List α)
 | [] =>some []
 | none::_=>none
 | some a::r=>match uC r with | some l=>some (a::l) | none=>none
def qk:List Addr->Bool
 | [] =>true
 | a::r=>(r.all λb=> !(a == b))&&qk r
def HF (K:Frag):List Str->Bool
 | [] =>true
 | m::es=>match Br K none m with
  | some D=>match uC (es.map (Br K (some D)))with | some l=>qk (l++ [D]) | none=>false
  | none=>false
structure zZ where
 tab:List (Str×Nat)
 zs:List Str
 cs:List (Str×Int)
 es:List Str
def rW (S:zZ)(K:Frag):=(S.tab.map (λp=>obF K p.1),S.zs.all (GB K JG),S.cs.map (λc=>HH K c.1),HF K S.es)
def rk (S:zZ)(top:Nat->Stmt):=(S.tab.map (λp=>exF p.1 (top p.2)),true,S.cs.map (λc=>some c.2),true)
def GC (K:Frag)(C:Addr)(m q:Str):Option (Str×Str×Ny×FuncBody×L8×Addr×List (Str×Addr)×IW×Addr×Bool×Bool×Bool):=match findIn K (.ref C) m with
 | some (some (.ref f))=>match K.lookup f with
  | some ⟨_,_,.func d,_⟩=>some (d.name,d.qualname,d.params,d.body,d.scope,d.globals,d.closure,d.defaults,d.builtins,codeIn K d.code q,keepIn K (.ref f),isFn K (.ref f))
  | _=>none
 | _=>none
def Hj (m q:Str)(st:Stmt):Option (Str×Str×Ny×FuncBody×L8×Addr×List (Str×Addr)×IW×Addr×Bool×Bool×Bool):=
 some (m,q,eU st,.stmts (bJ st),ai st,JG,[],.none,MP,true,true,true)
def Ex (K:Frag)(C:Addr)(f:Str):Bool:=match findIn K (.ref C) f with | some none=>true | _=>false
def Dm (K:Frag)(C:Addr):Bool:=match findIn K (.ref C) "__setattr__" with | some (some (.builtin b))=>b == "object.__setattr__" | _=>false
def CS (K:Frag)(C:Addr)(as:List Str):Bool:=plainGet K C Str.empty&&hasDictIn K C&&plainOver K C&&Dm K C&&makesIn K C&&keepIn K (.ref C)&&as.all (Ex K C)
structure Cq where
 c:Str
 i:Nat
 as:List Str
 ms:List (Str×Str×Nat)
def HG (K:Frag)(A:Cq):=match nsIn K JG A.c with
 | some (some (.ref C))=>some (CS K C A.as,A.ms.map λ(m:Str×Str×Nat)=>GC K C m.1 m.2.1)
 | _=>none
def HK (top:Nat->Stmt)(A:Cq):=some (true,A.ms.map λ(m:Str×Str×Nat)=>Hj m.1 m.2.1 (bX (top A.i) m.2.2))
structure ti where
 a:zZ
 ks:List Cq
def yo (S:ti)(K:Frag):=(rW S.a K,S.ks.map (HG K))
def xv (S:ti)(top:Nat->Stmt):=(rk S.a top,S.ks.map (HK top))
end Tr
namespace G
open PySem PySem.Spec PyProof.Rows L2 Tr
def top (i:Nat):Stmt:=Jm.main.body.getD i (.Pass ⟨0,0,0,0⟩)
def zR:zZ:=⟨([("is_long",16),("is_whole",14),("is_within",15),("is_pace",19),("rises",17),("are_readings",18),("is_clock",20),("are_clocks",21),("is_event",22),("is_delay",23),("is_letter",24),("are_letters",25),("is_record",26),("need_record",27),("events",29)]:List (Str×Nat))++([("is_better",42),("settle",41),("greatest_world",44),("bounds_of_clock",37),("bounds_of_letter",38),("bounds",39),("world",45),("has_world",46),("need_world",47),("_law_cell",54),("_law_drawn",55),("_law_events",58),("_law_letter",57),("_law_clock",56),("_law_record",59)]:List (Str×Nat))++([("if_record",31),("with_letter",32),("need_number",28),("without_letter",33),("barring",48),("_law_takes",60),("law",61)]:List (Str×Nat)),(["all","bool","dict","enumerate","int","isinstance","len","range","reversed","tuple"]:List Str),[("MOST_CLOCKS",4),("MOST_LETTERS",8),("MOST_READINGS",4),("LAST_READING",99),("SLOWEST",9),("LONGEST",999)],["ClockError","NoRecord","NoNumber","NoWorld","Barred"]⟩
def asks:ti:=⟨zR,[⟨"Sketch",50,["past","ahead"],[("__init__","Sketch.__init__",0),("go_on","Sketch.go_on",2),("record","Sketch.record",1),("write","Sketch.write",3),("cut","Sketch.cut",5),("good","Sketch.good",6),("counts","Sketch.counts",9)]⟩,⟨"Desk",52,["kept"],[("__init__","Desk.__init__",0),("keep","Desk.keep",2),("record","Desk.record",1),("take","Desk.take",3)]⟩]⟩
def vw:JB:=PySem.W.view Jm [61]
def lse:List Str:=(["_wall","ClockError","NoRecord","NoNumber","NoWorld","Barred","MOST_CLOCKS","MOST_LETTERS","MOST_READINGS","LAST_READING","SLOWEST","LONGEST","is_whole","is_within","is_long","rises","are_readings","is_pace","is_clock","are_clocks"]:List Str)++(["is_event","is_delay","is_letter","are_letters","is_record","need_record","need_number","events","if_record","with_letter","without_letter","with_clock","with_reading","bounds_of_clock","bounds_of_letter","bounds","settle","is_better","greatest_world","world"]:List Str)++(["has_world","need_world","barring","Sketch","Desk","_law_cell","_law_drawn","_law_clock","_law_letter","_law_events","_law_record","_law_takes"]:List Str)
def lhs (w:JY)(h:Heap)(d:Drawn)(t:Nat)(os:MF):=(Mf Od Jm w 9000 ⟨h,⟨[]⟩,d,t,os⟩).map (λs=>(OU vw lse (Nz Jm.main.body) (λ_=>true) true s,yo asks (sG s.heap)))
def rhs (w:JY):=some (OV vw lse,xv asks top)
end G
set_option maxHeartbeats 1000000
set_option maxHeartbeats 1000000
set_option maxHeartbeats 4000000
set_option maxHeartbeats 4000000
namespace G
open PySem Tr PySem.W PyProof.Rows
def lhA (w:JY)(h:Heap)(d:Drawn)(t:Nat)(os:MF):=(Mf Od Jm w 9000 ⟨h,⟨[]⟩,d,t,os⟩).map λs=>OU vw lse (Nz Jm.main.body) (λ_=>true) true s
def rhA (_:JY):=some (OV vw lse)
theorem lhA_r:lhA=lhA:=rfl
theorem rhA_r:rhA=rhA:=rfl
def lhB (w:JY)(h:Heap)(d:Drawn)(t:Nat)(os:MF):=(Mf Od Jm w 9000 ⟨h,⟨[]⟩,d,t,os⟩).map λs=>rW asks.a (sG s.heap)
def rhB (_:JY):=some (rk asks.a top)
theorem lhB_r:lhB=lhB:=rfl
theorem rhB_r:rhB=rhB:=rfl
def lhC (w:JY)(h:Heap)(d:Drawn)(t:Nat)(os:MF):=(Mf Od Jm w 9000 ⟨h,⟨[]⟩,d,t,os⟩).map λs=>asks.ks.map (HG (sG s.heap))
def rhC (_:JY):=some (asks.ks.map (HK top))
theorem lhC_r:lhC=lhC:=rfl
theorem rhC_r:rhC=rhC:=rfl
theorem join3 {α β γ δ:Type}{o:Option α}{f:α->β}{g:α->γ}{k:α->δ}{a:β}{b:γ}{c:δ}(h1:o.map f=some a)(h2:o.map g=some b)(h3:o.map k=some c):o.map (λs=>(f s,g s,k s))=some (a,b,c):=by
 cases o with
 | none=>cases h1
 | some s=>cases h1;cases h2;cases h3;rfl
end G
lay_quick G.lhA G.rhA G.lhB G.rhB G.lhC G.rhC
name_quick lhAz for G.lhA by G.lhA_r
name_quick rhAz for G.rhA by G.rhA_r
name_quick lhBz for G.lhB by G.lhB_r
name_quick rhBz for G.rhB by G.rhB_r
name_quick lhCz for G.lhC by G.lhC_r
name_quick rhCz for G.rhC by G.rhC_r
section
open PySem PySem.W PyProof.Rows
set_option maxRecDepth 100000 in
theorem G.IF (w:JY)(os:MF):PySem.W.Fast.lhAz w (boot_heap w.params) boot_drawn boot_toks os=PySem.W.Fast.rhAz w:=by kernel_rfl
set_option maxRecDepth 100000 in
theorem G.IH (w:JY)(os:MF):PySem.W.Fast.lhBz w (boot_heap w.params) boot_drawn boot_toks os=PySem.W.Fast.rhBz w:=by kernel_rfl
set_option maxRecDepth 100000 in
theorem G.IK (w:JY)(os:MF):PySem.W.Fast.lhCz w (boot_heap w.params) boot_drawn boot_toks os=PySem.W.Fast.rhCz w:=by kernel_rfl
theorem G.IP (w:JY)(os:MF):G.lhs w (boot_heap w.params) boot_drawn boot_toks os=G.rhs w:=G.join3 (((congrFun (congrFun (congrFun (congrFun (congrFun PySem.W.Fast.lhAz_eq w) _) _) _) os).trans (G.IF w os)).trans (congrFun PySem.W.Fast.rhAz_eq w).symm) (((congrFun (congrFun (congrFun (congrFun (congrFun PySem.W.Fast.lhBz_eq w) _) _) _) os).trans (G.IH w os)).trans (congrFun PySem.W.Fast.rhBz_eq w).symm) (((congrFun (congrFun (congrFun (congrFun (congrFun PySem.W.Fast.lhCz_eq w) _) _) _) os).trans (G.IK w os)).trans (congrFun PySem.W.Fast.rhCz_eq w).symm)
end
namespace L2
open PySem PySem.Spec PyProof.Rows
abbrev Key:=Sum Int Str
def oZ:Key->IW->Bool
 | .inl k,v=>Value.isInt k v
 | .inr x,v=>Value.isStrOf x v
def keyH (w:JY):Key->Int
 | .inl k=>hashInt k
 | .inr x=>hashStr w x
theorem cb:∀{k:Key} {v:IW},oZ k v=true->(∃i t,k=NU i/\v=Km i t)\/(∃x t,k=NV x/\v=Kn x t)
 | .inl i,v,h=>by
  obtain⟨t,e⟩:=Value.isInt_shape (k:=i) (v:=v) h
  exact .inl ⟨i,t,rfl,e⟩
 | .inr x,v,h=>by
  obtain⟨t,e⟩:=Value.isStrOf_shape (x:=x) (v:=v) h;exact .inr ⟨x,t,rfl,e⟩
theorem wJ (i:Int)(t:Tok):oZ (.inl i) (.int i t)=true:=by simp[oZ,Value.isInt]
theorem wI (x:Str)(t:Tok):oZ (.inr x) (.str x t)=true:=by simp[oZ,Value.isStrOf]
theorem EH (a b:Int):decide ((NU a:Key)=NU b)=(a == b):=by
 by_cases e:a=b
 ·subst e;simp
 ·have h:¬ (NU a:Key)=NU b:=λq=>e (NU.inj q)
  rw[decide_eq_false h];exact(beq_eq_false_iff_ne.mpr e).symm
theorem EE (a b:Str):decide ((NV a:Key)=NV b)=decide (a=b):=by
 by_cases e:a=b
 ·subst e;simp
 ·have h:¬ (NV a:Key)=NV b:=λq=>e (NV.inj q)
  rw[decide_eq_false h,decide_eq_false e]
theorem EG (a:Int)(b:Str):decide ((NU a:Key)=NV b)=false:=decide_eq_false (λq=>nomatch q)
theorem EF (a:Str)(b:Int):decide ((NV a:Key)=NU b)=false:=decide_eq_false (λq=>nomatch q)
def cm (prog:JB)(w:JY):PySem.KeyKind prog w Key where
 is:=oZ
 hash:=keyH w
 inj:=λv a b ha hb=>by
  rcases cb ha with⟨i,t,rfl,rfl⟩ | ⟨x,t,rfl,rfl⟩
  ·rcases cb hb with⟨j,u,rfl,e⟩ | ⟨y,u,rfl,e⟩
   ·injection e with e1 _;rw[e1]
   ·exact nomatch e
  ·rcases cb hb with⟨j,u,rfl,e⟩ | ⟨y,u,rfl,e⟩
   ·exact nomatch e
   ·injection e with e1 _;rw[e1]
 byValue:=λk v h=>by
  rcases cb h with⟨i,t,rfl,rfl⟩ | ⟨x,t,rfl,rfl⟩ <;> rfl
 pyHash:=λhv h=>by
  rcases cb hv with⟨i,t,rfl,rfl⟩ | ⟨x,t,rfl,rfl⟩
  ·exact wpAny_pyHash_int h
  ·exact wpAny_pyHash_str h
 eqBool:=λhu hv h=>by
  rcases cb hu with⟨i,t,rfl,rfl⟩ | ⟨x,t,rfl,rfl⟩
  ·rcases cb hv with⟨j,u,rfl,rfl⟩ | ⟨y,u,rfl,rfl⟩
   ·rw[EH]at h;exact wpAny_eqBool_int h
   ·rw[EG]at h;exact SeqAt.EqAt.int_str i t y u _ _ _ _ h
  ·rcases cb hv with⟨j,u,rfl,rfl⟩ | ⟨y,u,rfl,rfl⟩
   ·rw[EF]at h;exact SeqAt.EqAt.str_int x t j u _ _ _ _ h
   ·rw[EE]at h;exact wpAny_eqBool_str h
 «strs»:=λk x t v h=>by
  rcases cb h with⟨i,u,rfl,e⟩ | ⟨y,u,rfl,e⟩
  ·exact nomatch e
  ·injection e with e1 _
   subst e1;cases v <;> rfl
theorem sh (prog:JB)(w:JY)(i:Int)(t:Tok):(cm prog w).is (.inl i) (.int i t)=true:=wJ i t
theorem sg (prog:JB)(w:JY)(x:Str)(t:Tok):(cm prog w).is (.inr x) (.str x t)=true:=wI x t
def RelV:V->IW->Prop
 | .non,u=>u=JI
 | .bl b,u=>u=J4 b
 | .int i,u=> ∃t,u=Km i t
 | .str x,u=> ∃t,u=Kn x t
 | .byt b,u=> ∃t,u=Value.bytes b t
 | .flt b,u=> ∃t,u=Pd b t
 | .ref a,u=>u=JD a
 | .ty n,u=>u=Md n
abbrev Vals:List V->List IW->Prop:=Px RelV
theorem Vals.length {xs:List V}{us:List IW}(r:Vals xs us):xs.length=us.length:=MV r
theorem Vals.get:∀{xs:List V} {us:List IW} {i:Nat} {x:V},Vals xs us->xs[i]? =some x->∃u,us[i]? =some u/\RelV x u
 | _,_,_,_,.nil,e=>by simp at e
 | _,_,0,_,.cons r _,e=>by simp at e;subst e;exact⟨_,rfl,r⟩
 | _,_,i+1,x,.cons _ t,e=>by
  obtain⟨u,h1,h2⟩:=Vals.get (i:=i) (x:=x) t (by simpa using e)
  exact⟨u,by simpa using h1,h2⟩
theorem Vals.append:∀{xs ys:List V} {us ws:List IW},Vals xs us->Vals ys ws->Vals (xs++ys) (us++ws)
 | _,_,_,_,.nil,s=>s
 | _,_,_,_,.cons r t,s=> .cons r (Vals.append t s)
theorem Vals.take:∀{xs:List V} {us:List IW} (n:Nat),Vals xs us->Vals (xs.take n) (us.take n)
 | _,_,0,_=> .nil
 | _,_,_+1,.nil=> .nil
 | _,_,n+1,.cons r t=> .cons r (Vals.take n t)
theorem Vals.drop:∀{xs:List V} {us:List IW} (n:Nat),Vals xs us->Vals (xs.drop n) (us.drop n)
 | _,_,0,r=>r
 | _,_,_+1,.nil=> .nil
 | _,_,n+1,.cons _ t=>Vals.drop n t
def RelO:Option V->Option IW->Prop
 | some v,some u=>RelV v u
 | none,none=>True
 | _,_=>False
def KV {κ:Type}:List (κ×V)->List (κ×IW)->Prop:=Px λ(p:κ×V) (q:κ×IW)=>p.1=q.1/\RelV p.2 q.2
def kV:Key->V
 | .inl i=> .int i
 | .inr x=> .str x
inductive HO where
 /-- a list -/
 | lst (xs:List V)
 /-- a tuple (never changes) -/
 | tup (xs:List V)
 /-- a dict whose keys are ints and texts;one whose keys are tuples of ints and texts (the empty one is both) -/
 | dK (kvs:List (Key×V)) | dT (kvs:List (List Key×V))
 /-- a set of ints: its members,its size -/
 | set (S:Int->Bool) (n:Nat)
 /-- an instance of the class at C,its dict at dx,its attributes -/
 | ins (C dx:Addr) (fs:List (Str×V))
 /-- the dict of the instance at x -/
 | own (x:Addr)
 /-- the dict of an exception -/
 | xd (fs:List (Str×V))
 /-- a bound method,f of x -/
 | met (f x:Addr)
 /-- a range object lo,lo+1,.. below hi -/
 | rng (lo hi:Int)
 /-- a thing that is known to the object (the script;a dict while a loop walks it): read,never written while it is so -/
 | frz (o:Obj) (u:HO)
 /-- a code object's table -/
 | tbl (ps:Array IW)
 /-- any other thing,by what is true of its one object (a def of one's own: SetO a S n:=HO.ext λh=> ..) -/
 | ext (φ:Heap->Prop)
abbrev Hp:=Addr->Option HO
def upd (H:Hp)(a:Addr)(o:HO):Hp:=λb=>if b=a then some o else H b
theorem aQ {H:Hp}{a:Addr}{o:HO}:upd H a o a=some o:=by unfold upd;rw[if_pos rfl]
theorem aE {H:Hp}{a b:Addr}{o:HO}(h:b≠a):upd H a o b=H b:=by unfold upd;rw[if_neg h]
theorem pG {H:Hp}{a:Addr}{o u:HO}:upd (upd H a o) a u=upd H a u:=by
 funext b;unfold upd;split <;> rfl
theorem mZ {H:Hp}{a b:Addr}{o u:HO}(h:H a=some o)(h':H b=some u)(d:o≠u):a≠b:=by
 intro e;subst e;rw[h]at h';exact d (JJ h')
theorem bS {H:Hp}{a b:Addr}{o:HO}(h:H a=some o)(h':H b=none):a≠b:=by
 intro e;subst e;rw[h]at h';cases h'
section
variable (P:JB)(w:JY)
def ObjOk (H:Hp)(h:Heap)(a:Addr):HO->Prop
 | .lst xs=>xs.length<=sizeLine/\∃(its:List IW) (n:Nat),Vals xs its/\h.get? a=some { cls:=.type "list",data:=.seq its.toArray n }
 | .tup xs=>xs.length<=sizeLine/\∃its:List IW,Vals xs its/\Py h a its.toArray
 | .dK kvs=>kvs.length<=sizeLine/\(a == Lj)=false/\∃vs,KV kvs vs/\h.DictOf (cm P w) a vs
 | .dT kvs=>kvs.length<=sizeLine/\(a == Lj)=false/\∃xs:List (List Key×Addr×IW),
   Px (λ(p:List Key×V) (q:List Key×Addr×IW)=>p.1=q.1/\H q.2.1=some (.tup (p.1.map kV))/\RelV p.2 q.2.2) kvs xs ∧
   ∃o es ep,h.get? a=some o/\o.ExactDict/\o.data= .dict es ep/\es.toList=xs.map (entryOfKey (MQ (cm P w)))/\(xs.map (·.1)).Nodup
 | .set S n=>h.SetOf (intKind P w) a S n
 | .ins C dx fs=>H dx=some (.own a)/\fs.length<=1000/\dx≠a/\h.get? a=some (KD C dx) ∧
   ∃mA,h.Ns1 dx mA/\(∀f,RelO (fs.lookup f) (mA f))/\OH mA (fs.map (·.1))
 | .own _=> ∃o,h.get? a=some o
 | .xd fs=> ∃mA,h.Ns1 a mA/\∀f,RelO (fs.lookup f) (mA f)
 | .rng lo hi=> ∃t u v,h.get? a=some { cls:=.type "range",data:=.fields #[.int lo t,.int hi u,.int 1 v] }
 | .frz o u=>h.get? a=some o/\ObjOk H h a u
 | .tbl ps=>h.get? a=some { cls:=.none,data:=.fields ps }
 | .met f x=>h.get? a=some (MH (.ref f) (.ref x))
 | .ext φ=>φ h/\(∃o,h.get? a=some o)/\∀h1 h2:Heap,φ h1->(∀o,h1.get? a=some o->h2.get? a=some o)->φ h2
def HOk (H:Hp)(h:Heap):Prop:=∀a o,H a=some o->ObjOk P w H h a o
end
section
variable {P:JB}{w:JY}{H H':Hp}{h h':Heap}{a:Addr}{o:HO}
theorem ObjOk.lt (x:ObjOk P w H h a o):a<h.objs.size:=by
 cases o with
 | lst xs=>obtain⟨_,_,_,_,e⟩:=x;exact Jj e
 | tup xs=>obtain⟨_,_,_,p⟩:=x;exact p.lt
 | dK kvs=>obtain⟨_,_,_,_,o,_,_,e,_⟩:=x;exact Jj e
 | dT kvs=>obtain⟨_,_,_,_,o,_,_,e,_⟩:=x;exact Jj e
 | set S n=>obtain⟨o,_,_,_,e,_⟩:=x;exact Jj e
 | ins C dx fs=>obtain⟨_,_,_,e,_⟩:=x;exact Jj e
 | own y=>obtain⟨_,e⟩:=x;exact Jj e
 | xd fs=>obtain⟨_,⟨_,_,_,e,_⟩,_⟩:=x;exact Jj e
 | rng lo hi=>obtain⟨_,_,_,e⟩:=x;exact Jj e
 | frz ob u=>obtain⟨e,_⟩:=x;exact Jj e
 | tbl ps=>exact Jj (show h.get? a=some _ from x)
 | met f y=>exact Jj (show h.get? a=some _ from x)
 | ext φ=>obtain⟨_,⟨_,e⟩,_⟩:=x;exact Jj e
theorem Paired.IB {α β:Type}{F G:α->β->Prop}:∀{l₁:List α} {l₂:List β},Px F l₁ l₂->(∀a b,F a b->G a b)->Px G l₁ l₂
 | _,_,.nil,_=> .nil
 | _,_,.cons r t,f=> .cons (f _ _ r) (Paired.IB t f)
theorem ObjOk.Ia (x:ObjOk P w H h a o)(k:∀b u,(b=a\/H b=some (.own a))->h.get? b=some u->h'.get? b=some u)
  (ho:∀b,H b=some (.own a)->H' b=some (.own a)) (ht:∀b xs,H b=some (.tup xs)->H' b=some (.tup xs)):ObjOk P w H' h' a o:=by
 induction o with
 | lst xs=>obtain⟨z,its,n,r,e⟩:=x;exact⟨z,its,n,r,k _ _ (.inl rfl) e⟩
 | tup xs=>obtain⟨z,its,r,ob,e,c⟩:=x;exact⟨z,its,r,ob,k _ _ (.inl rfl) e,c⟩
 | dK kvs=>obtain⟨z,y,vs,r,ob,es,ep,e,c⟩:=x;exact⟨z,y,vs,r,ob,es,ep,k _ _ (.inl rfl) e,c⟩
 | dT kvs=>
  obtain⟨z,y,xs,r,ob,es,ep,e,c⟩:=x
  exact⟨z,y,xs,Paired.IB r λp q z=>⟨z.1,ht _ _ z.2.1,z.2.2⟩,ob,es,ep,k _ _ (.inl rfl) e,c⟩
 | set S n=>obtain⟨ob,es,ep,t,e,c⟩:=x;exact⟨ob,es,ep,t,k _ _ (.inl rfl) e,c⟩
 | ins C dx fs=>
  obtain⟨d,z,ne,e,mA,⟨od,es,ep,e2,c⟩,r⟩:=x
  exact⟨ho _ d,z,ne,k _ _ (.inl rfl) e,mA,⟨od,es,ep,k _ _ (.inr d) e2,c⟩,r⟩
 | own y=>obtain⟨ob,e⟩:=x;exact⟨ob,k _ _ (.inl rfl) e⟩
 | xd fs=>obtain⟨mA,⟨od,es,ep,e,c⟩,r⟩:=x;exact⟨mA,⟨od,es,ep,k _ _ (.inl rfl) e,c⟩,r⟩
 | rng lo hi=>obtain⟨t,u,v,e⟩:=x;exact⟨t,u,v,k _ _ (.inl rfl) e⟩
 | frz ob u ih=>obtain⟨e,q⟩:=x;exact⟨k _ _ (.inl rfl) e,ih q⟩
 | tbl ps=>
  have e:h.get? a=some { cls:=.none,data:=.fields ps }:=x
  show h'.get? a=some { cls:=.none,data:=.fields ps }
  exact k a _ (.inl rfl) e
 | met f y=>
  have e:h.get? a=some (MH (.ref f) (.ref y)):=x
  show h'.get? a=some (MH (.ref f) (.ref y))
  exact k a _ (.inl rfl) e
 | ext φ=>obtain⟨p,⟨o,e⟩,st⟩:=x;exact⟨st _ _ p λo q=>k _ _ (.inl rfl) q,⟨o,k _ _ (.inl rfl) e⟩,st⟩
theorem HOk.lt (x:HOk P w H h)(e:H a=some o):a<h.objs.size:=(x a o e).lt
theorem HOk.fresh (x:HOk P w H h)(e:h.objs.size<=a):H a=none:=by
 cases q:H a with
 | none=>rfl
 | some u=>exact absurd (Jp (x.lt q) e) (JF _)
theorem HOk.kept (x:HOk P w H h)(k:∀b u,h.get? b=some u->h'.get? b=some u):HOk P w H h':=λa o e=>
 (x a o e).Ia (λb u _ q=>k b u q) (λ_ q=>q) λ_ _ q=>q
theorem HOk.laid (x:HOk P w H h)(k:∀b u,h.get? b=some u->h'.get? b=some u)(hp:h.objs.size<=a)(new:ObjOk P w (upd H a o) h' a o):HOk P w (upd H a o) h':=λb u e=>by
 have hn:=x.fresh hp
 by_cases hb:b=a
 ·subst hb;rw[aQ]at e;cases e;exact new
 ·rw[aE hb]at e
  exact(x b u e).Ia (λc v _ q=>k c v q) (λc q=>by rw[aE (bS q hn)];exact q) λc xs q=>by rw[aE (bS q hn)];exact q
end
def Rd (H:Hp)(a:Addr)(u:HO):Prop:=H a=some u\/∃o,H a=some (.frz o u)
theorem Rd.ok {P:JB}{w:JY}{H:Hp}{h:Heap}{a:Addr}{u:HO}(r:Rd H a u)(x:HOk P w H h):ObjOk P w H h a u:=by
 rcases r with r | ⟨o,r⟩
 ·exact x a u r
 ·obtain⟨_,q⟩:=x a _ r
  exact q
def Hw:Option HO->Prop
 | some (.lst _)=>True
 | some (.dK _)=>True
 | some (.dT _)=>True
 | some (.set _ _)=>True
 | some (.ins _ _ _)=>True
 | some (.ext _)=>True
 | _=>False
section
variable {P:JB}{w:JY}{H:Hp}{h h':Heap}{x e:Addr}{o':HO}
theorem HOk.write (ok:HOk P w H h)(mu:Hw (H x))(he:e=x\/H e=some (.own x))(k:∀b u,b≠e->h.get? b=some u->h'.get? b=some u)(heo:∃u,h'.get? e=some u)
  (new:ObjOk P w (upd H x o') h' x o'):HOk P w (upd H x o') h':=λb u q=>by
 have nown:∀c y,H c=some (.own y)->c≠x:=λc y r z=>by subst z;rw[r]at mu;exact mu
 have ntup:∀c xs,H c=some (.tup xs)->c≠x:=λc xs r z=>by subst z;rw[r]at mu;exact mu
 by_cases hb:b=x
 ·subst hb;rw[aQ]at q;cases q;exact new
 ·rw[aE hb]at q
  by_cases hbe:b=e
  ·have q':H b=some (.own x):=by
    rcases he with z | z
    ·exact absurd (hbe.trans z) hb
    ·rw[hbe];exact z
   rw[q]at q';cases q';obtain⟨v,hv⟩:=heo;exact⟨v,by rw[hbe];exact hv⟩
  ·refine(ok b u q).Ia (λc v hc r=>k c v ?_ r) (λc r=>by rw[aE (nown c b r)];exact r) λc xs r=>by rw[aE (ntup c xs r)];exact r
   rcases hc with rfl | hc
   ·exact hbe
   ·rintro rfl
    rcases he with z | z
    ·exact nown c b hc z
    ·rw[hc]at z;cases z;exact hb rfl
end
structure Un (fs ex:List Addr)(H H':Hp)(h h':Heap):Prop where
 keep:∀b o,h.get? b=some o->H b=none->b∉fs->b∉ex->h'.get? b=some o
 slot:∀b o,h.get? b=some o->H b=none->b∈fs->b∉ex->∃sl,h'.get? b=some { o with slots:=sl }
 free:∀b o,h.get? b=some o->H b=none->b∉ex->H' b=none
 there:∀b o,h.get? b=some o->b∉ex->∃o',h'.get? b=some o'
 tups:∀b xs,H b=some (.tup xs)->H' b=some (.tup xs)
 frzs:∀b o u,H b=some (.frz o u)->H' b=some (.frz o u)
 tbls:∀b ps,H b=some (.tbl ps)->∃more,H' b=some (.tbl (ps++more))
section
variable {fs fs' ex ex':List Addr}{H H1 H2:Hp}{h h1 h2 h':Heap}{a x e:Addr}{o:HO}
theorem Un.any (u:Un fs ex H H1 h h1){b:Addr}{ob:Obj}(q:h.get? b=some ob)(n:H b=none)(hx:b∉ex):∃sl,h1.get? b=some { ob with slots:=sl }:=by
 by_cases hb:b∈fs
 ·exact u.slot b ob q n hb hx
 ·exact⟨ob.slots,u.keep b ob q n hb hx⟩
theorem Un.kept (k:∀b u,h.get? b=some u->h'.get? b=some u):Un fs ex H H h h':=
 ⟨λb ob q _ _ _=>k b ob q,λb ob q _ _ _=>⟨ob.slots,k b ob q⟩,λ_ _ _ n _=>n,λb ob q _=>⟨ob,k b ob q⟩,λ_ _ q=>q,λ_ _ _ q=>q,λ_ ps q=>⟨#[],by rw[q];simp⟩⟩
theorem Un.refl:Un fs ex H H h h:=Un.kept λ_ _ q=>q
theorem Un.laid (k:∀b u,h.get? b=some u->h'.get? b=some u)(hp:h.objs.size<=a)(hn:H a=none):Un fs ex H (upd H a o) h h' where
 keep:=λb u q _ _ _=>k b u q
 slot:=λb u q _ _ _=>⟨u.slots,k b u q⟩
 free:=λb u q n _=>by rw[aE (Kb (Jp (Jj q) hp))];exact n
 there:=λb u q _=>⟨u,k b u q⟩
 tups:=λb xs q=>by rw[aE (bS q hn)];exact q
 frzs:=λb u xs q=>by rw[aE (bS q hn)];exact q
 tbls:=λb ps q=>⟨#[],by rw[aE (bS q hn),q];simp⟩
theorem Un.write (mu:Hw (H x))(he:e=x\/H e=some (.own x))(k:∀b u,b≠e->h.get? b=some u->h'.get? b=some u)(heo:∃u,h'.get? e=some u):Un fs ex H (upd H x o) h h':=by
 have hx:∀b,H b=none->b≠x:=λb n z=>by subst z;rw[n]at mu;exact mu
 have hb:∀b,H b=none->b≠e:=λb n z=>by
  subst z;rcases he with r | r
  ·exact hx b n r
  ·rw[n]at r;cases r
 have hm:∀b u,H b=some u->¬ Hw (some u)->b≠x:=λb u q nm z=>by subst z;rw[q]at mu;exact nm mu
 refine⟨λb u q n _ _=>k b u (hb b n) q,λb u q n _ _=>⟨u.slots,k b u (hb b n) q⟩,λb u q n _=>by rw[aE (hx b n)];exact n,λb u q _=> ?_,
  λb xs q=>by rw[aE (hm b _ q λz=>z)];exact q,λb u xs q=>by rw[aE (hm b _ q λz=>z)];exact q,λb ps q=>⟨#[],by rw[aE (hm b _ q λz=>z),q];simp⟩⟩
 by_cases hbe:b=e
 ·subst hbe;exact heo
 ·exact⟨u,k b u hbe q⟩
end
def trk (h:Heap)(H:Hp):List Addr:=(J1 h.objs.size).filter λa=>(H a).isSome
def qL (h:Heap)(H:Hp):Heap:=Nf h (trk h H)
theorem wQ (h:Heap)(H:Hp):(qL h H).objs.size=h.objs.size:=PySem.W.hideAll_size _ _
theorem za {h:Heap}{H:Hp}{b:Addr}{o:Obj}(e:h.get? b=some o)(n:H b=none):(qL h H).get? b=some o:=
 K7 _ e λhm=>by
  have q:(H b).isSome=true:=(Pe.mp hm).2;rw[n]at q;simp at q
theorem Bq {h:Heap}{H:Hp}{b:Addr}{o:Obj}(e:(qL h H).get? b=some o):h.get? b=some o/\H b=none:=by
 have e':h.get? b=some o:=Mw (trk h H) e;refine⟨e',?_⟩
 cases q:H b with
 | none=>rfl
 | some x=>
  have hm:b∈trk h H:=Pe.mpr ⟨Kf.mpr (Jj e'),by simp[q]⟩
  have z:(qL h H).get? b=none:=L9 (trk h H) hm;rw[z]at e;cases e
def Cf (g h:Heap)(L:Addr):List (Addr×Obj):=(J1 h.objs.size).filterMap λa=>if a=L\/(g.get? a).isSome=true then none else(h.get? a).map λo=>(a,o)
def bN (g h:Heap)(L d:Addr):List (Addr×Obj):=(Cf g h L).filter λp=>decide (p.1≠d)
structure Mod (K:IU)(mg:Str->Option IW)(base:Heap):Prop where
 kin:K.In base
 glob:base.Ns JG mg
 blt:∃mb,base.Ns MP mb/\∀x:Str,x≠ "__name__"->mb x=JT x
 nolimit:base.NoLimit
structure Cx where
 prog:JB
 w:JY
 K:IU
 mg:Str->Option IW
 base:Heap
 A:JK
 N:List Str
 s₀:IY
 H₀:Hp
 env:Env
 outer:List Env
 stack:List Env
 ex:List Addr
 fn:Str->Bool
 calm:Bool
 pn:List (Addr×Obj)
 xe:IW->IY->Prop
def ny (l:List Env):List Addr:=l.filterMap (·.frame)
abbrev Cx.fs (X:Cx):List Addr:=ny X.outer
def qW (sc:L8)(x:Str):Prop:=sc.names.lookup x=some .local\/sc.names.lookup x=some .cell\/sc.names.lookup x=some .free
def Loc (sc:L8)(x:Str):Prop:=sc.names.lookup x=some .local\/sc.names.lookup x=some .cell
def Look (env:Env)(h:Heap)(m:Str->Option IW)(x:Str)(u:IW):Prop:=
 (env.kindOf x=some .local/\m x=some u)\/((env.kindOf x=some .cell\/env.kindOf x=some .free)/\∃c,env.cells.lookup x=some c/\h.IsCell c (some u))
structure Cx.Ok (X:Cx):Prop where
 mod:Mod X.K X.mg X.base
 kind:X.env.scope.kind= .function
 glob:X.env.globals=JG
 blt:X.env.builtins=MP
 above:X.s₀.heap.objs.size<=X.env.locals
 inj:∀x y c,X.env.cells.lookup x=some c->X.env.cells.lookup y=some c->x=y
 has:∀x,(X.env.kindOf x=some .cell\/X.env.kindOf x=some .free)->∃c,X.env.cells.lookup x=some c
 cab:∀x c,X.fn x=true->X.env.cells.lookup x=some c->X.s₀.heap.objs.size<=c
 hd:X.calm=true->X.A.handled=none
 frames:X.A.frames=some X.stack
 stk:X.stack=X.outer\/(X.stack=X.env::X.outer/\X.env.frame=some X.env.locals)
 exf:∀b∈X.ex,b≠X.env.locals/\∀x c,X.env.cells.lookup x=some c->c≠b
 bs:∀b o,X.base.get? b=some o->X.s₀.heap.get? b=some o/\X.H₀ b=none
 bsz:X.base.objs.size<=X.s₀.heap.objs.size
 noex:∀b o,X.base.get? b=some o->b∉X.ex
 exfs:∀b∈X.ex,b∉X.fs
 funs:X.s₀.heap.FunFrames X.base X.outer
 frf:∀b∈X.fs,X.H₀ b=none
structure Inv (X:Cx)(pins:List (Addr×Obj))(σ:List (Option V))(H:Hp)(s:IY):Prop where
 ok:X.Ok
 os:s.os=X.s₀.os
 bare:M0 s.gens
 base:Un X.fs X.ex X.H₀ H X.s₀.heap s.heap
 loc:∃m,s.heap.Ns X.env.locals m/\∀(i:Nat) (x:Str) (v:V),X.N[i]? =some x->σ[i]? =some (some v)->qW X.env.scope x->∃u,RelV v u/\Look X.env s.heap m x u
 cell:∀x c,X.env.cells.lookup x=some c->∃v,s.heap.IsCell c v
 free:H X.env.locals=none
 freeC:∀x c,X.env.cells.lookup x=some c->H c=none
 pin:∀p∈X.pn++pins,s.heap.get? p.1=some p.2/\H p.1=none/\p.1≠X.env.locals/\p.1∉X.fs/\∀v,p.2.data≠ .cell v
 hok:HOk X.prog X.w H s.heap
 len:σ.length=X.N.length
section
variable {X:Cx}{pins:List (Addr×Obj)}{σ:List (Option V)}{H H':Hp}{s:IY}{h':Heap}
theorem Cx.Ok.IR (ok:X.Ok){b:Addr}{o:Obj}(e:X.base.get? b=some o):b∉X.fs:=λhb=>by
 have:=(ok.funs.mem hb).1;rw[e]at this;cases this
theorem Inv.bs (I:Inv X pins σ H s):∀b o,X.base.get? b=some o->s.heap.get? b=some o/\H b=none:=λb o e=>
 ⟨I.base.keep b o (I.ok.bs b o e).1 (I.ok.bs b o e).2 (I.ok.IR e) (I.ok.noex b o e),I.base.free b o (I.ok.bs b o e).1 (I.ok.bs b o e).2 (I.ok.noex b o e)⟩
theorem Inv.bk (I:Inv X pins σ H s):∀b o,X.base.get? b=some o->s.heap.get? b=some o:=λb o e=>(I.bs b o e).1
theorem Inv.mod (I:Inv X pins σ H s):Mod X.K X.mg X.base:=I.ok.mod
theorem Inv.kIn (I:Inv X pins σ H s):X.K.In s.heap:=I.ok.mod.kin.keeps I.bk
theorem Inv.lt (I:Inv X pins σ H s):X.env.locals<s.heap.objs.size:=let ⟨_,hn,_⟩:=I.loc;hn.lt
theorem Inv.sz (I:Inv X pins σ H s):X.s₀.heap.objs.size<=s.heap.objs.size:=JV I.ok.above (Lx I.lt)
theorem Inv.IS (I:Inv X pins σ H s){a:Addr}(h:s.heap.objs.size<=a):a∉X.fs:=λhb=>by
 obtain⟨_,o,ho,_⟩:=I.ok.funs.mem hb;exact absurd (Jp (Jj ho) (JV I.sz h)) (JF _)
theorem Inv.cne (I:Inv X pins σ H s):∀x c,X.env.cells.lookup x=some c->c≠X.env.locals:=λx c e z=>by
 obtain⟨v,o,ho,hd⟩:=I.cell x c e;obtain⟨m,⟨o',es,ep,ho',hd',_⟩,_⟩:=I.loc;rw[z,ho']at ho;cases ho;rw[hd']at hd;cases hd
theorem Inv.funs (I:Inv X pins σ H s):s.heap.FunFrames X.base X.outer:=by
 have all:∀(l:List Env),(∀b∈ny l,b∈X.fs)->X.s₀.heap.FunFrames X.base l->s.heap.FunFrames X.base l:=by
  intro l
  induction l with
  | nil=>intro _ _;trivial
  | cons env r ih=>
   intro hs hl;obtain⟨hk,⟨L,o,hf,hn,ho,hd⟩,hr⟩:=hl
   have hL:L∈X.fs:=hs L (by unfold ny;rw[Ko,hf];exact Je)
   obtain⟨sl,e⟩:=I.base.slot L o ho (I.ok.frf L hL) hL λz=>I.ok.exfs L z hL
   exact⟨hk,⟨L,_,hf,hn,e,hd⟩,ih (λb hb=>hs b (by unfold ny;rw[Ko,hf];exact IX _ hb)) hr⟩
 exact all X.outer (λ_ hb=>hb) I.ok.funs
theorem Inv.stack (I:Inv X pins σ H s):s.heap.FunFrames X.base X.stack:=by
 rcases I.ok.stk with e | ⟨e,hf⟩
 ·rw[e];exact I.funs
 ·rw[e]
  obtain⟨m,hn,_⟩:=I.loc;refine .cons (by rw[I.ok.kind];decide) hf hn ?_ I.funs
  exact Heap.get?_none_of_le (JV I.ok.bsz I.ok.above)
theorem Inv.Ik (I:Inv X pins σ H s):∀b∈ny X.stack,b∈X.env.locals::X.fs:=λb hb=>by
 rcases I.ok.stk with e | ⟨e,hf⟩
 ·rw[e]at hb;exact IX _ hb
 ·rw[e]at hb
  unfold ny at hb;rw[Ko,hf]at hb;exact hb
theorem Inv.HX (I:Inv X pins σ H s):∀b∈ny X.stack,H b=none:=λb hb=>by
 rcases Jg.mp (I.Ik b hb)with e | hb
 ·rw[e];exact I.free
 ·obtain⟨_,o,ho,_⟩:=I.ok.funs.mem hb
  exact I.base.free b o ho (I.ok.frf b hb) λz=>I.ok.exfs b z hb
theorem Inv.step {g':Array GenState}{t':Nat}{d':Drawn}{ch:List Addr}(I:Inv X pins σ H s)
  (hch:∀b∈ch,(b∈X.ex\/X.s₀.heap.objs.size<=b)/\b≠X.env.locals/\(∀x c,X.env.cells.lookup x=some c->c≠b)/\∀p∈X.pn++pins,p.1≠b)
  (keep:∀b o,b≠X.env.locals->b∉X.fs->b∉ch->s.heap.get? b=some o->H b=none->h'.get? b=some o)
  (slot:∀b o,b≠X.env.locals->b∈X.fs->b∉ch->s.heap.get? b=some o->H b=none->∃sl,h'.get? b=some { o with slots:=sl }) (free:∀b o,b∉ch->s.heap.get? b=some o->H b=none->H' b=none)
  (there:∀b o,b∉ch->s.heap.get? b=some o->∃o',h'.get? b=some o')
  (tups:∀b xs,H b=some (.tup xs)->H' b=some (.tup xs)) (frzs:∀b o u,H b=some (.frz o u)->H' b=some (.frz o u)) (tbls:∀b ps,H b=some (.tbl ps)->∃more,H' b=some (.tbl (ps++more)))
  (ns:∀m,s.heap.Ns X.env.locals m->h'.Ns X.env.locals m) (hok:HOk X.prog X.w H' h') (hg:M0 g') :
  Inv X pins σ H' { s with heap:=h',gens:=g',drawn:=d',toks:=t' }:=by
 have neL:∀b o,X.s₀.heap.get? b=some o->b≠X.env.locals:=λb o e=>Kb (Jp (Jj e) I.ok.above)
 have neC:∀b o,X.s₀.heap.get? b=some o->b∉X.ex->b∉ch:=λb o e hx hb=>by
  rcases(hch b hb).1 with z | z
  ·exact hx z
  ·exact absurd (Jp (Jj e) z) (JF _)
 have cellK:∀x c,X.env.cells.lookup x=some c->∀v,s.heap.IsCell c v->h'.IsCell c v:=λx c e v hh_=>by
  obtain⟨o,ho,hd⟩:=hh_
  have nch:c∉ch:=λz=>(hch c z).2.2.1 x c e rfl
  by_cases hc:c∈X.fs
  ·obtain⟨sl,q⟩:=slot c o (I.cne x c e) hc nch ho (I.freeC x c e)
   exact⟨_,q,hd⟩
  ·exact⟨o,keep c o (I.cne x c e) hc nch ho (I.freeC x c e),hd⟩
 refine⟨I.ok,I.os,hg,⟨λb o e n hb hx=> ?_,λb o e n hb hx=> ?_,λb o e n hx=> ?_,λb o e hx=> ?_,λb xs e=>tups b xs (I.base.tups b xs e),λb o xs e=>frzs b o xs (I.base.frzs b o xs e),λb ps e=> ?_⟩,?_,λx c e=> ?_,?_,λx c e=> ?_,λp hp=> ?_,hok,I.len⟩
 ·exact keep b o (neL b o e) hb (neC b o e hx) (I.base.keep b o e n hb hx) (I.base.free b o e n hx)
 ·obtain⟨sl,e1⟩:=I.base.slot b o e n hb hx
  obtain⟨sl',e2⟩:=slot b _ (neL b o e) hb (neC b o e hx) e1 (I.base.free b o e n hx);exact⟨sl',e2⟩
 ·obtain⟨o',e1⟩:=I.base.there b o e hx
  exact free b o' (neC b o e hx) e1 (I.base.free b o e n hx)
 ·obtain⟨o',e1⟩:=I.base.there b o e hx
  exact there b o' (neC b o e hx) e1
 ·obtain⟨m1,e1⟩:=I.base.tbls b ps e
  obtain⟨m2,e2⟩:=tbls b _ e1;exact⟨m1++m2,by rw[e2,Array.append_assoc]⟩
 ·obtain⟨m,hn,hl⟩:=I.loc
  refine⟨m,ns m hn,λi x v e1 e2 e3=> ?_⟩
  obtain⟨u,r,l⟩:=hl i x v e1 e2 e3;refine⟨u,r,?_⟩
  rcases l with l | ⟨k,c,e,z⟩
  ·exact .inl l
  ·exact .inr ⟨k,c,e,cellK x c e _ z⟩
 ·obtain⟨v,z⟩:=I.cell x c e
  exact⟨v,cellK x c e v z⟩
 ·obtain⟨m,⟨o,_,_,ho,_⟩,_⟩:=I.loc
  exact free _ o (λz=>(hch _ z).2.1 rfl) ho I.free
 ·obtain⟨v,o,ho,hd⟩:=I.cell x c e
  exact free c o (λz=>(hch c z).2.2.1 x c e rfl) ho (I.freeC x c e)
 ·obtain⟨e,n,ne,nf,d⟩:=I.pin p hp
  have nch:p.1∉ch:=λz=>(hch p.1 z).2.2.2 p hp rfl
  exact⟨keep p.1 p.2 ne nf nch e n,free p.1 p.2 nch e n,ne,nf,d⟩
theorem Inv.un {t':Nat}(I:Inv X pins σ H s)(u:Un X.fs [] H H' s.heap h')(hok:HOk X.prog X.w H' h'):Inv X pins σ H' { s with heap:=h',toks:=t' }:=by
 obtain⟨m,⟨o,es,ep,ho,r⟩,_⟩:=id I.loc;obtain⟨sl,hL⟩:=u.any ho I.free (by simp)
 exact I.step (g':=s.gens) (d':=s.drawn) (ch:=[]) (λ_ z=>nomatch z) (λb o _ hb _ e n=>u.keep b o e n hb (by simp)) (λb o _ hb _ e n=>u.slot b o e n hb (by simp)) (λb o _ e n=>u.free b o e n (by simp)) (λb o _ e=>u.there b o e (by simp)) u.tups u.frzs u.tbls (λm' hm=>by
  obtain⟨o',es',ep',ho',r'⟩:=hm;rw[ho]at ho';cases ho';exact⟨_,es',ep',hL,r'⟩) hok I.bare
theorem Inv.call {g':Array GenState}{t':Nat}{d':Drawn}{ch:List Addr}(I:Inv X pins σ H s)(u:Un (ny X.stack) ch H H' s.heap h')(hok:HOk X.prog X.w H' h')(hg:M0 g')
  (hch:∀b∈ch,(b∈X.ex\/X.s₀.heap.objs.size<=b)/\b≠X.env.locals/\(∀x c,X.env.cells.lookup x=some c->c≠b)/\∀p∈X.pn++pins,p.1≠b) :
  Inv X pins σ H' { s with heap:=h',gens:=g',drawn:=d',toks:=t' }:=by
 obtain⟨m,⟨o,es,ep,ho,r⟩,_⟩:=id I.loc;obtain⟨sl,hL⟩:=u.any ho I.free λz=>(hch _ z).2.1 rfl
 exact I.step (ch:=ch) hch (λb o hL hb hc e n=>u.keep b o e n (λz=>(Jg.mp (I.Ik b z)).elim hL hb) hc) (λb o _ _ hc e n=>u.any e n hc) (λb o hc e n=>u.free b o e n hc) (λb o hc e=>u.there b o e hc) u.tups u.frzs u.tbls (λm' hm=>by
  obtain⟨o',es',ep',ho',r'⟩:=hm;rw[ho]at ho';cases ho';exact⟨_,es',ep',hL,r'⟩) hok hg
theorem Inv.turned {t':Nat}{it:Addr}(I:Inv X pins σ H s)(k:∀b o,b≠it->s.heap.get? b=some o->h'.get? b=some o)(hn:H it=none)(hL:it≠X.env.locals)
  (h1:it∈X.ex\/X.s₀.heap.objs.size<=it) (h2:∀x c,X.env.cells.lookup x=some c->c≠it) (h3:∀p∈X.pn++pins,p.1≠it):Inv X pins σ H { s with heap:=h',toks:=t' }:=by
 have nit:∀b u,H b=some u->b≠it:=λb u e z=>by rw[z,hn]at e;cases e
 refine I.step (g':=s.gens) (d':=s.drawn) (ch:=[it]) (λb hb=> ?_) (λb o _ _ hc e _=>k b o (λz=>hc (by simp[z])) e) (λb o _ _ hc e _=>⟨o.slots,k b o (λz=>hc (by simp[z])) e⟩) (λ_ _ _ _ n=>n)
  (λb o hc e=>⟨o,k b o (λz=>hc (by simp[z])) e⟩) (λ_ _ e=>e) (λ_ _ _ e=>e) (λb ps e=>⟨#[],by rw[e];simp⟩) (λm hm=> ?_) (λb u e=> ?_) I.bare
 ·have e:b=it:=by simpa using hb
  subst e;exact⟨h1,hL,h2,h3⟩
 ·obtain⟨o,es,ep,ho,r⟩:=hm
  exact⟨o,es,ep,k _ o (Ls hL) ho,r⟩
 ·refine(I.hok b u e).Ia (λc v hc q=>k c v ?_ q) (λ_ q=>q) λ_ _ q=>q
  rcases hc with z | z
  ·rw[z];exact nit b u e
  ·exact nit c _ z
theorem Inv.tok (I:Inv X pins σ H s)(t:Nat):Inv X pins σ H { s with toks:=t }:=I.un (h':=s.heap) (t':=t) Un.refl I.hok
theorem Inv.kept {t':Nat}(I:Inv X pins σ H s)(k:∀b u,s.heap.get? b=some u->h'.get? b=some u):Inv X pins σ H { s with heap:=h',toks:=t' }:=I.un (Un.kept k) (I.hok.kept k)
theorem Inv.laid {a:Addr}{o:HO}{t':Nat}(I:Inv X pins σ H s)(k:∀b u,s.heap.get? b=some u->h'.get? b=some u)(hp:s.heap.objs.size<=a)(new:ObjOk X.prog X.w (upd H a o) h' a o) :
  Inv X pins σ (upd H a o) { s with heap:=h',toks:=t' }:=I.un (Un.laid k hp (I.hok.fresh hp)) (I.hok.laid k hp new)
theorem Inv.write {x e:Addr}{o:HO}{t':Nat}(I:Inv X pins σ H s)(mu:Hw (H x))(he:e=x\/H e=some (.own x))(k:∀b u,b≠e->s.heap.get? b=some u->h'.get? b=some u)(heo:∃u,h'.get? e=some u)
  (new:ObjOk X.prog X.w (upd H x o) h' x o):Inv X pins σ (upd H x o) { s with heap:=h',toks:=t' }:=I.un (Un.write mu he k heo) (I.hok.write mu he k heo new)
theorem Inv.Im {pins':List (Addr×Obj)}(I:Inv X pins σ H s)(h:∀p∈pins',s.heap.get? p.1=some p.2/\H p.1=none/\p.1≠X.env.locals/\p.1∉X.fs/\∀v,p.2.data≠ .cell v):Inv X pins' σ H s:=
 ⟨I.ok,I.os,I.bare,I.base,I.loc,I.cell,I.free,I.freeC,λp hp=>(Ju.mp hp).elim (λz=>I.pin p (JN _ z)) (h p),I.hok,I.len⟩
theorem rY {N:List Str}(hN:N.Nodup){i j:Nat}{x:Str}(a:N[i]? =some x)(b:N[j]? =some x):i=j:=by
 obtain⟨h1,e1⟩:=Jh.mp a
 obtain⟨h2,e2⟩:=Jh.mp b
 exact(List.getElem_inj hN).mp (e1.trans e2.symm)
theorem oK {M:Model}{A:JK}{E:IW->IY->Prop}{i:Nat}{x:Str}{v:V}{u:IW}{Q:Unit->IY->Prop}(I:Inv X pins σ H s)(hN:X.N.Nodup)(hi:X.N[i]? =some x)(hx:Loc X.env.scope x)(r:RelV v u)
  (h:∀s',Inv X pins (σ.set i (some v)) H s'->(∃a,L1 a s.heap s'.heap/\(a=X.env.locals\/X.env.cells.lookup x=some a))->Q () s') (hf:X.fn x=true\/X.env.scope.names.lookup x=some .local:=by first | exact .inl rfl | exact .inr rfl | assumption):wpAny M A (storeName X.env x u) Q E s:=by
 obtain⟨m,hn,hl⟩:=id I.loc
 have hcls:(X.env.scope.kind == .class||(X.env.scope.kind == .module&&X.env.locals != X.env.globals))=false:=by rw[I.ok.kind];rfl
 have hiσ:i<σ.length:=by rw[I.len];exact(Jh.mp hi).1
 have cne:=I.cne
 have tracked:∀{a:Addr} {h':Heap},(∃o,s.heap.get? a=some o/\H a=none)->L1 a s.heap h'->HOk X.prog X.w H h':=λ{a h'} ha hs b ob e=>by
  obtain⟨_,_,hfree⟩:=ha;refine(I.hok b ob e).Ia (λc w' hc q=>(hs.2 c ?_).trans q) (λ_ q=>q) λ_ _ q=>q
  rintro rfl
  rcases hc with rfl | hc
  ·rw[hfree]at e;cases e
  ·rw[hfree]at hc;cases hc
 rcases hx with hk | hk
 ·refine wpAny_storeName_local hk hn (λh' hn' hs=> ?_) hcls
  obtain⟨oL,_,_,hoL,_⟩:=id hn;refine h _ ⟨I.ok,I.os,I.bare,⟨λb o e n hb hx=> ?_,λb o e n hb hx=> ?_,I.base.free,λb o e hx=> ?_,I.base.tups,I.base.frzs,I.base.tbls⟩,⟨_,hn',λj y v' e1 e2 e3=> ?_⟩,λy c e=> ?_,I.free,I.freeC,λp hp=> ?_,tracked ⟨oL,hoL,I.free⟩ hs,by simpa using I.len⟩ ⟨_,hs,.inl rfl⟩
  ·exact(hs.2 b (Kb (Jp (Jj e) I.ok.above))).trans (I.base.keep b o e n hb hx)
  ·obtain⟨sl,e1⟩:=I.base.slot b o e n hb hx
   exact⟨sl,(hs.2 b (Kb (Jp (Jj e) I.ok.above))).trans e1⟩
  ·obtain⟨o',e1⟩:=I.base.there b o e hx
   exact⟨o',(hs.2 b (Kb (Jp (Jj e) I.ok.above))).trans e1⟩
  ·by_cases hj:j=i
   ·subst hj
    rw[hi]at e1;cases e1;rw[Jy hiσ]at e2
    cases e2;exact⟨u,r,.inl ⟨hk,by simp⟩⟩
   ·rw[Jv (Ls hj)]at e2
    obtain⟨u',r',q⟩:=hl j y v' e1 e2 e3;refine⟨u',r',?_⟩
    rcases q with⟨k,e⟩ | ⟨k,c,e,z⟩
    ·refine .inl ⟨k,?_⟩
     have:y≠x:=λe=>hj (rY hN e1 (e▸hi))
     simp[this,e]
    ·exact .inr ⟨k,c,e,z.sameBut hs (cne y c e)⟩
  ·obtain⟨w',z⟩:=I.cell y c e
   exact⟨w',z.sameBut hs (cne y c e)⟩
  ·obtain⟨e,n,ne,nf,d⟩:=I.pin p hp
   exact⟨(hs.2 p.1 ne).trans e,n,ne,nf,d⟩
 ·have hfn:X.fn x=true:=by
   rcases hf with z | z
   ·exact z
   ·rw[z]at hk;cases hk
  obtain⟨c,hc⟩:=I.ok.has x (.inl hk);obtain⟨w',z⟩:=I.cell x c hc;refine wpAny_storeName_cell I.ok.kind hk hc z (λh' hc' hs=> ?_)
  obtain⟨oc,hoc,hocd⟩:=id z;refine h { s with heap:=h' } ⟨I.ok,I.os,I.bare,⟨λb o e n hb hx=> ?_,λb o e n hb hx=> ?_,I.base.free,λb o e hx=> ?_,I.base.tups,I.base.frzs,I.base.tbls⟩,⟨m,hn.sameBut hs (Ls (cne x c hc)),λj y v' e1 e2 e3=> ?_⟩,λy c' e=> ?_,I.free,I.freeC,λp hp=> ?_,tracked ⟨oc,hoc,I.freeC x c hc⟩ hs,by simpa using I.len⟩ ⟨c,hs,.inr hc⟩
  ·exact(hs.2 b (Kb (Jp (Jj e) (I.ok.cab x c hfn hc)))).trans (I.base.keep b o e n hb hx)
  ·obtain⟨sl,e1⟩:=I.base.slot b o e n hb hx
   exact⟨sl,(hs.2 b (Kb (Jp (Jj e) (I.ok.cab x c hfn hc)))).trans e1⟩
  ·obtain⟨o',e1⟩:=I.base.there b o e hx
   exact⟨o',(hs.2 b (Kb (Jp (Jj e) (I.ok.cab x c hfn hc)))).trans e1⟩
  ·by_cases hj:j=i
   ·subst hj
    rw[hi]at e1;cases e1;rw[Jy hiσ]at e2
    cases e2;exact⟨u,r,.inr ⟨.inl hk,c,hc,hc'⟩⟩
   ·rw[Jv (Ls hj)]at e2
    obtain⟨u',r',q⟩:=hl j y v' e1 e2 e3;refine⟨u',r',?_⟩
    rcases q with q | ⟨k,c',e,z'⟩
    ·exact .inl q
    ·refine .inr ⟨k,c',e,z'.sameBut hs ?_⟩
     rintro rfl
     exact hj (rY hN e1 (I.ok.inj _ _ _ e hc▸hi))
  ·by_cases hcc:c'=c
   ·subst hcc;exact⟨_,hc'⟩
   ·obtain⟨w2,z2⟩:=I.cell y c' e
    exact⟨w2,z2.sameBut hs hcc⟩
  ·obtain⟨e,n,ne,nf,d⟩:=I.pin p hp
   refine⟨(hs.2 p.1 ?_).trans e,n,ne,nf,d⟩
   intro q;rw[q,hoc]at e
   have q':oc=p.2:=JJ e;exact d w' (by rw[<-q'];exact hocd)
theorem rq {M:Model}{A:JK}{E:IW->IY->Prop}{i:Nat}{x:Str}{v:V}{u:IW}{Q:Unit->IY->Prop}(I:Inv X pins σ H s)(hN:X.N.Nodup)(hi:X.N[i]? =some x)(hx:Loc X.env.scope x)(r:RelV v u)
  (h:∀s',Inv X pins (σ.set i (some v)) H s'->Q () s') (hf:X.fn x=true\/X.env.scope.names.lookup x=some .local:=by first | exact .inl rfl | exact .inr rfl | assumption):wpAny M A (storeName X.env x u) Q E s:=
 oK I hN hi hx r (λs' I' _=>h s' I') hf
theorem Inv.Io {s':IY}{ch:List Addr}(I:Inv X pins σ H s)(ho:s'.os=s.os)(u:Un (ny X.stack) ch H H' s.heap s'.heap)(hok:HOk X.prog X.w H' s'.heap)(hg:M0 s'.gens)
  (hch:∀b∈ch,(b∈X.ex\/X.s₀.heap.objs.size<=b)/\b≠X.env.locals/\(∀x c,X.env.cells.lookup x=some c->c≠b)/\∀p∈X.pn++pins,p.1≠b):Inv X pins σ H' s':=by
 obtain⟨h',g',d',t',o'⟩:=s'
 have e:o'=s.os:=ho;subst e;exact I.call (g':=g') (t':=t') (d':=d') u hok hg hch
end
abbrev XK:=IW->Option Addr->Hp->Prop
abbrev St:=List (Option V)
abbrev VK:=V->Hp->Prop
abbrev TE:=St->Hp->VK->Prop
abbrev TT:=St->Hp->(Bool->Hp->Prop)->Prop
abbrev TA:=St->Hp->(List V->Hp->Prop)->Prop
structure lM where
 nx:St->Hp->Prop
 rt:VK
 bk:St->Hp->Prop:=λ_ _=>False
 ct:St->Hp->Prop:=λ_ _=>False
abbrev TS:=lM->St->Hp->Prop
def EP (X:Cx)(pins:List (Addr×Obj))(σ:St)(Q:VK)(u:IW)(s':IY):Prop:=∃v H',Inv X pins σ H' s'/\RelV v u/\Q v H'
def TP (X:Cx)(pins:List (Addr×Obj))(σ:St)(Q:Bool->Hp->Prop)(b:Bool)(s':IY):Prop:=∃H',Inv X pins σ H' s'/\Q b H'
def AP (X:Cx)(pins:List (Addr×Obj))(σ:St)(Q:List V->Hp->Prop)(us:List IW)(s':IY):Prop:=∃vs H',Inv X pins σ H' s'/\Vals vs us/\Q vs H'
def SP (X:Cx)(pins:List (Addr×Obj))(D:lM)(f:Flow)(s':IY):Prop:=
 match f with
 | .next=> ∃σ' H',Inv X pins σ' H' s'/\D.nx σ' H'
 | .brk=> ∃σ' H',Inv X pins σ' H' s'/\D.bk σ' H'
 | .cont=> ∃σ' H',Inv X pins σ' H' s'/\D.ct σ' H'
 | .ret u=> ∃v σ' H',Inv X pins σ' H' s'/\RelV v u/\D.rt v H'
def PE (X:Cx)(e:Expr)(t:TE):Prop:=
 ∀(pins:List (Addr×Obj)) (s:IY) (σ:St) (H:Hp) (Q:VK),Inv X pins σ H s->t σ H Q->wpAny (model X.prog X.w) X.A (eval e X.env) (EP X pins σ Q) X.xe s
def PT (X:Cx)(e:Expr)(t:TT):Prop:=
 ∀(pins:List (Addr×Obj)) (s:IY) (σ:St) (H:Hp) (Q:Bool->Hp->Prop),Inv X pins σ H s->t σ H Q->wpAny (model X.prog X.w) X.A (isTrue e X.env (eval e X.env)) (TP X pins σ Q) X.xe s
def PW (X:Cx)(e:Expr)(t:TT):Prop:=
 ∀(whole:Sem IW) (pins:List (Addr×Obj)) (s:IY) (σ:St) (H:Hp) (Q:Bool->Hp->Prop),Inv X pins σ H s->t σ H Q->wpAny (model X.prog X.w) X.A (isTrue e X.env whole) (TP X pins σ Q) X.xe s
theorem PW.pt {X:Cx}{e:Expr}{t:TT}(h:PW X e t):PT X e t:=h _
def PA (X:Cx)(es:List Expr)(t:TA):Prop:=
 ∀(pos:Pos) (pins:List (Addr×Obj)) (s:IY) (σ:St) (H:Hp) (Q:List V->Hp->Prop),Inv X pins σ H s->t σ H Q->wpAny (model X.prog X.w) X.A (spliced (backTo pos (Jo es X.env))) (AP X pins σ Q) X.xe s
def PS (X:Cx)(st:Stmt)(t:TS):Prop:=
 ∀(pins:List (Addr×Obj)) (s:IY) (σ:St) (H:Hp) (D:lM),Inv X pins σ H s->t D σ H->wpAny (model X.prog X.w) X.A (exec st X.env) (SP X pins D) X.xe s
def PSs (X:Cx)(st:List Stmt)(t:TS):Prop:=
 ∀(pins:List (Addr×Obj)) (s:IY) (σ:St) (H:Hp) (D:lM),Inv X pins σ H s->t D σ H->wpAny (model X.prog X.w) X.A (execs st X.env) (SP X pins D) X.xe s
theorem bR {α:Type}{t:Sem α}{Q Q':α->IY->Prop}{M:Model}{A:JK}{E:IW->IY->Prop}{s:IY}(h:wpAny M A t Q E s)(hQ:∀a s,Q a s->Q' a s):wpAny M A t Q' E s:=KN h hQ λ_ _ x=>x
section
variable {X:Cx}
def tVar (i:Nat):TE:=λσ H Q=> ∃v,σ[i]? =some (some v)/\Q v H
def tC (v:V):TE:=λ_ H Q=>Q v H
theorem hW {i:Nat}{x:Str}{pos:Pos}(hN:X.N[i]? =some x)(hv:qW X.env.scope x)(hd:fE x:=by decide)(hcd:(x == ("__classdict__" : Str))=false:=by decide):PE X (.Name x pos) (tVar i):=by
 intro pins s σ H Q I h;obtain⟨v,e,h⟩:=h;obtain⟨m,hn,hl⟩:=I.loc;obtain⟨u,r,l⟩:=hl i x v hN e hv
 have fin:EP X pins σ Q u s:=⟨v,H,I,r,h⟩;rcases l with⟨hk,hm⟩ | ⟨hk,c,hc,hcell⟩
 ·exact wpAny_Name (wpAny_loadName_local I.ok.kind hk hn hm fin) hd
 ·rcases hk with hk | hk
  ·exact wpAny_Name (wpAny_loadName_cell I.ok.kind hk hc hcell fin) hd
  ·exact wpAny_Name (wpAny_loadName_free I.ok.kind hk hc hcell fin hcd) hd
theorem Ee {i j pos}:PE X (.Constant (.int i) j pos) (tC (.int i)):=λ_ _ _ H _ I h=>wpAny_Constant_int ⟨.int i,H,I.tok _,⟨_,rfl⟩,h⟩
theorem Gv {b j pos}:PE X (.Constant (.bool b) j pos) (tC (.bl b)):=λ_ _ _ H _ I h=>Constant_bool ⟨.bl b,H,I,rfl,h⟩
theorem D9 {j pos}:PE X (.Constant .none j pos) (tC .non):=λ_ _ _ H _ I h=>Constant_none ⟨.non,H,I,rfl,h⟩
theorem D6 {x j pos}:PE X (.Constant (.str x) j pos) (tC (.str x)):=λ_ _ _ H _ I h=>N3 ⟨.str x,H,I.tok _,⟨_,rfl⟩,h⟩
def Gl (X:Cx)(x:Str):Prop:=X.env.kindOf x=some .globalImplicit
theorem gy {E:IW->IY->Prop}{pins:List (Addr×Obj)}{s:IY}{σ:St}{H:Hp}{x:Str}{u:IW}{pos:Pos}{Q:IW->IY->Prop}(I:Inv X pins σ H s)(hg:Gl X x)(hm:X.mg x=some u)(h:Q u s)
  (hd:fE x:=by decide):wpAny (model X.prog X.w) X.A (eval (.Name x pos) X.env) Q E s:=
 Mu I.ok.kind hg (Calls.loadGlobal_global (by rw[I.ok.glob];exact I.mod.glob.keeps I.bk) hm h) hd
theorem ij {E:IW->IY->Prop}{pins:List (Addr×Obj)}{s:IY}{σ:St}{H:Hp}{x:Str}{u:IW}{pos:Pos}{Q:IW->IY->Prop}(I:Inv X pins σ H s)(hg:Gl X x)(hm:X.mg x=none)(hv:JT x=some u)(h:Q u s)
  (hn:x≠ "__name__":=by decide) (hd:fE x:=by decide):wpAny (model X.prog X.w) X.A (eval (.Name x pos) X.env) Q E s:=by
 obtain⟨mb,h1,h2⟩:=I.mod.blt;exact Mu I.ok.kind hg (Calls.loadGlobal_builtin (by rw[I.ok.glob];exact I.mod.glob.keeps I.bk) hm (by rw[I.ok.blt];exact h1.keeps I.bk) ((h2 x hn).trans hv) h) hd
theorem Be {x:Str}{v:V}{u:IW}{pos:Pos}(hg:Gl X x)(hm:X.mg x=some u)(r:RelV v u)(hd:fE x:=by decide):PE X (.Name x pos) (tC v):=
 λ_ _ _ H _ I h=>gy I hg hm ⟨v,H,I,r,h⟩ hd
theorem Bg {x:Str}{v:V}{u:IW}{pos:Pos}(hg:Gl X x)(hm:X.mg x=none)(hv:JT x=some u)(r:RelV v u)(hn:x≠ "__name__":=by decide)(hd:fE x:=by decide):PE X (.Name x pos) (tC v):=
 λ_ _ _ H _ I h=>ij I hg hm hv ⟨v,H,I,r,h⟩ hn hd
variable {a b:Expr}{ta tb:TE}{pos:Pos}
def tB (t:TE):TT:=λσ H Q=>t σ H λx H1=> ∃c,x= .bl c/\Q c H1
theorem DW {e:Expr}{t:TE}(h:PE X e t)(he:∀whole,isTrue e X.env whole=(do let v <-whole;standAt e.pos;holding [v] (truthy v)):=by intro _;rfl):PT X e (tB t):=by
 intro pins s σ H Q I hw;refine isTrue_plain (bR (h pins s σ H _ I hw) λv s1 ⟨x,H1,I1,r1,q1⟩=> ?_) (he _)
 obtain⟨d,rfl,q⟩:=q1;cases r1;exact Ke ⟨H1,I1,q⟩
variable {tA tB':TT}{bN:List Expr}
def tAnd (t u:TT):TT:=λσ H Q=>t σ H λc H1=>if c=true then u σ H1 Q else Q false H1
def tOr (t u:TT):TT:=λσ H Q=>t σ H λc H1=>if c=true then Q true H1 else u σ H1 Q
def tNot (t:TT):TT:=λσ H Q=>t σ H λc H1=>Q (!c) H1
theorem A4 (ha:PT X a tA):PW X (.BoolOp .And [a] pos) tA:=by
 intro wh pins s σ H Q I h;refine isTrue_and (bR (ha pins s σ H Q I h) λc s1 e=> ?_)
 cases c with
 | true=>exact isTrue_and_nil e
 | false=>exact e
theorem xT (ha:PT X a tA):PW X (.BoolOp .Or [a] pos) tA:=by
 intro wh pins s σ H Q I h;refine isTrue_or (bR (ha pins s σ H Q I h) λc s1 e=> ?_)
 cases c with
 | false=>exact isTrue_or_nil e
 | true=>exact e
theorem DU (ha:PT X a tA)(hb:PW X (.BoolOp .And (b::bN) pos) tB'):PW X (.BoolOp .And (a::b::bN) pos) (tAnd tA tB'):=by
 intro wh pins s σ H Q I h;refine isTrue_and (bR (ha pins s σ H _ I h) λc s1 hh_=> ?_)
 obtain⟨H1,I1,q1⟩:=hh_
 cases c with
 | true=>exact hb wh pins s1 σ H1 Q I1 q1
 | false=>exact⟨H1,I1,q1⟩
theorem Cy (ha:PT X a tA)(hb:PW X (.BoolOp .Or (b::bN) pos) tB'):PW X (.BoolOp .Or (a::b::bN) pos) (tOr tA tB'):=by
 intro wh pins s σ H Q I h;refine isTrue_or (bR (ha pins s σ H _ I h) λc s1 hh_=> ?_)
 obtain⟨H1,I1,q1⟩:=hh_
 cases c with
 | true=>exact⟨H1,I1,q1⟩
 | false=>exact hb wh pins s1 σ H1 Q I1 q1
theorem DX (ha:PT X a tA):PT X (.UnaryOp .Not a pos) (tNot tA):=by
 intro pins s σ H Q I h;exact isTrue_not (ha pins s σ H (λc H1=>Q (!c) H1) I h)
def FW (ta tb:TE):TE:=λσ H Q=>ta σ H λx H1=> ∃c,x= .bl c/\if c=true then tb σ H1 Q else Q (.bl false) H1
def tOrV (ta tb:TE):TE:=λσ H Q=>ta σ H λx H1=> ∃c,x= .bl c/\if c=true then Q (.bl true) H1 else tb σ H1 Q
def FK (ta:TE):TE:=λσ H Q=>ta σ H λx H1=> ∃c,x= .bl c/\Q (.bl (!c)) H1
theorem D7 {op}{t:TE}(h:PE X a t):PE X (.BoolOp op [a] pos) t:=λpins s σ H Q I hw=>BoolOp_one (h pins s σ H Q I hw)
theorem Ef (ha:PE X a ta)(hb:PE X (.BoolOp .And (b::bN) pos) tb):PE X (.BoolOp .And (a::b::bN) pos) (FW ta tb):=by
 intro pins s σ H Q I h;refine BoolOp_and (bR (ha pins s σ H _ I h) λv s1 hh_=> ?_)
 obtain⟨x,H1,I1,r1,q1⟩:=hh_;obtain⟨c,rfl,q1⟩:=q1;cases r1;refine Ke ?_
 cases c with
 | true=>exact hb pins s1 σ H1 Q I1 q1
 | false=>exact⟨.bl false,H1,I1,rfl,q1⟩
theorem Gu (ha:PE X a ta)(hb:PE X (.BoolOp .Or (b::bN) pos) tb):PE X (.BoolOp .Or (a::b::bN) pos) (tOrV ta tb):=by
 intro pins s σ H Q I h;refine BoolOp_or (bR (ha pins s σ H _ I h) λv s1 hh_=> ?_)
 obtain⟨x,H1,I1,r1,q1⟩:=hh_;obtain⟨c,rfl,q1⟩:=q1;cases r1;refine Ke ?_
 cases c with
 | false=>exact hb pins s1 σ H1 Q I1 q1
 | true=>exact⟨.bl true,H1,I1,rfl,q1⟩
theorem D8 (ha:PE X a ta):PE X (.UnaryOp .Not a pos) (FK ta):=by
 intro pins s σ H Q I h;refine UnaryOp_ (bR (ha pins s σ H _ I h) λv s1 hh_=> ?_)
 obtain⟨x,H1,I1,r1,q1⟩:=hh_;obtain⟨c,rfl,q1⟩:=q1;cases r1;exact not_of (Ke ⟨.bl (!c),H1,I1,rfl,q1⟩)
def tIf (t:TT)(ta tb:TE):TE:=λσ H Q=>t σ H λc H1=>if c=true then ta σ H1 Q else tb σ H1 Q
theorem ya {c:Expr}(hc:PT X c tA)(ha:PE X a ta)(hb:PE X b tb):PE X (.IfExp c a b pos) (tIf tA ta tb):=by
 intro pins s σ H Q I h;refine wpAny_IfExp (bR (hc pins s σ H _ I h) λd s1 hh_=> ?_)
 obtain⟨H1,I1,q1⟩:=hh_
 cases d with
 | true=>exact ha pins s1 σ H1 Q I1 q1
 | false=>exact hb pins s1 σ H1 Q I1 q1
end
def SqL (K:IU)(H:Hp)(a:Addr)(xs:List V):Prop:=
 Rd H a (.lst xs) ∨
  ∃(o:Obj) (its:Array IW) (n:Nat),K.lookup a=some o/\o.cls= .type "list"/\o.dict=none/\o.data= .seq its n/\its.size<=sizeLine/\Vals xs its.toList
def SqT (K:IU)(H:Hp)(a:Addr)(xs:List V):Prop:=
 Rd H a (.tup xs) ∨
  ∃(o:Obj) (its:Array IW) (n:Nat),K.lookup a=some o/\o.cls= .type "tuple"/\o.data= .seq its n/\its.size<=sizeLine/\Vals xs its.toList
def absV:IW->Option V
 | .none=>some .non
 | .bool b=>some (.bl b)
 | .int i _=>some (.int i)
 | .str x _=>some (.str x)
 | .bytes b _=>some (.byt b)
 | .float b _=>some (.flt b)
 | .ref a=>some (.ref a)
 | .type n=>some (.ty n)
 | _=>none
theorem RelV.abs {x:V}{u:IW}(r:RelV x u):absV u=some x:=by
 cases x with
 | non=>cases r;rfl
 | bl _=>cases r;rfl
 | int _=>obtain⟨t,rfl⟩:=r;rfl
 | str _=>obtain⟨t,rfl⟩:=r;rfl
 | byt _=>obtain⟨t,rfl⟩:=r;rfl
 | flt _=>obtain⟨t,rfl⟩:=r;rfl
 | ref _=>cases r;rfl
 | ty _=>cases r;rfl
theorem RelV.inj {x y:V}{u:IW}(r:RelV x u)(q:RelV y u):x=y:=JJ (r.abs.symm.trans q.abs)
theorem Vals.inj:∀{xs ys:List V} {us:List IW},Vals xs us->Vals ys us->xs=ys
 | _,_,_,.nil,.nil=>rfl
 | _,_,_,.cons r t,.cons r' t'=>by rw[r.inj r',Vals.inj t t']
section
variable {X:Cx}{pins:List (Addr×Obj)}{σ:St}{H:Hp}{s:IY}{a:Addr}{xs ys:List V}
theorem SqL.of {K:IU}(h:H a=some (.lst xs)):SqL K H a xs:=.inl (.inl h)
theorem SqT.of {K:IU}(h:H a=some (.tup xs)):SqT K H a xs:=.inl (.inl h)
theorem Inv.list (I:Inv X pins σ H s)(h:SqL X.K H a xs):∃its:List IW,Vals xs its/\PlainL s.heap a its.toArray/\xs.length<=sizeLine:=by
 rcases h with h | ⟨o,its,n,hk,hc,hd,hs,hz,r⟩
 ·obtain⟨z,its,n,r,e⟩:=h.ok I.hok
  exact⟨its,r,⟨_,n,e,rfl,rfl,rfl⟩,z⟩
 ·refine⟨its.toList,r,⟨o,n,I.kIn a o hk,hc,hd,by simpa using hs⟩,?_⟩
  have e:=r.length;simp only[Mh]at e;omega
theorem Inv.tuple (I:Inv X pins σ H s)(h:SqT X.K H a xs):∃its:List IW,Vals xs its/\Py s.heap a its.toArray/\xs.length<=sizeLine:=by
 rcases h with h | ⟨o,its,n,hk,hc,hs,hz,r⟩
 ·obtain⟨z,its,r,p⟩:=h.ok I.hok
  exact⟨its,r,p,z⟩
 ·refine⟨its.toList,r,⟨o,I.kIn a o hk,hc,n,by simpa using hs⟩,?_⟩
  have e:=r.length;simp only[Mh]at e;omega
theorem Inv.HZ (I:Inv X pins σ H s)(h:SqL X.K H a xs)(h':SqL X.K H a ys):xs=ys:=by
 obtain⟨its,r,⟨o,n,e,_,_,d⟩,_⟩:=I.list h;obtain⟨its',r',⟨o',n',e',_,_,d'⟩,_⟩:=I.list h';rw[e]at e';cases e';rw[d]at d';injection d' with d1 _
 have:its=its':=by simpa using congrArg Ni d1
 subst this;exact r.inj r'
theorem Inv.Ie (I:Inv X pins σ H s)(h:SqT X.K H a xs)(h':SqT X.K H a ys):xs=ys:=by
 obtain⟨its,r,⟨o,e,_,n,d⟩,_⟩:=I.tuple h;obtain⟨its',r',⟨o',e',_,n',d'⟩,_⟩:=I.tuple h';rw[e]at e';cases e';rw[d]at d';injection d' with d1 _
 have:its=its':=by simpa using congrArg Ni d1
 subst this;exact r.inj r'
end
abbrev Cx.FB (X:Cx)(E:IW->IY->Prop):Cx:={ X with xe:=E }
abbrev Cx.nox (X:Cx):Cx:=X.FB λ_ _=>False
theorem Cx.Ok.FB {X:Cx}(ok:X.Ok)(E:IW->IY->Prop):(X.FB E).Ok:=
 ⟨ok.mod,ok.kind,ok.glob,ok.blt,ok.above,ok.inj,ok.has,ok.cab,ok.hd,ok.frames,ok.stk,ok.exf,ok.bs,ok.bsz,ok.noex,ok.exfs,ok.funs,ok.frf⟩
theorem Cx.Ok.GE {X:Cx}{E:IW->IY->Prop}(ok:(X.FB E).Ok):X.Ok:=
 ⟨ok.mod,ok.kind,ok.glob,ok.blt,ok.above,ok.inj,ok.has,ok.cab,ok.hd,ok.frames,ok.stk,ok.exf,ok.bs,ok.bsz,ok.noex,ok.exfs,ok.funs,ok.frf⟩
section
variable {X:Cx}{pins:List (Addr×Obj)}{σ:St}{H:Hp}{s:IY}{E:IW->IY->Prop}
theorem Inv.FB (I:Inv X pins σ H s)(E:IW->IY->Prop):Inv (X.FB E) pins σ H s:=⟨I.ok.FB E,I.os,I.bare,I.base,I.loc,I.cell,I.free,I.freeC,I.pin,I.hok,I.len⟩
theorem Inv.GE (I:Inv (X.FB E) pins σ H s):Inv X pins σ H s:=⟨I.ok.GE,I.os,I.bare,I.base,I.loc,I.cell,I.free,I.freeC,I.pin,I.hok,I.len⟩
theorem SP.GE {D:lM}{f:Flow}{s':IY}(h:SP (X.FB E) pins D f s'):SP X pins D f s':=by
 cases f with
 | next=>obtain⟨σ',H',I,q⟩:=h;exact⟨σ',H',I.GE,q⟩
 | brk=>obtain⟨σ',H',I,q⟩:=h;exact⟨σ',H',I.GE,q⟩
 | cont=>obtain⟨σ',H',I,q⟩:=h;exact⟨σ',H',I.GE,q⟩
 | ret u=>obtain⟨v,σ',H',I,r,q⟩:=h;exact⟨v,σ',H',I.GE,r,q⟩
theorem PSs.nox {st:List Stmt}{t:TS}(h:PSs X.nox st t):PSs X st t:=λpins s σ H D I hw=>
 KN (h pins s σ H D (I.FB _) hw) (λ_ _ q=>q.GE) λ_ _ z=>KL z
end
section
variable {X:Cx}{st:Stmt}{bN:List Stmt}{t u:TS}{e:Expr}{te:TE}{pos:Pos}
def FN:TS:=λD σ H=>D.nx σ H
def tSeq (t u:TS):TS:=λD σ H=>t { D with nx:=u D } σ H
theorem uV:PSs X [] FN:=λ_ _ σ H _ I h=>LH ⟨σ,H,I,h⟩
theorem rO (h1:PS X st t)(h2:PSs X bN u):PSs X (st::bN) (tSeq t u):=by
 intro pins s σ H D I h;refine O8 (bR (h1 pins s σ H { D with nx:=u D } I h) λf s1 q=> ?_)
 cases f with
 | next=>
  obtain⟨σ',H',I',q⟩:=q
  exact h2 pins s1 σ' H' D I' q
 | ret v=>exact q
 | brk=>exact q
 | cont=>exact q
theorem uU (h1:PS X st t):PSs X [st] t:=by
 intro pins s σ H D I h;refine O8 (bR (h1 pins s σ H D I h) λf s1 q=> ?_)
 cases f with
 | next=>exact LH q
 | ret v=>exact q
 | brk=>exact q
 | cont=>exact q
def FT:TS:=λD σ H=>D.ct σ H
theorem rP:PS X (.Continue pos) FT:=λ_ _ σ H _ I h=>wpAny_Continue ⟨σ,H,I,h⟩
theorem Inv.quiet {pins:List (Addr×Obj)}{σ:St}{H:Hp}{s:IY}(I:Inv X pins σ H s):interactive X.env=false:=by simp[interactive,I.ok.kind]
def FQ (te:TE):TS:=λD σ H=>te σ H λ_ H1=>D.nx σ H1
theorem jX (he:PE X e te)(hs:JU e none pos.line X.env=pure false:=by rfl):PS X (.Expr e pos) (FQ te):=by
 intro pins s σ H D I h;exact wpAny_Expr_any (bR (he pins s σ H _ I h) λv s1 ⟨x,H1,I1,r1,q1⟩=>⟨σ,H1,I1,q1⟩) I.quiet hs
def tRet (te:TE):TS:=λD σ H=>te σ H D.rt
theorem xV (he:PE X e te):PS X (.Return (some e) pos) (tRet te):=by
 intro pins s σ H D I h;exact wpAny_Return_some (bR (he pins s σ H _ I h) λv s1 ⟨x,H1,I1,r1,q1⟩=>⟨x,σ,H1,I1,r1,q1⟩)
def tIfS (c:TT)(t u:TS):TS:=λD σ H=>c σ H λb H1=>if b=true then t D σ H1 else u D σ H1
theorem xW {c:Expr}{a b:List Stmt}{tc:TT}(hc:PT X c tc)(ha:PSs X a t)(hb:PSs X b u):PS X (.If c a b pos) (tIfS tc t u):=by
 intro pins s σ H D I h;refine wpAny_If (bR (hc pins s σ H _ I h) λd s1 hh_=> ?_)
 obtain⟨H1,I1,q1⟩:=hh_
 cases d with
 | true=>exact ha pins s1 σ H1 D I1 q1
 | false=>exact hb pins s1 σ H1 D I1 q1
end
abbrev TG:=V->St->Hp->(St->Hp->Prop)->Prop
abbrev Cg:=List V->St->Hp->(St->Hp->Prop)->Prop
def PG (X:Cx)(target:Expr)(t:TG):Prop:=
 ∀(pins:List (Addr×Obj)) (s:IY) (σ:St) (H:Hp) (v:V) (u:IW) (Q:St->Hp->Prop),Inv X pins σ H s->RelV v u->t v σ H Q →
  wpAny (model X.prog X.w) X.A (assign target X.env u) (λ_ s'=> ∃σ' H',Inv X pins σ' H' s'/\Q σ' H') X.xe s
def PGs (X:Cx)(ts:List Expr)(t:Cg):Prop:=
 ∀(pins:List (Addr×Obj)) (s:IY) (σ:St) (H:Hp) (vs:List V) (us:List IW) (Q:St->Hp->Prop),Inv X pins σ H s->Vals vs us->t vs σ H Q →
  wpAny (model X.prog X.w) X.A (assignInOrder ((Kr ts X.env).map (·.2)) us) (λ_ s'=> ∃σ' H',Inv X pins σ' H' s'/\Q σ' H') X.xe s
section
variable {X:Cx}{pos:Pos}
def zh (i:Nat):TG:=λv σ H Q=>Q (σ.set i (some v)) H
theorem Bd {i:Nat}{x:Str}(hN:X.N.Nodup)(hi:X.N[i]? =some x)(hx:Loc X.env.scope x)(hf:X.fn x=true\/X.env.scope.names.lookup x=some .local:=by first | exact .inl rfl | exact .inr rfl | assumption):PG X (.Name x pos) (zh i):=by
 intro pins s σ H v u Q I r h;exact Oy (rq I hN hi hx r (λs' I'=>⟨_,H,I',h⟩) hf)
def gNil:Cg:=λvs σ H Q=>vs= []/\Q σ H
def G9 (t:TG)(u:Cg):Cg:=λvs σ H Q=> ∃v r,vs=v::r/\t v σ H λσ' H'=>u r σ' H' Q
theorem Bc:PGs X [] gNil:=by
 intro pins s σ H vs us Q I r h;obtain⟨e,h⟩:=h;subst e;cases r;exact assignInOrder_nil ⟨σ,H,I,h⟩
theorem x6 {e:Expr}{es:List Expr}{t:TG}{u:Cg}(h1:PG X e t)(h2:PGs X es u)
  (hs:(Kr (e::es) X.env).map (·.2)=assign e X.env::(Kr es X.env).map (·.2):=by rfl):PGs X (e::es) (G9 t u):=by
 intro pins s σ H vs us Q I r h;obtain⟨v,vr,e1,h⟩:=h;subst e1
 cases r with
 | cons r rr=>
  rw[hs];refine assignInOrder_cons (bR (h1 pins s σ H _ _ _ I r h) λ_ s1 hh_=> ?_)
  obtain⟨σ1,H1,I1,q1⟩:=hh_;exact h2 pins s1 σ1 H1 _ _ Q I1 rr q1
def gTup (K:IU)(n:Nat)(t:Cg):TG:=λv σ H Q=> ∃a xs,v= .ref a/\SqT K H a xs/\xs.length=n/\t xs σ H Q
theorem D2 {es:List Expr}{k:Nat}{t:Cg}{n:Nat}(hc:X.calm=true)(h:PGs X es t)
  (hn:(Kr es X.env).length=n:=by rfl) (hst:(Kr es X.env).findIdx? (·.1)=none:=by rfl):PG X (.Tuple es k pos) (gTup X.K n t):=by
 intro pins s σ H v u Q I r hw;obtain⟨a,xs,e1,hq,hl,hw⟩:=hw;subst e1;cases r;obtain⟨its,rv,ht,hz⟩:=I.tuple hq;refine assign_Tuple_tuple (I.ok.hd hc) ht (by simp[hn,<-hl,rv.length]) hst λh' hx=> ?_
 have I1:Inv X pins σ H { s with heap:=h' }:=I.kept (t':=s.toks) λb o e=>hx b o (Kb (Jj e)) e
 exact h pins _ σ H xs _ Q I1 (by simpa using rv) hw
def Ay (te:TE)(g:TG):TS:=λD σ H=>te σ H λx H1=>g x σ H1 D.nx
theorem DZ {tg e:Expr}{te:TE}{g:TG}(he:PE X e te)(hg:PG X tg g)(hs:Oe [tg] e pos.line X.env=pure false:=by rfl)(hw:Of [tg] e X.env=pure none:=by rfl)
  (h1:(Kr [tg] X.env).map (·.2)= [assign tg X.env]:=by rfl):PS X (.Assign [tg] e pos) (Ay te g):=by
 intro pins s σ H D I h;refine wpAny_Assign_stores (bR (he pins s σ H _ I h) λv s1 ⟨x,H1,I1,r1,q1⟩=> ?_) hs hw
 rw[h1];exact bR (hg pins s1 σ H1 x v _ I1 r1 q1) λ_ s2 q=>q
theorem pZ {i:Nat}{x:Str}{e:Expr}{te:TE}{pos':Pos}(hN:X.N.Nodup)(hi:X.N[i]? =some x)(hx:Loc X.env.scope x)(he:PE X e te)(hs:JU e (some (.Name x pos')) pos.line X.env=pure false:=by rfl)(hf:X.fn x=true\/X.env.scope.names.lookup x=some .local:=by first | exact .inl rfl | exact .inr rfl | assumption) :
  PS X (.Assign [.Name x pos'] e pos) (Ay te (zh i)):=by
 intro pins s σ H D I h;refine wpAny_Assign_Name (bR (he pins s σ H _ I h) λv s1 ⟨y,H1,I1,r1,q1⟩=> ?_) hs
 exact rq I1 hN hi hx r1 (λs2 I2=>⟨_,H1,I2,q1⟩) hf
end
section
variable {X:Cx}{pos:Pos}
def tF (c:TT)(tb:TS):TS:=λD σ H=> ∃W:Nat->St->Hp->Prop,(∃m,W m σ H)/\∀m σ H,W m σ H →
 c σ H λb H1=>if b=true then ∃N:St->Hp->Prop,(∀σ' H',N σ' H'->∃m',m'<m/\W m' σ' H')/\tb { D with nx:=N,ct:=N,bk:=D.nx } σ H1 else D.nx σ H1
theorem xU {c:Expr}{body:List Stmt}{tc:TT}{tb:TS}(hp:PassesOwn (model X.prog X.w) X.A X.env X.xe)(hc:PT X c tc)(hb:PSs X body tb):PS X (.While c body [] pos) (tF tc tb):=by
 intro pins s σ H D I h;obtain⟨W,⟨m0,w0⟩,turn⟩:=h;refine wpAny_While (codeAny_whileLoop (λn s'=> ∃σ' H',Inv X pins σ' H' s'/\W n σ' H') ?_ m0 ⟨σ,H,I,w0⟩)
 rintro n s1 ⟨σ1,H1,I1,w1⟩
 refine Pp hp (bR (hc pins s1 σ1 H1 _ I1 (turn n σ1 H1 w1)) λb s2 hh_=> ?_)
 obtain⟨H2,I2,q2⟩:=hh_
 cases b with
 | true=>
  obtain⟨N,hN,q2⟩:=q2;rw[if_pos rfl];refine Pp hp (bR (hb pins s2 σ1 H2 _ I2 q2) λf s3 q3=> ?_)
  cases f with
  | next=>
   obtain⟨σ3,H3,I3,n3⟩:=q3;obtain⟨m',hm,w3⟩:=hN σ3 H3 n3
   exact⟨m',hm,σ3,H3,I3,w3⟩
  | cont=>
   obtain⟨σ3,H3,I3,n3⟩:=q3;obtain⟨m',hm,w3⟩:=hN σ3 H3 n3
   exact⟨m',hm,σ3,H3,I3,w3⟩
  | brk=>exact q3
  | ret v=>exact q3
 | false=>
  rw[if_neg Jw];exact LH ⟨σ1,H2,I2,q2⟩
end
structure It where
 go:Nat->Hp->Prop
 yld:Nat->Hp->V->Hp->Prop
 stop:Nat->Hp->Prop
def nQ (X:Cx)(pins:List (Addr×Obj))(H:Hp)(b:Addr):Prop:=
 H b=none/\b≠X.env.locals/\b∉X.fs/\(b∈X.ex\/X.s₀.heap.objs.size<=b)/\(∀x c,X.env.cells.lookup x=some c->c≠b)/\∀p∈X.pn++pins,p.1≠b
theorem Inv.Il {X:Cx}{pins:List (Addr×Obj)}{σ:St}{H H':Hp}{s:IY}{b:Addr}(I:Inv X pins σ H s)(hb:s.heap.objs.size<=b)(hn:H' b=none):nQ X pins H' b:=by
 refine⟨hn,My (Jp I.lt hb),I.IS hb,.inr (JV I.sz hb),λx c e z=> ?_,λp hp z=> ?_⟩
 ·obtain⟨v,q⟩:=I.cell x c e
  exact absurd (Jp q.lt (by rw[z];exact hb)) (JF _)
 ·exact absurd (Jp (Jj (I.pin p hp).1) (by rw[z];exact hb)) (JF _)
structure xb (P:JB)(w:JY)(K:IU)(tg:Expr)(J:It)(fp:List Addr)(it:Addr)(tn:Nat->Heap->Prop):Prop where
 mem:it∈fp
 obj:∀i h,tn i h->∀b∈fp,∃o,h.get? b=some o/\∀v,o.data≠ .cell v
 keep:∀i h h',tn i h->(∀b∈fp,∀o,h.get? b=some o->h'.get? b=some o)->tn i h'
 item:∀(X:Cx),X.prog=P->X.w=w->X.K=K->X.calm=true->∀(i:Nat) (pins:List (Addr×Obj)) (s:IY) (σ:St) (H:Hp) (E:IW->IY->Prop),Inv X pins σ H s->(∀b∈fp,nQ X pins H b)->tn i s.heap->J.go i H →
  wpAny (model P w) X.A (pyNext (.ref it)) (λr s1=> ∃u,r=some u ∧
   wpAny (model P w) X.A (LI tg (.ref it) u) (λ_ s2=> ∃x H',Inv X pins σ H' s2/\RelV x u/\J.yld i H x H'/\tn (i+1) s2.heap/\∀b∈fp,H' b=none) E s1) E s
 done:∀(X:Cx),X.prog=P->X.w=w->X.K=K->X.calm=true->∀(i:Nat) (pins:List (Addr×Obj)) (s:IY) (σ:St) (H:Hp) (E:IW->IY->Prop),Inv X pins σ H s->(∀b∈fp,nQ X pins H b)->tn i s.heap->J.stop i H →
  wpAny (model P w) X.A (pyNext (.ref it)) (λr s1=>r=none/\Inv X pins σ H s1) E s
 self:∀(A:JK) (i:Nat) (s:IY) (Q:IW->IY->Prop) (E:IW->IY->Prop),tn i s.heap->Q (.ref it) s->wpAny (model P w) A (pyIter (.ref it)) Q E s
abbrev TI:=St->Hp->(It->Hp->Prop)->Prop
def PIE (X:Cx)(pins:List (Addr×Obj))(σ:St)(tg:Expr)(R:It->Hp->Prop)(itv:IW)(s2:IY):Prop:=
 ∃(it:Addr) (fp:List Addr) (tn:Nat->Heap->Prop) (J:It) (H':Hp),itv= .ref it/\Inv X pins σ H' s2/\xb X.prog X.w X.K tg J fp it tn/\tn 0 s2.heap/\(∀b∈fp,nQ X pins H' b)/\R J H'
def PI (X:Cx)(tg iter:Expr)(wi:TI):Prop:=
 ∀(pins:List (Addr×Obj)) (s:IY) (σ:St) (H:Hp) (R:It->Hp->Prop),Inv X pins σ H s->wi σ H R →
  wpAny (model X.prog X.w) X.A (eval iter X.env) (λv s1=>wpAny (model X.prog X.w) X.A (pyIter v) (PIE X pins σ tg R) X.xe s1) X.xe s
theorem vA {M:Model}{A:JK}{E:IW->IY->Prop}{s:IY}{tg:Expr}{it:Addr}{u:IW}{o:Obj}{n:String}{vs:Array IW}{Q:Unit->IY->Prop}(ho:s.heap.get? it=some o)(hc:o.cls= .type n)(hd:o.data= .fields vs)
  (hn:["enumerate","zip","dict_itemiterator","dict_reverseitemiterator","odict_iterator","itertools.zip_longest","itertools.pairwise"].contains n=false) (hQ:Q () s):wpAny M A (LI tg (.ref it) u) Q E s:=by
 unfold LI
 cases tg <;> first
  | exact Jl hQ
  | (cases u <;> first
    | exact Jl hQ
    | (refine Ja (wpAny_load ho ?_)
       rw[hc,hd]
       show wpAny M A (if (["enumerate","zip","dict_itemiterator","dict_reverseitemiterator","odict_iterator","itertools.zip_longest","itertools.pairwise"].contains n&&vs[0]? == some (rawInt _))=true then _ else _) Q E s
       rw[if_neg (by intro h;rw[hn,Bool.false_and]at h;cases h)]
       exact Jl hQ))
def Itl (K:IU)(a:Addr):It:=
 ⟨λi H=> ∃xs x,SqL K H a xs/\xs[i]? =some x,λi H x H'=>H'=H/\∀xs,SqL K H a xs->xs[i]? =some x,λi H=> ∃xs,SqL K H a xs/\xs.length<=i⟩
def Itt (K:IU)(a:Addr):It:=
 ⟨λi H=> ∃xs x,SqT K H a xs/\xs[i]? =some x,λi H x H'=>H'=H/\∀xs,SqT K H a xs->xs[i]? =some x,λi H=> ∃xs,SqT K H a xs/\xs.length<=i⟩
def Itr (lo:Int)(n:Nat):It:=⟨λi _=>i<n,λi H x H'=>H'=H/\x= .int (lo+i),λi _=>n<=i⟩
theorem vY {P:JB}{w:JY}{K:IU}{tg:Expr}(a it:Addr):xb P w K tg (Itl K a) [it] it (λi h=>h.IsListIter it a i) where
 mem:=by simp
 obj:=λi h st b hb=>by
  have e:b=it:=by simpa using hb
  subst e;obtain⟨o,e,c,d⟩:=st;exact⟨o,e,λv z=>by rw[d]at z;cases z⟩
 keep:=λi h h' st k=>st.at λo e=>k it (by simp) o e
 item:=by
  intro X hP hw hK hc i pins s σ H E I hf st hg;subst hP hw hK;obtain⟨xs,x,hq,hx⟩:=hg;obtain⟨its,rv,p,hz⟩:=I.list hq;obtain⟨u,hu,ru⟩:=rv.get hx;obtain⟨f0,f1,f2,f3,f4,f5⟩:=hf it (by simp)
  refine Nb st p.isList (x:=u) (by simpa using hu) λh' st' sb=> ?_
  have I1:Inv X pins σ H { s with heap:=h' }:=I.turned (t':=s.toks) (λb o hb e=>(sb.2 b hb).trans e) f0 f1 f3 f4 f5
  obtain⟨o,e,c,d⟩:=id st';exact⟨u,rfl,vA (s:={ s with heap:=h' }) e c d (by decide) ⟨x,H,I1,ru,⟨rfl,λys hy=>by rw[I.HZ hy hq];exact hx⟩,st',λb hb=>(hf b hb).1⟩⟩
 done:=by
  intro X hP hw hK hc i pins s σ H E I hf st hg;subst hP hw hK;obtain⟨xs,hq,hx⟩:=hg;obtain⟨its,rv,p,hz⟩:=I.list hq;obtain⟨f0,f1,f2,f3,f4,f5⟩:=hf it (by simp)
  have hl:=rv.length;exact NA (I.ok.hd hc) st p.isList (by simp;omega) λh' eb=>⟨rfl,I.turned (t':=s.toks) (λb o hb e=>eb b o hb e) f0 f1 f3 f4 f5⟩
 self:=λ_ _ _ _ _ st h=>wpAny_pyIter_listiter st h
theorem tD {P:JB}{w:JY}{K:IU}{tg:Expr}(a it:Addr):xb P w K tg (Itt K a) [it] it (λi h=>h.IsTupleIter it a i) where
 mem:=by simp
 obj:=λi h st b hb=>by
  have e:b=it:=by simpa using hb
  subst e;obtain⟨o,e,c,d⟩:=st;exact⟨o,e,λv z=>by rw[d]at z;cases z⟩
 keep:=λi h h' st k=>st.at λo e=>k it (by simp) o e
 item:=by
  intro X hP hw hK hc i pins s σ H E I hf st hg;subst hP hw hK;obtain⟨xs,x,hq,hx⟩:=hg;obtain⟨its,rv,p,hz⟩:=I.tuple hq;obtain⟨u,hu,ru⟩:=rv.get hx;obtain⟨f0,f1,f2,f3,f4,f5⟩:=hf it (by simp)
  refine wpAny_pyNext_tuple_item st (show s.heap.IsTuple a its.toArray from p) (x:=u) (by simpa using hu) λh' st' sb=> ?_
  have I1:Inv X pins σ H { s with heap:=h' }:=I.turned (t':=s.toks) (λb o hb e=>(sb.2 b hb).trans e) f0 f1 f3 f4 f5
  obtain⟨o,e,c,d⟩:=id st';exact⟨u,rfl,vA (s:={ s with heap:=h' }) e c d (by decide) ⟨x,H,I1,ru,⟨rfl,λys hy=>by rw[I.Ie hy hq];exact hx⟩,st',λb hb=>(hf b hb).1⟩⟩
 done:=by
  intro X hP hw hK hc i pins s σ H E I hf st hg;subst hP hw hK;obtain⟨xs,hq,hx⟩:=hg;obtain⟨its,rv,p,hz⟩:=I.tuple hq;obtain⟨f0,f1,f2,f3,f4,f5⟩:=hf it (by simp)
  have hl:=rv.length;exact wpAny_pyNext_tuple_end (I.ok.hd hc) st (show s.heap.IsTuple a its.toArray from p) (by simp;omega) λh' eb=>⟨rfl,I.turned (t':=s.toks) (λb o hb e=>eb b o hb e) f0 f1 f3 f4 f5⟩
 self:=λ_ _ _ _ _ st h=>wpAny_pyIter_tupleiter st h
theorem tE {P:JB}{w:JY}{K:IU}{tg:Expr}(it:Addr)(lo:Int)(n:Nat):xb P w K tg (Itr lo n) [it] it (λi h=>IsRangeIter h it (lo+(i:Nat)*1) ((n:Int) - (i:Nat)) 1) where
 mem:=by simp
 obj:=λi h st b hb=>by
  have e:b=it:=by simpa using hb
  subst e
  exact⟨_,st,λv z=>by
   have z':Pf _=Data.cell v:=z;cases z'⟩
 keep:=λi h h' st k=>k it (by simp) _ st
 item:=by
  intro X hP hw hK hc i pins s σ H E I hf st hg;subst hP hw hK;obtain⟨f0,f1,f2,f3,f4,f5⟩:=hf it (by simp)
  have W:=Walks.range (prog:=X.prog) (w:=X.w) (I.ok.hd hc) it lo 1 n;refine W.item i s _ _ hg st λv h' tk hv st' kk=> ?_
  obtain⟨t,rfl⟩:=hv
  have I1:Inv X pins σ H { s with heap:=h',toks:=tk }:=I.turned (λb o hb e=>kk b o (by simpa using hb) e) f0 f1 f3 f4 f5
  refine⟨_,rfl,vA (s:={ s with heap:=h',toks:=tk }) (n:="range_iterator") st' rfl rfl (by decide) ⟨.int (lo+i),H,I1,⟨t,?_⟩,⟨rfl,rfl⟩,st',λb hb=>(hf b hb).1⟩⟩
  rw[Int.mul_one]
 done:=by
  intro X hP hw hK hc i pins s σ H E I hf st hg;subst hP hw hK;obtain⟨f0,f1,f2,f3,f4,f5⟩:=hf it (by simp)
  exact wpAny_pyNext_range_end (I.ok.hd hc) st (by have:n<=i:=hg;omega) λh' eb=>⟨rfl,I.turned (t':=s.toks) (λb o hb e=>eb b o hb e) f0 f1 f3 f4 f5⟩
 self:=λ_ _ _ _ _ st h=>wpAny_pyIter_rangeiter st h
section
variable {X:Cx}{tg:Expr}
def G7 (K:IU)(tl:TE):TI:=λσ H R=>tl σ H λx H1=> ∃a,x= .ref a/\(∃xs,SqL K H1 a xs)/\R (Itl K a) H1
def iTup (K:IU)(tl:TE):TI:=λσ H R=>tl σ H λx H1=> ∃a,x= .ref a/\(∃xs,SqT K H1 a xs)/\R (Itt K a) H1
theorem Ba {l:Expr}{tl:TE}(hl:PE X l tl):PI X tg l (G7 X.K tl):=by
 intro pins s σ H R I h;refine bR (hl pins s σ H _ I h) λv s1 hh_=> ?_
 obtain⟨x,H1,I1,r1,q1⟩:=hh_;obtain⟨a,e,⟨xs,hq⟩,q⟩:=q1;subst e;cases r1;obtain⟨its,rv,p,hz⟩:=I1.list hq;refine MR p.isList ?_
 refine⟨s1.heap.objs.size,[s1.heap.objs.size],_,_,H1,rfl,I1.kept (t':=s1.toks) λb o e=>Jf _ e,vY a _,⟨_,Jq _ rfl,rfl,rfl⟩,λb hb=> ?_,q⟩
 have e:b=s1.heap.objs.size:=by simpa using hb
 subst e;exact I1.Il (Ji _) (I1.hok.fresh (Ji _))
theorem D1 {l:Expr}{tl:TE}(hl:PE X l tl):PI X tg l (iTup X.K tl):=by
 intro pins s σ H R I h;refine bR (hl pins s σ H _ I h) λv s1 hh_=> ?_
 obtain⟨x,H1,I1,r1,q1⟩:=hh_;obtain⟨a,e,⟨xs,hq⟩,q⟩:=q1;subst e;cases r1;obtain⟨its,rv,p,hz⟩:=I1.tuple hq;refine LJ (show s1.heap.IsTuple a its.toArray from p) ?_
 refine⟨s1.heap.objs.size,[s1.heap.objs.size],_,_,H1,rfl,I1.kept (t':=s1.toks) λb o e=>Jf _ e,tD a _,⟨_,Jq _ rfl,rfl,rfl⟩,λb hb=> ?_,q⟩
 have e:b=s1.heap.objs.size:=by simpa using hb
 subst e;exact I1.Il (Ji _) (I1.hok.fresh (Ji _))
theorem rN {pins:List (Addr×Obj)}{σ:St}{H:Hp}{s:IY}{R:It->Hp->Prop}{E:IW->IY->Prop}{lo hi:Int}{t u v:Tok}{tk:Nat}(I:Inv X pins σ H s)(h1 : -(2 ^ 62)<=lo)(h2:lo<2 ^ 62)(h3 : -(2 ^ 62)<=hi)(h4:hi<2 ^ 62)
  (q:R (Itr lo (hi - lo).toNat) H):wpAny (model X.prog X.w) X.A (pyIter (.ref s.heap.objs.size)) (PIE X pins σ tg R) E { s with heap:=s.heap.push { cls:=.type "range",data:=.fields #[.int lo t,.int hi u,.int 1 v] },toks:=tk }:=by
 refine wpAny_pyIter_range (IsRange.new ..) (small_one h1 h2 h3 h4) ?_
 have I1:Inv X pins σ H { s with heap:=s.heap.push { cls:=.type "range",data:=.fields #[.int lo t,.int hi u,.int 1 v] },toks:=tk }:=I.kept λb o e=>Jf _ e
 refine⟨(s.heap.push { cls:=.type "range",data:=.fields #[.int lo t,.int hi u,.int 1 v] }).objs.size,[(s.heap.push { cls:=.type "range",data:=.fields #[.int lo t,.int hi u,.int 1 v] }).objs.size],_,_,H,rfl,
  I1.kept (t':=tk) λb o e=>Jf _ e,tE _ lo (hi - lo).toNat,?_,λb hb=> ?_,q⟩
 ·have e1:lo+((0:Nat):Int)*1=lo:=by simp
  have e2:(((hi - lo).toNat:Nat):Int) - ((0:Nat):Int)=Builtin.Range.rangeSize lo hi 1:=by rw[rangeSize_one];split <;> omega
  show IsRangeIter _ _ (lo+((0:Nat):Int)*1) ((((hi - lo).toNat:Nat):Int) - ((0:Nat):Int)) 1
  rw[e1,e2];exact Jq _ rfl
 ·have e:b=(s.heap.push { cls:=.type "range",data:=.fields #[.int lo t,.int hi u,.int 1 v] }).objs.size:=by simpa using hb
  subst e;exact I1.Il (Ji _) (I1.hok.fresh (Ji _))
def tFor (wi:TI)(g:TG)(tb:TS):TS:=λD σ H=>wi σ H λJ H1=> ∃W:Nat->Nat->St->Hp->Prop,(∃m,W 0 m σ H1)/\∀i m σ H,W i m σ H →
 (J.stop i H/\D.nx σ H)\/(J.go i H/\∃N:St->Hp->Prop,(∀σ' H',N σ' H'->∃m',m'<m/\W (i+1) m' σ' H')/\∀x H',J.yld i H x H'->g x σ H' λσ2 H2=>tb { D with nx:=N,ct:=N,bk:=D.nx } σ2 H2)
def mB (fp:List Addr)(h:Heap):List (Addr×Obj):=fp.filterMap λb=>(h.get? b).map λo=>(b,o)
theorem gw {fp:List Addr}{h:Heap}{b:Addr}{o:Obj}(hb:b∈fp)(e:h.get? b=some o):(b,o)∈mB fp h:=Mz.mpr ⟨b,hb,by rw[e];rfl⟩
theorem wq {fp:List Addr}{h:Heap}{p:Addr×Obj}(hp:p∈mB fp h):p.1∈fp/\h.get? p.1=some p.2:=by
 obtain⟨b,hb,e⟩:=Mz.mp hp
 cases q:h.get? b with
 | none=>rw[q]at e;cases e
 | some o=>
  rw[q]at e
  have e':(b,o)=p:=JJ e;subst e';exact⟨hb,q⟩
theorem Inv.pinned {pins:List (Addr×Obj)}{σ:St}{H:Hp}{s:IY}{fp:List Addr}(I:Inv X pins σ H s)(hf:∀b∈fp,nQ X pins H b)(ho:∀b∈fp,∃o,s.heap.get? b=some o/\∀v,o.data≠ .cell v):Inv X (pins++mB fp s.heap) σ H s:=
 I.Im λp hp=>(Ju.mp hp).elim (λz=>I.pin p (Jx _ z)) λz=>by
  obtain⟨hb,e⟩:=wq z;obtain⟨f0,f1,f2,_⟩:=hf p.1 hb;obtain⟨o,e',d⟩:=ho p.1 hb;rw[e]at e';cases e';exact⟨e,f0,f1,f2,d⟩
theorem Inv.HV {pins pl:List (Addr×Obj)}{σ:St}{H:Hp}{s:IY}(I:Inv X (pins++pl) σ H s):Inv X pins σ H s:=I.Im λp hp=>I.pin p (Jx _ (JN _ hp))
end
abbrev R2:=V->V->Hp->VK->Prop
def qX (X:Cx)(f:IW->IW->Sem IW)(r:R2):Prop:=
 ∀(pins:List (Addr×Obj)) (s:IY) (σ:St) (H:Hp) (x y:V) (v u:IW) (Q:VK),Inv X pins σ H s->RelV x v->RelV y u->r x y H Q →
  wpAny (model X.prog X.w) X.A (f v u) (EP X pins σ Q) X.xe s
def UnR (X:Cx)(f:IW->Sem IW)(r:V->Hp->VK->Prop):Prop:=
 ∀(pins:List (Addr×Obj)) (s:IY) (σ:St) (H:Hp) (x:V) (v:IW) (Q:VK),Inv X pins σ H s->RelV x v->r x H Q →
  wpAny (model X.prog X.w) X.A (f v) (EP X pins σ Q) X.xe s
def CallR (X:Cx)(f:IW)(r:List V->Hp->VK->Prop):Prop:=
 ∀(pins:List (Addr×Obj)) (s:IY) (σ:St) (H:Hp) (xs:List V) (us:List IW) (Q:VK),Inv X pins σ H s->Vals xs us->r xs H Q →
  wpAny (model X.prog X.w) X.A (call f us) (EP X pins σ Q) X.xe s
def tUn (r:V->Hp->VK->Prop)(ta:TE):TE:=λσ H Q=>ta σ H λx H1=>r x H1 Q
def rI (C:Int->Int->Prop)(g:Int->Int->V):R2:=λx y H Q=> ∃i j,x= .int i/\y= .int j/\C i j/\Q (g i j) H
def Ds (g:Int->Int->V):R2:=λx y H Q=> ∃i j,x= .int i/\y= .int j/\Q (g i j) H
def rU (g:Int->V):V->Hp->VK->Prop:=λx H Q=> ∃i,x= .int i/\Q (g i) H
section
variable {X:Cx}{a b c:Expr}{ta tb tc:TE}{pos:Pos}
theorem Gs {op:UnaryOp}{r:V->Hp->VK->Prop}(ho:UnR X (unaryOp op) r)(ha:PE X a ta):PE X (.UnaryOp op a pos) (tUn r ta):=by
 intro pins s σ H Q I h;exact UnaryOp_ (bR (ha pins s σ H _ I h) λv s1 ⟨x,H1,I1,r1,q1⟩=>ho pins s1 σ H1 x v Q I1 r1 q1)
theorem opI {f:IW->IW->Sem IW}{C:Int->Int->Prop}{g:Int->Int->Int}
  (rule:∀(i j:Int) (t u:Tok) (s:IY) (Q:IW->IY->Prop) (E:IW->IY->Prop),C i j->Q (.int (g i j) s.toks) { s with toks:=s.toks+1 }->wpAny (model X.prog X.w) X.A (f (.int i t) (.int j u)) Q E s) :
  qX X f (rI C λi j=> .int (g i j)):=by
 intro pins s σ H x y v u Q I rx ry h;obtain⟨i,j,rfl,rfl,hc,q⟩:=h;obtain⟨t,rfl⟩:=rx;obtain⟨t',rfl⟩:=ry;exact rule i j t t' s _ _ hc ⟨.int (g i j),H,I.tok _,⟨_,rfl⟩,q⟩
theorem Gz {f:IW->IW->Sem IW}{g:Int->Int->Int}
  (rule:∀(i j:Int) (t u:Tok) (s:IY) (Q:IW->IY->Prop) (E:IW->IY->Prop),Q (.int (g i j) s.toks) { s with toks:=s.toks+1 }->wpAny (model X.prog X.w) X.A (f (.int i t) (.int j u)) Q E s) :
  qX X f (Ds λi j=> .int (g i j)):=by
 intro pins s σ H x y v u Q I rx ry h;obtain⟨i,j,rfl,rfl,q⟩:=h;obtain⟨t,rfl⟩:=rx;obtain⟨t',rfl⟩:=ry;exact rule i j t t' s _ _ ⟨.int (g i j),H,I.tok _,⟨_,rfl⟩,q⟩
theorem GA {f:IW->IW->Sem IW}{g:Int->Int->Bool}
  (rule:∀(i j:Int) (t u:Tok) (s:IY) (Q:IW->IY->Prop) (E:IW->IY->Prop),Q (.bool (g i j)) s->wpAny (model X.prog X.w) X.A (f (.int i t) (.int j u)) Q E s) :
  qX X f (Ds λi j=> .bl (g i j)):=by
 intro pins s σ H x y v u Q I rx ry h;obtain⟨i,j,rfl,rfl,q⟩:=h;obtain⟨t,rfl⟩:=rx;obtain⟨t',rfl⟩:=ry;exact rule i j t t' s _ _ ⟨.bl (g i j),H,I,rfl,q⟩
def CDiv (i j:Int):Prop:=0<j/\j<1073741824
def CMul (i j:Int):Prop:=(-(2 ^ 64)<i/\i<2 ^ 64)\/(-(2 ^ 64)<j/\j<2 ^ 64)
theorem CMul.ok {i j:Int}(h:CMul i j):IntMulOk i j:=by
 rcases h with⟨h1,h2⟩ | ⟨h1,h2⟩
 ·exact .of_left (intBits_le_64 h1 h2)
 ·exact .of_right (intBits_le_64 h1 h2)
theorem Es:qX X (Kw .Add) (Ds λi j=> .int (i+j)):=Gz λ_ _ _ _ _ _ _ q=>add_int q
theorem Ek:qX X (Kw .Sub) (Ds λi j=> .int (i - j)):=Gz λ_ _ _ _ _ _ _ q=>sub_int q
theorem Em:qX X (Kw .Mult) (rI CMul λi j=> .int (i*j)):=opI λ_ _ _ _ _ _ _ hc q=>mul_int q hc.ok
theorem Bo:qX X (Kw .FloorDiv) (rI CDiv λi j=> .int (i / j)):=opI λi j _ _ _ _ _ hc q=>by
 have h1:(0:Int)<j:=hc.1
 have h2:j<1073741824:=hc.2;exact floordiv_int (by omega) (by rw[Int.fdiv_eq_ediv_of_nonneg i (by omega)];exact q) (.inl (PyProof.noPylong_small (by omega)))
theorem Eo:qX X (Kw .Mod) (rI (λ_ j=>0<j) λi j=> .int (i % j)):=opI λi j _ _ _ _ _ hc q=>by
 have h1:(0:Int)<j:=hc;exact mod_int' (by omega) (by rw[Int.fmod_eq_emod_of_nonneg i (by omega)];exact q)
theorem unI {f:IW->Sem IW}{g:Int->Int}
  (rule:∀(i:Int) (t:Tok) (s:IY) (Q:IW->IY->Prop) (E:IW->IY->Prop),Q (.int (g i) s.toks) { s with toks:=s.toks+1 }->wpAny (model X.prog X.w) X.A (f (.int i t)) Q E s) :
  UnR X f (rU λi=> .int (g i)):=by
 intro pins s σ H x v Q I rx h;obtain⟨i,rfl,q⟩:=h;obtain⟨t,rfl⟩:=rx;exact rule i t s _ _ ⟨.int (g i),H,I.tok _,⟨_,rfl⟩,q⟩
theorem Dj:UnR X (unaryOp .USub) (rU λi=> .int (-i)):=unI λ_ _ _ _ _ q=>neg_int q
end
section
variable {X:Cx}{a b c:Expr}{ta tb tc:TE}{pos:Pos}
theorem zl {pins:List (Addr×Obj)}{σ:St}{H:Hp}{s:IY}{Q:VK}{k k':Bool}(I:Inv X pins σ H s)(q:Q (.bl k) H)(e:k=k'):EP X pins σ Q (.bool k') s:=by
 subst e;exact⟨.bl k,H,I,rfl,q⟩
theorem Gx:qX X (J3 .Lt) (Ds λi j=> .bl (decide (i<j))):=GA λ_ _ _ _ _ _ _ q=>lt_int q
theorem Gy:qX X (J3 .LtE) (Ds λi j=> .bl (decide (i<=j))):=GA λ_ _ _ _ _ _ _ q=>le_int q
theorem Ep:qX X (J3 .Is) (λx y H Q=>y= .non/\Q (.bl (decide (x= .non))) H):=by
 intro pins s σ H x y v u Q I rx ry h;obtain⟨rfl,q⟩:=h;cases ry;refine is_none_gen (zl I q ?_)
 cases x <;> first
  | (cases rx;rfl)
  | (obtain⟨t,rfl⟩:=rx;rfl)
theorem Bm:qX X (J3 .IsNot) (λx y H Q=>y= .non/\Q (.bl (!decide (x= .non))) H):=by
 intro pins s σ H x y v u Q I rx ry h;obtain⟨rfl,q⟩:=h;cases ry;refine isnot_none_gen (zl I q ?_)
 cases x <;> first
  | (cases rx;rfl)
  | (obtain⟨t,rfl⟩:=rx;rfl)
theorem m6:(sizeLine:Nat)<2 ^ 63:=by rw[Mo];decide
theorem tV:qX X (Kw .Add) (λx y H Q=> ∃i j,x= .str i/\y= .str j/\i.length+j.length<=sizeLine/\Q (.str (i++j)) H):=by
 intro pins s σ H x y v u Q I rx ry h;obtain⟨i,j,rfl,rfl,hz,q⟩:=h;obtain⟨t,rfl⟩:=rx;obtain⟨t',rfl⟩:=ry;exact add_str (λt' tk=>⟨.str (i++j),H,I.tok _,⟨_,rfl⟩,q⟩) hz
theorem kU {x:V}{us:List IW}(r:Vals [x] us):∃u,us= [u]/\RelV x u:=by
 cases r with
 | cons r1 r2=>cases r2;exact⟨_,rfl,r1⟩
theorem FH {x y:V}{us:List IW}(r:Vals [x,y] us):∃u w',us= [u,w']/\RelV x u/\RelV y w':=by
 cases r with
 | cons r1 r2=>
  cases r2 with
  | cons r3 r4=>cases r4;exact⟨_,_,rfl,r1,r3⟩
theorem w8:CallR X (.type "int") (λxs H Q=>(∃i,xs= [.int i]/\Q (.int i) H)\/∃k,xs= [.bl k]/\Q (.int (if k then 1 else 0)) H):=by
 intro pins s σ H xs us Q I r h;rcases h with⟨i,rfl,q⟩ | ⟨k,rfl,q⟩
 ·obtain⟨u,rfl,t,rfl⟩:=kU r
  exact call_int_int ⟨.int i,H,I,⟨_,rfl⟩,q⟩
 ·obtain⟨u,rfl,r1⟩:=kU r
  cases r1;exact call_int_bool ⟨.int (if k then 1 else 0),H,I.tok _,⟨_,rfl⟩,q⟩
end
structure ObjM (h:Heap)(x dx C:Addr)(mA:Str->Option IW):Prop where
 obj:h.get? x=some (KD C dx)
 ns:h.Ns1 dx mA
 ne:dx≠x
theorem wC {h:Heap}{dx:Addr}{mA:Str->Option IW}(n:h.Ns1 dx mA):∃od,h.get? dx=some od/\∀name,MD name od=some (mA name):=by
 obtain⟨o,es,ep,ho,hd,hk,_,hm⟩:=n;refine⟨o,ho,λname=> ?_⟩
 have e:=hm name;unfold nsFind findBy at e;rw[<-N4]at e
 unfold MD;rw[hd]
 dsimp only
 split
 ·rename_i y q
  rw[q]at e;exact congrArg some e
 ·rename_i q
  rw[q]at e
  have a:es.toList.any (·.refKey)=false:=by
   rw[List.any_eq_false];intro y hy;obtain⟨z,t,hkey⟩:=hk y (Array.mem_toList_iff.mp hy);simp[DictEntry.refKey,hkey]
  have a':¬ es.toList.any (·.refKey)=true:=by rw[a];exact Jw
  rw[if_neg a'];exact congrArg some e
theorem ObjM.look {h:Heap}{x dx C:Addr}{mA:Str->Option IW}(I:ObjM h x dx C mA):∃od,PySem.W.InstAt h x (KD C dx) C (some od)/\∀name,MD name od=some (mA name):=
 let ⟨od,ho,hl⟩:=wC I.ns
 ⟨od,⟨I.obj,rfl,rfl,ho⟩,hl⟩
section
variable {prog:JB}{w:JY}{A:JK}{E:IW->IY->Prop}{s:IY}{K:IU}{x dx C f:Addr}{mA:Str->Option IW}{name:Str}{v:IW}
theorem lV {expr:Bool}{Q:IW->IY->Prop}(X:K.In s.heap)(I:ObjM s.heap x dx C mA)(hg:L6 K C name=true)(hh:MI K C=true)
  (ha:Kt K (.ref C) name=some none) (hv:mA name=some v) (hv':OW v=true) (h:Q v { s with toks:=s.toks+1 }) :
  wpAny (model prog w) A (getAttr (.ref x) name expr) Q E s:=by
 obtain⟨od,J,hl⟩:=I.look;exact PySem.W.get_value X J (Mg hg).1 (PySem.W.findObj_own hh ha rfl (by rw[hl,hv])) hv' h
theorem zd {pl:Sem Bool}{Q:IW×List IW->IY->Prop}(X:K.In s.heap)(I:ObjM s.heap x dx C mA)(hg:L6 K C name=true)
  (hf:Kt K (.ref C) name=some (some (.ref f))) (ht:OG K (.ref f)=true) (hv:mA name=none) (h:Q (.ref f,[.ref x]) s) :
  wpAny (model prog w) A (NB (.ref x) name pl) Q E s:=by
 obtain⟨od,J,hl⟩:=I.look;exact PySem.W.method_fn X J (Mg hg).1 (Mg hg).2 hf (beq_iff_eq.mp ht) (by show(MD name od).map (·.isSome)=some false;rw[hl,hv];rfl) h
theorem AE {ns:List Str}{Q:Unit->IY->Prop}(X:K.In s.heap)(I:ObjM s.heap x dx C mA)
  (hs:Kt K (.ref C) "__setattr__" =some (some (.builtin "object.__setattr__"))) (hp:On K C=true) (ht:Ng K C name=some none) (hh:MI K C=true)
  (hw:OH mA ns) (hsz:ns.length<=sizeLine)
  (h:∀h',ObjM h' x dx C (λy=>if y=name then some v else mA y)->L1 dx s.heap h'->Q () { s with heap:=h',toks:=s.toks+2 }) :
  wpAny (model prog w) A (setAttr (.ref x) name v) Q E s:=by
 obtain⟨od,J,hl⟩:=I.look;refine PySem.W.set_plain X J hs (PySem.W.osa_open (s:={ s with toks:=s.toks+1 }) (r:=none) X J hp ht λb=> ?_)
 obtain⟨cd,hc,hd'⟩:=PySem.W.any_some hh
 have hx:s.heap.get? x=some ⟨.ref C,some dx,.plain,#[]⟩:=I.obj;refine Ja (Jl (Ja (Ja (wpAny_loadPart hx (Ja (PySem.W.Looks.here (s:={ s with toks:=s.toks+1 }) (PySem.W.looks_clsIn X hc) ?_))))))
 rw[hd'];refine Jl (a:=some dx) (Ja (Jl (Ja ?_)))
 refine wpAny_nsSet1 (s:={ s with toks:=s.toks+1 }) I.ns λh' hn2 hs2=> ?_
 obtain⟨oD,esD,epD,hoD,hdD,hcD⟩:=hn2.count (PySem.Within.cons name v hw);refine Ja (wpAny_lookBehind hoD (by rw[hdD];exact pastItsLine_dict (JV hcD (by rw[Jb];omega))) ?_)
 exact Jl (h _ ⟨(hs2.2 _ (Ls I.ne)).trans I.obj,hn2,I.ne⟩ hs2)
theorem yA {R:Pq->IY->Prop}{vs:List IW}{kw:List (Str×IW)}(X:K.In s.heap)(hm:Pb K C=true)
  (hi:Kt K (.ref C) "__init__" =some (some (.ref f))) (hf:PySem.W.typeIn K (.ref f)=some (.type "function"))
  (h:codeAny (model prog w) (A.under (.builtin "type.__call__" ⟨.ref C::vs,kw⟩)) (.call (.ref f) ⟨.ref (s.heap.objs.size+1)::vs,kw⟩) (PySem.W.InitBack (s.heap.objs.size+1) R)
   { s with heap:=(s.heap.push Ka).push (KD C s.heap.objs.size) }) :
  codeAny (model prog w) A (.call (.ref C) ⟨vs,kw⟩) R s:=by
 obtain⟨hh,g,d,t,os⟩:=s;exact PySem.W.make_core (PySem.W.makes_of X hm) (PySem.W.looks_findIn X hi) (λself=>PySem.W.bind_fn X self hf) (.inl rfl) h
end
def putF (f:Str)(v:V):List (Str×V)->List (Str×V)
 | [] => [(f,v)]
 | (g,x)::r=>if g=f then(g,v)::r else(g,x)::putF f v r
theorem k9 (f g:Str)(v:V):∀fs:List (Str×V),(putF f v fs).lookup g=if g=f then some v else fs.lookup g
 | [] =>by
  show Kp g [(f,v)] =_
  by_cases h:g=f
  ·have hb:(g == f)=true:=beq_iff_eq.mpr h
   simp only[Kp,hb,if_pos h]
  ·have hb:(g == f)=false:=beq_eq_false_iff_ne.mpr h
   simp only[Kp,hb,if_neg h]
 | (k,x)::r=>by
  have ih:=k9 f g v r;rw[show putF f v ((k,x)::r)=(if k=f then(k,v)::r else(k,x)::putF f v r)from rfl]
  by_cases hk:k=f
  ·rw[if_pos hk]
   by_cases h:g=k
   ·have hb:(g == k)=true:=beq_iff_eq.mpr h
    simp only[Kp,hb,if_pos (h.trans hk)]
   ·have hb:(g == k)=false:=beq_eq_false_iff_ne.mpr h
    simp only[Kp,hb,if_neg (λe:g=f=>h (e.trans hk.symm))]
  ·rw[if_neg hk]
   by_cases h:g=k
   ·have hb:(g == k)=true:=beq_iff_eq.mpr h
    simp only[Kp,hb,if_neg (λe:g=f=>hk (h.symm.trans e))]
   ·have hb:(g == k)=false:=beq_eq_false_iff_ne.mpr h
    simp only[Kp,hb];exact ih
theorem kL (f:Str)(v:V):∀fs:List (Str×V),f∈(putF f v fs).map (·.1)/\∀g,g∈fs.map (·.1)->g∈(putF f v fs).map (·.1)
 | [] =>⟨by simp[putF],λg h=>by simp at h⟩
 | (k,x)::r=>by
  obtain⟨i1,i2⟩:=kL f v r;rw[show putF f v ((k,x)::r)=(if k=f then(k,v)::r else(k,x)::putF f v r)from rfl]
  by_cases hk:k=f
  ·rw[if_pos hk]
   subst hk;exact⟨by simp,λg h=>by simpa using h⟩
  ·rw[if_neg hk]
   refine⟨?_,λg h=> ?_⟩
   ·rw[IZ]
    exact IX _ i1
   ·rw[IZ]at h ⊢
    rcases Jg.mp h with e | e
    ·exact Jg.mpr (.inl e)
    ·exact IX _ (i2 g e)
theorem lh (f:Str)(v:V):∀fs:List (Str×V),(putF f v fs).length<=fs.length+1
 | [] =>by simp[putF]
 | (k,x)::r=>by
  have ih:=lh f v r;rw[show putF f v ((k,x)::r)=(if k=f then(k,v)::r else(k,x)::putF f v r)from rfl]
  by_cases hk:k=f
  ·rw[if_pos hk,Jb,Jb];omega
  ·rw[if_neg hk,Jb,Jb];omega
theorem RelO.some_of {v:V}{o:Option IW}(r:RelO (some v) o):∃u,o=some u/\RelV v u:=by
 cases o with
 | none=>exact(show False from r).elim
 | some u=>exact⟨u,rfl,r⟩
theorem RelO.none_of {o:Option IW}(r:RelO none o):o=none:=by
 cases o with
 | none=>rfl
 | some u=>exact(show False from r).elim
theorem wR {v:V}{u:IW}(r:RelV v u):OW u=true:=by
 cases v with
 | non=>cases (show u=JI from r);rfl
 | bl b=>cases (show u=J4 b from r);rfl
 | int i=>obtain⟨t,e⟩:=(show ∃t,u=Km i t from r);cases e;rfl
 | str x=>obtain⟨t,e⟩:=(show ∃t,u=Kn x t from r);cases e;rfl
 | byt b=>obtain⟨t,e⟩:=(show ∃t,u=Value.bytes b t from r);cases e;rfl
 | flt b=>obtain⟨t,e⟩:=(show ∃t,u=Pd b t from r);cases e;rfl
 | ref a=>cases (show u=JD a from r);rfl
 | ty n=>cases (show u=Md n from r);rfl
section
variable {P:JB}{w:JY}{H H':Hp}{h h':Heap}{a C dx:Addr}{fs fs':List (Str×V)}
theorem lU (hok:HOk P w H h)(e:H a=some (.ins C dx fs)):∃mA,ObjM h a dx C mA/\(∀f,RelO (fs.lookup f) (mA f))/\OH mA (fs.map (·.1))/\fs.length<=1000/\H dx=some (.own a):=by
 obtain⟨d,z,ne,ob,mA,n,r,q⟩:=(show ObjOk P w H h a (.ins C dx fs)from hok a _ e)
 exact⟨mA,⟨ob,n,ne⟩,r,q,z,d⟩
end
structure Cls (K:IU)(C:Addr):Prop where
 pg:L6 K C Str.empty=true
 hd:MI K C=true
 po:On K C=true
 sa:Kt K (.ref C) "__setattr__" =some (some (.builtin "object.__setattr__"))
theorem Cls.get {K:IU}{C:Addr}(c:Cls K C)(f:Str):L6 K C f=true:=c.pg
def NoAttr (K:IU)(C:Addr)(f:Str):Prop:=Kt K (.ref C) f=some none
theorem NoAttr.IQ {K:IU}{C:Addr}{f:Str}(n:NoAttr K C f):Ng K C f=some none:=by
 unfold Ng;rw[show Kt K (.ref C) f=some none from n]
 rfl
structure uH (K:IU)(C:Addr)(m:Str)(f:Addr):Prop where
 at_:Kt K (.ref C) m=some (some (.ref f))
 fn:OG K (.ref f)=true
 kp:KO K (.ref f)=true
section
variable {X:Cx}{pins:List (Addr×Obj)}{σ:St}{H:Hp}{s:IY}{a C dx:Addr}{fs:List (Str×V)}{f:Str}{v:V}{A:JK}{E:IW->IY->Prop}
theorem uk {b:Bool}{Q:IW->IY->Prop}(I:Inv X pins σ H s)(e:H a=some (.ins C dx fs))(c:Cls X.K C)(n:NoAttr X.K C f)(l:fs.lookup f=some v)
  (h:∀u s',Inv X pins σ H s'->RelV v u->Q u s'):wpAny (model X.prog X.w) A (getAttr (.ref a) f b) Q E s:=by
 obtain⟨mA,O,r,_,_,_⟩:=lU I.hok e;obtain⟨u,hu,ru⟩:=RelO.some_of (v:=v) (o:=mA f) (by rw[<-l];exact r f)
 exact lV I.kIn O (c.get f) c.hd n hu (wR ru) (h u _ (I.tok _) ru)
theorem nv {m:Str}{g:Addr}{pl:Sem Bool}{Q:IW×List IW->IY->Prop}(I:Inv X pins σ H s)(e:H a=some (.ins C dx fs))(c:Cls X.K C)(k:uH X.K C m g)(l:fs.lookup m=none)
  (h:Q (.ref g,[.ref a]) s):wpAny (model X.prog X.w) A (NB (.ref a) m pl) Q E s:=by
 obtain⟨mA,O,r,_,_,_⟩:=lU I.hok e
 have hn:mA m=none:=RelO.none_of (by rw[<-l];exact r m)
 exact zd I.kIn O (c.get m) k.at_ k.fn hn h
theorem tJ {y:V}{u:IW}{Q:Unit->IY->Prop}(I:Inv X pins σ H s)(e:H a=some (.ins C dx fs))(c:Cls X.K C)(n:NoAttr X.K C f)(hl:fs.length<1000)(ry:RelV y u)
  (h:∀s',Inv X pins σ (upd H a (.ins C dx (putF f y fs))) s'->Q () s'):wpAny (model X.prog X.w) A (setAttr (.ref a) f u) Q E s:=by
 obtain⟨mA,O,r,wi,_,ho⟩:=lU I.hok e
 have hz:(fs.map (·.1)).length<=sizeLine:=by rw[Jd,Mo];omega
 refine AE I.kIn O c.sa c.po n.IQ c.hd wi hz λh' O' sb=>h _ ?_
 have hd:∃o,h'.get? dx=some o:=let ⟨o,_,_,e',_⟩:=O'.ns;⟨o,e'⟩
 refine I.write (x:=a) (e:=dx) (by rw[e];exact KZ) (.inr ho) (λb q hb z=>(sb.2 b hb).trans z) hd ?_
 refine⟨by rw[aE O.ne];exact ho,?_,O.ne,O'.obj,_,O'.ns,λg=> ?_,λg hg=> ?_⟩
 ·have:=lh f y fs;omega
 ·show RelO ((putF f y fs).lookup g) (if g=f then some u else mA g)
  rw[k9]
  by_cases q:g=f
  ·rw[if_pos q,if_pos q];exact ry
  ·rw[if_neg q,if_neg q];exact r g
 ·by_cases q:g=f
  ·rw[q];exact(kL f y fs).1
  ·refine(kL f y fs).2 g (wi g λz=>hg ?_)
   show(if g=f then some u else mA g)=none
   rw[if_neg q];exact z
theorem Inv.made (I:Inv X pins σ H s):Inv X pins σ (upd (upd H s.heap.objs.size (.own (s.heap.objs.size+1))) (s.heap.objs.size+1) (.ins C s.heap.objs.size []))
  { s with heap:=(s.heap.push Ka).push (KD C s.heap.objs.size) }:=by
 have e1:(s.heap.push Ka).get? s.heap.objs.size=some Ka:=Jq s.heap rfl
 have e2:((s.heap.push Ka).push (KD C s.heap.objs.size)).get? (s.heap.objs.size+1)=some (KD C s.heap.objs.size):=by
  have:=Jq (s.heap.push Ka) (o:=KD C s.heap.objs.size) rfl
  rwa [KR]at this
 have e3:(s.heap.push Ka).Ns s.heap.objs.size (λ_=>none):=⟨Ka,#[],_,e1,rfl,(λe he=>absurd he (by simp)),λ_=>rfl⟩
 have I1:=I.laid (a:=s.heap.objs.size) (o:=.own (s.heap.objs.size+1)) (h':=s.heap.push Ka) (t':=s.toks) (λb u q=>Jf _ q) (Ji _) ⟨_,e1⟩
 refine I1.laid (a:=s.heap.objs.size+1) (o:=.ins C s.heap.objs.size []) (t':=s.toks) (λb u q=>Jf _ q) (L3 (KR _ _)) ?_
 have ne:s.heap.objs.size≠s.heap.objs.size+1:=Kb (M5 _);refine⟨by rw[aE ne,aQ],KS _,ne,e2,λ_=>none,(Heap.Ns1.of_empty e3).at λo q=>Jf _ q,λ_=>KZ,λy hy=>absurd rfl hy⟩
theorem Cd {prog:JB}{w:JY}{env:Env}{e:Expr}{f:Str}{pos:Pos}{s:IY}{Q:IW->IY->Prop}(hb:JM e f env (eval e env)=eval e env)
  (h:wpAny (model prog w) A (eval e env) (λo s₁=>wpAny (model prog w) A (getAttr o f true) Q E s₁) E s):wpAny (model prog w) A (eval (.Attribute e f pos) env) Q E s:=
 Attribute_any_ h (by rw[arm_eval_Attribute,hb])
end
def tFld (K:IU)(ta:TE)(f:Str):TE:=λσ H Q=>ta σ H λx H1=> ∃a C dx fs v,x= .ref a/\H1 a=some (.ins C dx fs)/\Cls K C/\NoAttr K C f/\fs.lookup f=some v/\Q v H1
def sFld (K:IU)(ta tv:TE)(f:Str):TS:=λD σ H=>tv σ H λy H1=>ta σ H1 λx H2=> ∃a C dx fs,x= .ref a/\H2 a=some (.ins C dx fs)/\Cls K C/\NoAttr K C f/\fs.length<1000 ∧
 D.nx σ (upd H2 a (.ins C dx (putF f y fs)))
section
variable {X:Cx}{o e value:Expr}{f:Str}{pos pos' tpos:Pos}{ta tv:TE}
theorem yb (he:PE X e ta)(hb:JM e f X.env (eval e X.env)=eval e X.env):PE X (.Attribute e f pos) (tFld X.K ta f):=by
 intro pins s σ H Q I h;refine Cd hb (bR (he pins s σ H _ I h) λu s1 hh_=> ?_)
 obtain⟨x,H1,I1,rx,a,C,dx,fs,v,ex,ea,c,n,l,q⟩:=hh_;subst ex;obtain rfl:u=JD a:=rx;exact uk I1 ea c n l λu' s2 I2 ru=>⟨v,H1,I2,ru,q⟩
theorem DY (ha:PE X o ta)(hv:PE X value tv)(hs:JU value (some (.Attribute o f pos')) pos.line X.env=pure false):PS X (.Assign [.Attribute o f pos'] value pos) (sFld X.K ta tv f):=by
 intro pins s σ H D I h;refine plainObj_wpAny_Assign_Attribute (bR (hv pins s σ H _ I h) λu s1 ⟨y,H1,I1,ry,q⟩=>bR (ha pins s1 σ H1 _ I1 q) λov s2 ⟨x,H2,I2,rx,a,C,dx,fs,ex,ea,c,n,l,q2⟩=> ?_) hs
 subst ex;obtain rfl:ov=JD a:=rx;exact tJ I2 ea c n l ry λs3 I3=>⟨σ,_,I3,q2⟩
end
section
variable {X:Cx}{pins:List (Addr×Obj)}{σ:St}{H:Hp}{s:IY}{A:JK}{E:IW->IY->Prop}{Q:IW->IY->Prop}{c:IW}{b:Bool}
inductive kR (K:IU) (H:Hp):V->IW->Prop where
 | non:kR K H .non (.type "NoneType")
 | bl (x:Bool):kR K H (.bl x) (.type "bool")
 | int (i:Int):kR K H (.int i) (.type "int")
 | str (x:Str):kR K H (.str x) (.type "str")
 | flt (x:UInt64):kR K H (.flt x) (.type "float")
 | lst {a:Addr} {xs:List V} (e:H a=some (.lst xs)):kR K H (.ref a) (.type "list")
 | frz {a:Addr} {o:Obj} {xs:List V} (e:H a=some (.frz o (.lst xs))):kR K H (.ref a) (.type "list")
 | tup {a:Addr} {xs:List V} (e:H a=some (.tup xs)):kR K H (.ref a) (.type "tuple")
 | dK {a:Addr} {kvs:List (Key×V)} (e:H a=some (.dK kvs)):kR K H (.ref a) (.type "dict")
 | dT {a:Addr} {kvs:List (List Key×V)} (e:H a=some (.dT kvs)):kR K H (.ref a) (.type "dict")
 | ins {a C dx:Addr} {fs:List (Str×V)} (e:H a=some (.ins C dx fs)) (cl:Cls K C) (ha:Kt K (.ref C) "__class__" =some (some (.builtin "object.__class__")))
   (hn:PySem.W.specialIn K (.builtin "object.__class__") "__get__" =some (some (.builtin "getset_descriptor.__get__"))) (htk:PySem.W.takesIn K (.builtin "object.__class__")=some true)
   (hm:PySem.W.mroIn K C (.type "object")=some true):kR K H (.ref a) (.ref C)
theorem wN {x:V}{u t:IW}(I:Inv X pins σ H s)(rx:RelV x u)(ty:kR X.K H x t)(e:PySem.W.kitOne X.K t c=some b)(h:∀tk,Q (.bool b) { s with toks:=tk }) :
  wpAny (model X.prog X.w) A (call (.builtin "isinstance") [u,c]) Q E s:=by
 cases ty with
 | non=>cases (show u=JI from rx);exact J7 PySem.W.kitx_none I.kIn KZ e (λz=>nomatch z) h
 | bl y=>cases (show u=J4 y from rx);exact J7 PySem.W.kitx_bool I.kIn KZ e (λz=>nomatch z) h
 | int i=>obtain⟨t,q⟩:=(show ∃t,u=Km i t from rx);cases q;exact J7 PySem.W.kitx_int I.kIn KZ e (λz=>nomatch z) h
 | str y=>obtain⟨t,q⟩:=(show ∃t,u=Kn y t from rx);cases q;exact J7 PySem.W.kitx_str I.kIn KZ e (λz=>nomatch z) h
 | flt y=>obtain⟨t,q⟩:=(show ∃t,u=Pd y t from rx);cases q;exact J7 PySem.W.kitx_float I.kIn KZ e (λz=>nomatch z) h
 | @lst a xs ea=>
  cases (show u=JD a from rx)
  obtain⟨_,_,n,_,h1⟩:=(show ObjOk X.prog X.w H s.heap a (.lst xs)from I.hok a _ ea)
  exact J7 Oo I.kIn ⟨_,h1,rfl⟩ e (λz=>nomatch z) h
 | @frz a ob xs ea=>
  cases (show u=JD a from rx)
  obtain⟨_,_,_,n,_,h1⟩:=(show ObjOk X.prog X.w H s.heap a (.frz ob (.lst xs))from I.hok a _ ea)
  exact J7 Oo I.kIn ⟨_,h1,rfl⟩ e (λz=>nomatch z) h
 | @tup a xs ea=>
  cases (show u=JD a from rx)
  obtain⟨_,_,_,p⟩:=(show ObjOk X.prog X.w H s.heap a (.tup xs)from I.hok a _ ea)
  obtain⟨o,h1,h2,_⟩:=p
  exact J7 PySem.W.kitx_tuple I.kIn ⟨o,h1,h2⟩ e (λz=>nomatch z) h
 | @dK a kvs ea=>
  cases (show u=JD a from rx)
  obtain⟨_,_,vs,_,p⟩:=(show ObjOk X.prog X.w H s.heap a (.dK kvs)from I.hok a _ ea)
  obtain⟨o,es,ep,h1,h2,_⟩:=p
  exact J7 Oq I.kIn ⟨o,h1,h2.1⟩ e (λz=>nomatch z) h
 | @dT a kvs ea=>
  cases (show u=JD a from rx)
  obtain⟨_,_,xs,_,o,es,ep,h1,h2,_⟩:=(show ObjOk X.prog X.w H s.heap a (.dT kvs)from I.hok a _ ea)
  exact J7 Oq I.kIn ⟨o,h1,h2.1⟩ e (λz=>nomatch z) h
 | @ins a C dx fs ea cl ha hn htk hm=>
  cases (show u=JD a from rx)
  obtain⟨mA,O,_⟩:=lU I.hok ea;obtain⟨od,J,_⟩:=O.look;exact J7 (PySem.W.kitx_own (cl.get _) cl.hd ha hn htk hm) I.kIn J e (λz=>nomatch z) h
end
structure Room (k:Nat)(A:JK):Prop where
 hd:A.handled=none
 dp:A.depth+3*k+5<recursionLimit
 un:A.units+16*k+200<cLine
theorem Room.mono {j k:Nat}{A:JK}(r:Room k A)(h:j<=k):Room j A:=⟨r.hd,by have:=r.dp;omega,by have:=r.un;omega⟩
theorem Room.deeper {k:Nat}{A:JK}(r:Room (k+1) A)(env:Env):Room k (A.deeper env):=
 ⟨r.hd,by have:=r.dp;show A.depth+1+3*k+5<_;omega,by have:=r.un;show A.units+3+16*k+200<_;omega⟩
theorem uf {A:JK}{C:Addr}{us:List IW}{kw:List (Str×IW)}:(A.under (.builtin "type.__call__" ⟨.ref C::us,kw⟩)).depth=A.depth+1:=by
 first | rfl | simp[OI,Code.weight,Code.isCreation,Code.isGuard,Code.isCaller,Code.frames,OJ,guardIds]
theorem ue {A:JK}{C:Addr}{us:List IW}{kw:List (Str×IW)}:(A.under (.builtin "type.__call__" ⟨.ref C::us,kw⟩)).units=A.units+1:=by
 first | rfl | simp[OI,Code.cUnits,Code.frames,OJ]
theorem Room.make {k:Nat}{A:JK}(r:Room (k+1) A)(C:Addr)(us:List IW)(kw:List (Str×IW)):Room k (A.under (.builtin "type.__call__" ⟨.ref C::us,kw⟩)):=
 ⟨r.hd,by have:=r.dp;rw[uf];omega,by have:=r.un;rw[ue];omega⟩
theorem Room.depth {k:Nat}{A:JK}(r:Room k A):A.depth<recursionLimit:=by have:=r.dp;omega
def FL:TA:=λ_ H Q=>Q [] H
def xC (ta:TE)(tr:TA):TA:=λσ H Q=>ta σ H λx H1=>tr σ H1 λxs H2=>Q (x::xs) H2
section
variable {X:Cx}{e:Expr}{es:List Expr}{te:TE}{t:TA}{pos:Pos}
theorem kq:PA X [] FL:=λ_ _ _ _ H Q I h=>LR ⟨[],H,I,.nil,h⟩
theorem fK (ha:PE X e te)(hr:PA X es t)(hs:Jo (e::es) X.env=(false,eval e X.env)::Jo es X.env:=by rfl):PA X (e::es) (xC te t):=by
 intro pos pins s σ H Q I h;rw[hs]
 show wpAny _ _ (spliced ((false,eval e X.env)::backTo pos (Jo es X.env))) _ _ s
 refine LA (bR (ha pins s σ H _ I h) λu s1 hh_=> ?_)
 obtain⟨x,H1,I1,r1,q1⟩:=hh_;exact bR (hr pos pins s1 σ H1 _ I1 q1) λus s2 ⟨xs,H2,I2,r2,q2⟩=>⟨x::xs,H2,I2,.cons r1 r2,q2⟩
def tTup (t:TA):TE:=λσ H Q=>t σ H λxs H1=>xs.length<=sizeLine/\∀p,H1 p=none->Q (.ref p) (upd H1 p (.tup xs))
def tLst (t:TA):TE:=λσ H Q=>t σ H λxs H1=>xs.length<=sizeLine/\∀p,H1 p=none->Q (.ref p) (upd H1 p (.lst xs))
theorem D5 {x1}(h:PA X es t):PE X (.Tuple es x1 pos) (tTup t):=by
 intro pins s σ H Q I hq;refine wpAny_Tuple_spliced (bR (h pos pins s σ H _ I hq) λus s1 ⟨xs,H1,I1,r,z,q⟩=>⟨by rw[<-r.length];exact z,?_⟩)
 have hf:H1 s1.heap.objs.size=none:=I1.hok.fresh (Ji _);refine⟨.ref s1.heap.objs.size,upd H1 s1.heap.objs.size (.tup xs),I1.laid (t':=s1.toks) (λb u e=>Jf _ e) (Ji _) ?_,rfl,q _ hf⟩
 exact⟨z,us,r,⟨_,Jq _ rfl,rfl,_,rfl⟩⟩
theorem Ed (h:PA X es t):PE X (.List es pos) (tLst t):=by
 intro pins s σ H Q I hq;refine Og (bR (h pos pins s σ H _ I hq) λus s1 ⟨xs,H1,I1,r,z,q⟩=>⟨by rw[<-r.length];exact z,?_⟩)
 have hf:H1 s1.heap.objs.size=none:=I1.hok.fresh (Ji _);refine⟨.ref s1.heap.objs.size,upd H1 s1.heap.objs.size (.lst xs),I1.laid (t':=s1.toks) (λb u e=>Jf _ e) (Ji _) ?_,rfl,q _ hf⟩
 exact⟨z,us,0,r,Jq _ rfl⟩
end
abbrev Sp:=List V->Hp->VK->XK->Prop
abbrev Ae:=List Env->Hp->IY->XK->IW->IY->Prop
structure Env0 (P:JB)(w:JY)(K:IU)(mg:Str->Option IW)(base:Heap)(A:JK)(outer:List Env)(s:IY)(H:Hp):Prop where
 frames:A.frames=some outer
 mod:Mod K mg base
 bs:∀b o,base.get? b=some o->s.heap.get? b=some o/\H b=none
 bsz:base.objs.size<=s.heap.objs.size
 funs:s.heap.FunFrames base outer
 frf:∀b∈ny outer,H b=none
 hok:HOk P w H s.heap
 bare:M0 s.gens
def CE (outer:List Env)(P:JB)(w:JY)(H:Hp)(s:IY)(Q:VK)(u:IW)(s':IY):Prop:=
 ∃v H',s'.os=s.os/\M0 s'.gens/\Un (ny outer) [] H H' s.heap s'.heap/\HOk P w H' s'.heap/\RelV v u/\Q v H'
def CR (CX:Ae)(outer:List Env)(P:JB)(w:JY)(H:Hp)(s:IY)(Q:VK)(E:XK)(r:Pq)(s':IY):Prop:=
 match r with
 | .ok (.ret u)=>CE outer P w H s Q u s'
 | .ok _=>False
 | .error e=>CX outer H s E e s'
structure nR (P:JB)(w:JY)(K:IU)(mg:Str->Option IW)(base:Heap)(CX:Ae)(k:Nat)(f:Addr)(fd:J0)(ps:List Str)(sp:Sp):Prop where
 len:∀vs H Q E,sp vs H Q E->vs.length=ps.length
 run:∀(A:JK) (outer:List Env) (s:IY) (H:Hp) (args:Args) (us:List IW) (vs:List V) (Q:VK) (E:XK),Room k A->Env0 P w K mg base A outer s H->NC s fd args (ps.zip us)->Vals vs us->sp vs H Q E →
  codeAny (model P w) A (.call (.ref f) args) (CR CX outer P w H s Q E) s
theorem Env0.make {P:JB}{w:JY}{K:IU}{mg:Str->Option IW}{base:Heap}{A:JK}{outer:List Env}{s:IY}{H:Hp}(e:Env0 P w K mg base A outer s H)(C:Addr)(us:List IW)(kw:List (Str×IW)) :
  Env0 P w K mg base (A.under (.builtin "type.__call__" ⟨.ref C::us,kw⟩)) outer s H:=⟨by first | exact e.frames | (simpa [OI,Code.envs,OJ,pushEnvs]using e.frames),e.mod,e.bs,e.bsz,e.funs,e.frf,e.hok,e.bare⟩
section
variable {X:Cx}{pins:List (Addr×Obj)}{σ:St}{H:Hp}{s s':IY}
theorem Inv.Iq (I:Inv X pins σ H s):Env0 X.prog X.w X.K X.mg X.base X.A X.stack s H:=
 ⟨I.ok.frames,I.ok.mod,I.bs,JV I.ok.bsz I.sz,I.stack,I.HX,I.hok,I.bare⟩
theorem Inv.after {Q:VK}{u:IW}(I:Inv X pins σ H s)(h:CE X.stack X.prog X.w H s Q u s'):EP X pins σ Q u s':=by
 obtain⟨v,H',os,bare,un,hok,r,q⟩:=h;obtain⟨hh,g,d,t,os'⟩:=s';obtain rfl:os'=s.os:=os;exact⟨v,H',I.call (h':=hh) (g':=g) (d':=d) (t':=t) (ch:=[]) un hok bare (λb z=>absurd z (by simp)),r,q⟩
end
def FV (sp:Sp)(dvs:List V)(E:XK)(t:TA):TE:=λσ H Q=>t σ H λvs H1=>sp (vs++dvs) H1 Q E
def Binds (K:IU)(fd:J0)(ps:List Str)(ds:List IW):Prop:=
 ∀(s:IY) (us:List IW),K.In s.heap->(us++ds).length=ps.length->NC s fd ⟨us,[]⟩ (ps.zip (us++ds))
theorem Binds.all {K:IU}{fd:J0}{ps:List Str}(h:∀us:List IW,us.length=ps.length->Pa fd ⟨us,[]⟩=pure (ps.zip us)):Binds K fd ps []:=λs us _ hl=>by
 rw[JA]at hl ⊢;exact .of_eq (h us hl)
def uG (CX:Ae)(X:Cx)(E:XK):Prop:=∀(pins:List (Addr×Obj)) (σ:St) (H:Hp) (s:IY) (e:IW) (s':IY),Inv X pins σ H s->CX X.stack H s E e s'->X.xe e s'
section
variable {X:Cx}{CX:Ae}{k:Nat}{f C:Addr}{fd:J0}{ps:List Str}{sp:Sp}{dvs:List V}{ds:List IW}{E:XK}{x m:Str}{p pos apos:Pos}{e o:Expr}{es:List Expr}{ta:TE}{t:TA}
theorem tR {pins:List (Addr×Obj)}{σ:St}{H:Hp}{s:IY}{Q:VK}{us:List IW}{vs:List V}(F:nR X.prog X.w X.K X.mg X.base CX k f fd ps sp)(hr:Room k X.A)(hb:Binds X.K fd ps ds)(hd:Vals dvs ds)(hx:uG CX X E)
  (I:Inv X pins σ H s) (r:Vals vs us) (h:sp (vs++dvs) H Q E):wpAny (model X.prog X.w) X.A (call (.ref f) us) (EP X pins σ Q) X.xe s:=by
 have r2:Vals (vs++dvs) (us++ds):=r.append hd
 have hl:(us++ds).length=ps.length:=by rw[<-r2.length];exact F.len _ _ _ _ h
 refine NJ (Ly (F.run X.A X.stack s H ⟨us,[]⟩ (us++ds) (vs++dvs) Q E hr I.Iq (hb s us I.kIn hl) r2 h) λr s' hq=> ?_)
 cases r with
 | error e=>exact hx pins σ H s e s' I hq
 | ok fl=>
  cases fl with
  | ret u=>exact I.after hq
  | next=>exact KL hq
  | brk=>exact KL hq
  | cont=>exact KL hq
theorem uZ (F:nR X.prog X.w X.K X.mg X.base CX k f fd ps sp)(hr:Room k X.A)(hg:Gl X x)(hm:X.mg x=some (.ref f))(hk:KO X.K (.ref f)=true)(hb:Binds X.K fd ps ds)(hd:Vals dvs ds)(hx:uG CX X E)
  (ha:PA X (e::es) t) (hdb:fE x:=by decide) (he:Jo (e::es) X.env=(false,eval e X.env)::Jo es X.env:=by rfl) (hpl:(backTo pos (Jo es X.env)).any (·.1)=false:=by rfl) :
  PE X (.Call (.Name x p) (e::es) [] pos) (FV sp dvs E t):=by
 intro pins s σ H Q I h;refine Kk (gy I hg hm ?_ hdb)
 refine Le (h₀:=X.base) I.ok.mod.kin hk (bR (ha pos pins s σ H _ I h) λus s1 ⟨vs,H1,I1,r,q⟩=>⟨I1.kIn,?_⟩) he hpl
 exact tR F hr hb hd hx I1 r q
structure Mk (K:IU)(C f:Addr):Prop where
 makes:Pb K C=true
 init:Kt K (.ref C) "__init__" =some (some (.ref f))
 fn:OG K (.ref f)=true
 kp:KO K (.ref C)=true
end
structure aw (N P:List Str)(sc:L8):Prop where
 kind:sc.kind= .function
 co:sc.isCoroutine=false
 gen:sc.isGenerator=false
 nd:N.Nodup
 pre:N.take P.length=P
 par:∀x∈P,sc.names.lookup x=some .local\/sc.names.lookup x=some .cell
 nofree:∀y∈sc.names,y.2≠ .free
theorem pj {kindOf:Str->Option Li}{x:Str}:∀{binds:List (Str×IW)} {m:Str->Option IW},(∀v,(x,v)∉binds)->bindL kindOf binds m x=m x
 | [],_,_=>rfl
 | (n,v)::r,m,h=>by
  unfold bindL;rw[pj λw hw=>h w (IX _ hw)]
  split
  ·have:x≠n:=by rintro rfl;exact h v Je
   simp[this]
  ·rfl
theorem pq {kindOf:Str->Option Li}{x:Str}:∀{binds:List (Str×IW)} {m:Str->Option IW},(∀v,(x,v)∉binds)->bindC kindOf binds m x=m x
 | [],_,_=>rfl
 | (n,v)::r,m,h=>by
  unfold bindC;rw[pq λw hw=>h w (IX _ hw)]
  split
  ·rfl
  ·have:x≠n:=by rintro rfl;exact h v Je
   simp[this]
theorem pk {kindOf:Str->Option Li}{x:Str}{v:IW}:∀{P:List Str} {vs:List IW} {i:Nat} {m:Str->Option IW},P.Nodup->P[i]? =some x->vs[i]? =some v->kindOf x=some .local →
  bindL kindOf (P.zip vs) m x=some v
 | [],_,_,_,_,h,_,_=>by simp at h
 | _::_,[],_,_,_,_,h,_=>by simp at h
 | p::P,w::vs,0,m,nd,h1,h2,hk=>by
  simp at h1 h2;subst h1;subst h2
  show bindL kindOf ((p,w)::P.zip vs) m p=_
  unfold bindL;rw[pj λv hv=>(JH.mp nd).1 (LB hv).1,if_pos hk]
  simp
 | p::P,w::vs,i+1,m,nd,h1,h2,hk=>by
  show bindL kindOf ((p,w)::P.zip vs) m x=_
  unfold bindL;exact pk (i:=i) (JH.mp nd).2 (by simpa using h1) (by simpa using h2) hk
theorem pv {kindOf:Str->Option Li}{x:Str}{v:IW}:∀{P:List Str} {vs:List IW} {i:Nat} {m:Str->Option IW},P.Nodup->P[i]? =some x->vs[i]? =some v->kindOf x≠some .local →
  bindC kindOf (P.zip vs) m x=some v
 | [],_,_,_,_,h,_,_=>by simp at h
 | _::_,[],_,_,_,_,h,_=>by simp at h
 | p::P,w::vs,0,m,nd,h1,h2,hk=>by
  simp at h1 h2;subst h1;subst h2
  show bindC kindOf ((p,w)::P.zip vs) m p=_
  unfold bindC;rw[pq λv hv=>(JH.mp nd).1 (LB hv).1,if_neg hk]
  simp
 | p::P,w::vs,i+1,m,nd,h1,h2,hk=>by
  show bindC kindOf ((p,w)::P.zip vs) m x=_
  unfold bindC;exact pv (i:=i) (JH.mp nd).2 (by simpa using h1) (by simpa using h2) hk
def start (N:List Str)(vs:List V):St:=vs.map some++Js (N.length - vs.length) none
def fG (CX:Ae)(P:JB)(w:JY)(K:IU)(mg:Str->Option IW)(base:Heap)(N:List Str)(qual:Str)(scope:L8)(f:Addr)(cd:IW)(A:JK)(outer:List Env)(s:IY)(H:Hp)(E:XK):Cx where
 prog:=P
 w:=w
 K:=K
 mg:=mg
 base:=base
 A:=A.deeper (envOfC qual scope s.heap.objs.size f cd)
 N:=N
 s₀:=s
 H₀:=H
 env:=envOfC qual scope s.heap.objs.size f cd
 outer:=outer
 stack:=envOfC qual scope s.heap.objs.size f cd::outer
 ex:=[]
 calm:=true
 fn:=λ_=>true
 pn:=[]
 xe:=λe s'=>wpAny (model P w) (A.deeper (envOfC qual scope s.heap.objs.size f cd)) (leaving (envOfC qual scope s.heap.objs.size f cd) e) (λ_ s''=>CX outer H s E e s'') (λe' s''=>CX outer H s E e' s'') s'
theorem sX {sc:L8}{n:Nat}{x:Str}(h:sc.names.lookup x=some .cell):∃c,(K5 n sc.names []).lookup x=some c:=by
 have q:=Ld sc.names n [] (.inl h);exact Option.isSome_iff_exists.mp q
theorem kN {CX:Ae}{P:JB}{w:JY}{K:IU}{mg:Str->Option IW}{base:Heap}{N ps:List Str}{qual:Str}{scope:L8}{f:Addr}{cd:IW}{A:JK}{outer:List Env}{s s1:IY}{H:Hp}{E:XK}{us:List IW}{vs:List V}
  (S:aw N ps scope) (hd:A.handled=none) (e0:Env0 P w K mg base A outer s H) (hl:vs.length=ps.length) (r:Vals vs us)
  (x:InCallC s s.heap.objs.size (bindL (envOfC qual scope s.heap.objs.size f cd).kindOf (ps.zip us) λ_=>none) (K5 (s.heap.objs.size+1) scope.names []) (bindC (envOfC qual scope s.heap.objs.size f cd).kindOf (ps.zip us) λ_=>none) s1) :
  Inv (fG CX P w K mg base N qual scope f cd A outer s H E) [] (start N vs) H s1:=by
 have hpl:ps.length<=N.length:=by have:=congrArg K9 S.pre;rw[Kx]at this;omega
 obtain⟨h1,tk,rfl,hk⟩:=x.done
 have noA:∀b:Addr,b∉(fG CX P w K mg base N qual scope f cd A outer s H E).ex:=λb z=>absurd (show b∈([]:List Addr)from z) (by simp)
 refine⟨⟨e0.mod,S.kind,rfl,rfl,Ji _,λy z c h1 h2=> ?_,λy hy=> ?_,λy c _ h=> ?_,λ_=>hd,Around.frames_deeper e0.frames,.inr ⟨rfl,rfl⟩,λb z=>absurd z (noA b),e0.bs,e0.bsz,λb _ _=>noA b,λb z=>absurd z (noA b),e0.funs,e0.frf⟩,
  rfl,e0.bare,Un.kept hk,⟨_,x.toInCall.ns,λi y v h1 h2 h3=> ?_⟩,λy c h=>⟨_,x.cell y c h⟩,e0.hok.fresh (Ji _),λy c h=> ?_,λp hp=>absurd (show p∈([]:List (Addr×Obj))from hp) (by simp),e0.hok.kept hk,?_⟩
 ·exact name_of_addr x.apart (KF h1) (KF h2)
 ·have hy:scope.names.lookup y=some .cell\/scope.names.lookup y=some .free:=hy
  rcases hy with hy | hy
  ·exact sX hy
  ·exact absurd rfl (S.nofree _ (KF hy))
 ·exact Lx (x.above y c (KF h))
 ·have hi:i<vs.length:=by
   unfold start at h2
   by_cases hi:i<vs.length
   ·exact hi
   ·rw[KI (by simpa using hi)]at h2
    rw[JZ]at h2
    split at h2 <;> cases h2
  have ha:vs[i]? =some v:=by
   unfold start at h2;rw[J2 (by simpa using hi),Jz]at h2
   cases e:vs[i]? with
   | none=>rw[e]at h2;cases h2
   | some a=>rw[e]at h2;cases h2;rfl
  obtain⟨u,hu,rv⟩:=r.get ha
  have hp:ps[i]? =some y:=by
   rw[<-S.pre,List.getElem?_take_of_lt (by omega)];exact h1
  have ndP:ps.Nodup:=by rw[<-S.pre];exact S.nd.sublist (List.take_sublist _ _)
  refine⟨u,rv,?_⟩
  rcases S.par y (Ky hp)with k | k
  ·exact .inl ⟨k,pk ndP hp hu k⟩
  ·obtain⟨c,e⟩:=sX (n:=s.heap.objs.size+1) k
   refine .inr ⟨.inl k,c,e,?_⟩
   have q:=x.cell y c e;rw[pv ndP hp hu (by show scope.names.lookup y≠_;rw[k];decide)]at q
   exact q
 ·exact e0.hok.fresh (Lx (x.above y c (KF h)))
 ·unfold start
  show _=N.length
  rw[Jc,Jd,List.length_replicate];omega
theorem Hg {CX:Ae}{P:JB}{w:JY}{K:IU}{mg:Str->Option IW}{base:Heap}{k:Nat}{f:Addr}{name qual:Str}{params:Ny}{body:List Stmt}{scope:L8}{dV kV doc pm cdv ct oc:IW}{an od:Option Addr}
  {osl:Array (Option IW)} {N ps:List Str} {sp:Sp} (lk:K.lookup f=some ⟨oc,od,.func (LY name qual params body scope dV kV doc pm an cdv ct),osl⟩) (hcd:NQ K cdv qual=true) (S:aw N ps scope)
  (len:∀vs H Q E,sp vs H Q E->vs.length=ps.length)
  (hbody:∀(A:JK) (outer:List Env) (s:IY) (H:Hp) (vs:List V) (Q:VK) (E:XK),Room k (A.deeper (envOfC qual scope s.heap.objs.size f cdv))->sp vs H Q E →
   ∃t,PSs (fG CX P w K mg base N qual scope f cdv A outer s H E) body t/\t { nx:=λ_ H'=>Q .non H',rt:=Q } (start N vs) H) :
  nR P w K mg base CX (k+1) f (LY name qual params body scope dV kV doc pm an cdv ct) ps sp:=by
 refine⟨len,λA outer s H args us vs Q E hr e0 hb r hsp=> ?_⟩
 have hl:=len _ _ _ _ hsp
 have KX:K.In s.heap:=e0.mod.kin.keeps λb o e=>(e0.bs b o e).1
 have lim:s.heap.NoLimit:=e0.mod.nolimit.keeps λb o e=>(e0.bs b o e).1
 have hkind:∀y∈ps.zip us,scope.names.lookup y.1=some .local\/(scope.names.lookup y.1=some .cell/\((K5 (s.heap.objs.size+1) scope.names []).lookup y.1).isSome=true):=λ⟨n,v⟩ hy=>by
  rcases S.par n (LB hy).1 with q | q
  ·exact .inl q
  ·exact .inr ⟨q,Ld _ _ _ (.inl q)⟩
 refine L5 hr.depth (KX _ _ lk) rfl S.co S.gen rfl (Mx KX hcd) (hb _ _ _ _ ?_)
 refine Lk S.kind hkind λenv he s1 x=> ?_
 subst he;refine⟨lim.keeps x.toInCall.keep,OR ?_⟩
 obtain⟨t,ht,hq⟩:=hbody A outer s H vs Q E (hr.deeper _) hsp
 have I:Inv (fG CX P w K mg base N qual scope f cdv A outer s H E) [] (start N vs) H s1:=kN S hr.hd e0 hl r x;refine KN (ht [] s1 (start N vs) H _ I hq) (λfl s' hs=> ?_) λe s' hs=>hs
 have fin:∀{σ':St} {H':Hp} {v:V} {u:IW},Inv (fG CX P w K mg base N qual scope f cdv A outer s H E) [] σ' H' s'->RelV v u->Q v H'->CE outer P w H s Q u s':=
  λ{σ' H' v u} J rv q=>⟨v,H',J.os,J.bare,J.base,J.hok,rv,q⟩
 cases fl with
 | ret u=>
  obtain⟨v,σ',H',J,rv,q⟩:=hs
  exact fin J rv q
 | next=>
  obtain⟨σ',H',J,q⟩:=hs
  exact fin (v:=V.non) (u:=JI) J rfl q
 | brk=>
  obtain⟨_,_,_,q⟩:=hs
  exact KL q
 | cont=>
  obtain⟨_,_,_,q⟩:=hs;exact KL q
end L2
namespace HT
open PySem PyProof.Rows
section
variable {prog:JB}{w:JY}{A:JK}{E:IW->IY->Prop}{s:IY}
theorem cat_tup {t b:Addr}{vs ws:List IW}{Q:IW->IY->Prop}(ht:Py s.heap t vs.toArray)(hb:Py s.heap b ws.toArray)(hv:vs≠ [])
  (h1:ws= []->Q (.ref t) s) (h2:ws≠ []->Q (.ref s.heap.objs.size) { s with heap:=s.heap.push { cls:=.type "tuple",data:=.seq (vs++ws).toArray } })
  (hsz:vs.length+ws.length<=sizeLine):wpAny (model prog w) A (Kw .Add (.ref t) (.ref b)) Q E s:=by
 obtain⟨⟨cls,dd,data,sl⟩,ho,hc,n,hd⟩:=id ht;obtain⟨⟨cls2,dd2,data2,sl2⟩,ho2,hc2,n2,hd2⟩:=id hb;simp only at hc hd hc2 hd2;subst hc hd hc2 hd2
 have e:vs.toArray++ws.toArray=(vs++ws).toArray:=by simp
 by_cases hw:ws= []
 ·exact OS ⟨_,ho,rfl⟩ ⟨_,ho2,rfl⟩ M8 Oh LM Lz (Lv _ _)
   (tuple_addW1 t b vs.toArray ws.toArray n n2 dd dd2 sl sl2 (by simpa using hv) (by simp[hw])) ⟨ho,ho2,h1 hw⟩
 ·refine OS ⟨_,ho,rfl⟩ ⟨_,ho2,rfl⟩ M8 Oh LM Lz (Lv _ _)
   (tuple_addW2 t b vs.toArray ws.toArray n n2 dd dd2 sl sl2 (by simpa using hv) (by simpa using hw) (by rw[Jn,Jn];exact hsz)) ⟨ho,ho2,?_⟩
  rw[e];exact h2 hw
def sIx (n d:Nat):Option Int->Nat
 | none=>d
 | some v=>if v<0 then(v+(n:Int)).toNat else min v.toNat n
theorem sIx_none (n d:Nat):sIx n d none=d:=rfl
theorem sIx_nat (n d k:Nat):sIx n d (some (k:Int))=min k n:=by
 show(if (k:Int)<0 then((k:Int)+(n:Int)).toNat else min (k:Int).toNat n)=min k n
 rw[if_neg (by omega),Kc]
theorem Dn (n d:Nat)(hd:d<=n)(o:Option Int):sIx n d o<=n:=by
 cases o with
 | none=>exact hd
 | some v=>
  show(if v<0 then(v+(n:Int)).toNat else min v.toNat n)<=n
  by_cases hv:v<0
  ·rw[if_pos hv];omega
  ·rw[if_neg hv];exact Nat.min_le_right _ _
theorem vL (v:Int)(n d:Nat):(if v<0 then max (v+(n:Int)) 0 else min v (n:Int))=((sIx n d (some v):Nat):Int):=by
 show(if v<0 then max (v+(n:Int)) 0 else min v (n:Int))=(((if v<0 then(v+(n:Int)).toNat else min v.toNat n):Nat):Int)
 by_cases hv:v<0
 ·simp only[if_pos hv];omega
 ·simp only[if_neg hv];omega
theorem uD (lo hi:Option Int)(n:Nat):Lm lo hi 1 (n:Int)=(((sIx n 0 lo:Nat):Int),((sIx n n hi:Nat):Int)):=by
 have h1:¬ ((1:Int)<0):=by omega
 unfold Lm;simp only[h1,if_false];refine Prod.ext ?_ ?_
 ·cases lo with
  | none=>rfl
  | some v=>exact vL v n 0
 ·cases hi with
  | none=>rfl
  | some v=>exact vL v n n
theorem tT (i j:Nat):KP (i:Int) (j:Int) 1=j - i:=by
 unfold KP
 have h1:(1:Int) > 0:=by omega
 simp only[h1,if_true,Int.ediv_one]
 split <;> omega
theorem ml {v:IW}{o:Option Int}{Q:Option Int->IY->Prop}(p:Oi v o)(h:Q o s):wpAny (model prog w) A (O9 v) Q E s:=by
 cases p with
 | none=>exact slicePart_none h
 | int i t=>exact slicePart_int h
theorem gf {sl:Addr}{vl vu:IW}{lo hi:Option Int}{n:Nat}{Q:Int×Int×Nat->IY->Prop}(hs:s.heap.IsSliceOf sl vl vu .none)(pl:Oi vl lo)(pu:Oi vu hi)
  (h:Q (((sIx n 0 lo:Nat):Int),1,sIx n n hi - sIx n 0 lo) s):wpAny (model prog w) A (Mq (.ref sl) (pure (n:Int))) Q E s:=by
 obtain⟨os,hos,hcs,hds⟩:=id hs;unfold Mq Builtin.Slice.sliceFields;refine Ja (Ja (KW hos hds (x:=vl) rfl (Ja (KW hos hds (x:=vu) rfl (Ja (KW hos hds (x:=.none) rfl (Jl ?_)))))))
 refine Ja (slicePart_none ?_)
 show wpAny _ _ (if ((1:Int) == 0)=true then _ else _) _ _ s
 rw[if_neg (by decide)]
 refine Ja (ml pl (Ja (ml pu (Ja (Jl ?_)))))
 show wpAny _ _ (match Lm lo hi 1 (n:Int)with | (lo,hi)=>pure (lo,(1:Int),KP lo hi 1)) _ _ s
 rw[uD lo hi n]
 show wpAny _ _ (pure (((sIx n 0 lo:Nat):Int),(1:Int),KP ((sIx n 0 lo:Nat):Int) ((sIx n n hi:Nat):Int) 1)) _ _ s
 rw[tT];exact Jl h
theorem x5 (xs:Array IW)(i k:Nat):((J1 k).filterMap λ(m:Nat)=>xs[((i:Int)+(m:Int)*1).toNat]?).toArray=((xs.toList.drop i).take k).toArray:=by
 have e:(λ(m:Nat)=>xs[((i:Int)+(m:Int)*1).toNat]?)=λm=>xs[i+m]?:=by
  funext m
  have:((i:Int)+(m:Int)*1).toNat=i+m:=by omega
  rw[this]
 rw[e]
 have:=pick_run xs i k;rw[List.filterMap_map]at this
 have e2:((λx=>xs[x]?)∘λx=>i+x)=λm=>xs[i+m]?:=rfl
 rw[e2]at this;rw[this]
theorem getItem_tuple_cut {t sl:Addr}{items:Array IW}{vl vu:IW}{lo hi:Option Int}{Q:IW->IY->Prop}(ht:Py s.heap t items)(hs:s.heap.IsSliceOf sl vl vu .none)(pl:Oi vl lo)(pu:Oi vu hi)
  (hw:¬ (sIx items.size 0 lo=0/\sIx items.size items.size hi=items.size))
  (h:Q (.ref s.heap.objs.size) { s with heap:=s.heap.push { cls:=.type "tuple",data:=.seq ((items.toList.drop (sIx items.size 0 lo)).take (sIx items.size items.size hi - sIx items.size 0 lo)).toArray } })
  (hsz:items.size<=sizeLine):wpAny (model prog w) A (getItem (.ref t) (.ref sl)) Q E s:=by
 have htake:sizeOk (.seq ((items.toList.drop (sIx items.size 0 lo)).take (sIx items.size items.size hi - sIx items.size 0 lo)).toArray):=by
  show((items.toList.drop (sIx items.size 0 lo)).take (sIx items.size items.size hi - sIx items.size 0 lo)).toArray.size<=sizeLine
  rw[Jn,Kx,Lp,Mh];omega
 have hj:sIx items.size items.size hi<=items.size:=Dn _ _ (Ji _) hi;obtain⟨os,hos,hcs,hds⟩:=id hs
 have hTs:s.TypeIs (.ref sl) "slice":=⟨os,hos,hcs⟩;unfold getItem
 try with_reducible refine M4 ?_
 first | refine Ja (Jl ?_) | skip
 refine Ja (Oz ht.typeIs (by decide) ?_)
 refine Ja (KA (name:=Jr "__getitem__") ht.typeIs JW
  (Lr JW ht.typeIs NZ ?_ (Oj _ _)))
 show wpAny _ _ (Mr (.ref t) >>= _) _ _ s
 refine Ja (Ol ht ?_)
 refine Ja (MC hTs ?_)
 rw[if_pos (by decide)]
 refine Ja (gf hs pl pu ?_)
 have hno:¬ ((((sIx items.size 0 lo:Nat):Int) == 0&&(1:Int) == 1&&(sIx items.size items.size hi - sIx items.size 0 lo) == items.size)=true):=by
  intro q;rw[IV,IV]at q
  have q1:((sIx items.size 0 lo:Nat):Int)=0:=eq_of_beq q.1.1
  have q2:sIx items.size items.size hi - sIx items.size 0 lo=items.size:=eq_of_beq q.2;exact hw ⟨by omega,by omega⟩
 show wpAny _ _ (if (((sIx items.size 0 lo:Nat):Int) == 0&&(1:Int) == 1&&(sIx items.size items.size hi - sIx items.size 0 lo) == items.size)=true then _ else _) _ _ s
 rw[if_neg hno,x5]
 first
  | exact Ja (m:=Kv _) (Ks (Jl ⟨_,rfl,Jl h⟩) htake)
  | exact Ja (m:=Kv _) (Ks (Ja (Jl (Jl ⟨_,rfl,Jl h⟩))) htake)
  | exact Ja (Ja (m:=Kv _) (Ks (Jl (Jl ⟨_,rfl,Jl h⟩)) htake))
  | exact Ja (Ja (m:=Kv _) (Ks (Jl ⟨_,rfl,Jl h⟩) htake))
end
end HT
namespace L2
open PySem PySem.Spec PyProof.Rows
abbrev TO:=St->Hp->(Option Int->Hp->Prop)->Prop
def PO (X:Cx)(e:Option Expr)(t:TO):Prop:=
 ∀(pins:List (Addr×Obj)) (s:IY) (σ:St) (H:Hp) (Q:Option Int->Hp->Prop),Inv X pins σ H s->t σ H Q →
  wpAny (model X.prog X.w) X.A (evalPart e X.env) (λu s'=> ∃o H',Inv X pins σ H' s'/\Oi u o/\Q o H') X.xe s
def Ax:TO:=λ_ H Q=>Q none H
def FJ (t:TE):TO:=λσ H Q=>t σ H λx H1=> ∃i,x= .int i/\Q (some i) H1
theorem uj {ns:List Int}:∀{us:List IW},Vals (ns.map V.int) us->Mp us ns:=by
 induction ns with
 | nil=>intro us r;rw[Nj]at r;cases r;exact .nil
 | cons n ns ih=>
  intro us r;rw[IZ]at r
  cases r with
  | cons r1 r2=>
   obtain⟨t,e⟩:=r1;subst e;exact .cons n t (ih r2)
section
variable {X:Cx}{e:Expr}{te:TE}{lo hi:Option Expr}{tl th:TO}{pos p2:Pos}
theorem A8:PO X none Ax:=by
 intro pins s σ H Q I h;rw[evalPart_none];exact Jl ⟨none,H,I,.none,h⟩
theorem A7 (h:PE X e te):PO X (some e) (FJ te):=by
 intro pins s σ H Q I hw;rw[evalPart_some];refine bR (h pins s σ H _ I hw) λu s1 hh_=> ?_
 obtain⟨x,H1,I1,r1,q1⟩:=hh_;obtain⟨i,rfl,q⟩:=q1;obtain⟨t,rfl⟩:=r1;exact⟨some i,H1,I1,.int i t,q⟩
def SlR (X:Cx)(r:V->Option Int->Option Int->Hp->VK->Prop):Prop:=
 ∀(pins:List (Addr×Obj)) (s:IY) (σ:St) (H:Hp) (x:V) (v vl vu:IW) (lo hi:Option Int) (sl:Addr) (Q:VK),Inv X pins σ H s->RelV x v->s.heap.IsSliceOf sl vl vu .none->Oi vl lo->Oi vu hi->r x lo hi H Q →
  ∃T id,OA (.type T) "__getitem__" =pure (some (.builtin id))/\s.TypeIs v T/\wpAny (model X.prog X.w) X.A (getItem v (.ref sl)) (EP X pins σ Q) X.xe s
theorem SlR.or {r r':V->Option Int->Option Int->Hp->VK->Prop}(h:SlR X r)(h':SlR X r'):SlR X (λx lo hi H Q=>r x lo hi H Q\/r' x lo hi H Q):=by
 intro pins s σ H x v vl vu lo hi sl Q I rx hs pl pu q;rcases q with q | q
 ·exact h pins s σ H x v vl vu lo hi sl Q I rx hs pl pu q
 ·exact h' pins s σ H x v vl vu lo hi sl Q I rx hs pl pu q
def tSl (r:V->Option Int->Option Int->Hp->VK->Prop)(te:TE)(tl th:TO):TE:=λσ H Q=>te σ H λx H1=>tl σ H1 λl H2=>th σ H2 λu H3=>r x l u H3 Q
theorem x8 {r:V->Option Int->Option Int->Hp->VK->Prop}(hr:SlR X r)(he:PE X e te)(hl:PO X lo tl)(hu:PO X hi th):PE X (.Subscript e (.Slice lo hi none p2) pos) (tSl r te tl th):=by
 intro pins s σ H Q I h;refine Subscript_ (bR (he pins s σ H _ I h) λv s1 hh_=> ?_)
 obtain⟨x,H1,I1,r1,q1⟩:=hh_;refine wpAny_Slice (bR (hl pins s1 σ H1 _ I1 q1) λvl s2 ⟨l,H2,I2,pl,q2⟩=>bR (hu pins s2 σ H2 _ I2 q2) λvu s3 hh_=> ?_)
 obtain⟨u,H3,I3,pu,q3⟩:=hh_;rw[evalPart_none];refine Jl ?_
 have I4:Inv X pins σ H3 { s3 with heap:=s3.heap.push { cls:=.type "slice",data:=.fields #[vl,vu,.none] } }:=I3.kept (t':=s3.toks) λb ob q=>Jf _ q
 obtain⟨T,id,hT,ht,hg⟩:=hr pins { s3 with heap:=s3.heap.push { cls:=.type "slice",data:=.fields #[vl,vu,.none] } } σ H3 x v vl vu l u s3.heap.objs.size Q I4 r1 (Heap.IsSliceOf.new ..) pl pu q3
 show wpAny (model X.prog X.w) X.A (Om e (.Slice lo hi none p2) v (.ref s3.heap.objs.size)) (EP X pins σ Q) X.xe { s3 with heap:=s3.heap.push { cls:=.type "slice",data:=.fields #[vl,vu,.none] } }
 exact tail_any (ops:=[.ref s3.heap.objs.size,v]) ht hT hg (by with_unfolding_all rfl)
def sW (xs:List V)(lo hi:Option Int):List V:=(xs.drop (HT.sIx xs.length 0 lo)).take (HT.sIx xs.length xs.length hi - HT.sIx xs.length 0 lo)
theorem lj (xs:List V)(lo hi:Option Int):(sW xs lo hi).length<=xs.length:=by
 unfold sW;rw[Kx,Lp];omega
def rSlT (K:IU):V->Option Int->Option Int->Hp->VK->Prop:=λx lo hi H Q=> ∃a xs,x= .ref a/\SqT K H a xs ∧
 ¬(HT.sIx xs.length 0 lo=0/\HT.sIx xs.length xs.length hi=xs.length)/\∀p,H p=none->Q (.ref p) (upd H p (.tup (sW xs lo hi)))
theorem sl_tup:SlR X (rSlT X.K):=by
 intro pins s σ H x v vl vu lo hi sl Q I rx hs pl pu h;obtain⟨a,xs,rfl,hx,hw,q⟩:=h;cases rx;obtain⟨its,r,ht,hz⟩:=I.tuple hx
 have hlen:its.toArray.size=xs.length:=by rw[Jn];exact r.length.symm
 refine⟨"tuple",_,JW.lookup,ht.typeIs,?_⟩
 refine HT.getItem_tuple_cut ht hs pl pu (by rw[hlen];exact hw) ?_ (by rw[hlen];exact hz)
 rw[hlen];refine⟨.ref s.heap.objs.size,_,I.laid (t':=s.toks) (o:=.tup (sW xs lo hi)) (λb ob q=>Jf _ q) (Ji _) ?_,rfl,q _ (I.hok.fresh (Ji _))⟩
 exact⟨JV (lj xs lo hi) hz,_,(r.drop (HT.sIx xs.length 0 lo)).take (HT.sIx xs.length xs.length hi - HT.sIx xs.length 0 lo),Pg _ _⟩
def F2 (K:IU):R2:=λx y H Q=> ∃a b xs ys,x= .ref a/\y= .ref b/\SqT K H a xs/\SqT K H b ys/\xs≠ []/\xs.length+ys.length<=sizeLine ∧
 (ys= []->Q (.ref a) H)/\(ys≠ []->∀p,H p=none->Q (.ref p) (upd H p (.tup (xs++ys))))
theorem Vals.AC {xs:List V}{us:List IW}(r:Vals xs us):us= [] ↔xs= []:=by
 cases r with
 | nil=>simp
 | cons _ _=>simp
theorem Bp:qX X (Kw .Add) (F2 X.K):=by
 intro pins s σ H x y v u Q I rx ry h;obtain⟨a,b,xs,ys,rfl,rfl,ha,hb,hx,hz,q1,q2⟩:=h;cases rx;cases ry;obtain⟨its,r1,p1,_⟩:=I.tuple ha;obtain⟨its2,r2,p2,_⟩:=I.tuple hb;refine HT.cat_tup p1 p2 (λz=>hx (r1.AC.mp z)) (λz=>⟨.ref a,H,I,rfl,q1 (r2.AC.mp z)⟩) (λz=> ?_) (by rw[<-r1.length,<-r2.length];exact hz)
 refine⟨.ref s.heap.objs.size,_,I.laid (t':=s.toks) (o:=.tup (xs++ys)) (λb ob q=>Jf _ q) (Ji _) ?_,rfl,q2 (λw=>z (r2.AC.mpr w)) _ (I.hok.fresh (Ji _))⟩
 exact⟨by rw[Jc];exact hz,_,r1.append r2,Pg _ _⟩
end
def ixN (n:Nat)(i:Int):Option Nat:=if 0<=i then(if i<n then some i.toNat else none)else if -(n:Int)<=i then some (i+n).toNat else none
def atI {α:Type}(xs:List α)(i:Int):Option α:=(ixN xs.length i).bind λj=>xs[j]?
theorem BD {n:Nat}{i:Int}{j:Nat}(h:ixN n i=some j):seqIndex? i n=some j/\j<n/\-(n:Int)<=i/\i<n:=by
 unfold ixN at h
 by_cases h0:0<=i
 ·rw[if_pos h0]at h
  by_cases h1:i<n
  ·rw[if_pos h1]at h
   have e:i.toNat=j:=JJ h;exact⟨by rw[seqIndex_of h0 h1,e],by omega,by omega,h1⟩
  ·rw[if_neg h1]at h;cases h
 ·rw[if_neg h0]at h
  by_cases h1 : -(n:Int)<=i
  ·rw[if_pos h1]at h
   have e:(i+n).toNat=j:=JJ h;exact⟨by rw[seqIndex_neg (by omega) h1,e],by omega,h1,by omega⟩
  ·rw[if_neg h1]at h;cases h
theorem qT {α:Type}{xs:List α}{i:Int}{v:α}(h:atI xs i=some v):∃j,seqIndex? i xs.length=some j/\xs[j]? =some v/\j<xs.length/\-(xs.length:Int)<=i/\i<xs.length:=by
 unfold atI at h
 cases e:ixN xs.length i with
 | none=>rw[e]at h;cases h
 | some j=>
  rw[e]at h;obtain⟨h1,h2,h3,h4⟩:=BD e;exact⟨j,h1,h,h2,h3,h4⟩
def vU (b:Expr):Prop:=∀o i,N0 b false o i=operate [o,i] (getItem o i)
def IxR (X:Cx)(r:R2):Prop:=
 ∀(value slice:Expr) (pins:List (Addr×Obj)) (s:IY) (σ:St) (H:Hp) (x y:V) (v u:IW) (Q:VK),Inv X pins σ H s->RelV x v->RelV y u->r x y H Q →
  N0 slice false v u=operate [v,u] (getItem v u)->wpAny (model X.prog X.w) X.A (Om value slice v u) (EP X pins σ Q) X.xe s
def MtR (X:Cx)(id:String)(r:V->List V->Hp->VK->Prop):Prop:=
 ∀(pins:List (Addr×Obj)) (s:IY) (σ:St) (H:Hp) (x:V) (xs:List V) (v:IW) (us:List IW) (Q:VK),Inv X pins σ H s->RelV x v->Vals xs us->r x xs H Q →
  wpAny (model X.prog X.w) X.A (call (.builtin id) (v::us)) (EP X pins σ Q) X.xe s
section
variable {X:Cx}{a b:Expr}{ta tb:TE}{pos:Pos}
theorem IxR.or {r r':R2}(h:IxR X r)(h':IxR X r'):IxR X (λx y H Q=>r x y H Q\/r' x y H Q):=by
 intro value slice pins s σ H x y v u Q I rx ry q hs;rcases q with q | q
 ·exact h value slice pins s σ H x y v u Q I rx ry q hs
 ·exact h' value slice pins s σ H x y v u Q I rx ry q hs
def F1 (K:IU):R2:=λx y H Q=> ∃p xs i v,x= .ref p/\y= .int i/\SqL K H p xs/\atI xs i=some v/\Q v H
def FZ (K:IU):R2:=λx y H Q=> ∃p xs i v,x= .ref p/\y= .int i/\SqT K H p xs/\atI xs i=some v/\Q v H
def F0:R2:=λx y H Q=> ∃z i c,x= .str z/\y= .int i/\z.length<=sizeLine/\atI z.cps.toList i=some c/\Q (.str ⟨#[c]⟩) H
theorem ix_list:IxR X (F1 X.K):=by
 intro value slice pins s σ H x y v u Q I rx ry h hs;obtain⟨p,xs,i,z,rfl,rfl,hq,he,q⟩:=h;cases rx;obtain⟨t,rfl⟩:=ry;obtain⟨its,r,pl,hz⟩:=I.list hq;obtain⟨j,h1,h2,h3,h4,h5⟩:=qT he;obtain⟨w,ew,rw'⟩:=r.get h2
 have hl:=r.length
 have hn:=m6
 have fin:EP X pins σ Q w s:=⟨z,H,I,rw',q⟩
 by_cases h0:0<=i
 ·have hj:i.toNat=j:=by
   rw[seqIndex_of h0 h5]at h1;exact JJ h1
  exact item_listR pl.isList h0 (by omega) (by rw[hj];simpa using ew) fin hs
 ·have hj:(i+(its.toArray.size:Int)).toNat=j:=by
   rw[seqIndex_neg (by omega) h4]at h1
   rw[Jn,<-hl];exact JJ h1
  exact Nc (x:=w) pl.isList.typeIs slot_list_getitem.lookup
   (wpAny_getItem_list_neg (Q:=λr s'=>r=w/\EP X pins σ Q r s') pl.isList (by omega) (by rw[Jn] <;> omega) (by omega) (by rw[hj];simpa using ew) ⟨rfl,fin⟩) hs
theorem ix_tup:IxR X (FZ X.K):=by
 intro value slice pins s σ H x y v u Q I rx ry h hs;obtain⟨p,xs,i,z,rfl,rfl,hq,he,q⟩:=h;cases rx;obtain⟨t,rfl⟩:=ry;obtain⟨its,r,pl,hz⟩:=I.tuple hq;obtain⟨j,h1,h2,h3,h4,h5⟩:=qT he;obtain⟨w,ew,rw'⟩:=r.get h2
 have hl:=r.length
 have hn:=m6
 have fin:EP X pins σ Q w s:=⟨z,H,I,rw',q⟩
 exact Nc (x:=w) pl.typeIs slot_tuple_getitem.lookup
  (getItem_tuple (j:=j) (Q:=λr s'=>r=w/\EP X pins σ Q r s') pl (by omega) (by omega) (by rw[Jn,<-hl];exact h1) (by simpa using ew) ⟨rfl,fin⟩) hs
theorem ET:IxR X F0:=by
 intro value slice pins s σ H x y v u Q I rx ry h hs;obtain⟨z,i,c,rfl,rfl,hz,he,q⟩:=h;obtain⟨t,rfl⟩:=rx;obtain⟨t',rfl⟩:=ry;obtain⟨j,h1,h2,h3,h4,h5⟩:=qT he
 have hl:z.cps.toList.length=z.length:=by simp[Str.length]
 rw[hl]at h1 h4 h5
 have hn:=m6
 exact tail_any (typeIs_str s z t) slot_str_getitem.lookup (getItem_str (c:=c) (by
  have e1:decide (i< -(2 ^ 63:Int))=false:=decide_eq_false (by omega)
  have e2:decide (i ≥ 2 ^ 63)=false:=decide_eq_false (by omega)
  rw[e1,e2,Bool.or_false]) (by rw[h1];simpa using h2) ⟨.str ⟨#[c]⟩,H,I.tok _,⟨_,rfl⟩,q⟩) hs
def rIx (K:IU):R2:=λx y H Q=>F1 K x y H Q\/FZ K x y H Q\/F0 x y H Q
theorem EU:IxR X (rIx X.K):=ix_list.or (ix_tup.or ET)
theorem pH (lo hi:Option Int)(n:Nat):(LU lo hi none n).1=((HT.sIx n 0 lo:Nat):Int)/\(LU lo hi none n).2.1=((HT.sIx n n hi:Nat):Int)/\(LU lo hi none n).2.2=1:=by
 refine⟨?_,?_,rfl⟩
 ·cases lo with
  | none=>simp[LU,HT.sIx]
  | some i=>
   simp only[LU,HT.sIx,OY,show(1:Int) > 0 by decide,if_true]
   by_cases h:i<0
   ·simp only[h,if_true] <;> omega
   ·simp only[h,if_false] <;> omega
 ·cases hi with
  | none=>simp[LU,HT.sIx]
  | some i=>
   simp only[LU,HT.sIx,OY,show(1:Int) > 0 by decide,if_true]
   by_cases h:i<0
   ·simp only[h,if_true] <;> omega
   ·simp only[h,if_false] <;> omega
theorem nW (its:List IW)(lo hi:Option Int):slicePick its.toArray lo hi none=((its.drop (HT.sIx its.length 0 lo)).take (HT.sIx its.length its.length hi - HT.sIx its.length 0 lo)).toArray:=by
 obtain⟨h1,h2,h3⟩:=pH lo hi its.toArray.size;unfold slicePick;rw[h1,h2,h3];simp only[sliceRange_one,pick_run,Jn] <;> rfl
def rSlL (K:IU):V->Option Int->Option Int->Hp->VK->Prop:=λx lo hi H Q=> ∃a xs,x= .ref a/\SqL K H a xs/\∀p,H p=none->Q (.ref p) (upd H p (.lst (sW xs lo hi)))
theorem AB:SlR X (rSlL X.K):=by
 intro pins s σ H x v vl vu lo hi sl Q I rx hs pl pu h;obtain⟨a,xs,rfl,hx,q⟩:=h;cases rx;obtain⟨its,r,ht,hz⟩:=I.list hx
 have hlen:=r.length;refine⟨"list",_,slot_list_getitem.lookup,ht.isList.typeIs,?_⟩
 refine wpAny_getItem_list_slice ht.isList hs pl pu .none (by simp) ?_ (by rw[Jn] <;> omega)
 rw[nW,<-hlen];refine⟨.ref s.heap.objs.size,_,I.laid (t':=s.toks) (o:=.lst (sW xs lo hi)) (λb ob q=>Jf _ q) (Ji _) ?_,rfl,q _ (I.hok.fresh (Ji _))⟩
 exact⟨JV (lj xs lo hi) hz,_,0,(r.drop (HT.sIx xs.length 0 lo)).take (HT.sIx xs.length xs.length hi - HT.sIx xs.length 0 lo),Jq _ rfl⟩
theorem call_len_seq:CallR X (.builtin "len") (λxs H Q=> ∃p ys,xs= [.ref p]/\(SqL X.K H p ys\/SqT X.K H p ys)/\Q (.int ys.length) H):=by
 intro pins s σ H xs us Q I r h;obtain⟨p,ys,rfl,hq,q⟩:=h;obtain⟨u,rfl,rx⟩:=kU r;cases rx
 have hn:=m6;rcases hq with hq | hq
 ·obtain⟨its,r',pl,hz⟩:=I.list hq
  have hlen:=r'.length;exact Calls.call_len_list pl.isList (by simp only[Jn] <;> omega) ⟨.int ys.length,H,I.tok _,⟨s.toks+1,by rw[Jn,hlen]⟩,q⟩
 ·obtain⟨its,r',pl,hz⟩:=I.tuple hq
  have hlen:=r'.length;exact len_tuple pl (by simp only[Jn] <;> omega) ⟨.int ys.length,H,I.tok _,⟨s.toks+1,by rw[Jn,hlen]⟩,q⟩
theorem qR:CallR X (.builtin "len") (λxs H Q=> ∃z,xs= [.str z]/\z.length<=sizeLine/\Q (.int z.length) H):=by
 intro pins s σ H xs us Q I r h;obtain⟨z,rfl,hz,q⟩:=h;obtain⟨u,rfl,t,rfl⟩:=kU r
 have hn:=m6;exact len_str (by omega) ⟨.int z.length,H,I.tok _,⟨_,rfl⟩,q⟩
theorem CallR.or {f:IW}{r r':List V->Hp->VK->Prop}(h:CallR X f r)(h':CallR X f r'):CallR X f (λxs H Q=>r xs H Q\/r' xs H Q):=by
 intro pins s σ H xs us Q I rs q;rcases q with q | q
 ·exact h pins s σ H xs us Q I rs q
 ·exact h' pins s σ H xs us Q I rs q
theorem oC:CallR X (.type "tuple") (λxs H Q=> ∃p ys,xs= [.ref p]/\((SqL X.K H p ys/\∀l,H l=none->Q (.ref l) (upd H l (.tup ys)))\/(SqT X.K H p ys/\Q (.ref p) H))):=by
 intro pins s σ H xs us Q I r h;obtain⟨p,ys,rfl,h⟩:=h;obtain⟨u,rfl,rx⟩:=kU r;cases rx;rcases h with⟨hq,q⟩ | ⟨hq,q⟩
 ·obtain⟨its,r',pl,hz⟩:=I.list hq
  have hlen:=r'.length;refine call_tuple_list pl.isList (λh' kp=> ?_) (by simp only[Jn] <;> omega)
  have I1:Inv X pins σ H { s with heap:=h' }:=I.kept (t':=s.toks) kp
  have I2:Inv X pins σ (upd H h'.objs.size (.tup ys)) { s with heap:=h'.push { cls:=.type "tuple",data:=.seq its.toArray } }:=
   I1.laid (t':=s.toks) (λb o e=>Jf _ e) (Ji _) (show ObjOk X.prog X.w _ _ _ (.tup ys)from⟨hz,its,r',Pg _ _⟩)
  exact⟨.ref h'.objs.size,_,I2,rfl,q _ (I1.hok.fresh (Ji _))⟩
 ·obtain⟨its,r',pl,hz⟩:=I.tuple hq
  exact call_tuple_same pl ⟨.ref p,H,I,rfl,q⟩
def tyV (K:IU)(T:String)(x:V)(H:Hp):Prop:=match x with
 | .str _=>T= "str"
 | .int _=>T= "int"
 | .ref p=>(T= "list"/\∃xs,SqL K H p xs)\/(T= "tuple"/\∃o,K.lookup p=some o/\o.cls= .type "tuple"/\o.dict=none) ∨
   (T= "dict"/\((∃kvs,H p=some (.dK kvs))\/∃kvs,H p=some (.dT kvs)))\/(T= "set"/\∃S n,H p=some (.set S n))
 | _=>False
theorem xw {pins:List (Addr×Obj)}{σ:St}{H:Hp}{s:IY}{T:String}{x:V}{v:IW}(I:Inv X pins σ H s)(r:RelV x v)(ty:tyV X.K T x H) :
  s.TypeIs v T/\∀a,v= .ref a->∃ob,s.heap.get? a=some ob/\ob.dict=none:=by
 cases x with
 | str z=>
  obtain⟨t,rfl⟩:=r;cases (show T= "str" from ty)
  exact⟨typeIs_str s z t,λ_ e=>nomatch e⟩
 | int i=>
  obtain⟨t,rfl⟩:=r;cases (show T= "int" from ty)
  exact⟨NK s i t,λ_ e=>nomatch e⟩
 | ref p=>
  cases r;rcases ty with⟨rfl,xs,hq⟩ | ⟨rfl,o,hk,hc,hd⟩ | ⟨rfl,hk⟩ | ⟨rfl,S,n,hk⟩
  ·obtain⟨its,_,pl,_⟩:=I.list hq
   refine⟨pl.isList.typeIs,λa e=> ?_⟩
   cases e;obtain⟨o,n,e,c,hd,_⟩:=pl;exact⟨o,e,hd⟩
  ·refine⟨⟨o,I.kIn p o hk,hc⟩,λa e=> ?_⟩
   cases e;exact⟨o,I.kIn _ o hk,hd⟩
  ·have z:∃o,s.heap.get? p=some o/\o.ExactDict:=by
    rcases hk with⟨kvs,hk⟩ | ⟨kvs,hk⟩
    ·obtain⟨_,_,_,_,o,_,_,e,ex,_⟩:=I.hok p _ hk
     exact⟨o,e,ex⟩
    ·obtain⟨_,_,_,_,o,_,_,e,ex,_⟩:=I.hok p _ hk
     exact⟨o,e,ex⟩
   obtain⟨o,e,ex⟩:=z;refine⟨⟨o,e,ex.1⟩,λa e2=> ?_⟩
   cases e2;exact⟨o,e,ex.2.1⟩
  ·obtain⟨o,_,_,_,e,ex,_⟩:=I.hok p _ hk
   refine⟨⟨o,e,ex.1⟩,λa e2=> ?_⟩
   cases e2
   exact⟨o,e,ex.2.1⟩
 | _=>exact KL ty
def tBM (K:IU)(T:String)(r:V->List V->Hp->VK->Prop)(to:TE)(t:TA):TE:=λσ H Q=>to σ H λx H1=>tyV K T x H1/\t σ H1 λxs H2=>r x xs H2 Q
variable {o e:Expr}{es:List Expr}{to:TE}{t:TA}{name:Str}{apos cpos:Pos}{T id:String}{r:V->List V->Hp->VK->Prop}
theorem ye (pa:PlainAttrs T)(slot:Slot T name id)(hty:typeOf (.builtin id)=pure (.type "method_descriptor"))(hm:MtR X id r)(ho:PE X o to)(ha:PA X (e::es) t)
  (hbase:JM o name X.env (eval o X.env)=eval o X.env:=by rfl)
  (hfew:((backTo cpos (Jo (e::es) X.env)).all (λx=> !x.1)&&(NL cpos (LV [] X.env)).all (λx=>x.1.isSome)
   &&decide ((e::es).length+([]:List Pr).length+(if ([]:List Pr).isEmpty then 0 else 1)<30))=true:=by rfl)
  (hline:(apos.endLine == cpos.line)=true:=by rfl) (hs:Jo (e::es) X.env=(false,eval e X.env)::Jo es X.env:=by rfl) (hplain:(backTo cpos (Jo es X.env)).any (·.1)=false:=by rfl) :
  PE X (.Call (.Attribute o name apos) (e::es) [] cpos) (tBM X.K T r to t):=by
 intro pins s σ H Q I h;refine Nd hbase hfew hline rfl (bR (ho pins s σ H _ I h) λv s1 hh_=> ?_)
 obtain⟨x,H1,I1,r1,ty,q1⟩:=hh_;obtain⟨h1,h2⟩:=xw I1 r1 ty;refine⟨T,id,pa,slot,hty,h1,h2,?_⟩
 have hA:=ha cpos pins s1 σ H1 _ I1 q1;rw[hs]at hA ⊢;refine LN (by show(false||(backTo cpos (Jo es X.env)).any (·.1))=false;rw[hplain] <;> rfl) (Ll ?_)
 exact bR hA λus s2 ⟨vs,H2,I2,r2,q2⟩=>hm pins s2 σ H2 x vs v us Q I2 r1 r2 q2
end
def MtM (X:Cx)(id:String)(r:V->List V->Hp->VK->Prop):Prop:=
 ∀(pins:List (Addr×Obj)) (s:IY) (σ:St) (H:Hp) (x:V) (xs:List V) (v:IW) (us:List IW) (Q:VK),Inv X pins σ H s->RelV x v->Vals xs us->r x xs H Q →
  wpAny (model X.prog X.w) X.A (call (.builtin id) (v::us)) (EP X pins σ Q) X.xe s
theorem Vals.one:∀{x:V} {us:List IW},Vals [x] us->∃u,us= [u]/\RelV x u
 | _,_,.cons r .nil=>⟨_,rfl,r⟩
theorem Vals.rep {xs:List V}{us:List IW}(h:Vals xs us):∀k:Nat,Vals (Js k xs).flatten (Js k us).flatten
 | 0=> .nil
 | k+1=>by
  rw[Kq,Kq,K0,K0];exact Vals.append h (Vals.rep h k)
theorem foldl_rep (its:List IW):∀(k:Nat) (acc:List IW),
  MM (λx1 x2=>x1++x2) acc.toArray (Js k its.toArray)=(acc++(Js k its).flatten).toArray
 | 0,acc=>by simp
 | k+1,acc=>by
  have e:acc.toArray++its.toArray=(acc++its).toArray:=by simp
  have e2:(acc++its)++(Js k its).flatten=acc++(Js (k+1) its).flatten:=by
   rw[Kq,K0,JE]
  rw[<-e2,<-foldl_rep its k (acc++its),<-e,Kq,List.foldl_cons]
section
variable {X:Cx}{pins:List (Addr×Obj)}{σ:St}{H:Hp}{s:IY}{l b:Addr}{xs ys zs:List V}
theorem Inv.II {its its':List IW}{n:Nat}{f:Array IW->Array IW}{t':Nat}(I:Inv X pins σ H s)(hH:H l=some (.lst xs))
  (e:s.heap.get? l=some { cls:=.type "list",data:=.seq its.toArray n }) (hf:f its.toArray=its'.toArray) (hv:Vals ys its') (hz:ys.length<=sizeLine) :
  Inv X pins σ (upd H l (.lst ys)) { s with heap:=s.heap.update l (Obj.mapSeq f),toks:=t' }:=by
 have q:=PySem.IsL.update e f;rw[hf]at q;refine I.write (x:=l) (e:=l) (by rw[hH];exact trivial) (.inl rfl) (λb' u hb hu=>(LP s.heap (Obj.mapSeq f) (Ls hb)).trans hu) ⟨_,q⟩ ?_
 exact⟨hz,its',_,hv,q⟩
theorem Inv.IA {its:List IW}{t':Nat}(I:Inv X pins σ H s)(hv:Vals ys its)(hz:ys.length<=sizeLine) :
  Inv X pins σ (upd H s.heap.objs.size (.lst ys)) { s with heap:=s.heap.push { cls:=.type "list",data:=.seq its.toArray },toks:=t' }:=
 I.laid (λ_ _ q=>Jf _ q) (Ji _) ⟨hz,its,0,hv,Jq _ rfl⟩
theorem Inv.fresh (I:Inv X pins σ H s):H s.heap.objs.size=none:=I.hok.fresh (Ji _)
theorem Inv.Ic (I:Inv X pins σ H s)(hH:H l=some (.lst xs)):xs.length<=sizeLine/\∃(its:List IW) (n:Nat),Vals xs its/\xs.length=its.length/\s.heap.get? l=some { cls:=.type "list",data:=.seq its.toArray n }:=by
 obtain⟨z,its,n,r,e⟩:=I.hok l _ hH;exact⟨z,its,n,r,r.length,e⟩
theorem rX {n:Nat}(h:n<=sizeLine):KY n=false:=by
 unfold KY;exact decide_eq_false (by omega)
end
section
variable {X:Cx}
def AK:V->List V->Hp->VK->Prop:=λx vs H Q=> ∃l xs y,x= .ref l/\vs= [y]/\H l=some (.lst xs)/\xs.length<sizeLine/\Q .non (upd H l (.lst (xs++ [y])))
theorem kJ:MtM X "list.append" AK:=by
 intro pins s σ H x vs v us Q I rx rv h;obtain⟨l,xs,y,rfl,rfl,hH,hz,q⟩:=h;cases rx;obtain⟨u,rfl,ru⟩:=rv.one;obtain⟨z,its,n,r,hl,e⟩:=I.Ic hH;refine Me F.slot_list_append ⟨_,e,rfl⟩ F.entry_list_append (F.args_list_append_2 _ _) (PySem.list_append l its.toArray n u (by rw[Jn];omega)) ⟨e,?_⟩
 refine⟨.non,_,I.II (its':=its++ [u]) hH e (by simp) (r.append (.cons ru .nil)) ?_,rfl,q⟩
 rw[Jc,Ku];omega
def AJ:V->List V->Hp->VK->Prop:=λx vs H Q=> ∃l b xs zs,x= .ref l/\vs= [.ref b]/\H l=some (.lst xs)/\H b=some (.lst zs)/\xs.length+zs.length<=sizeLine/\Q .non (upd H l (.lst (xs++zs)))
theorem wz:MtM X "list.extend" AJ:=by
 intro pins s σ H x vs v us Q I rx rv h;obtain⟨l,b,xs,zs,rfl,rfl,hH,hB,hz,q⟩:=h;cases rx;obtain⟨u,rfl,ru⟩:=rv.one;cases ru;obtain⟨z,its,n,r,hl,e⟩:=I.Ic hH;obtain⟨z2,its2,n2,r2,hl2,e2⟩:=I.Ic hB
 have hsz:its.toArray.size+its2.toArray.size<=sizeLine:=by rw[Jn,Jn];omega
 have hlong:¬ (!its.toArray.isEmpty&&KY (its.toArray.size+its2.toArray.size))=true:=by
  rw[rX hsz,Bool.and_false];exact Jw
 refine Me F.slot_list_extend ⟨_,e,rfl⟩ F.entry_list_extend (F.args_list_extend_2 _ _)
  (AutoSeq1.list_extend_list_list_0 l its.toArray n b its2.toArray n2 hlong (by rw[Jn];omega) (by omega)) ⟨e,e2,?_⟩
 refine⟨.non,_,I.II (its':=its++its2) hH e (by simp) (r.append r2) ?_,rfl,q⟩
 rw[Jc];omega
def rCat:R2:=λx y H Q=> ∃l b xs zs,x= .ref l/\y= .ref b/\H l=some (.lst xs)/\H b=some (.lst zs)/\xs.length+zs.length<=sizeLine/\∀p,H p=none->Q (.ref p) (upd H p (.lst (xs++zs)))
theorem Er:qX X (Kw .Add) rCat:=by
 intro pins s σ H x y v u Q I rx ry h;obtain⟨l,b,xs,zs,rfl,rfl,hH,hB,hz,q⟩:=h;cases rx;cases ry;obtain⟨z,its,n,r,hl,e⟩:=I.Ic hH;obtain⟨z2,its2,n2,r2,hl2,e2⟩:=I.Ic hB;refine PySem.P.add_list e e2 ?_ (by rw[Jn,Jn];omega)
 have ea:its.toArray++its2.toArray=(its++its2).toArray:=by simp
 rw[ea];exact⟨.ref _,_,I.IA (t':=s.toks) (r.append r2) (by rw[Jc];omega),rfl,q _ I.fresh⟩
def rRep:R2:=λx y H Q=> ∃l k xs,x= .ref l/\y= .int k/\H l=some (.lst xs)/\-(2 ^ 63)<=k/\k<2 ^ 63/\xs.length*k.toNat<=sizeLine ∧
 ∀p,H p=none->Q (.ref p) (upd H p (.lst (Js k.toNat xs).flatten))
theorem len_rep {α:Type}(xs:List α)(k:Nat):(Js k xs).flatten.length=k*xs.length:=by
 induction k with
 | zero=>simp
 | succ k ih=>rw[Kq,K0,Jc,ih,Nat.succ_mul,OK]
theorem El:qX X (Kw .Mult) rRep:=by
 intro pins s σ H x y v u Q I rx ry h;obtain⟨l,k,xs,rfl,rfl,hH,h1,h2,hz,q⟩:=h;cases rx;obtain⟨t,rfl⟩:=ry;obtain⟨z,its,n,r,hl,e⟩:=I.Ic hH
 have hlen:its.toArray.size*k.toNat<=sizeLine:=by rw[Jn,<-hl];exact hz
 have hcap:¬ its.toArray.size*k.toNat > (2 ^ 63 - 1) / 8:=by
  have:(sizeLine:Nat)<=(2 ^ 63 - 1) / 8:=by decide
  omega
 have hfit:¬ (!Builtin.List.listFitsIndex k)=true:=by
  rw[fitsIndex_both h1 h2];exact Jw
 have hlong:¬ KY (its.toArray.size*k.toNat)=true:=by
  rw[rX hlen];exact Jw
 have hnew:MM (λx1 x2=>x1++x2) #[] (Js (if its.toArray.isEmpty=true then 0 else k.toNat) its.toArray)=(Js k.toNat its).flatten.toArray:=by
  have f0:∀m:Nat,MM (λx1 x2=>x1++x2) #[] (Js m its.toArray)=(Js m its).flatten.toArray:=λm=>by
   have:=foldl_rep its m [];rw[LC]at this;exact this
  rw[f0]
  cases its with
  | nil=>simp
  | cons a r'=>rw[if_neg (by simp)]
 refine MG (T:="list") (U:="int") (by decide) ⟨_,e,rfl⟩ (λs'=>NK s' k t) noFill_list_mul Ph Mi repeat_list OZ.lookup
  (Me Mi (NK s k t) O0 (Os _ _) (int___rmul___int_list k t l its.toArray n)
   ⟨e,rfl,⟨_,e,rfl⟩,Me F.slot_list_mul ⟨_,e,rfl⟩ F.entry_list_mul (F.args_list_mul_2 _ _) (N5 l its.toArray n k t hfit hcap hlong) ⟨e,?_⟩⟩)
 rw[hnew];exact⟨.ref _,_,I.IA (t':=s.toks) (r.rep k.toNat) (by rw[len_rep,OL];exact hz),rfl,q _ I.fresh⟩
end
end L2
namespace Att
open PySem PySem.W PySem.Calls PyProof.Rows
theorem lG {P:Params}{h:Heap}:∀(ns:List Int) (vs:List IW),WellAll P h vs (ns.map WData.int)->Mp vs ns:=by
 intro ns
 induction ns with
 | nil=>
  intro vs w;rw[Nj]at w;cases w
  exact .nil
 | cons n ns ih=>
  intro vs w;rw[IZ]at w
  cases w with
  | cons a b=>
   cases a;exact .cons _ _ (ih _ b)
theorem v7 {l:OpenLaw}{n:Nat}(hn:l.most=some n){P:Params}{h:Heap}{args:List WData}{vals:List IW}
  (hpre:l.row.toRowW.claim.pre args=true) (hwl:WellAll P h vals args) :
  ∃a vs ns,vals= [JD a]/\args= [WData.list (ns.map WData.int)]/\h.get? a=some { cls:=.type "list",data:=.seq vs.toArray }/\Mp vs ns/\ns.length<=n:=by
 have hsh:WShape.hasAll [] args [.list .int] =true:=(pre_splitW hpre).1
 have hc:l.pre.holds [] { args:=args }=true:=(pre_splitW hpre).2;obtain⟨d,r,rfl,h1,h2⟩:=hasAllW_cons hsh;obtain rfl:=hasAllW_nil h2;obtain⟨xs,rfl,h3⟩:=hasW_list h1;obtain⟨ns,rfl⟩:=items_int h3
 have hlen:ns.length<=n:=by
  unfold OpenLaw.pre at hc
  have h4:(WTm.not (.lt (.lit (.int (n:Int))) (.len (.arg 0)))).holds [] { args:=[.list (ns.map .int)] }=true:=by
   have h4:=(holds_andW hc).1;rw[hn]at h4;exact h4
  have h5:=condW_of h4 (w_not (w_lt w_lit (w_len_list (w_arg rfl))));rw[Jd]at h5;refine Nat.le_of_not_lt λq=> ?_
  have q':(n:Int)<((ns.length:Nat):Int):=by omega
  first
   | (rw[decide_eq_true q']at h5;exact absurd h5 (by decide))
   | (simp at h5;omega)
 cases hwl with
 | cons w1 w2=>
  cases w2
  cases w1 with
  | list ho hall=>exact⟨_,_,ns,rfl,rfl,ho,lG ns _ hall,hlen⟩
theorem wc (l:OpenLaw)(args:List WData):l.row.toRowW.claim.post args (.bool true) args=true:=
 postW_of (r:=l.row.toRowW) (X:=(true == true))
  (show WShape.has [] (.bool true) .bool=true by first | rfl | decide | simp[WShape.has,WShape.arms,WShape.armsAll])
  (show(WTm.eq .res (.lit (.bool true))).value [] { args:=args,res:=some (.bool true),after:=args }=some (.bool (true == true))from w_eq_bool (w_res rfl) w_lit) rfl
theorem attach_call {l:OpenLaw}{n:Nat}{q:JB}{loose:List Str}{XP:(Str->Option IW)->Heap->Prop}{YP:JY->Heap->Prop}{d:DefRec}
  (hn:l.most=some n) (hdf:d.params.defaults= [])
  (call:∀(w:JY) (s₀ s₁:IY) (mg mb:Str->Option IW) (fa:Addr) (o:Obj) (pm cd doc:IW) (a:Addr) (vs:List IW) (ns:List Int),
   Ground q loose [] XP w s₀ mg mb s₁.heap->YP w s₁.heap →
   s₁.heap.get? fa=some o->o.data= .func (docDef d.name d.params d.body d.scope pm cd doc)->s₁.heap.CodeRec cd d.name->mg d.name=some (.ref fa) →
   s₁.heap.get? a=some { cls:=.type "list",data:=.seq vs.toArray }->Mp vs ns->ns.length<=n->s₁.gens= #[] →
   codeAny (model l.prog w) callerA (.call (.ref fa) ⟨[.ref a],[]⟩) (λr s'=>r= .ok (.ret (.bool true))/\OldK s₁.heap s'.heap/\s'.os=s₁.os/\M0 s'.gens) s₁) :
  WalkO q loose XP YP l.row.toRowW d [] (λf vs=>PySem.call f vs):=by
 intro w s₀ s₁ mg mb G Y fa o pm cd doc dV kV ho hd hcd hD hmg hg args vals as hpre hlay hrd hwl hlo;obtain rfl:dV= .none:=Dflts.none hD hdf;obtain rfl:kV= .none:=Dflts.noKw hD;obtain⟨a,vs,ns,rfl,rfl,hobj,hints,hlen⟩:=v7 hn hpre hwl;refine enter_call (Ly (call w s₀ s₁ mg mb fa o pm cd doc a vs ns G Y ho (fd_plain hd) hcd hmg hobj hints hlen hg) λr s' hq=> ?_)
 obtain⟨rfl,h2,h3,h4⟩:=hq;exact⟨.inl ⟨.bool true,.bool true,[],rfl,λ_=>rfl,.bool true,wc l _,λ_=>⟨List.Pairwise.nil,λ_ hm=>(nomatch hm)⟩⟩,h2,h3,h4⟩
end Att
namespace L2
open PySem PySem.Spec PyProof.Rows
theorem oJ:∀{vs:List IW} {ns:List Int},Mp vs ns->Vals (ns.map V.int) vs
 | _,_,.nil=> .nil
 | _,_,.cons n t h=> .cons ⟨t,rfl⟩ (oJ h)
def Fs (H:Hp):Prop:=∀b,H b=none\/∃o xs,H b=some (.frz o (.lst xs))
theorem yI {P:JB}{w:JY}{K:IU}{mg mb:Str->Option IW}{CX:Ae}{k:Nat}{fa a:Addr}{fd:J0}{x:Str}{sp:Sp}{s₁:IY}{vs:List IW}{ns:List Int}
  (KX:K.In s₁.heap) (hns:s₁.heap.Ns JG mg) (hb:s₁.heap.Ns MP mb) (hbb:∀x:Str,x≠ "__name__"->mb x=JT x) (hlim:s₁.heap.NoLimit) (hg:s₁.gens= #[])
  (ha:s₁.heap.get? a=some { cls:=.type "list",data:=.seq vs.toArray }) (hi:Mp vs ns) (hl:ns.length<=sizeLine) (hr:Room k callerA)
  (F:∀base:Heap,K.In base->base.Ns JG mg->nR P w K mg base CX k fa fd [x] sp) (hbind:∀(s:IY) (u:IW),NC s fd ⟨[u],[]⟩ [(x,u)])
  (hsp:∀H:Hp,Fs H->SqL K H a (ns.map V.int)->sp [.ref a] H (λv _=>v= .bl true) λ_ _ _=>False)
  (hCX:∀H e s',CX [] H s₁ (λ_ _ _=>False) e s'->False) :
  codeAny (model P w) callerA (.call (.ref fa) ⟨[.ref a],[]⟩) (λr s'=>r= .ok (.ret (.bool true))/\OldK s₁.heap s'.heap/\s'.os=s₁.os/\M0 s'.gens) s₁:=by
 have rv:=oJ hi
 have lenV:=hi.length
 -- from an abstract heap in which nothing but the script may be tracked
 have core:∀H:Hp,Fs H->SqL K H a (ns.map V.int)->HOk P w H s₁.heap->(∀b,H b≠none->b=a)->(H a≠none->K.lookup a=none) →
   codeAny (model P w) callerA (.call (.ref fa) ⟨[.ref a],[]⟩) (λr s'=>r= .ok (.ret (.bool true))/\OldK s₁.heap s'.heap/\s'.os=s₁.os/\M0 s'.gens) s₁:=by
  intro H hO hS hok hA hK
  have base_of:∀{b:Addr} {o:Obj},s₁.heap.get? b=some o->H b=none->(qL s₁.heap H).get? b=some o:=λe n=>za e n
  have noA:∀{b:Addr} {o:Obj} {es:Array DictEntry} {ep:Nat},s₁.heap.get? b=some o->o.data= .dict es ep->H b=none:=λ{b o es ep} e d=>by
   cases q:H b with
   | none=>rfl
   | some u=>
    have e':b=a:=hA b (by rw[q];simp)
    subst e';rw[ha]at e;cases e
    have d':Data.seq vs.toArray _=Data.dict es ep:=d;cases d'
  have nsK:∀{b:Addr} {m:Str->Option IW},s₁.heap.Ns b m->(qL s₁.heap H).Ns b m:=λ{b m} ⟨o,es,ep,e,d,r⟩=>⟨o,es,ep,base_of e (noA e d),d,r⟩
  have hKb:K.In (qL s₁.heap H):=λb o e=>base_of (KX b o e) (by
   cases q:H b with
   | none=>rfl
   | some u=>
    have e':b=a:=hA b (by rw[q];simp)
    subst e';rw[hK (by rw[q];simp)]at e;cases e)
  have hM:Mod K mg (qL s₁.heap H):=⟨hKb,nsK hns,⟨mb,nsK hb,hbb⟩,let ⟨mc,h1,h2⟩:=hlim;⟨mc,nsK h1,h2⟩⟩
  have e0:Env0 P w K mg (qL s₁.heap H) callerA [] s₁ H:=⟨rfl,hM,λb o e=>Bq e,L3 (wQ _ _),trivial,λb hb=>absurd (show b∈([]:List Addr)from hb) (by simp),hok,.of_eq hg⟩
  refine Ly ((F _ hKb (nsK hns)).run callerA [] s₁ H ⟨[.ref a],[]⟩ [.ref a] [.ref a] _ _ hr e0 (hbind s₁ (.ref a)) (.cons rfl .nil) (hsp H hO hS)) λr s' h=> ?_
  cases r with
  | error e=>exact(hCX H e s' h).elim
  | ok fl=>
   cases fl with
   | next=>exact KL h
   | brk=>exact KL h
   | cont=>exact KL h
   | ret u=>
    obtain⟨v,H',os,bare,un,hok',r',q⟩:=h
    have q':v= .bl true:=q;subst q';obtain rfl:u=J4 true:=r';refine⟨rfl,OldK.of_keep λb o e=> ?_,os,bare⟩
    cases q:H b with
    | none=>exact un.keep b o e q (by intro z;exact absurd (show b∈([]:List Addr)from z) (by simp)) (by simp)
    | some u=>
     rcases hO b with z | ⟨ob,xs,z⟩
     ·rw[q]at z;cases z
     ·have z2:=un.frzs b ob _ z
      obtain⟨e1,_⟩:=hok b _ z;obtain⟨e2,_⟩:=hok' b _ z2;rw[e]at e1;cases e1;exact e2
 cases hk:K.lookup a with
 | some o=>
  -- the script is one of the module's own objects
  have e:=KX a o hk;rw[ha]at e;cases e
  refine core (λ_=>none) (λ_=> .inl rfl) (.inr ⟨_,vs.toArray,_,hk,rfl,rfl,rfl,by rw[Jn,lenV];exact hl,by simpa using rv⟩) (λb u z=>by have z':(none:Option HO)=some u:=z;cases z') (λb z=>absurd rfl z) λz=>absurd rfl z
 | none=>
  refine core (λb=>if b=a then some (.frz { cls:=.type "list",data:=.seq vs.toArray } (.lst (ns.map V.int)))else none) (λb=> ?_) (.inl (.inr ⟨{ cls:=.type "list",data:=.seq vs.toArray },if_pos rfl⟩)) (λb u z=> ?_) (λb z=> ?_) λ_=>hk
  ·by_cases hb:b=a
   ·exact .inr ⟨_,_,if_pos hb⟩
   ·exact .inl (if_neg hb)
  ·by_cases hb:b=a
   ·have z':=(if_pos hb).symm.trans z
    cases z';subst hb;exact⟨ha,by rw[Jd];exact hl,vs,_,rv,ha⟩
   ·have z':=(if_neg hb).symm.trans z
    cases z'
  ·by_cases hb:b=a
   ·exact hb
   ·exact absurd (if_neg hb) z
abbrev CX0:Ae:=λ_ _ _ _ _ _=>False
abbrev E0:XK:=λ_ _ _=>False
theorem u4 {X:Cx}:uG CX0 X E0:=λ_ _ _ _ _ _ _ h=>h.elim
structure Fun (K:IU)(x qual:Str)(st:Stmt)(f:Addr)(fd:J0):Prop where
 ex:∃(oc:IW) (od:Option Addr) (kV doc pm:IW) (an:Option Addr) (cdv ct:IW) (osl:Array (Option IW)),
  fd=LY x qual (eU st) (bJ st) (ai st) .none kV doc pm an cdv ct/\K.lookup f=some ⟨oc,od,.func fd,osl⟩/\NQ K cdv qual=true
 kp:KO K (.ref f)=true
section
variable {P:JB}{w:JY}{K:IU}{mg:Str->Option IW}{base:Heap}
theorem Fun.ok {x qual:Str}{st:Stmt}{f:Addr}{fd:J0}{N ps:List Str}{k:Nat}{sp:Sp}(F:Fun K x qual st f fd)(S:aw N ps (ai st))(len:∀vs H Q E,sp vs H Q E->vs.length=ps.length)
  (hbody:∀(cdv:IW) (A:JK) (outer:List Env) (s:IY) (H:Hp) (vs:List V) (Q:VK) (E:XK),Room k (A.deeper (envOfC qual (ai st) s.heap.objs.size f cdv))->sp vs H Q E →
   ∃t,PSs (fG CX0 P w K mg base N qual (ai st) f cdv A outer s H E).nox (bJ st) t/\t { nx:=λ_ H'=>Q .non H',rt:=Q } (start N vs) H):nR P w K mg base CX0 (k+1) f fd ps sp:=by
 obtain⟨oc,od,kV,doc,pm,an,cdv,ct,osl,rfl,lk,hcd⟩:=F.ex;refine Hg lk hcd S len λA outer s H vs Q E hr hsp=> ?_
 obtain⟨t,h,q⟩:=hbody cdv A outer s H vs Q E hr hsp;exact⟨t,h.nox,q⟩
theorem Fun.binds {x qual:Str}{st:Stmt}{f:Addr}{fd:J0}{ps:List Str}(F:Fun K x qual st f fd)
  (h:∀(kV doc pm:IW) (an:Option Addr) (cdv ct:IW) (us:List IW),us.length=ps.length->Pa (LY x qual (eU st) (bJ st) (ai st) .none kV doc pm an cdv ct) ⟨us,[]⟩=pure (ps.zip us)):Binds K fd ps []:=by
 obtain⟨oc,od,kV,doc,pm,an,cdv,ct,osl,rfl,lk,hcd⟩:=F.ex;exact .all (h kV doc pm an cdv ct)
theorem zi {x qual:Str}{st:Stmt}{f:Addr}{oc:IW}{od an:Option Addr}{osl:Array (Option IW)}{kV doc pm cdv ct:IW}(l:K.lookup f=some ⟨oc,od,.func (LY x qual (eU st) (bJ st) (ai st) .none kV doc pm an cdv ct),osl⟩)
  (c:NQ K cdv qual=true) (k:KO K (.ref f)=true):Fun K x qual st f (LY x qual (eU st) (bJ st) (ai st) .none kV doc pm an cdv ct):=⟨⟨oc,od,kV,doc,pm,an,cdv,ct,osl,rfl,l,c⟩,k⟩
end
theorem iteF {A B:Prop}(h:B):if false=true then A else B:=by
 rw[if_neg Jw];exact h
theorem iteT {A B:Prop}(h:A):if true=true then A else B:=by
 rw[if_pos rfl];exact h
def Same (H H':Hp):Prop:=∀b o,H b=some o->H' b=some o
theorem Same.refl (H:Hp):Same H H:=λ_ _ h=>h
theorem Same.trans {H H1 H2:Hp}(a:Same H H1)(b:Same H1 H2):Same H H2:=λc o h=>b c o (a c o h)
theorem jz {env:Env}:∀(names:List (Str×Li)) (acc:List (Str×Addr)),
  (∀x,(x,JL)∈names->∃c,env.cells.lookup x=some c) →
  (∀x c,acc.lookup x=some c->env.cells.lookup x=some c) →
  ∃cl,(forIn (m:=Sem) names acc (λx cs=>(if (x.2 == JL)=true then do let a <-cellOf env x.1;pure (Lf ((x.1,a)::cs))else pure (Lf cs))))=pure cl ∧
   (∀x c,cl.lookup x=some c->env.cells.lookup x=some c) ∧
   (∀x,(x,JL)∈names->∃c,cl.lookup x=some c)/\(∀x c,acc.lookup x=some c->∃c',cl.lookup x=some c')
 | [],acc,_,h=>⟨acc,rfl,h,λx hx=>by simp at hx,λx c e=>⟨c,e⟩⟩
 | (n,k)::r,acc,hf,h=>by
  by_cases hk:k=JL
  ·subst hk
   obtain⟨c,hc⟩:=hf n (by simp)
   have h':∀x c',((n,c)::acc).lookup x=some c'->env.cells.lookup x=some c':=λx c' e=>by
    rw[JO]at e
    cases q:x == n with
    | true=>
     rw[q]at e
     have e2:c=c':=JJ e
     have e3:x=n:=by simpa using q
     rw[<-e2,e3];exact hc
    | false=>rw[q]at e;exact h x c' e
   obtain⟨cl,e1,e2,e3,e4⟩:=jz r ((n,c)::acc) (λx hx=>hf x (IX _ hx)) h'
   refine⟨cl,?_,e2,λx hx=> ?_,λx c' e=> ?_⟩
   ·rw[Pj]
    simp only[beq_self_eq_true,if_true,cellOf,hc,pure_bind];exact e1
   ·rcases Jg.mp hx with z | z
    ·have z1:x=n:=by injection z
     subst z1;exact e4 x c (by simp[JO])
    ·exact e3 x z
   ·cases q:x == n with
    | true=>exact e4 x c (by simp[JO,q])
    | false=>exact e4 x c' (by simp[JO,q,e])
  ·have hb:(k == JL)=false:=by simpa using hk
   obtain⟨cl,e1,e2,e3,e4⟩:=jz r acc (λx hx=>hf x (IX _ hx)) h
   refine⟨cl,?_,e2,λx hx=> ?_,e4⟩
   ·rw[Pj]
    simp only[hb,Bool.false_eq_true,if_false,pure_bind];exact e1
   ·rcases Jg.mp hx with z | z
    ·have z1:JL=k:=by injection z
     exact absurd z1.symm hk
    ·exact e3 x z
theorem uw {env:Env}{scope:L8}(hf:∀x,(x,JL)∈scope.names->∃c,env.cells.lookup x=some c) :
  ∃cl,closureFor scope env=pure cl/\(∀x c,cl.lookup x=some c->env.cells.lookup x=some c)/\(∀x,(x,JL)∈scope.names->∃c,cl.lookup x=some c):=by
 obtain⟨cl,e1,e2,e3,_⟩:=jz scope.names [] hf (λx c e=>by simp at e)
 refine⟨cl,?_,e2,e3⟩
 unfold closureFor;refine Eq.trans ?_ (congrArg (λz=>z >>= pure) e1|>.trans (by simp))
 rfl
theorem qQ {pr:JB}{wd:JY}{Ar:JK}{Rz:Pq->IY->Prop}{s0:IY}{el tg it0:Expr}{cs:List Expr}{sc:L8}{ps:Pos}{itv av:IW}{ev:Env}(W:Nat->IY->Prop)
  (go:∀k st,W k st->wpAny (model pr wd) Ar (pyNext itv) (λr s1=>match r with
   | none=>Rz (.ok .next) s1
   | some v=>wpAny (model pr wd) Ar (LI tg itv v) (λ_ s2=>wpAny (model pr wd) Ar (assign tg ev v) (λ_ s3=>
     wpAny (model pr wd) Ar (forIn cs true λc b=>if b=true then do let z <-isTrue c ev (eval c ev);pure (Lf z)else pure (Lf b)) (λz s4=>
      if z=true then wpAny (model pr wd) Ar (eval el ev) (λy s5=>
       wpAny (model pr wd) Ar (call (.builtin "list.append") [av,y]) (λ_ s6=> ∃m,m<k/\W m s6) (λ_ _=>False) s5) (λ_ _=>False) s4
      else ∃m,m<k/\W m s4) (λ_ _=>False) s3) (λ_ _=>False) s2) (λ_ _=>False) s1) (λ_ _=>False) st)
  (k:Nat) (hk:W k s0):codeAny (model pr wd) Ar (.compLoop (.ListComp el [⟨tg,it0,cs,0⟩] sc ps) 0 itv av ev) Rz s0:=by
 refine codeAny_loop rfl W (λk st hw=> ?_) k hk
 show wpAny (model pr wd) Ar ((compTurn (.ListComp el [⟨tg,it0,cs,0⟩] sc ps) 0 itv av ev).onRaise (λz=>do Pt z ev;theTreesLotGoes z)) _ _ st
 refine wpAny_noted ?_
 rw[compTurn_list]
 have no:∀{α:Type} {t:Sem α} {Q Q':α->IY->Prop} {E':IW->IY->Prop} {x:IY},wpAny (model pr wd) Ar t Q (λ_ _=>False) x->(∀y z,Q y z->Q' y z)->wpAny (model pr wd) Ar t Q' E' x:=λh f=>KN h f λ_ _ z=>z.elim
 refine Ja (wpAny_standAt (Ja (no (go k st hw) λr s1 g1=> ?_)))
 cases r with
 | none=>exact Jl g1
 | some v=>
  refine Ja (no g1 λ_ s2 g2=>Ja (no g2 λ_ s3 g3=>Ja (no g3 λz s4 g4=> ?_)))
  cases z with
  | false=>exact Jl (And.intro rfl g4)
  | true=>exact Ja (Ja (no g4 λy s5 g5=>Ja (no g5 λ_ s6 g6=>Jl (Jl (And.intro rfl g6)))))
def cq (X:Cx)(scope:L8)(cl:List (Str×Addr))(N':List Str)(C:Addr)(s₀:IY)(H₀:Hp)(fp:List Addr):Cx:=
 { X with N:=N',s₀:=s₀,H₀:=H₀,env:=compEnvC scope cl C X.env,outer:=X.stack,stack:=X.stack,ex:=fp,fn:=λx=>scope.names.lookup x == some .cell,xe:=λ_ _=>False }
def eR (src:List (Option Nat))(σ:St):St:=src.map λo=>match o with
 | some i=>(σ[i]?).join
 | none=>none
theorem ig {env:Env}:∀{names:List (Str×Li)} {x:Str} {k:Li},
  (names.map λ(n,k)=>if (k == JL&&env.scope.kind == .function&&env.kindOf n == some .cell)then(n,Kh)else(n,k)).lookup x=some k →
  ∃k',names.lookup x=some k'/\(k=k'\/k'= .free)
 | [],_,_,h=>by simp at h
 | (n,k0)::r,x,k,h=>by
  have ih:=@ig env r x k
  have h':Kp x ((if (k0 == JL&&env.scope.kind == .function&&env.kindOf n == some .cell)=true then(n,Kh)else(n,k0))::(r.map λ(n,k)=>if (k == JL&&env.scope.kind == .function&&env.kindOf n == some .cell)then(n,Kh)else(n,k)))=some k:=h
  by_cases hc:(k0 == JL&&env.scope.kind == .function&&env.kindOf n == some .cell)=true
  ·rw[if_pos hc]at h'
   rw[JO]at h' ⊢
   cases hx:x == n with
   | true=>
    refine⟨k0,rfl,.inr ?_⟩
    have:=J6.mp hc|>.1
    have:=J6.mp this|>.1
    simpa using this
   | false=>rw[hx]at h';exact ih h'
  ·rw[if_neg hc]at h'
   rw[JO]at h' ⊢
   cases hx:x == n with
   | true=>rw[hx]at h';exact⟨k0,rfl,.inl (JJ h').symm⟩
   | false=>rw[hx]at h';exact ih h'
theorem iK {names:List (Str×Li)}{x:Str}{k:Li}(h:names.lookup x=some k):(x,k)∈names:=KF h
theorem gP {env:Env}:∀{names:List (Str×Li)} {x:Str},names.lookup x=some .free →
  (names.map λ(n,k)=>if (k == JL&&env.scope.kind == .function&&env.kindOf n == some .cell)then(n,Kh)else(n,k)).lookup x=some .cell ∨
  (names.map λ(n,k)=>if (k == JL&&env.scope.kind == .function&&env.kindOf n == some .cell)then(n,Kh)else(n,k)).lookup x=some .free
 | [],_,h=>by simp at h
 | (n,k0)::r,x,h=>by
  have ih:=@gP env r x
  show Kp x ((if (k0 == JL&&env.scope.kind == .function&&env.kindOf n == some .cell)=true then(n,Kh)else(n,k0))::_)=_\/Kp x ((if (k0 == JL&&env.scope.kind == .function&&env.kindOf n == some .cell)=true then(n,Kh)else(n,k0))::_)=_
  rw[JO]at h
  by_cases hc:(k0 == JL&&env.scope.kind == .function&&env.kindOf n == some .cell)=true
  ·rw[if_pos hc]
   rw[JO]
   cases hx:x == n with
   | true=>exact .inl rfl
   | false=>rw[hx]at h;exact ih h
  ·rw[if_neg hc]
   rw[JO]
   cases hx:x == n with
   | true=>rw[hx]at h;exact .inr h
   | false=>rw[hx]at h;exact ih h
section
variable {X:Cx}
structure LcScope (X:Cx)(scope:L8)(N':List Str)(src:List (Option Nat)):Prop where
 kind:scope.kind= .function
 cel:∀y∈scope.names,y.2= .cell->scope.names.lookup y.1=some .cell
 loc:∀y∈scope.names,y.2= .local->scope.names.lookup y.1=some .local
 len:src.length=N'.length
 from_:∀(j i:Nat) (x:Str),src[j]? =some (some i)->N'[j]? =some x->X.N[i]? =some x/\scope.names.lookup x=some .free
 free:∀x,(x,JL)∈scope.names->X.env.kindOf x=some .cell\/X.env.kindOf x=some .free
def FP (K:IU)(wi:TI)(src:List (Option Nat))(g:TG)(tc:TT)(te:TE):TE:=λσ H Q=>wi σ H λJ H1=> ∀D,H1 D=none->K.lookup D=none →
 ∃W:Nat->Nat->St->List V->Hp->Prop,(∃m,W 0 m (eR src σ) [] (upd H1 D (.lst [])))/\∀i m σ ys H,W i m σ ys H->H D=some (.lst ys) ∧
  ((J.stop i H/\Q (.ref D) H)\/(J.go i H/\ys.length<sizeLine/\∀x H',J.yld i H x H'->g x σ H' λσ2 H2=>tc σ2 H2 λb H3=>
   if b=true then te σ2 H3 λv H4=>H4 D=some (.lst ys)/\∃m',m'<m/\W (i+1) m' σ2 (ys++ [v]) (upd H4 D (.lst (ys++ [v])))else ∃m',m'<m/\W (i+1) m' σ2 ys H3))
def Ac (X:Cx)(ifs:List Expr)(t:TT):Prop:=
 ∀(pins:List (Addr×Obj)) (s:IY) (σ:St) (H:Hp) (Q:Bool->Hp->Prop),Inv X pins σ H s->t σ H Q →
  wpAny (model X.prog X.w) X.A (forIn ifs true λc r=>if r=true then do let ok <-isTrue c X.env (eval c X.env);pure (Lf ok)else pure (Lf r)) (TP X pins σ Q) X.xe s
def FI:TT:=λ_ H Q=>Q true H
theorem A9:Ac X [] FI:=λ_ _ _ H _ I h=>wpAny_tests_nil ⟨H,I,h⟩
theorem kP:∀(names:List (Str×Li)) (h:Heap) (acc:List (Str×Addr)),(∀x y c,acc.lookup x=some c->acc.lookup y=some c->x=y)->(∀x c,acc.lookup x=some c->c<h.objs.size) →
  (∀x c,(K5 h.objs.size names acc).lookup x=some c->acc.lookup x=some c\/(h.objs.size<=c/\(ND h names).IsCell c none)) ∧
  (∀x y c,(K5 h.objs.size names acc).lookup x=some c->(K5 h.objs.size names acc).lookup y=some c->x=y) ∧
  (∀x,(x,Kh)∉names->(K5 h.objs.size names acc).lookup x=acc.lookup x) ∧
  (∀x,((x,Kh)∈names\/∃c,acc.lookup x=some c)->∃c,(K5 h.objs.size names acc).lookup x=some c) ∧
  (∀x c,(x,Kh)∈names->(K5 h.objs.size names acc).lookup x=some c->h.objs.size<=c)
 | [],h,acc,hi,_=>⟨λ_ _ e=> .inl e,hi,λ_ _=>rfl,λx e=>e.elim (λz=>absurd z J9) id,λ_ _ z=>absurd z J9⟩
 | (n,k)::r,h,acc,hi,hl=>by
  unfold K5 ND
  by_cases hk:k= .cell
  ·subst hk
   rw[if_pos (by rfl),if_pos (by rfl)]
   have hz:(h.push { cls:=.type "cell",data:=.cell none }).objs.size=h.objs.size+1:=KR ..
   have lk:∀x,((n,h.objs.size)::acc).lookup x=if x=n then some h.objs.size else acc.lookup x:=λx=>by
    rw[JO]
    by_cases e:x=n
    ·rw[if_pos e,beq_iff_eq.mpr e]
    ·rw[if_neg e,beq_eq_false_iff_ne.mpr e]
   obtain⟨c1,c2,c3,c4,c5⟩:=kP r (h.push { cls:=.type "cell",data:=.cell none }) ((n,h.objs.size)::acc) (λx y c e1 e2=>by
     rw[lk]at e1 e2
     by_cases q1:x=n
     ·by_cases q2:y=n
      ·rw[q1,q2]
      ·rw[if_pos q1]at e1;rw[if_neg q2]at e2
       cases e1;exact absurd (hl _ _ e2) (JF _)
     ·rw[if_neg q1]at e1
      by_cases q2:y=n
      ·rw[if_pos q2]at e2
       cases e2;exact absurd (hl _ _ e1) (JF _)
      ·rw[if_neg q2]at e2;exact hi x y c e1 e2) (λx c e=>by
     rw[lk]at e;rw[hz]
     by_cases q:x=n
     ·rw[if_pos q]at e;cases e;exact M5 _
     ·rw[if_neg q]at e;exact Ot (hl x c e))
   rw[hz]at c1 c2 c3 c4 c5;refine⟨λx c e=> ?_,c2,λx hx=> ?_,λx hx=> ?_,λx c hx e=> ?_⟩
   ·rcases c1 x c e with z | z
    ·rw[lk]at z
     by_cases q:x=n
     ·rw[if_pos q]at z;cases z
      exact .inr ⟨Ji _,_,NF r _ _ _ (Jq _ rfl),rfl⟩
     ·rw[if_neg q]at z;exact .inl z
    ·exact .inr ⟨MN z.1,z.2⟩
   ·rw[c3 x λz=>hx (IX _ z),lk,if_neg λz=>hx (by rw[z];exact Je)]
   ·refine c4 x ?_
    rcases hx with hx | hx
    ·rcases Jg.mp hx with z | z
     ·cases z
      exact .inr ⟨_,by rw[lk,if_pos rfl]⟩
     ·exact .inl z
    ·by_cases q:x=n
     ·exact .inr ⟨_,by rw[lk,if_pos q]⟩
     ·exact .inr (by rw[lk,if_neg q];exact hx)
   ·rcases Jg.mp hx with z | z
    ·have q:x=n:=(Pc z).1
     rcases c1 x c e with y | y
     ·rw[lk,if_pos q]at y;cases y;exact Ji _
     ·exact MN y.1
    ·exact MN (c5 x c z e)
  ·have hb:¬ (k == Kh)=true:=λz=>hk (by simpa using z)
   rw[if_neg hb,if_neg hb];obtain⟨c1,c2,c3,c4,c5⟩:=kP r h acc hi hl;exact⟨c1,c2,λx hx=>c3 x λz=>hx (IX _ z),λx hx=>c4 x (hx.imp (λz=>(Jg.mp z).resolve_left λz=>hk (Pc z).2.symm) id),λx c hx=>c5 x c ((Jg.mp hx).resolve_left λz=>hk (Pc z).2.symm)⟩
theorem wu {M:Model}{A:JK}{E:IW->IY->Prop}{s:IY}{scope:L8}{globals:Addr}{cl:List (Str×Addr)}{qual:Str}{env:Env}{Q:Env->IY->Prop}
  (q:Q (newEnv scope s.heap.objs.size globals (K5 (s.heap.objs.size+1) scope.names cl) qual none .none (some env) MP) { s with heap:=ND (s.heap.push { cls:=.type "dict",data:=.dict #[] }) scope.names }) :
  wpAny M A (newFunctionEnv scope globals cl [] qual none .none (some env)) Q E s:=by
 simp only[newFunctionEnv,N6,if_true];refine Ja (wpAny_alloc (Ja (wpAny_layCells _ (λname kind cells=>by cases hkc:kind == Kh <;> simp[hkc]) _ _ _ _ ?_)))
 rw[show({ s with heap:=s.heap.push { cls:=.type "dict",data:=.dict #[] } }:IY).heap.objs.size=s.heap.objs.size+1 from KR ..]
 rw[List.forIn_nil];exact Ja (Jl (Jl q))
theorem vi {elt tg iter:Expr}{ifs:List Expr}{scope:L8}{pos fpos:Pos}{N':List Str}{src:List (Option Nat)}{wi:TI}{g:TG}{tc:TT}{te:TE}{use:Option (IW->Sem Unit)}{Qf:IW->IY->Prop}
  {pins:List (Addr×Obj)} {s:IY} {σ:St} {H:Hp} {Q:VK}
  (hc:X.calm=true) (S:LcScope X scope N' src) (hi:PI X tg iter wi)
  (block:∀cl C s₀ H₀ fp,PG (cq X scope cl N' C s₀ H₀ fp) tg g/\Ac (cq X scope cl N' C s₀ H₀ fp) ifs tc/\PE (cq X scope cl N' C s₀ H₀ fp) elt te)
  (hs:∀x,J5 iter X.env x=pure x) (I:Inv X pins σ H s) (h:FP X.K wi src g tc te σ H Q)
  (hend:∀(D C:Addr) (H':Hp) (s':IY),(∃m,s'.heap.Ns C m)->(∀h',L1 C s'.heap h'->Inv X pins σ H' { s' with heap:=h' })->(H' C=none/\C≠X.env.locals/\X.s₀.heap.objs.size<=C/\(∀x c,X.env.cells.lookup x=some c->c≠C)/\∀p∈X.pn++pins,p.1≠C)->Q (.ref D) H' →
   compPost (model X.prog X.w) X.A X.xe use Qf (.ref D) C (.ok .next) s') :
  wpAny (model X.prog X.w) X.A (comprehension (.ListComp elt [⟨tg,iter,ifs,0⟩] scope pos) scope X.env fpos (newList []) false (eval iter X.env) use) Qf X.xe s:=by
 have hcell:∀x,(x,JL)∈scope.names->∃c,X.env.cells.lookup x=some c:=λx hx=>I.ok.has x (S.free x hx)
 obtain⟨cl0,hcl,cl01,cl02⟩:=uw (env:=X.env) (scope:=scope) hcell;refine wpAny_comprehension_free (use:=use) rfl hs hcl S.kind S.loc (bR (hi pins s σ H _ I h) λv s1 h1=>bR h1 λitv s2 h2=> ?_)
 obtain⟨it,fp,tn,J,H2,e,I2,T,st2,f2,hq⟩:=h2;subst e
 -- the new list
 refine Ks ?_
 have hD:H2 s2.heap.objs.size=none:=I2.hok.fresh (Ji _)
 have hDK:X.K.lookup s2.heap.objs.size=none:=by
  cases q:X.K.lookup s2.heap.objs.size with
  | none=>rfl
  | some o=>exact absurd (Jj (I2.kIn _ o q)) (JF _)
 obtain⟨W,⟨m0,w0⟩,turn⟩:=hq s2.heap.objs.size hD hDK
 have I3:=I2.IA (its:=[]) (ys:=[]) (t':=s2.toks) .nil (KS _)
 generalize hs3:({ s2 with heap:=s2.heap.push { cls:=.type "list",data:=.seq ([]:List IW).toArray },toks:=s2.toks }:IY)=s3 at I3
 generalize hH3:upd H2 s2.heap.objs.size (.lst [])=H3 at I3 w0
 have hDsz:s2.heap.objs.size<s3.heap.objs.size:=by rw[<-hs3];simp[KR]
 have fr3:∀b∈fp,H3 b=none:=λb hb=>by
  obtain⟨o,eo,_⟩:=T.obj _ _ st2 b hb;rw[<-hH3,aE (Kb (Jj eo))];exact(f2 b hb).1
 have st3:tn 0 s3.heap:=T.keep _ _ _ st2 λb hb o e=>by rw[<-hs3];exact Jf _ e
 have f3:∀b∈fp,nQ X pins H3 b:=λb hb=>⟨fr3 b hb,(f2 b hb).2⟩
 have D3:H3 s2.heap.objs.size=some (.lst []):=by rw[<-hH3];exact aQ
 generalize s2.heap.objs.size=D at*
 clear hs3 hH3 hD hDK
 -- the block's frame
 refine wu ?_
 have old:∀b o,s3.heap.get? b=some o->(ND (s3.heap.push { cls:=.type "dict",data:=.dict #[] }) scope.names).get? b=some o:=λb o e=>NF _ _ b o (Jf _ e)
 have hns₁:(ND (s3.heap.push { cls:=.type "dict",data:=.dict #[] }) scope.names).Ns s3.heap.objs.size (λ_=>none):=(Heap.Ns.new s3.heap (.type "dict")).keeps (NF _ _)
 have hz3:(s3.heap.push { cls:=.type "dict",data:=.dict #[] }).objs.size=s3.heap.objs.size+1:=KR ..
 have lt0:∀x c,cl0.lookup x=some c->c<s3.heap.objs.size:=λx c e=>let ⟨_,ic⟩:=I3.cell x c (cl01 x c e);ic.lt
 obtain⟨c1,c2,c3,c4,c5⟩:=kP scope.names (s3.heap.push { cls:=.type "dict",data:=.dict #[] }) cl0 (λx y c e1 e2=>I3.ok.inj x y c (cl01 x c e1) (cl01 y c e2)) λx c e=>by rw[hz3];exact Ot (lt0 x c e)
 rw[hz3]at c1 c2 c3 c4 c5
 generalize hcl':K5 (s3.heap.objs.size+1) scope.names cl0=cl at*
 generalize hh₁:ND (s3.heap.push { cls:=.type "dict",data:=.dict #[] }) scope.names=h₁ at*
 have below:∀b o,s3.heap.get? b=some o->b≠s3.heap.objs.size:=λb o e=>Kb (Jj e)
 -- a cell of the block's: one from around,or a new one
 have cl1:∀x c,cl.lookup x=some c->X.env.cells.lookup x=some c\/(s3.heap.objs.size<c/\h₁.IsCell c none):=λx c e=>(c1 x c e).imp (cl01 x c) id
 generalize hC:s3.heap.objs.size=C at*
 have stk:∀b,b≠X.env.locals->b∉X.fs->b∉ny X.stack:=λb h1 h2 z=>(Jg.mp (I3.Ik b z)).elim h1 h2
 have apart:∀b∈fp,∀x c,cl.lookup x=some c->c≠b:=λb hb x c e=>by
  rcases cl1 x c e with z | z
  ·exact(f3 b hb).2.2.2.2.1 x c z
  ·obtain⟨o,eo,_⟩:=T.obj _ _ st3 b hb
   have h1:=Jj eo;rw[hC]at h1;exact My (Nat.lt_trans h1 z.1)
 have I4:Inv (cq X scope cl N' C s3 H3 fp) pins (eR src σ) H3 { s3 with heap:=h₁ }:=by
  refine⟨⟨I3.ok.mod,S.kind,I3.ok.glob,I3.ok.blt,L3 hC,c2,λx hx=> ?_,λx c hx e=>Lx (hC▸c5 x c (iK (beq_iff_eq.mp hx)) e),I3.ok.hd,I3.ok.frames,.inl rfl,
    λb hb=>⟨?_,λx c e=>apart b hb x c e⟩,I3.bs,JV I3.ok.bsz I3.sz,λb o e z=> ?_,λb hb=>stk b (f3 b hb).2.1 (f3 b hb).2.2.1,I3.stack,I3.HX⟩,
   rfl,I3.bare,Un.kept old,⟨_,hns₁,λj x v e1 e2 e3=> ?_⟩,λx c e=> ?_,I3.hok.fresh (L3 hC),λx c e=>(cl1 x c e).elim (I3.freeC x c) λz=>I3.hok.fresh (by rw[hC];exact Lx z.1),λp hp=> ?_,I3.hok.kept old,?_⟩
  ·have key:∀k,(relabel scope X.env).names.lookup x=some k->(k= .cell\/k= .free)->∃c,cl.lookup x=some c:=λk e hk=>by
    obtain⟨k',e',z⟩:=ig e
    have hk':k'= .cell\/k'= .free:=z.elim (λz=>z▸hk) .inr
    rcases hk' with q | q
    ·exact c4 x (.inl (q▸iK e'))
    ·exact c4 x (.inr (cl02 x (q▸iK e')))
   rcases hx with hx | hx
   ·exact key _ hx (.inl rfl)
   ·exact key _ hx (.inr rfl)
  ·obtain⟨o,eo,_⟩:=T.obj _ _ st3 b hb
   show b≠C
   exact below b o eo
  ·have z':b∈fp:=z
   obtain⟨_,_,_,z1,_⟩:=f3 b z';rcases z1 with z1 | z1
   ·exact I3.ok.noex b o e z1
   ·exact absurd (Jp (Jj (I3.ok.bs b o e).1) z1) (JF _)
  ·unfold eR at e2
   rw[Jz]at e2
   cases q:src[j]? with
   | none=>rw[q]at e2;simp at e2
   | some o=>
    rw[q]at e2
    cases o with
    | none=>simp at e2
    | some i=>
     have e2':(σ[i]?).join=some v:=by simpa using e2
     have e2'':σ[i]? =some (some v):=by
      cases q2:σ[i]? with
      | none=>rw[q2]at e2';simp at e2'
      | some z=>rw[q2]at e2';simp at e2';rw[e2']
     obtain⟨hN,hfree⟩:=S.from_ j i x q e1
     have hm:=iK hfree
     have hk:=S.free x hm;obtain⟨m,hn,hl⟩:=I3.loc
     have hv:qW X.env.scope x:=by
      rcases hk with z | z
      ·exact .inr (.inl z)
      ·exact .inr (.inr z)
     obtain⟨u,r,l⟩:=hl i x v hN e2'' hv;refine⟨u,r,.inr ⟨?_,?_⟩⟩
     ·exact gP hfree
     ·rcases l with⟨z,_⟩ | ⟨_,c,ec,ic⟩
      ·rcases hk with z' | z' <;> rw[z']at z <;> cases z
      ·obtain⟨c',ec0⟩:=cl02 x hm
       have ec':cl.lookup x=some c':=(c3 x λz=>by have:=S.cel _ z rfl;rw[hfree]at this;cases this).trans ec0
       have:=cl01 x c' ec0;rw[ec]at this;cases this;obtain⟨o,ho,hd⟩:=ic;exact⟨c,ec',o,old _ _ ho,hd⟩
  ·rcases cl1 x c e with z | z
   ·obtain⟨v,o,ho,hd⟩:=I3.cell x c z
    exact⟨v,o,old _ _ ho,hd⟩
   ·exact⟨none,z.2⟩
  ·obtain⟨e,n,ne,nf,d⟩:=I3.pin p hp
   exact⟨old _ _ e,n,below _ _ e,stk _ ne nf,d⟩
  ·show(eR src σ).length=N'.length
   unfold eR;rw[Jd];exact S.len
 obtain⟨bG,bI,bE⟩:=block cl C s3 H3 fp
 have stat:∀{H':Hp},(∀b∈fp,H' b=none)->∀b∈fp,nQ (cq X scope cl N' C s3 H3 fp) pins H' b:=λhn b hb=>by
  obtain⟨o,eo,_⟩:=T.obj _ _ st3 b hb;exact⟨hn b hb,below b o eo,stk b (f3 b hb).2.1 (f3 b hb).2.2.1,.inl hb,apart b hb,(f3 b hb).2.2.2.2.2⟩
 have st4:tn 0 h₁:=T.keep _ _ _ st3 λb hb o e=>old b o e
 -- behind the block
 have after:∀(H':Hp) (s':IY) (σ':St),Inv (cq X scope cl N' C s3 H3 fp) pins σ' H' s'->Q (.ref D) H' →
   compPost (model X.prog X.w) X.A X.xe use Qf (.ref D) C (.ok .next) s':=λH' s' σ' I' q=>by
  obtain⟨m,hn,_⟩:=id I'.loc
  have fC:X.s₀.heap.objs.size<=C:=by rw[<-hC];exact I3.sz
  have ltC:∀b o,s3.heap.get? b=some o->b<C:=λb o e=>by rw[<-hC];exact Jj e
  refine hend D C H' s' ⟨m,hn⟩ (λh' hsb=> ?_) ⟨I'.free,?_,fC,λx c e z=> ?_,λp hp z=> ?_⟩ q
  rotate_left
  ·have:=I3.lt;rw[hC]at this;exact My this
  ·obtain⟨v,ic⟩:=I3.cell x c e
   have:=ic.lt;rw[hC,z]at this;exact JF _ this
  ·have:=ltC _ _ (I3.pin p hp).1;rw[z]at this;exact JF _ this
  have u:Un (ny X.stack) fp H3 H' s3.heap s'.heap:=I'.base
  have lift:∀b o,s3.heap.get? b=some o->∀o',s'.heap.get? b=some o'->h'.get? b=some o':=λb o e o' e'=>hsb.extBut b o' (below b o e) e'
  have u':Un (ny X.stack) fp H3 H' s3.heap h':=
   ⟨λb o e n hb hx=>lift b o e o (u.keep b o e n hb hx),λb o e n hb hx=>by
     obtain⟨sl,z⟩:=u.slot b o e n hb hx;exact⟨sl,lift b o e _ z⟩,u.free,λb o e hx=>by
     obtain⟨o',z⟩:=u.there b o e hx;exact⟨o',lift b o e _ z⟩,u.tups,u.frzs,u.tbls⟩
  have hCn:H' C=none:=I'.free
  have hok':HOk X.prog X.w H' h':=λb ob e=>by
   refine(I'.hok b ob e).Ia (λc w' hc' q'=>(hsb.2 c ?_).trans q') (λ_ q=>q) λ_ _ q=>q
   rintro rfl
   rcases hc' with rfl | hc'
   ·rw[hCn]at e;cases e
   ·rw[hCn]at hc';cases hc'
  have I5:Inv X pins σ H' { s' with heap:=h' }:=I3.Io (s':={ s' with heap:=h' }) (ch:=fp) I'.os u' hok' I'.bare λb hb=>⟨(f3 b hb).2.2.2.1,(f3 b hb).2.1,(f3 b hb).2.2.2.2.1,(f3 b hb).2.2.2.2.2⟩
  exact I5
 have loop:codeAny (model X.prog X.w) X.A (.compLoop (.ListComp elt [⟨tg,iter,ifs,0⟩] scope pos) 0 (.ref it) (.ref D) (compEnvC scope cl C X.env))
   (compPost (model X.prog X.w) X.A X.xe use Qf (.ref D) C) { s3 with heap:=h₁ }:=by
  refine qQ (λn s'=> ∃i σ' ys H',Inv (cq X scope cl N' C s3 H3 fp) pins σ' H' s'/\tn i s'.heap/\(∀b∈fp,H' b=none)/\W i n σ' ys H') ?_ m0 ⟨0,_,[],H3,I4,st4,fr3,w0⟩
  rintro n s5 ⟨i,σ5,ys,H5,I5,st5,fr5,w5⟩
  obtain⟨hDl,alt⟩:=turn i n σ5 ys H5 w5;rcases alt with⟨stop,qn⟩ | ⟨go,hlen,step⟩
  ·refine bR (T.done (cq X scope cl N' C s3 H3 fp) rfl rfl rfl hc i pins s5 σ5 H5 _ I5 (stat fr5) st5 stop) λr s6 ⟨hr,I6⟩=> ?_
   subst hr;exact after H5 s6 σ5 I6 qn
  ·refine bR (T.item (cq X scope cl N' C s3 H3 fp) rfl rfl rfl hc i pins s5 σ5 H5 _ I5 (stat fr5) st5 go) λr s6 ⟨u,hr,h6⟩=> ?_
   subst hr;refine bR h6 λ_ s7 hh_=> ?_
   obtain⟨x,H7,I7,r7,y7,st7,fr7⟩:=hh_
   have I7':=I7.pinned (stat fr7) (T.obj _ _ st7);refine bR (bG _ s7 σ5 H7 x u _ I7' r7 (step x H7 y7)) λ_ s8 hh_=> ?_
   obtain⟨σ8,H8,I8,q8⟩:=hh_;refine bR (bI _ s8 σ8 H8 _ I8 q8) λok s9 hh_=> ?_
   obtain⟨H9,I9,q9⟩:=hh_
   have again:∀{σx:St} {Hx:Hp} {sx:IY} {ys':List V},Inv (cq X scope cl N' C s3 H3 fp) (pins++mB fp s7.heap) σx Hx sx->(∃m',m'<n/\W (i+1) m' σx ys' Hx) →
     ∃m,m<n/\∃i σ' ys H',Inv (cq X scope cl N' C s3 H3 fp) pins σ' H' sx/\tn i sx.heap/\(∀b∈fp,H' b=none)/\W i m σ' ys H':=λ{σx Hx sx ys'} Ix nx=>by
    obtain⟨m',hm,wx⟩:=nx;refine⟨m',hm,i+1,σx,ys',Hx,Ix.HV,T.keep _ _ _ st7 λb hb o e=>(Ix.pin (b,o) (Jx _ (Jx _ (gw hb e)))).1,λb hb=> ?_,wx⟩
    obtain⟨o,e,d⟩:=T.obj _ _ st7 b hb;exact(Ix.pin (b,o) (Jx _ (Jx _ (gw hb e)))).2.1
   cases ok with
   | false=>
    rw[if_neg Jw]at q9 ⊢
    exact again I9 q9
   | true=>
    rw[if_pos rfl]at q9 ⊢;refine bR (bE _ s9 σ8 H9 _ I9 q9) λv s10 hh_=> ?_
    obtain⟨y,H10,I10,r10,hD10,q10⟩:=hh_;refine bR (kJ _ s10 σ8 H10 (.ref D) [y] (.ref D) [v] (λ_ H'=>H'=upd H10 D (.lst (ys++ [y]))) I10 rfl (.cons r10 .nil) ⟨D,ys,y,rfl,rfl,hD10,hlen,rfl⟩) λ_ s11 hh_=> ?_
    obtain⟨_,H11,I11,_,e11⟩:=hh_;subst e11;exact again I11 q10
 exact codeAny_compStart_list loop (T.self _ 0 _ _ _ st4 loop)
theorem x9 {elt tg iter:Expr}{ifs:List Expr}{scope:L8}{pos:Pos}{N':List Str}{src:List (Option Nat)}{wi:TI}{g:TG}{tc:TT}{te:TE}
  (hc:X.calm=true) (S:LcScope X scope N' src) (hi:PI X tg iter wi)
  (block:∀cl C s₀ H₀ fp,PG (cq X scope cl N' C s₀ H₀ fp) tg g/\Ac (cq X scope cl N' C s₀ H₀ fp) ifs tc/\PE (cq X scope cl N' C s₀ H₀ fp) elt te)
  (hs:∀x,J5 iter X.env x=pure x:=by intro _;rfl) :
  PE X (.ListComp elt [⟨tg,iter,ifs,0⟩] scope pos) (FP X.K wi src g tc te):=by
 intro pins s σ H Q I h;rw[eval_ListComp];exact vi (use:=none) hc S hi block hs I h λD C H' s' ⟨m,hn⟩ inv _ q=>⟨m,hn,λh' hsb=>⟨.ref D,H',inv h' hsb,rfl,q⟩⟩
theorem Gq {elt tg iter:Expr}{ifs:List Expr}{scope:L8}{pos py spos:Pos}{N':List Str}{src:List (Option Nat)}{wi:TI}{g:TG}{tc:TT}{te:TE}{i:Nat}{y:Str}
  (hc:X.calm=true) (S:LcScope X scope N' src) (hi:PI X tg iter wi)
  (block:∀cl C s₀ H₀ fp,PG (cq X scope cl N' C s₀ H₀ fp) tg g/\Ac (cq X scope cl N' C s₀ H₀ fp) ifs tc/\PE (cq X scope cl N' C s₀ H₀ fp) elt te)
  (hN:X.N.Nodup) (hiy:X.N[i]? =some y) (hy:Loc X.env.scope y) (hsw:JU (.ListComp elt [⟨tg,iter,ifs,0⟩] scope pos) (some (.Name y py)) spos.line X.env=pure true)
  (hf:X.fn y=true\/X.env.scope.names.lookup y=some .local) (hs:∀x,J5 iter X.env x=pure x:=by intro _;rfl) :
  PS X (.Assign [.Name y py] (.ListComp elt [⟨tg,iter,ifs,0⟩] scope pos) spos) (Ay (FP X.K wi src g tc te) (zh i)):=by
 intro pins s σ H D I h;rw[exec_Assign_Name_used _ _ _ _ hsw];refine Ja (wpAny_standAt (Ja ?_))
 show wpAny (model X.prog X.w) X.A (do let _ <-comprehension (.ListComp elt [⟨tg,iter,ifs,0⟩] scope pos) scope X.env _ (newList []) false (eval iter X.env) (some (assign (.Name y py) X.env))) _ _ s
 refine Ja (bR (vi (use:=some (assign (.Name y py) X.env)) (Qf:=λ_ s'=>SP X pins D .next s') (Q:=λv H'=>D.nx (σ.set i (some v)) H') hc S hi block hs I h λL C H' s' ⟨m,hn⟩ inv ⟨c0,c1,c2,c3,c4⟩ q=> ?_) λ_ s' hq=>Jl (Jl hq))
 have I0:Inv X pins σ H' s':=inv s'.heap (Heap.SameBut.refl ..)
 show wpAny (model X.prog X.w) X.A (assign (.Name y py) X.env (.ref L)) _ _ s'
 refine Oy (oK I0 hN hiy hy (v:=.ref L) rfl (λs2 I2 ⟨b,sb,hb⟩=> ?_) hf)
 have hbC:C≠b:=by
  rcases hb with z | z
  ·rw[z];exact c1
  ·exact λw=>c3 y b z w.symm
 refine⟨m,hn.sameBut sb hbC,λh' hsb=> ?_⟩
 exact⟨_,H',I2.turned (t':=s2.toks) (λb' o hb' e=>(hsb.2 b' hb').trans e) c0 c1 (.inr c2) c3 c4,q⟩
end
end L2
namespace Tr
open PySem PySem.Spec PyProof.Rows L2
def bP (K:IU)(c:Str):Addr:=match Lw K JG c with
 | some (some (.ref C))=>C
 | _=>0
def CA:T->Option Key
 | .int i=>some (.inl i)
 | .str x=>some (.inr x)
 | _=>none
def nq:List T->Option (List Key)
 | [] =>some []
 | t::l=>match CA t,nq l with
  | some k,some r=>some (k::r)
  | _,_=>none
def keyOf:T->Option (List Key)
 | .tup l=>nq l
 | _=>none
inductive Rs (α:Type) where
 | ok (a:α) | err (c:Str) | bad
def Rs.bind {α β:Type}(x:Rs α)(f:α->Rs β):Rs β:=match x with
 | .ok a=>f a
 | .err c=> .err c
 | .bad=> .bad
instance:Monad Rs where
 pure:=Rs.ok
 bind:=Rs.bind
@[simp] theorem ay {α β:Type} (a:α) (f:α->Rs β):(Rs.ok a >>= f)=f a:=rfl
@[simp] theorem HD {α:Type} (a:α):(pure a:Rs α)=Rs.ok a:=rfl
@[simp] theorem Ht {α β:Type} (f:α->Rs β):((Rs.bad:Rs α) >>= f)= .bad:=rfl
@[simp] theorem Hl {α β:Type} (c:Str) (f:α->Rs β):((Rs.err c:Rs α) >>= f)= .err c:=rfl
abbrev Ow:=Addr->Prop
mutual
def Rep (K:IU)(O:Ow)(H:Hp):T->V->Prop
 | .non,v=>v= .non
 | .bl b,v=>v= .bl b
 | .int i,v=>v= .int i
 | .str x,v=>v= .str x
 | .tup l,v=> ∃a vs,v= .ref a/\¬ O a/\H a=some (.tup vs)/\Reps K O H l vs
 | .lst l,v=> ∃a vs,v= .ref a/\¬ O a/\H a=some (.lst vs)/\Reps K O H l vs
 | .scr l,v=> ∃a,v= .ref a/\¬ O a/\SqL K H a (l.map V.int)
 | .dct ks ts,v=> ∃a kvs,v= .ref a/\¬ O a/\Rd H a (.dT kvs)/\ks.map keyOf=kvs.map (λp=>some p.1)/\Reps K O H ts (kvs.map (·.2))
 | .ob C ns ts,v=> ∃a dx fs,v= .ref a/\¬ O a/\H a=some (.ins (bP K C) dx fs)/\fs.map (·.1)=ns/\Reps K O H ts (fs.map (·.2))
def Reps (K:IU)(O:Ow)(H:Hp):List T->List V->Prop
 | [],vs=>vs= []
 | t::r,vs=> ∃v ws,vs=v::ws/\Rep K O H t v/\Reps K O H r ws
end
def SameO (P:Ow)(H H':Hp):Prop:=∀b o,H b=some o->¬ P b->H' b=some o
theorem SameO.of {P:Ow}{H H':Hp}(h:Same H H'):SameO P H H':=λb o e _=>h b o e
theorem Rd.Iy {P:Ow}{H H':Hp}{a:Addr}{u:HO}(h:SameO P H H')(n:¬ P a)(q:Rd H a u):Rd H' a u:=q.elim (λe=> .inl (h _ _ e n)) λ⟨o,e⟩=> .inr ⟨o,h _ _ e n⟩
theorem SqL.keep {K:IU}{P:Ow}{H H':Hp}{a:Addr}{vs:List V}(h:SameO P H H')(n:¬ P a)(q:SqL K H a vs):SqL K H' a vs:=by
 rcases q with(q | ⟨o,q⟩) | q
 ·exact .inl (.inl (h _ _ q n))
 ·exact .inl (.inr ⟨o,h _ _ q n⟩)
 ·exact .inr q
mutual
theorem Rep.keep {K:IU}{O P:Ow}{H H':Hp}(h:SameO P H H')(sub:∀a,P a->O a):∀{t:T} {v:V},Rep K O H t v->Rep K O H' t v
 | .non,_,r=>by unfold Rep at r ⊢;exact r
 | .bl _,_,r=>by unfold Rep at r ⊢;exact r
 | .int _,_,r=>by unfold Rep at r ⊢;exact r
 | .str _,_,r=>by unfold Rep at r ⊢;exact r
 | .tup l,_,r=>by
  unfold Rep at r ⊢;obtain⟨a,vs,e,n,q,z⟩:=r
  exact⟨a,vs,e,n,h _ _ q (λp=>n (sub a p)),Reps.keep h sub z⟩
 | .lst l,_,r=>by
  unfold Rep at r ⊢;obtain⟨a,vs,e,n,q,z⟩:=r
  exact⟨a,vs,e,n,h _ _ q (λp=>n (sub a p)),Reps.keep h sub z⟩
 | .scr l,_,r=>by
  unfold Rep at r ⊢;obtain⟨a,e,n,q⟩:=r
  exact⟨a,e,n,SqL.keep h (λp=>n (sub a p)) q⟩
 | .dct ks ts,_,r=>by
  unfold Rep at r ⊢;obtain⟨a,kvs,e,n,q,k,z⟩:=r
  exact⟨a,kvs,e,n,Rd.Iy h (λp=>n (sub a p)) q,k,Reps.keep h sub z⟩
 | .ob C ns ts,_,r=>by
  unfold Rep at r ⊢;obtain⟨a,dx,fs,e,n,q,k,z⟩:=r;exact⟨a,dx,fs,e,n,h _ _ q (λp=>n (sub a p)),k,Reps.keep h sub z⟩
theorem Reps.keep {K:IU}{O P:Ow}{H H':Hp}(h:SameO P H H')(sub:∀a,P a->O a):∀{l:List T} {vs:List V},Reps K O H l vs->Reps K O H' l vs
 | [],_,r=>by unfold Reps at r ⊢;exact r
 | t::l,_,r=>by
  unfold Reps at r ⊢;obtain⟨v,ws,e,p,q⟩:=r;exact⟨v,ws,e,Rep.keep h sub p,Reps.keep h sub q⟩
end
mutual
theorem Rep.less {K:IU}{O O':Ow}{H:Hp}(sub:∀a,O' a->O a):∀{t:T} {v:V},Rep K O H t v->Rep K O' H t v
 | .non,_,r=>by unfold Rep at r ⊢;exact r
 | .bl _,_,r=>by unfold Rep at r ⊢;exact r
 | .int _,_,r=>by unfold Rep at r ⊢;exact r
 | .str _,_,r=>by unfold Rep at r ⊢;exact r
 | .tup l,_,r=>by
  unfold Rep at r ⊢;obtain⟨a,vs,e,n,q,z⟩:=r
  exact⟨a,vs,e,λp=>n (sub a p),q,Reps.less sub z⟩
 | .lst l,_,r=>by
  unfold Rep at r ⊢;obtain⟨a,vs,e,n,q,z⟩:=r
  exact⟨a,vs,e,λp=>n (sub a p),q,Reps.less sub z⟩
 | .scr l,_,r=>by
  unfold Rep at r ⊢;obtain⟨a,e,n,z⟩:=r
  exact⟨a,e,λp=>n (sub a p),z⟩
 | .dct ks ts,_,r=>by
  unfold Rep at r ⊢;obtain⟨a,kvs,e,n,q,k,z⟩:=r
  exact⟨a,kvs,e,λp=>n (sub a p),q,k,Reps.less sub z⟩
 | .ob C ns ts,_,r=>by
  unfold Rep at r ⊢;obtain⟨a,dx,fs,e,n,q,k,z⟩:=r;exact⟨a,dx,fs,e,λp=>n (sub a p),q,k,Reps.less sub z⟩
theorem Reps.less {K:IU}{O O':Ow}{H:Hp}(sub:∀a,O' a->O a):∀{l:List T} {vs:List V},Reps K O H l vs->Reps K O' H l vs
 | [],_,r=>by unfold Reps at r ⊢;exact r
 | t::l,_,r=>by
  unfold Reps at r ⊢;obtain⟨v,ws,e,p,q⟩:=r;exact⟨v,ws,e,Rep.less sub p,Reps.less sub q⟩
end
section
variable {K:IU}{O:Ow}{H H':Hp}{t:T}{v:V}{l:List T}{vs:List V}
theorem Rep.same (h:Same H H')(r:Rep K O H t v):Rep K O H' t v:=Rep.keep (P:=λ_=>False) (SameO.of h) (λ_ z=>z.elim) r
theorem Reps.same (h:Same H H')(r:Reps K O H l vs):Reps K O H' l vs:=Reps.keep (P:=λ_=>False) (SameO.of h) (λ_ z=>z.elim) r
theorem Rep.Ir:Rep K O H .non .non:=by unfold Rep;rfl
theorem Rep.bl_ (b:Bool):Rep K O H (.bl b) (.bl b):=by unfold Rep;rfl
theorem Rep.HS (i:Int):Rep K O H (.int i) (.int i):=by unfold Rep;rfl
theorem Rep.IJ (x:Str):Rep K O H (.str x) (.str x):=by unfold Rep;rfl
theorem Rep.Fk:Rep K O H (.tup l) v↔ ∃a vs,v= .ref a/\¬ O a/\H a=some (.tup vs)/\Reps K O H l vs:=by unfold Rep;exact LS
theorem Rep.Do:Rep K O H (.lst l) v↔ ∃a vs,v= .ref a/\¬ O a/\H a=some (.lst vs)/\Reps K O H l vs:=by unfold Rep;exact LS
theorem Rep.HR {ks ts:List T}:Rep K O H (.dct ks ts) v↔ ∃a kvs,v= .ref a/\¬ O a/\Rd H a (.dT kvs)/\ks.map keyOf=kvs.map (λp=>some p.1)/\Reps K O H ts (kvs.map (·.2)):=by unfold Rep;exact LS
theorem Rep.Ii {C:Str}{ns:List Str}{ts:List T}:Rep K O H (.ob C ns ts) v↔ ∃a dx fs,v= .ref a/\¬ O a/\H a=some (.ins (bP K C) dx fs)/\fs.map (·.1)=ns/\Reps K O H ts (fs.map (·.2)):=by unfold Rep;exact LS
theorem Rep.Da {i:Int}:Rep K O H (.int i) v↔v= .int i:=by unfold Rep;exact LS
theorem Rep.FM {b:Bool}:Rep K O H (.bl b) v↔v= .bl b:=by unfold Rep;exact LS
theorem Rep.Gc {b:Str}:Rep K O H (.str b) v↔v= .str b:=by unfold Rep;exact LS
theorem Rep.GT:Rep K O H .non v↔v= .non:=by unfold Rep;exact LS
theorem Reps.GM:Reps K O H [] []:=by unfold Reps;rfl
theorem Reps.FS (r:Rep K O H t v)(q:Reps K O H l vs):Reps K O H (t::l) (v::vs):=by unfold Reps;exact⟨v,vs,rfl,r,q⟩
theorem Reps.AC:Reps K O H [] vs↔vs= []:=by unfold Reps;exact LS
theorem Reps.me:Reps K O H (t::l) vs↔ ∃v ws,vs=v::ws/\Rep K O H t v/\Reps K O H l ws:=by
 constructor
 ·intro h;unfold Reps at h;exact h
 ·intro h;unfold Reps;exact h
end
section
variable {K:IU}{O:Ow}{H H':Hp}
theorem Reps.length:∀{l:List T} {vs:List V},Reps K O H l vs->l.length=vs.length
 | [],vs,r=>by rw[Reps.AC.mp r];rfl
 | t::l,vs,r=>by
  obtain⟨v,ws,rfl,_,q⟩:=Reps.me.mp r;simp[q.length]
theorem Reps.get:∀{l:List T} {vs:List V} {i:Nat} {t:T},Reps K O H l vs->l[i]? =some t->∃v,vs[i]? =some v/\Rep K O H t v
 | [],_,_,_,_,e=>by simp at e
 | t::l,vs,i,u,r,e=>by
  obtain⟨v,ws,rfl,p,q⟩:=Reps.me.mp r
  cases i with
  | zero=>simp at e;subst e;exact⟨v,rfl,p⟩
  | succ i=>
   obtain⟨z,e1,e2⟩:=q.get (i:=i) (t:=u) (by simpa using e)
   exact⟨z,by simpa using e1,e2⟩
theorem Reps.append:∀{l m:List T} {vs ws:List V},Reps K O H l vs->Reps K O H m ws->Reps K O H (l++m) (vs++ws)
 | [],_,vs,_,r,s=>by rw[Reps.AC.mp r];exact s
 | t::l,m,vs,ws,r,s=>by
  obtain⟨v,us,rfl,p,q⟩:=Reps.me.mp r;exact Reps.FS p (q.append s)
theorem Reps.take:∀{l:List T} {vs:List V} (n:Nat),Reps K O H l vs->Reps K O H (l.take n) (vs.take n)
 | _,_,0,_=>Reps.GM
 | [],vs,n+1,r=>by rw[Reps.AC.mp r];exact Reps.GM
 | t::l,vs,n+1,r=>by
  obtain⟨v,us,rfl,p,q⟩:=Reps.me.mp r;exact Reps.FS p (q.take n)
theorem Reps.drop:∀{l:List T} {vs:List V} (n:Nat),Reps K O H l vs->Reps K O H (l.drop n) (vs.drop n)
 | _,_,0,r=>r
 | [],vs,n+1,r=>by rw[Reps.AC.mp r];exact Reps.GM
 | t::l,vs,n+1,r=>by
  obtain⟨v,us,rfl,p,q⟩:=Reps.me.mp r;exact q.drop n
theorem Reps.ints:∀{ns:List Int},Reps K O H (ns.map T.int) (ns.map V.int)
 | [] =>Reps.GM
 | n::r=>Reps.FS (Rep.HS n) Reps.ints
end
def RowsR (K:IU)(O:Ow)(H:Hp):List (List T×List T)->List Addr->Prop
 | [],as=>as= []
 | r::rs,as=> ∃b bs kvs,as=b::bs/\H b=some (.dT kvs)/\r.1.map keyOf=kvs.map (λp=>some p.1)/\Reps K O H r.2 (kvs.map (·.2))/\RowsR K O H rs bs
def LsR (K:IU)(O:Ow)(H:Hp):List (List T)->List Addr->Prop
 | [],as=>as= []
 | l::ls,as=> ∃b bs vs,as=b::bs/\H b=some (.lst vs)/\Reps K O H l vs/\LsR K O H ls bs
def ORep (K:IU)(O M:Ow)(H:Hp):OT->V->Prop
 | .lst l,v=> ∃a vs,v= .ref a/\(∀b,M b↔b=a)/\H a=some (.lst vs)/\Reps K O H l vs
 | .dct ks ts,v=> ∃a kvs,v= .ref a/\(∀b,M b↔b=a)/\H a=some (.dT kvs)/\ks.map keyOf=kvs.map (λp=>some p.1)/\Reps K O H ts (kvs.map (·.2))
 | .dd ks rows,v=> ∃a kvs as,v= .ref a/\(∀b,M b↔b=a\/b∈as)/\a∉as/\as.Nodup/\H a=some (.dT kvs)/\ks.map keyOf=kvs.map (λp=>some p.1)/\kvs.map (·.2)=as.map V.ref/\RowsR K O H rows as
 | .ob C ns ls,v=> ∃a dx as,v= .ref a/\(∀b,M b↔b=a\/b=dx\/b∈as)/\(a∉as/\dx∉as/\dx≠a/\as.Nodup)/\H a=some (.ins (bP K C) dx (ns.zip (as.map V.ref)))/\H dx=some (.own a)/\ns.length=as.length/\ns.Nodup/\LsR K O H ls as
inductive Sl where
 | em | va (t:T) | ow (o:OT)
abbrev En:=List Sl
abbrev Mn:=Nat->Ow
def Mn.u (M:Mn):Ow:=λa=> ∃i,M i a
def isO:HO->Bool
 | .ins _ _ _=>true
 | .own _=>true
 | _=>false
def Mtb (H:Hp)(a:Addr):Prop:=(∃vs,H a=some (.lst vs))\/(∃kvs,H a=some (.dT kvs))\/∃o,H a=some o/\isO o=true
theorem Mtb.some {H:Hp}{a:Addr}(h:Mtb H a):∃o,H a=some o:=by
 rcases h with⟨_,e⟩ | ⟨_,e⟩ | ⟨_,e,_⟩ <;> exact⟨_,e⟩
theorem Mtb.at {H H':Hp}{a:Addr}(s:∀o,H a=JX o->H' a=JX o)(h:Mtb H a):Mtb H' a:=by
 rcases h with⟨vs,e⟩ | ⟨k,e⟩ | ⟨o,e,q⟩
 ·exact .inl ⟨vs,s _ e⟩
 ·exact .inr (.inl ⟨k,s _ e⟩)
 ·exact .inr (.inr ⟨o,s _ e,q⟩)
theorem Mtb.same {H H':Hp}(s:Same H H'){a:Addr}(h:Mtb H a):Mtb H' a:=h.at λo e=>s a o e
structure EnvM (K:IU)(O:Ow)(M:Mn)(H:Hp)(Z:En)(σ:L2.St):Prop where
 len:Z.length=σ.length
 val:∀(i:Nat) (t:T),Z[i]? =some (.va t)->∃v,σ[i]? =some (some v)/\Rep K O H t v
 own:∀(i:Nat) (o:OT),Z[i]? =some (.ow o)->∃v,σ[i]? =some (some v)/\ORep K O (M i) H o v
 sub:∀(i:Nat) (a:Addr),M i a->O a
 dis:∀(i j:Nat) (a:Addr),M i a->M j a->i=j
 trk:∀(a:Addr),O a->Mtb H a
theorem RowsR.same {K:IU}{O:Ow}{H H':Hp}(h:Same H H'):∀{rs:List (List T×List T)} {as:List Addr},RowsR K O H rs as->RowsR K O H' rs as
 | [],_,r=>r
 | _::_,_,⟨b,bs,kvs,e1,e2,e3,e4,e5⟩=>⟨b,bs,kvs,e1,h _ _ e2,e3,e4.same h,e5.same h⟩
theorem LsR.same {K:IU}{O:Ow}{H H':Hp}(h:Same H H'):∀{ls:List (List T)} {as:List Addr},LsR K O H ls as->LsR K O H' ls as
 | [],_,r=>r
 | _::_,_,⟨b,bs,vs,e1,e2,e3,e4⟩=>⟨b,bs,vs,e1,h _ _ e2,e3.same h,e4.same h⟩
theorem ORep.same {K:IU}{O M:Ow}{H H':Hp}(h:Same H H'){o:OT}{v:V}(r:ORep K O M H o v):ORep K O M H' o v:=by
 cases o with
 | lst l=>obtain⟨a,vs,e1,e2,e3,e4⟩:=r;exact⟨a,vs,e1,e2,h _ _ e3,e4.same h⟩
 | dct ks ts=>obtain⟨a,kvs,e1,e2,e3,e4,e5⟩:=r;exact⟨a,kvs,e1,e2,h _ _ e3,e4,e5.same h⟩
 | dd ks rows=>obtain⟨a,kvs,as,e1,e2,e3,e4,e5,e6,e7,e8⟩:=r;exact⟨a,kvs,as,e1,e2,e3,e4,h _ _ e5,e6,e7,e8.same h⟩
 | ob C ns ls=>obtain⟨a,dx,as,e1,e2,e3,e4,e5,e6,e7,e8⟩:=r;exact⟨a,dx,as,e1,e2,e3,h _ _ e4,h _ _ e5,e6,e7,e8.same h⟩
theorem EnvM.same {K:IU}{O:Ow}{M:Mn}{H H':Hp}{Z:En}{σ:L2.St}(h:Same H H')(e:EnvM K O M H Z σ):EnvM K O M H' Z σ where
 len:=e.len
 val:=λi t q=>let ⟨v,e1,e2⟩:=e.val i t q;⟨v,e1,e2.same h⟩
 own:=λi o q=>let ⟨v,e1,e2⟩:=e.own i o q;⟨v,e1,e2.same h⟩
 sub:=e.sub
 dis:=e.dis
 trk:=λa q=>(e.trk a q).same h
def EnvO (K:IU)(O:Ow)(H:Hp)(Z:En)(σ:L2.St):Prop:=∃M,EnvM K O M H Z σ
section
variable {K:IU}{O:Ow}{H H':Hp}{Z:En}{σ:L2.St}
theorem EnvO.val (e:EnvO K O H Z σ)(i:Nat)(t:T)(q:Z[i]? =some (.va t)):∃v,σ[i]? =some (some v)/\Rep K O H t v:=e.elim λ_ e=>e.val i t q
theorem EnvO.mtb (e:EnvO K O H Z σ):∀a,O a->Mtb H a:=e.elim λ_ e=>e.trk
theorem EnvO.trk (e:EnvO K O H Z σ)(a:Addr)(z:O a):∃o,H a=some o:=(e.mtb a z).some
theorem EnvO.same (h:Same H H')(e:EnvO K O H Z σ):EnvO K O H' Z σ:=e.elim λM e=>⟨M,e.same h⟩
theorem EnvO.fresh (e:EnvO K O H Z σ){p:Addr}(h:H p=none):¬ O p:=λz=>by
 obtain⟨o,q⟩:=e.trk p z;rw[h]at q;cases q
end
def Hy (h:Heap)(C e:Addr):Option Addr->Prop
 | none=> ∃oe vs,h.get? e=some oe/\oe.cls= .ref C/\oe.data= .fields vs/\vs[1]? =some .none
 | some T=>T≠e/\∃oe vs,h.get? e=some oe/\oe.cls= .ref C/\oe.data= .fields vs/\vs[1]? =some (.ref T)/\∃oT ts,h.get? T=some oT/\oT.data= .fields ts/\ts[3]? =some .none
def RzP (X:Cx)(pins:List (Addr×Obj))(P:Ow)(H:Hp)(c:Str)(ev:IW)(s':IY):Prop:=
 ∃e T C σ' H',ev= .ref e/\X.mg c=some (.ref C)/\Inv X pins σ' H' s'/\SameO P H H'/\H' e=none/\(X.ex= []->X.s₀.heap.get? e=none)/\Hy s'.heap C e T/\(∀t,T=some t->H' t=none/\(X.ex= []->X.s₀.heap.get? t=none))/\∀p∈X.pn++pins,p.1≠e/\T≠some p.1
def Nw (K:IU)(H:Hp):Ow:=λa=>H a=none/\K.lookup a=none
theorem eQ {K:IU}{P:Ow}{H H1:Hp}(h:SameO P H H1){a:Addr}(n:Nw K H1 a):P a\/Nw K H a:=by
 by_cases hp:P a
 ·exact .inl hp
 ·refine .inr ⟨?_,n.2⟩
  cases q:H a with
  | none=>rfl
  | some o=>have:=h a o q hp;rw[n.1]at this;cases this
theorem SameO.trans {K:IU}{P P1:Ow}{H H1 H2:Hp}(h:SameO P H H1)(h1:SameO P1 H1 H2)(sub:∀a,P1 a->P a\/Nw K H a):SameO P H H2:=λb o e n=>
 h1 b o (h b o e n) λz=>(sub b z).elim n λw=>by rw[w.1]at e;cases e
def XA (X:Cx)(P:Ow)(H:Hp)(c:Str):Prop:=∀pins ev s',RzP X pins P H c ev s'->X.xe ev s'
theorem XA.later {X:Cx}{P P1:Ow}{H H1:Hp}{c:Str}(h:XA X P H c)(s:SameO P H H1)(sub:∀a,P1 a->P a\/Nw X.K H a):XA X P1 H1 c:=λpins ev s' ⟨e,T,C,σ',H',a1,a2,a3,a4,a5⟩=>
 h pins ev s' ⟨e,T,C,σ',H',a1,a2,a3,s.trans a4 sub,a5⟩
abbrev kB:Ow:=λ_=>False
def Post {α:Type}(X:Cx)(H:Hp)(r:Rs α)(k:α->Hp->Prop):Prop:=match r with
 | .ok t=> ∀H',Same H H'->k t H'
 | .err c=>XA X kB H c
 | .bad=>False
theorem Post.mono {α:Type}{X:Cx}{H:Hp}{r:Rs α}{k k':α->Hp->Prop}(h:Post X H r k)(f:∀t H',Same H H'->k t H'->k' t H'):Post X H r k':=by
 cases r with
 | ok t=>exact λH' s=>f t H' s (h H' s)
 | err c=>exact h
 | bad=>exact h
theorem Post.later {α:Type}{X:Cx}{H H1:Hp}{r:Rs α}{k:α->Hp->Prop}(h:Post X H r k)(s:Same H H1):Post X H1 r k:=by
 cases r with
 | ok t=>exact λH' s'=>h H' (s.trans s')
 | err c=>exact XA.later h (SameO.of s) λ_ z=>z.elim
 | bad=>exact h
theorem Post.bind {α β:Type}{X:Cx}{H:Hp}{r:Rs α}{f:α->Rs β}{k:β->Hp->Prop}(h:Post X H (r >>= f) k):Post X H r λt H'=>Post X H' (f t) k:=by
 cases r with
 | ok t=>exact λH' s=>Post.later h s
 | err c=>exact h
 | bad=>exact h
def tP (X:Cx)(f:En->Rs T):TE:=λσ H Q=> ∃Z O,EnvO X.K O H Z σ/\Post X H (f Z) λt H'=> ∀v,Rep X.K O H' t v->Q v H'
def tPA (X:Cx)(f:En->Rs (List T)):TA:=λσ H Q=> ∃Z O,EnvO X.K O H Z σ/\Post X H (f Z) λt H'=> ∀v,Reps X.K O H' t v->Q v H'
def z0 (X:Cx)(f:En->Rs Bool):TT:=λσ H Q=> ∃Z O,EnvO X.K O H Z σ/\Post X H (f Z) λb H'=>Q b H'
abbrev cj (X:Cx)(e:Expr)(f:En->Rs T):Prop:=PE X e (tP X f)
abbrev nV (X:Cx)(e:List Expr)(f:En->Rs (List T)):Prop:=PA X e (tPA X f)
abbrev sZ (X:Cx)(e:Expr)(f:En->Rs Bool):Prop:=PT X e (z0 X f)
theorem PE.imp {X:Cx}{e:Expr}{t t':TE}(h:PE X e t)(w:∀σ H Q,t' σ H Q->t σ H Q):PE X e t':=λpins s σ H Q I q=>h pins s σ H Q I (w σ H Q q)
theorem PA.imp {X:Cx}{e:List Expr}{t t':TA}(h:PA X e t)(w:∀σ H Q,t' σ H Q->t σ H Q):PA X e t':=λpos pins s σ H Q I q=>h pos pins s σ H Q I (w σ H Q q)
theorem PT.imp {X:Cx}{e:Expr}{t t':TT}(h:PT X e t)(w:∀σ H Q,t' σ H Q->t σ H Q):PT X e t':=λpins s σ H Q I q=>h pins s σ H Q I (w σ H Q q)
theorem PS.imp {X:Cx}{e:Stmt}{t t':TS}(h:PS X e t)(w:∀D σ H,t' D σ H->t D σ H):PS X e t':=λpins s σ H D I q=>h pins s σ H D I (w D σ H q)
theorem PSs.imp {X:Cx}{e:List Stmt}{t t':TS}(h:PSs X e t)(w:∀D σ H,t' D σ H->t D σ H):PSs X e t':=λpins s σ H D I q=>h pins s σ H D I (w D σ H q)
section
variable {X:Cx}
theorem aZ {σ:L2.St}{H:Hp}{Z:En}{O:Ow}{α:Type}{f:En->Rs T}{k:T->Rs α}{Q:α->Hp->Prop}(E:EnvO X.K O H Z σ)(h:Post X H (f Z >>= k) Q) :
  tP X f σ H λv H'=> ∃t,Rep X.K O H' t v/\Same H H'/\EnvO X.K O H' Z σ/\Post X H' (k t) Q:=
 ⟨Z,O,E,Post.mono h.bind λt H' s q v r=>⟨t,r,s,E.same s,q⟩⟩
theorem e9 {σ:L2.St}{H:Hp}{Z:En}{O:Ow}{α:Type}{f:En->Rs (List T)}{k:List T->Rs α}{Q:α->Hp->Prop}(E:EnvO X.K O H Z σ)(h:Post X H (f Z >>= k) Q) :
  tPA X f σ H λv H'=> ∃t,Reps X.K O H' t v/\Same H H'/\EnvO X.K O H' Z σ/\Post X H' (k t) Q:=
 ⟨Z,O,E,Post.mono h.bind λt H' s q v r=>⟨t,r,s,E.same s,q⟩⟩
theorem jL {σ:L2.St}{H:Hp}{Z:En}{O:Ow}{α:Type}{f:En->Rs Bool}{k:Bool->Rs α}{Q:α->Hp->Prop}(E:EnvO X.K O H Z σ)(h:Post X H (f Z >>= k) Q) :
  z0 X f σ H λb H'=>Same H H'/\EnvO X.K O H' Z σ/\Post X H' (k b) Q:=
 ⟨Z,O,E,Post.mono h.bind λt H' s q=>⟨s,E.same s,q⟩⟩
noncomputable def vr (i:Nat)(Z:En):Rs T:=match Z[i]? with
 | some (.va t)=> .ok t
 | _=> .bad
def cn (t:T)(_:En):Rs T:=.ok t
theorem F8 (i:Nat){x:Str}{pos:Pos}(hN:X.N[i]? =some x:=by rfl)(hv:qW X.env.scope x:=by first | exact J8 rfl | exact JP (J8 rfl) | exact JP (JP rfl))(hd:fE x:=by decide)
  (hcd:(x == ("__classdict__" : Str))=false:=by decide):cj X (.Name x pos) (vr i):=PE.imp (hW hN hv hd hcd) λσ H Q hh_=>by
 obtain⟨Z,O,E,h⟩:=hh_;unfold vr at h
 split at h
 ·rename_i t e
  obtain⟨v,e1,e2⟩:=E.val i t e;exact⟨v,e1,h H (Same.refl H) v e2⟩
 ·exact h.elim
theorem Gi {i j pos}:cj X (.Constant (.int i) j pos) (cn (.int i)):=PE.imp Ee λσ H Q ⟨Z,O,E,h⟩=>h H (Same.refl H) _ (Rep.HS i)
theorem q_bl {i j pos}:cj X (.Constant (.bool i) j pos) (cn (.bl i)):=PE.imp Gv λσ H Q ⟨Z,O,E,h⟩=>h H (Same.refl H) _ (Rep.bl_ i)
theorem Ge {j pos}:cj X (.Constant .none j pos) (cn .non):=PE.imp D9 λσ H Q ⟨Z,O,E,h⟩=>h H (Same.refl H) _ Rep.Ir
theorem Ga {i j pos}:cj X (.Constant (.str i) j pos) (cn (.str i)):=PE.imp D6 λσ H Q ⟨Z,O,E,h⟩=>h H (Same.refl H) _ (Rep.IJ i)
theorem DQ {x:Str}{i:Int}{u:IW}{pos:Pos}(hm:X.mg x=some u)(r:RelV (.int i) u)(hg:Gl X x:=by rfl)(hd:fE x:=by decide):cj X (.Name x pos) (cn (.int i)):=
 PE.imp (Be hg hm r hd) λσ H Q ⟨Z,O,E,h⟩=>h H (Same.refl H) _ (Rep.HS i)
def aj (_:En):Rs (List T):=.ok []
def ae (f:En->Rs T)(g:En->Rs (List T))(Z:En):Rs (List T):=do
 let t <-f Z
 let r <-g Z
 .ok (t::r)
theorem DP:nV X [] aj:=PA.imp kq λσ H Q ⟨Z,O,E,h⟩=>h H (Same.refl H) _ Reps.GM
theorem AZ {e:Expr}{es:List Expr}{f:En->Rs T}{g:En->Rs (List T)}(he:cj X e f)(hr:nV X es g)(hs:Jo (e::es) X.env=(false,eval e X.env)::Jo es X.env:=by rfl):nV X (e::es) (ae f g):=by
 intro pos pins s σ H Q I h;obtain⟨Z,O,E,h⟩:=h;refine fK he hr hs pos pins s σ H Q I ?_
 obtain⟨Z1,O1,E1,h1⟩:=aZ E h;refine⟨Z1,O1,E1,Post.mono h1 λt H' s q v r=> ?_⟩
 obtain⟨t',r',s',E',q'⟩:=q v r;refine⟨Z,O,E',Post.mono q'.bind λts H2 s2 q2 vs rs=> ?_⟩
 exact q2 H2 (Same.refl H2) _ (Reps.FS (r'.same s2) rs)
end
section
variable {X:Cx}
def jg (l:List T):Rs T:=if l.length<=sizeLine then .ok (.tup l)else .bad
def jh (l:List T):Rs T:=if l.length<=sizeLine then .ok (.lst l)else .bad
def bA (f:En->Rs (List T))(Z:En):Rs T:=f Z >>= jg
def gW (f:En->Rs (List T))(Z:En):Rs T:=f Z >>= jh
theorem bj {H:Hp}{p:Addr}(h:H p=none)(o:HO):Same H (upd H p o):=λb u q=>by rw[aE (bS q h)];exact q
theorem gg {K:IU}{O:Ow}{H:Hp}{p:Addr}{l:List T}{vs:List V}(h:H p=none)(n:¬ O p)(r:Reps K O H l vs):Rep K O (upd H p (.tup vs)) (.tup l) (.ref p):=
 Rep.Fk.mpr ⟨p,vs,rfl,n,aQ,r.same (bj h _)⟩
theorem jV {K:IU}{O:Ow}{H:Hp}{p:Addr}{l:List T}{vs:List V}(h:H p=none)(n:¬ O p)(r:Reps K O H l vs):Rep K O (upd H p (.lst vs)) (.lst l) (.ref p):=
 Rep.Do.mpr ⟨p,vs,rfl,n,aQ,r.same (bj h _)⟩
theorem F9 {es:List Expr}{x1:Nat}{pos:Pos}{f:En->Rs (List T)}(h:nV X es f):cj X (.Tuple es x1 pos) (bA f):=by
 intro pins s σ H Q I ⟨Z,O,E,hq⟩;refine D5 h pins s σ H Q I ?_
 obtain⟨Z1,O1,E1,h1⟩:=e9 E hq;refine⟨Z1,O1,E1,Post.mono h1 λts H1 s1 q vs r=> ?_⟩
 obtain⟨t',r',s',E',q'⟩:=q vs r;unfold jg at q'
 split at q'
 ·rename_i hz
  refine⟨by rw[<-r'.length];exact hz,λp hp=> ?_⟩
  exact q' _ (bj hp _) _ (gg hp (E'.fresh hp) r')
 ·exact q'.elim
theorem Gg {es:List Expr}{pos:Pos}{f:En->Rs (List T)}(h:nV X es f):cj X (.List es pos) (gW f):=by
 intro pins s σ H Q I ⟨Z,O,E,hq⟩;refine Ed h pins s σ H Q I ?_
 obtain⟨Z1,O1,E1,h1⟩:=e9 E hq;refine⟨Z1,O1,E1,Post.mono h1 λts H1 s1 q vs r=> ?_⟩
 obtain⟨t',r',s',E',q'⟩:=q vs r;unfold jh at q'
 split at q'
 ·rename_i hz
  refine⟨by rw[<-r'.length];exact hz,λp hp=> ?_⟩
  exact q' _ (bj hp _) _ (jV hp (E'.fresh hp) r')
 ·exact q'.elim
def OpT (X:Cx)(f:IW->IW->Sem IW)(g:T->T->Rs T):Prop:=
 ∀(pins:List (Addr×Obj)) (s:IY) (σ:L2.St) (H:Hp) (O:Ow) (x y:T) (vx vy:V) (ux uy:IW) (Q:VK),Inv X pins σ H s->(∀p,H p=none->¬ O p)->Rep X.K O H x vx->Rep X.K O H y vy->RelV vx ux->RelV vy uy →
  Post X H (g x y) (λt H'=> ∀v,Rep X.K O H' t v->Q v H')->wpAny (model X.prog X.w) X.A (f ux uy) (EP X pins σ Q) X.xe s
def o2 (g:T->T->Rs T)(fa fb:En->Rs T)(Z:En):Rs T:=do
 let x <-fa Z
 let y <-fb Z
 g x y
variable {a b c:Expr}{fa fb fc:En->Rs T}{pos:Pos}
theorem Gn {op:Operator}{g:T->T->Rs T}(ho:OpT X (Kw op) g)(ha:cj X a fa)(hb:cj X b fb):cj X (.BinOp a op b pos) (o2 g fa fb):=by
 intro pins s σ H Q I ⟨Z,O,E,hq⟩
 have h1:=aZ E hq;refine wpAny_BinOp (bR (ha pins s σ H _ I h1) λv s1 hh_=> ?_)
 obtain⟨x,H1,I1,r1,t,rt,s',E',q1⟩:=hh_
 have h2:=aZ (f:=fb) E' q1;refine bR (hb pins s1 σ H1 _ I1 h2) λu s2 hh_=> ?_
 obtain⟨y,H2,I2,r2,t2,rt2,s'',E'',q2⟩:=hh_;exact ho pins s2 σ H2 O t t2 x y v u Q I2 (λp=>E''.fresh) (rt.same s'') rt2 r1 r2 q2
theorem Gm {op:Pw}{g:T->T->Rs T}(ho:OpT X (J3 op) g)(ha:cj X a fa)(hb:cj X b fb)(hm:LK op b=false:=by rfl):cj X (.Compare a [op] [b] pos) (o2 g fa fb):=by
 intro pins s σ H Q I ⟨Z,O,E,hq⟩
 have h1:=aZ E hq;refine wpAny_Compare1 (bR (ha pins s σ H _ I h1) λv s1 ⟨x,H1,I1,r1,t,rt,s',E',q1⟩=> ?_) hm
 have h2:=aZ (f:=fb) E' q1;refine bR (hb pins s1 σ H1 _ I1 h2) λu s2 hh_=> ?_
 obtain⟨y,H2,I2,r2,t2,rt2,s'',E'',q2⟩:=hh_;exact ho pins s2 σ H2 O t t2 x y v u Q I2 (λp=>E''.fresh) (rt.same s'') rt2 r1 r2 q2
theorem OpT.of {f:IW->IW->Sem IW}{r:R2}(h:qX X f r){g:T->T->Rs T}
  (w:∀(H:Hp) (O:Ow) (x y:T) (vx vy:V) (Q:VK),(∀p,H p=none->¬ O p)->Rep X.K O H x vx->Rep X.K O H y vy->Post X H (g x y) (λt H'=> ∀v,Rep X.K O H' t v->Q v H')->r vx vy H Q):OpT X f g:=
 λpins s σ H O x y vx vy ux uy Q I hf rx ry r1 r2 hp=>h pins s σ H vx vy ux uy Q I r1 r2 (w H O x y vx vy Q hf rx ry hp)
def fF:T->T->Rs T
 | .int i,.int j=> .ok (.int (i - j))
 | _,_=> .bad
theorem fq:OpT X (Kw .Sub) fF:=OpT.of Ek λH O x y vx vy Q hf rx ry hp=>by
 unfold fF at hp
 split at hp
 ·exact⟨_,_,Rep.Da.mp rx,Rep.Da.mp ry,hp H (Same.refl H) _ (Rep.HS _)⟩
 ·exact hp.elim
def j9:T->T->Rs T
 | .int i,.int j=>if 0<j/\j<1073741824 then .ok (.int (i / j))else .bad
 | _,_=> .bad
def j7:T->T->Rs T
 | .int i,.int j=>if 0<j then .ok (.int (i % j))else .bad
 | _,_=> .bad
theorem lQ:OpT X (Kw .FloorDiv) j9:=OpT.of Bo λH O x y vx vy Q hf rx ry hp=>by
 unfold j9 at hp
 split at hp
 ·split at hp
  ·rename_i h
   exact⟨_,_,Rep.Da.mp rx,Rep.Da.mp ry,h,hp H (Same.refl H) _ (Rep.HS _)⟩
  ·exact hp.elim
 ·exact hp.elim
theorem jo:OpT X (Kw .Mod) j7:=OpT.of Eo λH O x y vx vy Q hf rx ry hp=>by
 unfold j7 at hp
 split at hp
 ·split at hp
  ·rename_i h
   exact⟨_,_,Rep.Da.mp rx,Rep.Da.mp ry,h,hp H (Same.refl H) _ (Rep.HS _)⟩
  ·exact hp.elim
 ·exact hp.elim
theorem yj:qX X (Kw .Add) (λx y H Q=> ∃a b ys,x= .ref a/\y= .ref b/\SqT X.K H a []/\SqT X.K H b ys/\Q (.ref b) H):=by
 intro pins s σ H x y v u Q I rx ry h;obtain⟨a,b,ys,rfl,rfl,ha,hb,q⟩:=h;cases rx;cases ry;obtain⟨its,r1,p1,_⟩:=I.tuple ha;obtain⟨its2,r2,p2,_⟩:=I.tuple hb;obtain⟨⟨cls,dd,data,sl⟩,ho,hc,n,hd⟩:=id p1;obtain⟨⟨cls2,dd2,data2,sl2⟩,ho2,hc2,n2,hd2⟩:=id p2;simp only at hc hd hc2 hd2;subst hc hd hc2 hd2
 have e:its= []:=by cases r1;rfl
 subst e;exact HT_concat0 ho ho2 ⟨.ref b,H,I,rfl,q⟩
where
 HT_concat0 {prog:JB} {w:JY} {A:JK} {E:IW->IY->Prop} {s:IY} {t b:Addr} {ws:Array IW} {n n2:Nat} {dd dd2:Option Addr} {sl sl2:Array (Option IW)} {Q:IW->IY->Prop}
   (ho:s.heap.get? t=some { cls:=.type "tuple",dict:=dd,data:=.seq (([]:List IW).toArray) n,slots:=sl }) (ho2:s.heap.get? b=some { cls:=.type "tuple",dict:=dd2,data:=.seq ws n2,slots:=sl2 }) (h:Q (.ref b) s) :
   wpAny (model prog w) A (Kw .Add (.ref t) (.ref b)) Q E s:=
  OS ⟨_,ho,rfl⟩ ⟨_,ho2,rfl⟩ M8 Oh LM Lz (Lv _ _)
   (tuple_addW0 t b _ _ n n2 dd dd2 sl sl2 (by simp)) ⟨ho,ho2,h⟩
def aU:T->T->Rs T
 | .int i,.int j=> .ok (.int (i+j))
 | .str i,.str j=>if i.length+j.length<=sizeLine then .ok (.str (i++j))else .bad
 | .tup l,.tup m=>jg (l++m)
 | .lst l,.lst m=>jh (l++m)
 | _,_=> .bad
theorem aO:OpT X (Kw .Add) aU:=by
 intro pins s σ H O x y vx vy ux uy Q I hf rx ry r1 r2 hp;unfold aU at hp
 split at hp
 ·exact Es pins s σ H vx vy ux uy Q I r1 r2 ⟨_,_,Rep.Da.mp rx,Rep.Da.mp ry,hp H (Same.refl H) _ (Rep.HS _)⟩
 ·split at hp
  ·rename_i h
   exact tV pins s σ H vx vy ux uy Q I r1 r2 ⟨_,_,Rep.Gc.mp rx,Rep.Gc.mp ry,h,hp H (Same.refl H) _ (Rep.IJ _)⟩
  ·exact hp.elim
 ·rename_i l m
  unfold jg at hp
  split at hp
  ·rename_i h
   obtain⟨a,vs,e1,n1,q1,z1⟩:=Rep.Fk.mp rx;obtain⟨b,ws,e2,n2,q2,z2⟩:=Rep.Fk.mp ry
   have hl1:=z1.length
   have hl2:=z2.length;rw[Jc]at h
   cases vs with
   | nil=>
    have e:l= []:=by cases l with
     | nil=>rfl
     | cons _ _=>simp at hl1
    subst e
    exact yj pins s σ H vx vy ux uy Q I r1 r2 ⟨a,b,ws,e1,e2,SqT.of q1,SqT.of q2,hp H (Same.refl H) _ (Rep.Fk.mpr ⟨b,ws,rfl,n2,q2,z2⟩)⟩
   | cons v0 vr=>
    refine Bp pins s σ H vx vy ux uy Q I r1 r2 ⟨a,b,v0::vr,ws,e1,e2,SqT.of q1,SqT.of q2,by simp,by omega,λhw=> ?_,λ_ p hpn=> ?_⟩
    ·subst hw
     have e:m= []:=by cases m with
      | nil=>rfl
      | cons _ _=>simp at hl2
     subst e;rw[JA]at hp;exact hp H (Same.refl H) _ (Rep.Fk.mpr ⟨a,_,rfl,n1,q1,z1⟩)
    ·exact hp _ (bj hpn _) _ (gg hpn (hf p hpn) (z1.append z2))
  ·exact hp.elim
 ·rename_i l m
  unfold jh at hp
  split at hp
  ·rename_i h
   obtain⟨a,vs,e1,n1,q1,z1⟩:=Rep.Do.mp rx;obtain⟨b,ws,e2,n2,q2,z2⟩:=Rep.Do.mp ry
   have hl1:=z1.length
   have hl2:=z2.length;rw[Jc]at h;exact Er pins s σ H vx vy ux uy Q I r1 r2 ⟨a,b,vs,ws,e1,e2,q1,q2,by omega,λp hpn=>hp _ (bj hpn _) _ (jV hpn (hf p hpn) (z1.append z2))⟩
  ·exact hp.elim
 ·exact hp.elim
def ud:T->T->Rs T
 | .int i,.int j=>if (-(2 ^ 64)<i/\i<2 ^ 64)\/(-(2 ^ 64)<j/\j<2 ^ 64)then .ok (.int (i*j))else .bad
 | .lst l,.int k=>if -(2 ^ 63)<=k/\k<2 ^ 63/\l.length*k.toNat<=sizeLine then .ok (.lst (Js k.toNat l).flatten)else .bad
 | _,_=> .bad
theorem Reps.rep {K:IU}{O:Ow}{H:Hp}{l:List T}{vs:List V}(h:Reps K O H l vs):∀k:Nat,Reps K O H (Js k l).flatten (Js k vs).flatten
 | 0=>Reps.GM
 | k+1=>by rw[Kq,Kq,K0,K0];exact h.append (h.rep k)
theorem Ej:OpT X (Kw .Mult) ud:=by
 intro pins s σ H O x y vx vy ux uy Q I hf rx ry r1 r2 hp;unfold ud at hp
 split at hp
 ·split at hp
  ·rename_i h
   exact Em pins s σ H vx vy ux uy Q I r1 r2 ⟨_,_,Rep.Da.mp rx,Rep.Da.mp ry,h,hp H (Same.refl H) _ (Rep.HS _)⟩
  ·exact hp.elim
 ·split at hp
  ·rename_i l k h
   obtain⟨a,vs,e1,n1,q1,z1⟩:=Rep.Do.mp rx
   have hl1:=z1.length;exact El pins s σ H vx vy ux uy Q I r1 r2 ⟨a,k,vs,e1,Rep.Da.mp ry,q1,h.1,h.2.1,by rw[<-hl1];exact h.2.2,λp hpn=>hp _ (bj hpn _) _ (jV hpn (hf p hpn) (z1.rep _))⟩
  ·exact hp.elim
 ·exact hp.elim
def kI:T->Rs T
 | .int i=> .ok (.int (-i))
 | _=> .bad
def o1 (g:T->Rs T)(fa:En->Rs T)(Z:En):Rs T:=fa Z >>= g
theorem Gf (ha:cj X a fa):cj X (.UnaryOp .USub a pos) (o1 kI fa):=by
 intro pins s σ H Q I ⟨Z,O,E,hq⟩;refine Gs Dj ha pins s σ H Q I ?_
 obtain⟨Z1,O1,E1,h1⟩:=aZ E hq;refine⟨Z1,O1,E1,Post.mono h1 λts H1 s1 q vs r=> ?_⟩
 obtain⟨t',r',s',E',q'⟩:=q vs r;unfold kI at q'
 split at q'
 ·exact⟨_,Rep.Da.mp r',q' H1 (Same.refl H1) _ (Rep.HS _)⟩
 ·exact q'.elim
def uv (p:Int->Int->Bool):T->T->Rs T
 | .int i,.int j=> .ok (.bl (p i j))
 | _,_=> .bad
theorem u7 {op:Pw}{p:Int->Int->Bool}(h:qX X (J3 op) (Ds λi j=> .bl (p i j))):OpT X (J3 op) (uv p):=OpT.of h λH O x y vx vy Q hf rx ry hp=>by
 unfold uv at hp
 split at hp
 ·exact⟨_,_,Rep.Da.mp rx,Rep.Da.mp ry,hp H (Same.refl H) _ (Rep.bl_ _)⟩
 ·exact hp.elim
abbrev Fv:=uv λi j=>decide (i<j)
abbrev GN:=uv λi j=>decide (i<=j)
theorem yi:OpT X (J3 .Lt) Fv:=u7 Gx
theorem u6:OpT X (J3 .LtE) GN:=u7 Gy
def T.isN:T->Bool
 | .non=>true
 | _=>false
theorem Rep.isN {K:IU}{O:Ow}{H:Hp}{t:T}{v:V}(r:Rep K O H t v):decide (v= .non)=t.isN:=by
 cases t with
 | non=>rw[Rep.GT.mp r];rfl
 | bl _=>rw[Rep.FM.mp r];rfl
 | int _=>rw[Rep.Da.mp r];rfl
 | str _=>rw[Rep.Gc.mp r];rfl
 | tup _=>obtain⟨a,vs,e,_⟩:=Rep.Fk.mp r;rw[e];rfl
 | lst _=>obtain⟨a,vs,e,_⟩:=Rep.Do.mp r;rw[e];rfl
 | scr _=>unfold Rep at r;obtain⟨a,e,_⟩:=r;rw[e];rfl
 | dct _ _=>obtain⟨a,_,e,_⟩:=Rep.HR.mp r;rw[e];rfl
 | ob _ _ _=>obtain⟨a,_,_,e,_⟩:=Rep.Ii.mp r;rw[e];rfl
def i6:T->T->Rs T
 | x,.non=> .ok (.bl x.isN)
 | _,_=> .bad
def k8:T->T->Rs T
 | x,.non=> .ok (.bl (!x.isN))
 | _,_=> .bad
theorem oS:OpT X (J3 .Is) i6:=OpT.of Ep λH O x y vx vy Q hf rx ry hp=>by
 unfold i6 at hp
 split at hp
 ·exact⟨Rep.GT.mp ry,hp H (Same.refl H) _ (by rw[rx.isN];exact Rep.bl_ _)⟩
 ·exact hp.elim
theorem mE:OpT X (J3 .IsNot) k8:=OpT.of Bm λH O x y vx vy Q hf rx ry hp=>by
 unfold k8 at hp
 split at hp
 ·exact⟨Rep.GT.mp ry,hp H (Same.refl H) _ (by rw[rx.isN];exact Rep.bl_ _)⟩
 ·exact hp.elim
end
end Tr
namespace Tr
open PySem PySem.Spec PyProof.Rows L2
open PySem.SeqAt
mutual
def ReV (s:IY):T->IW->Prop
 | .non,u=>u= .none
 | .bl b,u=>u= .bool b
 | .int i,u=> ∃t,u= .int i t
 | .str x,u=> ∃t,u= .str x t
 | .tup l,u=> ∃a its,u= .ref a/\s.heap.IsTuple a (OM its)/\ReVs s l its
 | .lst l,u=> ∃a its,u= .ref a/\s.heap.IsList a (OM its)/\ReVs s l its
 | .scr l,u=> ∃a its,u= .ref a/\s.heap.IsList a (OM its)/\Mp its l
 | .dct _ _,_=>False
 | .ob _ _ _,_=>False
def ReVs (s:IY):List T->List IW->Prop
 | [],us=>us= []
 | t::r,us=> ∃u ws,us=u::ws/\ReV s t u/\ReVs s r ws
end
theorem ReVs.AC {s:IY}{us:List IW}:ReVs s [] us↔us= []:=by unfold ReVs;exact LS
theorem ReVs.me {s:IY}{t:T}{l:List T}{us:List IW}:ReVs s (t::l) us↔ ∃u ws,us=u::ws/\ReV s t u/\ReVs s l ws:=by
 constructor
 ·intro h;unfold ReVs at h;exact h
 ·intro h;unfold ReVs;exact h
theorem ReVs.length {s:IY}:∀{l:List T} {us:List IW},ReVs s l us->l.length=us.length
 | [],us,r=>by rw[ReVs.AC.mp r];rfl
 | t::l,us,r=>by
  obtain⟨v,ws,rfl,_,q⟩:=ReVs.me.mp r;simp[q.length]
theorem ReVs.get {s:IY}:∀{l:List T} {us:List IW} {i:Nat} {t:T},ReVs s l us->l[i]? =some t->∃v,us[i]? =some v/\ReV s t v
 | [],_,_,_,_,e=>by simp at e
 | t::l,vs,i,u,r,e=>by
  obtain⟨v,ws,rfl,p,q⟩:=ReVs.me.mp r
  cases i with
  | zero=>simp at e;subst e;exact⟨v,rfl,p⟩
  | succ i=>
   obtain⟨z,e1,e2⟩:=q.get (i:=i) (t:=u) (by simpa using e)
   exact⟨z,by simpa using e1,e2⟩
mutual
def T.nd:T->Bool
 | .dct _ _=>false
 | .ob _ _ _=>false
 | .tup l=>nds l
 | .lst l=>nds l
 | _=>true
def nds:List T->Bool
 | [] =>true
 | t::l=>t.nd&&nds l
end
theorem sf {t:T}{l:List T}(h:nds (t::l)=true):t.nd=true/\nds l=true:=by unfold nds at h;exact J6.mp h
section
variable {X:Cx}{pins:List (Addr×Obj)}{σ:L2.St}{H:Hp}{s:IY}{O:Ow}
mutual
theorem Rep.val (I:Inv X pins σ H s):∀{t:T} {v:V} {u:IW},t.nd=true->Rep X.K O H t v->RelV v u->ReV s t u
 | .non,v,u,hn,r,q=>by cases Rep.GT.mp r;unfold ReV;exact q
 | .bl b,v,u,hn,r,q=>by cases Rep.FM.mp r;unfold ReV;exact q
 | .int b,v,u,hn,r,q=>by cases Rep.Da.mp r;unfold ReV;exact q
 | .str b,v,u,hn,r,q=>by cases Rep.Gc.mp r;unfold ReV;exact q
 | .tup l,v,u,hn,r,q=>by
  obtain⟨a,vs,rfl,_,z,w⟩:=Rep.Fk.mp r;cases q;obtain⟨its,rv,p,_⟩:=I.tuple (SqT.of z);unfold ReV
  exact⟨a,its,rfl,p,Reps.val I (by unfold T.nd at hn;exact hn) w rv⟩
 | .lst l,v,u,hn,r,q=>by
  obtain⟨a,vs,rfl,_,z,w⟩:=Rep.Do.mp r;cases q;obtain⟨its,rv,p,_⟩:=I.list (SqL.of z);unfold ReV
  exact⟨a,its,rfl,p.isList,Reps.val I (by unfold T.nd at hn;exact hn) w rv⟩
 | .scr l,v,u,hn,r,q=>by
  unfold Rep at r;obtain⟨a,rfl,_,z⟩:=r;cases q;obtain⟨its,rv,p,_⟩:=I.list z;unfold ReV
  exact⟨a,its,rfl,p.isList,uj rv⟩
 | .dct _ _,v,u,hn,r,q=>by cases hn
 | .ob _ _ _,v,u,hn,r,q=>by cases hn
theorem Reps.val (I:Inv X pins σ H s):∀{l:List T} {vs:List V} {us:List IW},nds l=true->Reps X.K O H l vs->Vals vs us->ReVs s l us
 | [],vs,us,hn,r,q=>by
  cases Reps.AC.mp r;cases q
  exact ReVs.AC.mpr rfl
 | t::l,vs,us,hn,r,q=>by
  obtain⟨v,ws,rfl,p,z⟩:=Reps.me.mp r
  cases q with
  | cons q1 q2=>exact ReVs.me.mpr ⟨_,_,rfl,Rep.val I (sf hn).1 p q1,Reps.val I (sf hn).2 z q2⟩
end
end
mutual
def T.dep:T->Nat
 | .tup l=>deps l+1
 | .lst l=>deps l+1
 | .scr _=>1
 | _=>0
def deps:List T->Nat
 | [] =>0
 | t::l=>max t.dep (deps l)
end
def Ca (i:Int):T->Bool
 | .int j=>i == j
 | .bl b=>i == (if b then 1 else 0)
 | _=>false
def ji:List Int->List T->Bool
 | [],[] =>true
 | i::r,t::l=>Ca i t&&ji r l
 | _,_=>false
mutual
def aV:T->T->Bool
 | .non,.non=>true
 | .bl a,.bl b=>a == b
 | .bl a,.int b=>(if a then 1 else 0) == b
 | .int a,.bl b=>a == (if b then 1 else 0)
 | .int a,.int b=>a == b
 | .str a,.str b=>a == b
 | .tup l,.tup m=>beqTs l m
 | .lst l,.lst m=>beqTs l m
 | .lst l,.scr m=>beqTs l (m.map .int)
 | .scr l,.lst m=>ji l m
 | .scr l,.scr m=>l == m
 | _,_=>false
def beqTs:List T->List T->Bool
 | [],[] =>true
 | t::l,u::m=>aV t u&&beqTs l m
 | _,_=>false
end
theorem nP (n:Nat)(e:Nat->Bool):(J1 (n+1)).all e=(e 0&&(J1 n).all λj=>e (j+1)):=by
 rw[List.range_succ_eq_map,List.all_cons,List.all_map];rfl
theorem kQ:∀(l m:List T) (e:Nat->Bool),(∀(j:Nat) t u,l[j]? =some t->m[j]? =some u->e j=aV t u) →
  beqTs l m=((J1 (min l.length m.length)).all e&&l.length == m.length)
 | [],[],_,_=>by simp[beqTs]
 | [],_::_,_,_=>by simp[beqTs]
 | _::_,[],_,_=>by simp[beqTs]
 | t::l,u::m,e,h=>by
  have ih:=kQ l m (λj=>e (j+1)) λj t' u' h1 h2=>h (j+1) t' u' (by simpa using h1) (by simpa using h2)
  rw[beqTs,ih]
  have h0:=h 0 t u rfl rfl;simp only[Jb];rw[Nat.succ_min_succ,nP,h0,Bool.and_assoc]
  congr 2
  simp
theorem gp:∀{l m:List T},l.length≠m.length->beqTs l m=false
 | [],[],h=>absurd rfl h
 | [],_::_,_=>by simp[beqTs]
 | _::_,[],_=>by simp[beqTs]
 | t::l,u::m,h=>by
  rw[beqTs,gp (l:=l) (m:=m) (by intro z;exact h (by simp[z]))]
  simp
theorem ix:∀{l:List T} {i:Nat} {t:T},l[i]? =some t->t.dep<=deps l
 | [],_,_,e=>by simp at e
 | t::l,0,u,e=>by simp at e;subst e;unfold deps;exact Nat.le_max_left _ _
 | t::l,i+1,u,e=>by
  have:=ix (l:=l) (i:=i) (t:=u) (by simpa using e)
  unfold deps;exact JV this (Nat.le_max_right _ _)
theorem ip {s:IY}{a:Addr}{x y:List IW}(h:s.heap.IsTuple a x.toArray)(h':s.heap.IsTuple a y.toArray):x=y:=by
 obtain⟨o,e,_,n,d⟩:=h;obtain⟨o',e',_,n',d'⟩:=h';rw[e]at e';cases e';rw[d]at d';injection d' with d1 _
 simpa using congrArg Ni d1
theorem cC {s:IY}{a:Addr}{x y:List IW}(h:s.heap.IsList a x.toArray)(h':s.heap.IsList a y.toArray):x=y:=by
 obtain⟨o,e,_,n,d⟩:=h;obtain⟨o',e',_,n',d'⟩:=h';rw[e]at e';cases e';rw[d]at d';injection d' with d1 _
 simpa using congrArg Ni d1
theorem w9 {s:IY}{i:Int}{t:T}{k:Tok}(r:ReV s t (.int i k)):Ca i t=true:=by
 cases t with
 | non=>unfold ReV at r;cases r
 | bl b=>unfold ReV at r;cases r
 | int j=>unfold ReV at r;obtain⟨t,e⟩:=r;injection e with e1 _;subst e1;simp[Ca]
 | str x=>unfold ReV at r;obtain⟨t,e⟩:=r;cases e
 | tup l=>unfold ReV at r;obtain⟨a,its,e,_⟩:=r;cases e
 | lst l=>unfold ReV at r;obtain⟨a,its,e,_⟩:=r;cases e
 | scr l=>unfold ReV at r;obtain⟨a,its,e,_⟩:=r;cases e
 | dct _ _=>unfold ReV at r;exact r.elim
 | ob _ _ _=>unfold ReV at r;exact r.elim
theorem nN {s:IY}:∀{ns:List Int} {us:List IW} {l:List T},Mp us ns->ReVs s l us->ji ns l=true
 | [],us,l,h,r=>by
  cases h
  cases l with
  | nil=>rfl
  | cons t l=>obtain⟨_,_,e,_⟩:=ReVs.me.mp r;cases e
 | n::ns,us,l,h,r=>by
  cases h with
  | cons a b hh=>
   cases l with
   | nil=>have:=ReVs.AC.mp r;cases this
   | cons t l=>
    obtain⟨u,ws,e,p,q⟩:=ReVs.me.mp r;injection e with e1 e2
    subst e1 e2;rw[ji,w9 p,nN hh q];rfl
theorem dy {s:IY}:∀{us:List IW} {ns:List Int},Mp us ns->ReVs s (ns.map T.int) us
 | _,_,.nil=>ReVs.AC.mpr rfl
 | _,_,.cons n t h=>ReVs.me.mpr ⟨_,_,rfl,by unfold ReV;exact⟨_,rfl⟩,dy h⟩
theorem iq:∀{us:List IW} {ns ms:List Int},Mp us ns->Mp us ms->ns=ms
 | _,_,_,.nil,.nil=>rfl
 | _,_,_,.cons n t h,.cons _ _ h'=>by rw[iq h h']
mutual
theorem ReV.refl {s:IY}:∀{t u:T} {v:IW},ReV s t v->ReV s u v->aV t u=true
 | .non,u,v,r,q=>by
  unfold ReV at r;subst r
  cases u <;> (unfold ReV at q) <;> first | rfl | (cases q;done) | (obtain⟨_,e⟩:=q;cases e;done) | (obtain⟨_,_,e,_⟩:=q;cases e;done)
 | .bl b,u,v,r,q=>by
  unfold ReV at r;subst r
  cases u <;> (unfold ReV at q) <;> first | (cases q;done) | (cases q;simp[aV];done) | (obtain⟨_,e⟩:=q;cases e;done) | (obtain⟨_,_,e,_⟩:=q;cases e;done)
 | .int b,u,v,r,q=>by
  unfold ReV at r;obtain⟨k,rfl⟩:=r
  cases u <;> (unfold ReV at q) <;> first | (cases q;done) | (obtain⟨_,e⟩:=q;cases e;simp[aV];done) | (obtain⟨_,e⟩:=q;cases e;done) | (obtain⟨_,_,e,_⟩:=q;cases e;done)
 | .str b,u,v,r,q=>by
  unfold ReV at r;obtain⟨k,rfl⟩:=r
  cases u <;> (unfold ReV at q) <;> first | (cases q;done) | (obtain⟨_,e⟩:=q;cases e;simp[aV];done) | (obtain⟨_,e⟩:=q;cases e;done) | (obtain⟨_,_,e,_⟩:=q;cases e;done)
 | .tup l,u,v,r,q=>by
  unfold ReV at r;obtain⟨a,its,rfl,h1,h2⟩:=r
  cases u with
  | non=>unfold ReV at q;cases q
  | dct _ _=>unfold ReV at q;exact q.elim
  | ob _ _ _=>unfold ReV at q;exact q.elim
  | bl _=>unfold ReV at q;cases q
  | int _=>unfold ReV at q;obtain⟨_,e⟩:=q;cases e
  | str _=>unfold ReV at q;obtain⟨_,e⟩:=q;cases e
  | tup m=>
   unfold ReV at q;obtain⟨a',its',e,h1',h2'⟩:=q;injection e with e;subst e
   have:=ip h1 h1';subst this;unfold aV
   exact ReVs.refl h2 h2'
  | lst m=>unfold ReV at q;obtain⟨a',its',e,h1',h2'⟩:=q;injection e with e;subst e;exact absurd rfl (ne_of_list_tuple h1' h1)
  | scr m=>unfold ReV at q;obtain⟨a',its',e,h1',h2'⟩:=q;injection e with e;subst e;exact absurd rfl (ne_of_list_tuple h1' h1)
 | .lst l,u,v,r,q=>by
  unfold ReV at r;obtain⟨a,its,rfl,h1,h2⟩:=r
  cases u with
  | non=>unfold ReV at q;cases q
  | dct _ _=>unfold ReV at q;exact q.elim
  | ob _ _ _=>unfold ReV at q;exact q.elim
  | bl _=>unfold ReV at q;cases q
  | int _=>unfold ReV at q;obtain⟨_,e⟩:=q;cases e
  | str _=>unfold ReV at q;obtain⟨_,e⟩:=q;cases e
  | lst m=>
   unfold ReV at q;obtain⟨a',its',e,h1',h2'⟩:=q;injection e with e;subst e
   have:=cC h1 h1';subst this;unfold aV
   exact ReVs.refl h2 h2'
  | tup m=>unfold ReV at q;obtain⟨a',its',e,h1',h2'⟩:=q;injection e with e;subst e;exact absurd rfl (ne_of_list_tuple h1 h1')
  | scr m=>
   unfold ReV at q;obtain⟨a',its',e,h1',h2'⟩:=q;injection e with e;subst e
   have:=cC h1 h1';subst this;unfold aV
   exact ReVs.refl h2 (dy h2')
 | .scr l,u,v,r,q=>by
  unfold ReV at r;obtain⟨a,its,rfl,h1,h2⟩:=r
  cases u with
  | non=>unfold ReV at q;cases q
  | dct _ _=>unfold ReV at q;exact q.elim
  | ob _ _ _=>unfold ReV at q;exact q.elim
  | bl _=>unfold ReV at q;cases q
  | int _=>unfold ReV at q;obtain⟨_,e⟩:=q;cases e
  | str _=>unfold ReV at q;obtain⟨_,e⟩:=q;cases e
  | lst m=>
   unfold ReV at q;obtain⟨a',its',e,h1',h2'⟩:=q;injection e with e;subst e
   have:=cC h1 h1';subst this;unfold aV
   exact nN h2 h2'
  | tup m=>unfold ReV at q;obtain⟨a',its',e,h1',h2'⟩:=q;injection e with e;subst e;exact absurd rfl (ne_of_list_tuple h1 h1')
  | scr m=>
   unfold ReV at q;obtain⟨a',its',e,h1',h2'⟩:=q;injection e with e;subst e
   have:=cC h1 h1';subst this;unfold aV
   have:=iq h2 h2'
   simp[this]
 | .dct _ _,u,v,r,q=>by unfold ReV at r;exact r.elim
 | .ob _ _ _,u,v,r,q=>by unfold ReV at r;exact r.elim
theorem ReVs.refl {s:IY}:∀{l m:List T} {us:List IW},ReVs s l us->ReVs s m us->beqTs l m=true
 | [],m,us,r,q=>by
  cases ReVs.AC.mp r
  cases m with
  | nil=>simp[beqTs]
  | cons _ _=>obtain⟨_,_,e,_⟩:=ReVs.me.mp q;cases e
 | t::l,m,us,r,q=>by
  obtain⟨v,ws,rfl,p,z⟩:=ReVs.me.mp r
  cases m with
  | nil=>cases ReVs.AC.mp q
  | cons u m=>
   obtain⟨v',ws',e,p',z'⟩:=ReVs.me.mp q;injection e with e1 e2
   subst e1 e2;rw[beqTs,ReV.refl p p',ReVs.refl z z'];rfl
end
theorem nM:∀(l:List Int) (m:List T),ji l m=beqTs (l.map T.int) m
 | [],[] =>by simp[ji,beqTs]
 | [],_::_=>by simp[ji,beqTs]
 | _::_,[] =>by simp[ji,beqTs]
 | i::l,t::m=>by
  rw[ji,IZ,beqTs,nM l m]
  congr 1
  cases t <;> simp[Ca,aV]
theorem pJ:∀(l m:List Int),(l == m)=beqTs (l.map T.int) (m.map T.int)
 | [],[] =>by simp[beqTs]
 | [],_::_=>by simp[beqTs]
 | _::_,[] =>by simp[beqTs]
 | i::l,t::m=>by
  rw[IZ,IZ,beqTs,<-pJ l m];simp[aV]
theorem eY:∀(l:List Int),deps (l.map T.int)=0
 | [] =>rfl
 | i::l=>by rw[IZ,deps,eY l];simp[T.dep]
def iH:T->T->Prop
 | .tup _,.tup _=>False
 | .lst _,.lst _=>False
 | .lst _,.scr _=>False
 | .scr _,.lst _=>False
 | .scr _,.scr _=>False
 | _,_=>True
theorem sL (A:JK)(s:IY)(x y:T)(u v:IW)(hn:iH x y)(hu:A.units<cLine)(rx:ReV s x u)(ry:ReV s y v):EqAt A s u v (aV x y)/\RcAt A s u v (aV x y)/\RcNeAt A s u v (!aV x y):=by
 match x,y,hn,rx,ry with
 | .dct _ _,_,_,rx,_=>exact(by unfold ReV at rx;exact rx:False).elim
 | .ob _ _ _,_,_,rx,_=>exact(by unfold ReV at rx;exact rx:False).elim
 | _,.dct _ _,_,_,ry=>exact(by unfold ReV at ry;exact ry:False).elim
 | _,.ob _ _ _,_,_,ry=>exact(by unfold ReV at ry;exact ry:False).elim
 | .non,.non,hn,rx,ry=>
  obtain rfl:u=JI:=by unfold ReV at rx;exact rx
  obtain rfl:v=JI:=by unfold ReV at ry;exact ry
  exact⟨EqAt.same _,RcAt.none_none ,RcNeAt.none_none ⟩
 | .non,.bl b2,hn,rx,ry=>
  obtain rfl:u=JI:=by unfold ReV at rx;exact rx
  obtain rfl:v=J4 b2:=by unfold ReV at ry;exact ry
  exact⟨EqAt.none_bool b2,RcAt.none_bool b2,RcNeAt.none_bool b2⟩
 | .non,.int i2,hn,rx,ry=>
  obtain rfl:u=JI:=by unfold ReV at rx;exact rx
  obtain⟨k2,rfl⟩:∃k,v=Km i2 k:=by unfold ReV at ry;exact ry
  exact⟨EqAt.none_int i2 k2,RcAt.none_int i2 k2,RcNeAt.none_int i2 k2⟩
 | .non,.str x2,hn,rx,ry=>
  obtain rfl:u=JI:=by unfold ReV at rx;exact rx
  obtain⟨k2,rfl⟩:∃k,v=Kn x2 k:=by unfold ReV at ry;exact ry
  exact⟨EqAt.none_str x2 k2,RcAt.none_str x2 k2,RcNeAt.none_str x2 k2⟩
 | .non,.tup l2,hn,rx,ry=>
  obtain rfl:u=JI:=by unfold ReV at rx;exact rx
  unfold ReV at ry;obtain⟨a2,us2,rfl,h2,q2⟩:=ry
  exact⟨EqAt.none_tuple h2 hu,RcAt.none_tuple h2 hu,RcNeAt.none_tuple h2 hu⟩
 | .non,.lst l2,hn,rx,ry=>
  obtain rfl:u=JI:=by unfold ReV at rx;exact rx
  unfold ReV at ry;obtain⟨a2,us2,rfl,h2,q2⟩:=ry
  exact⟨EqAt.none_list h2 hu,RcAt.none_list h2 hu,RcNeAt.none_list h2 hu⟩
 | .non,.scr l2,hn,rx,ry=>
  obtain rfl:u=JI:=by unfold ReV at rx;exact rx
  unfold ReV at ry;obtain⟨a2,us2,rfl,h2,q2⟩:=ry
  exact⟨EqAt.none_list h2 hu,RcAt.none_list h2 hu,RcNeAt.none_list h2 hu⟩
 | .bl b1,.non,hn,rx,ry=>
  obtain rfl:u=J4 b1:=by unfold ReV at rx;exact rx
  obtain rfl:v=JI:=by unfold ReV at ry;exact ry
  exact⟨EqAt.bool_none b1,RcAt.bool_none b1,RcNeAt.bool_none b1⟩
 | .bl b1,.bl b2,hn,rx,ry=>
  obtain rfl:u=J4 b1:=by unfold ReV at rx;exact rx
  obtain rfl:v=J4 b2:=by unfold ReV at ry;exact ry
  exact⟨EqAt.bool_bool b1 b2,RcAt.bool_bool b1 b2,RcNeAt.bool_bool b1 b2⟩
 | .bl b1,.int i2,hn,rx,ry=>
  obtain rfl:u=J4 b1:=by unfold ReV at rx;exact rx
  obtain⟨k2,rfl⟩:∃k,v=Km i2 k:=by unfold ReV at ry;exact ry
  exact⟨EqAt.bool_int b1 i2 k2,RcAt.bool_int b1 i2 k2,RcNeAt.bool_int b1 i2 k2⟩
 | .bl b1,.str x2,hn,rx,ry=>
  obtain rfl:u=J4 b1:=by unfold ReV at rx;exact rx
  obtain⟨k2,rfl⟩:∃k,v=Kn x2 k:=by unfold ReV at ry;exact ry
  exact⟨EqAt.bool_str b1 x2 k2,RcAt.bool_str b1 x2 k2,RcNeAt.bool_str b1 x2 k2⟩
 | .bl b1,.tup l2,hn,rx,ry=>
  obtain rfl:u=J4 b1:=by unfold ReV at rx;exact rx
  unfold ReV at ry;obtain⟨a2,us2,rfl,h2,q2⟩:=ry
  exact⟨EqAt.bool_tuple b1 h2 hu,RcAt.bool_tuple b1 h2 hu,RcNeAt.bool_tuple b1 h2 hu⟩
 | .bl b1,.lst l2,hn,rx,ry=>
  obtain rfl:u=J4 b1:=by unfold ReV at rx;exact rx
  unfold ReV at ry;obtain⟨a2,us2,rfl,h2,q2⟩:=ry
  exact⟨EqAt.bool_list b1 h2 hu,RcAt.bool_list b1 h2 hu,RcNeAt.bool_list b1 h2 hu⟩
 | .bl b1,.scr l2,hn,rx,ry=>
  obtain rfl:u=J4 b1:=by unfold ReV at rx;exact rx
  unfold ReV at ry;obtain⟨a2,us2,rfl,h2,q2⟩:=ry
  exact⟨EqAt.bool_list b1 h2 hu,RcAt.bool_list b1 h2 hu,RcNeAt.bool_list b1 h2 hu⟩
 | .int i1,.non,hn,rx,ry=>
  obtain⟨k1,rfl⟩:∃k,u=Km i1 k:=by unfold ReV at rx;exact rx
  obtain rfl:v=JI:=by unfold ReV at ry;exact ry
  exact⟨EqAt.int_none i1 k1,RcAt.int_none i1 k1,RcNeAt.int_none i1 k1⟩
 | .int i1,.bl b2,hn,rx,ry=>
  obtain⟨k1,rfl⟩:∃k,u=Km i1 k:=by unfold ReV at rx;exact rx
  obtain rfl:v=J4 b2:=by unfold ReV at ry;exact ry
  exact⟨EqAt.int_bool i1 k1 b2,RcAt.int_bool i1 k1 b2,RcNeAt.int_bool i1 k1 b2⟩
 | .int i1,.int i2,hn,rx,ry=>
  obtain⟨k1,rfl⟩:∃k,u=Km i1 k:=by unfold ReV at rx;exact rx
  obtain⟨k2,rfl⟩:∃k,v=Km i2 k:=by unfold ReV at ry;exact ry
  exact⟨EqAt.int_int i1 k1 i2 k2,RcAt.int_int i1 k1 i2 k2,RcNeAt.int_int i1 k1 i2 k2⟩
 | .int i1,.str x2,hn,rx,ry=>
  obtain⟨k1,rfl⟩:∃k,u=Km i1 k:=by unfold ReV at rx;exact rx
  obtain⟨k2,rfl⟩:∃k,v=Kn x2 k:=by unfold ReV at ry;exact ry
  exact⟨EqAt.int_str i1 k1 x2 k2,RcAt.int_str i1 k1 x2 k2,RcNeAt.int_str i1 k1 x2 k2⟩
 | .int i1,.tup l2,hn,rx,ry=>
  obtain⟨k1,rfl⟩:∃k,u=Km i1 k:=by unfold ReV at rx;exact rx
  unfold ReV at ry;obtain⟨a2,us2,rfl,h2,q2⟩:=ry
  exact⟨EqAt.int_tuple i1 k1 h2 hu,RcAt.int_tuple i1 k1 h2 hu,RcNeAt.int_tuple i1 k1 h2 hu⟩
 | .int i1,.lst l2,hn,rx,ry=>
  obtain⟨k1,rfl⟩:∃k,u=Km i1 k:=by unfold ReV at rx;exact rx
  unfold ReV at ry;obtain⟨a2,us2,rfl,h2,q2⟩:=ry
  exact⟨EqAt.int_list i1 k1 h2 hu,RcAt.int_list i1 k1 h2 hu,RcNeAt.int_list i1 k1 h2 hu⟩
 | .int i1,.scr l2,hn,rx,ry=>
  obtain⟨k1,rfl⟩:∃k,u=Km i1 k:=by unfold ReV at rx;exact rx
  unfold ReV at ry;obtain⟨a2,us2,rfl,h2,q2⟩:=ry
  exact⟨EqAt.int_list i1 k1 h2 hu,RcAt.int_list i1 k1 h2 hu,RcNeAt.int_list i1 k1 h2 hu⟩
 | .str x1,.non,hn,rx,ry=>
  obtain⟨k1,rfl⟩:∃k,u=Kn x1 k:=by unfold ReV at rx;exact rx
  obtain rfl:v=JI:=by unfold ReV at ry;exact ry
  exact⟨EqAt.str_none x1 k1,RcAt.str_none x1 k1,RcNeAt.str_none x1 k1⟩
 | .str x1,.bl b2,hn,rx,ry=>
  obtain⟨k1,rfl⟩:∃k,u=Kn x1 k:=by unfold ReV at rx;exact rx
  obtain rfl:v=J4 b2:=by unfold ReV at ry;exact ry
  exact⟨EqAt.str_bool x1 k1 b2,RcAt.str_bool x1 k1 b2,RcNeAt.str_bool x1 k1 b2⟩
 | .str x1,.int i2,hn,rx,ry=>
  obtain⟨k1,rfl⟩:∃k,u=Kn x1 k:=by unfold ReV at rx;exact rx
  obtain⟨k2,rfl⟩:∃k,v=Km i2 k:=by unfold ReV at ry;exact ry
  exact⟨EqAt.str_int x1 k1 i2 k2,RcAt.str_int x1 k1 i2 k2,RcNeAt.str_int x1 k1 i2 k2⟩
 | .str x1,.str x2,hn,rx,ry=>
  obtain⟨k1,rfl⟩:∃k,u=Kn x1 k:=by unfold ReV at rx;exact rx
  obtain⟨k2,rfl⟩:∃k,v=Kn x2 k:=by unfold ReV at ry;exact ry
  exact⟨EqAt.str_str x1 k1 x2 k2,RcAt.str_str x1 k1 x2 k2,RcNeAt.str_str x1 k1 x2 k2⟩
 | .str x1,.tup l2,hn,rx,ry=>
  obtain⟨k1,rfl⟩:∃k,u=Kn x1 k:=by unfold ReV at rx;exact rx
  unfold ReV at ry;obtain⟨a2,us2,rfl,h2,q2⟩:=ry
  exact⟨EqAt.str_tuple x1 k1 h2 hu,RcAt.str_tuple x1 k1 h2 hu,RcNeAt.str_tuple x1 k1 h2 hu⟩
 | .str x1,.lst l2,hn,rx,ry=>
  obtain⟨k1,rfl⟩:∃k,u=Kn x1 k:=by unfold ReV at rx;exact rx
  unfold ReV at ry;obtain⟨a2,us2,rfl,h2,q2⟩:=ry
  exact⟨EqAt.str_list x1 k1 h2 hu,RcAt.str_list x1 k1 h2 hu,RcNeAt.str_list x1 k1 h2 hu⟩
 | .str x1,.scr l2,hn,rx,ry=>
  obtain⟨k1,rfl⟩:∃k,u=Kn x1 k:=by unfold ReV at rx;exact rx
  unfold ReV at ry;obtain⟨a2,us2,rfl,h2,q2⟩:=ry
  exact⟨EqAt.str_list x1 k1 h2 hu,RcAt.str_list x1 k1 h2 hu,RcNeAt.str_list x1 k1 h2 hu⟩
 | .tup l1,.non,hn,rx,ry=>
  unfold ReV at rx;obtain⟨a1,us1,rfl,h1,q1⟩:=rx;obtain rfl:v=JI:=by unfold ReV at ry;exact ry
  exact⟨EqAt.tuple_none h1 hu,RcAt.tuple_none h1 hu,RcNeAt.tuple_none h1 hu⟩
 | .tup l1,.bl b2,hn,rx,ry=>
  unfold ReV at rx;obtain⟨a1,us1,rfl,h1,q1⟩:=rx;obtain rfl:v=J4 b2:=by unfold ReV at ry;exact ry
  exact⟨EqAt.tuple_bool b2 h1 hu,RcAt.tuple_bool b2 h1 hu,RcNeAt.tuple_bool b2 h1 hu⟩
 | .tup l1,.int i2,hn,rx,ry=>
  unfold ReV at rx;obtain⟨a1,us1,rfl,h1,q1⟩:=rx;obtain⟨k2,rfl⟩:∃k,v=Km i2 k:=by unfold ReV at ry;exact ry
  exact⟨EqAt.tuple_int i2 k2 h1 hu,RcAt.tuple_int i2 k2 h1 hu,RcNeAt.tuple_int i2 k2 h1 hu⟩
 | .tup l1,.str x2,hn,rx,ry=>
  unfold ReV at rx;obtain⟨a1,us1,rfl,h1,q1⟩:=rx;obtain⟨k2,rfl⟩:∃k,v=Kn x2 k:=by unfold ReV at ry;exact ry
  exact⟨EqAt.tuple_str x2 k2 h1 hu,RcAt.tuple_str x2 k2 h1 hu,RcNeAt.tuple_str x2 k2 h1 hu⟩
 | .tup _,.tup _,hn,_,_=>exact hn.elim
 | .tup l1,.lst l2,hn,rx,ry=>
  unfold ReV at rx;obtain⟨a1,us1,rfl,h1,q1⟩:=rx;unfold ReV at ry;obtain⟨a2,us2,rfl,h2,q2⟩:=ry
  exact⟨EqAt.tuple_list h1 h2 hu,RcAt.tuple_list h1 h2 hu,RcNeAt.tuple_list h1 h2 hu⟩
 | .tup l1,.scr l2,hn,rx,ry=>
  unfold ReV at rx;obtain⟨a1,us1,rfl,h1,q1⟩:=rx;unfold ReV at ry;obtain⟨a2,us2,rfl,h2,q2⟩:=ry
  exact⟨EqAt.tuple_list h1 h2 hu,RcAt.tuple_list h1 h2 hu,RcNeAt.tuple_list h1 h2 hu⟩
 | .lst l1,.non,hn,rx,ry=>
  unfold ReV at rx;obtain⟨a1,us1,rfl,h1,q1⟩:=rx;obtain rfl:v=JI:=by unfold ReV at ry;exact ry
  exact⟨EqAt.list_none h1 hu,RcAt.list_none h1 hu,RcNeAt.list_none h1 hu⟩
 | .lst l1,.bl b2,hn,rx,ry=>
  unfold ReV at rx;obtain⟨a1,us1,rfl,h1,q1⟩:=rx;obtain rfl:v=J4 b2:=by unfold ReV at ry;exact ry
  exact⟨EqAt.list_bool b2 h1 hu,RcAt.list_bool b2 h1 hu,RcNeAt.list_bool b2 h1 hu⟩
 | .lst l1,.int i2,hn,rx,ry=>
  unfold ReV at rx;obtain⟨a1,us1,rfl,h1,q1⟩:=rx;obtain⟨k2,rfl⟩:∃k,v=Km i2 k:=by unfold ReV at ry;exact ry
  exact⟨EqAt.list_int i2 k2 h1 hu,RcAt.list_int i2 k2 h1 hu,RcNeAt.list_int i2 k2 h1 hu⟩
 | .lst l1,.str x2,hn,rx,ry=>
  unfold ReV at rx;obtain⟨a1,us1,rfl,h1,q1⟩:=rx;obtain⟨k2,rfl⟩:∃k,v=Kn x2 k:=by unfold ReV at ry;exact ry
  exact⟨EqAt.list_str x2 k2 h1 hu,RcAt.list_str x2 k2 h1 hu,RcNeAt.list_str x2 k2 h1 hu⟩
 | .lst l1,.tup l2,hn,rx,ry=>
  unfold ReV at rx;obtain⟨a1,us1,rfl,h1,q1⟩:=rx;unfold ReV at ry;obtain⟨a2,us2,rfl,h2,q2⟩:=ry
  exact⟨EqAt.list_tuple h1 h2 hu,RcAt.list_tuple h1 h2 hu,RcNeAt.list_tuple h1 h2 hu⟩
 | .lst _,.lst _,hn,_,_=>exact hn.elim
 | .lst _,.scr _,hn,_,_=>exact hn.elim
 | .scr l1,.non,hn,rx,ry=>
  unfold ReV at rx;obtain⟨a1,us1,rfl,h1,q1⟩:=rx;obtain rfl:v=JI:=by unfold ReV at ry;exact ry
  exact⟨EqAt.list_none h1 hu,RcAt.list_none h1 hu,RcNeAt.list_none h1 hu⟩
 | .scr l1,.bl b2,hn,rx,ry=>
  unfold ReV at rx;obtain⟨a1,us1,rfl,h1,q1⟩:=rx;obtain rfl:v=J4 b2:=by unfold ReV at ry;exact ry
  exact⟨EqAt.list_bool b2 h1 hu,RcAt.list_bool b2 h1 hu,RcNeAt.list_bool b2 h1 hu⟩
 | .scr l1,.int i2,hn,rx,ry=>
  unfold ReV at rx;obtain⟨a1,us1,rfl,h1,q1⟩:=rx;obtain⟨k2,rfl⟩:∃k,v=Km i2 k:=by unfold ReV at ry;exact ry
  exact⟨EqAt.list_int i2 k2 h1 hu,RcAt.list_int i2 k2 h1 hu,RcNeAt.list_int i2 k2 h1 hu⟩
 | .scr l1,.str x2,hn,rx,ry=>
  unfold ReV at rx;obtain⟨a1,us1,rfl,h1,q1⟩:=rx;obtain⟨k2,rfl⟩:∃k,v=Kn x2 k:=by unfold ReV at ry;exact ry
  exact⟨EqAt.list_str x2 k2 h1 hu,RcAt.list_str x2 k2 h1 hu,RcNeAt.list_str x2 k2 h1 hu⟩
 | .scr l1,.tup l2,hn,rx,ry=>
  unfold ReV at rx;obtain⟨a1,us1,rfl,h1,q1⟩:=rx;unfold ReV at ry;obtain⟨a2,us2,rfl,h2,q2⟩:=ry
  exact⟨EqAt.list_tuple h1 h2 hu,RcAt.list_tuple h1 h2 hu,RcNeAt.list_tuple h1 h2 hu⟩
 | .scr _,.lst _,hn,_,_=>exact hn.elim
 | .scr _,.scr _,hn,_,_=>exact hn.elim
theorem BN:∀(n:Nat) (A:JK) (s:IY) (x y:T) (u v:IW),(x.dep<=n\/y.dep<=n)->A.units+n<cLine->ReV s x u->ReV s y v->EqAt A s u v (aV x y)/\RcAt A s u v (aV x y)/\RcNeAt A s u v (!aV x y):=by
 intro n
 induction n with
 | zero=>
  intro A s x y u v hd hu rx ry
  exact sL A s x y u v (by cases x <;> cases y <;> simp_all [iH,T.dep]) (by omega) rx ry
 | succ n ih=>
  intro A s x y u v hd hu rx ry
  have hin:A.in1.units+n<cLine:=by show A.units+1+n<cLine;omega
  have items:∀(l m:List T) (us vs:List IW),(deps l<=n\/deps m<=n)->ReVs s l us->ReVs s m vs->∃e:Nat->Bool,(∀j (h1:j<us.toArray.size) (h2:j<vs.toArray.size),EqAt A.in1 s us.toArray[j] vs.toArray[j] (e j)) ∧
    (∀(j:Nat) t u,l[j]? =some t->m[j]? =some u->e j=aV t u):=λl m us vs hd r1 r2=>by
   refine⟨λj=>aV (l.getD j .non) (m.getD j .non),λj h1 h2=> ?_,λj t u e1 e2=>by simp[List.getD,e1,e2]⟩
   have l1:=r1.length
   have l2:=r2.length
   have h1':j<l.length:=by rw[l1];simpa using h1
   have h2':j<m.length:=by rw[l2];simpa using h2
   have e1:l[j]? =some l[j]:=by simp
   have e2:m[j]? =some m[j]:=by simp
   obtain⟨u1,z1,w1⟩:=r1.get e1;obtain⟨u2,z2,w2⟩:=r2.get e2
   have q1:us.toArray[j] =u1:=by
    have:us[j]? =some us.toArray[j]:=by simp
    rw[z1]at this;exact(JJ this).symm
   have q2:vs.toArray[j] =u2:=by
    have:vs[j]? =some vs.toArray[j]:=by simp
    rw[z2]at this;exact(JJ this).symm
   rw[q1,q2]
   have g1:l.getD j .non=l[j]:=by simp[List.getD,e1]
   have g2:m.getD j .non=m[j]:=by simp[List.getD,e2]
   show EqAt A.in1 s u1 u2 (aV (l.getD j .non) (m.getD j .non))
   rw[g1,g2];refine(ih A.in1 s l[j] m[j] u1 u2 ?_ hin w1 w2).1
   rcases hd with hd | hd
   ·exact .inl (JV (ix e1) hd)
   ·exact .inr (JV (ix e2) hd)
  have lists:∀(l m:List T) (a b:Addr) (us vs:List IW),(deps l<=n\/deps m<=n)->ReVs s l us->ReVs s m vs->s.heap.IsList a us.toArray->s.heap.IsList b vs.toArray →
    EqAt A s (.ref a) (.ref b) (beqTs l m)/\RcAt A s (.ref a) (.ref b) (beqTs l m)/\RcNeAt A s (.ref a) (.ref b) (!beqTs l m):=λl m a b us vs hd r1 r2 h1 h2=>by
   have l1:=r1.length
   have l2:=r2.length
   have key:RcAt A s (.ref a) (.ref b) (beqTs l m)/\RcNeAt A s (.ref a) (.ref b) (!beqTs l m):=by
    by_cases hl:l.length=m.length
    ·obtain⟨e,he,hb⟩:=items l m us vs hd r1 r2
     have q:=kQ l m e hb
     have q2:beqTs l m=(J1 us.toArray.size).all e:=by
      rw[q,hl,Nat.min_self];simp[l2.symm,hl.symm,l1]
     rw[q2]
     have hsz:us.toArray.size=vs.toArray.size:=by simp;omega
     exact⟨RcAt.lists h1 h2 hsz (by omega) he,RcNeAt.lists h1 h2 hsz (by omega) he⟩
    ·rw[gp hl]
     have hsz:(us.toArray.size != vs.toArray.size)=true:=by simp;omega
     exact⟨RcAt.lists_lengths h1 h2 hsz (by omega),RcNeAt.lists_lengths h1 h2 hsz (by omega)⟩
   refine⟨?_,key⟩
   by_cases hab:a=b
   ·subst hab
    have:=cC h1 h2;subst this;rw[ReVs.refl r1 r2];exact EqAt.same _
   ·exact EqAt.of_refs hab key.1
  cases x with
  | tup l=>
   cases y with
   | tup m=>
    unfold ReV at rx ry;obtain⟨a,us,rfl,h1,r1⟩:=rx;obtain⟨b,vs,rfl,h2,r2⟩:=ry
    have hd':deps l<=n\/deps m<=n:=by
     simp only[T.dep]at hd;omega
    have l1:=r1.length
    have l2:=r2.length;obtain⟨e,he,hb⟩:=items l m us vs hd' r1 r2
    have q:=kQ l m e hb
    have q2:beqTs l m=((J1 (min us.toArray.size vs.toArray.size)).all e&&us.toArray.size == vs.toArray.size):=by
     rw[q];simp[l1,l2]
    have key:RcAt A s (.ref a) (.ref b) (beqTs l m)/\RcNeAt A s (.ref a) (.ref b) (!beqTs l m):=by
     rw[q2];exact⟨RcAt.tuples h1 h2 (by omega) he,RcNeAt.tuples h1 h2 (by omega) he⟩
    unfold aV;refine⟨?_,key⟩
    by_cases hab:a=b
    ·subst hab
     have:=ip h1 h2;subst this;rw[ReVs.refl r1 r2];exact EqAt.same _
    ·exact EqAt.of_refs hab key.1
   | _=>exact sL A s _ _ u v (by simp[iH]) (by omega) rx ry
  | lst l=>
   cases y with
   | lst m=>
    unfold ReV at rx ry;obtain⟨a,us,rfl,h1,r1⟩:=rx;obtain⟨b,vs,rfl,h2,r2⟩:=ry;unfold aV
    exact lists l m a b us vs (by simp only[T.dep]at hd;omega) r1 r2 h1 h2
   | scr m=>
    unfold ReV at rx ry;obtain⟨a,us,rfl,h1,r1⟩:=rx;obtain⟨b,vs,rfl,h2,r2⟩:=ry;unfold aV
    exact lists l (m.map T.int) a b us vs (by rw[eY];omega) r1 (dy r2) h1 h2
   | _=>exact sL A s _ _ u v (by simp[iH]) (by omega) rx ry
  | scr l=>
   cases y with
   | lst m=>
    unfold ReV at rx ry;obtain⟨a,us,rfl,h1,r1⟩:=rx;obtain⟨b,vs,rfl,h2,r2⟩:=ry;unfold aV;rw[nM]
    exact lists (l.map T.int) m a b us vs (by rw[eY];omega) (dy r1) r2 h1 h2
   | scr m=>
    unfold ReV at rx ry;obtain⟨a,us,rfl,h1,r1⟩:=rx;obtain⟨b,vs,rfl,h2,r2⟩:=ry;unfold aV;rw[pJ]
    exact lists (l.map T.int) (m.map T.int) a b us vs (by rw[eY];omega) (dy r1) (dy r2) h1 h2
   | _=>exact sL A s _ _ u v (by simp[iH]) (by omega) rx ry
  | _=>exact sL A s _ _ u v (by simp[iH]) (by omega) rx ry
mutual
def T.nf:T->T
 | .tup l=> .tup (nfs l)
 | .lst l=> .lst (nfs l)
 | .scr l=> .lst (l.map .int)
 | .non=> .non
 | .bl b=> .bl b
 | .int b=> .int b
 | .str b=> .str b
 | .dct a b=> .dct a b
 | .ob a b c=> .ob a b c
def nfs:List T->List T
 | [] => []
 | t::l=>t.nf::nfs l
end
theorem se:∀(l:List Int),nfs (l.map T.int)=l.map T.int
 | [] =>rfl
 | i::l=>by rw[IZ,nfs,se l];simp[T.nf]
mutual
theorem ke:∀(t x:T),aV t.nf x=aV t x
 | .non,x=>by simp[T.nf]
 | .bl _,x=>by simp[T.nf]
 | .int _,x=>by simp[T.nf]
 | .str _,x=>by simp[T.nf]
 | .tup l,x=>by cases x <;> simp[T.nf,aV,beqTs_nf l]
 | .lst l,x=>by cases x <;> simp[T.nf,aV,beqTs_nf l]
 | .scr l,x=>by cases x <;> simp[T.nf,aV,nM,pJ]
 | .dct _ _,x=>by simp[T.nf]
 | .ob _ _ _,x=>by simp[T.nf]
theorem beqTs_nf:∀(l m:List T),beqTs (nfs l) m=beqTs l m
 | [],m=>by simp[nfs]
 | t::l,m=>by cases m <;> simp[nfs,beqTs,ke t,beqTs_nf l]
end
theorem EW {s:IY}{t:T}{i:Int}{k:Tok}(r:ReV s t (.int i k)):t.nf= .int i:=by
 cases t with
 | non=>unfold ReV at r;cases r
 | bl b=>unfold ReV at r;cases r
 | int j=>unfold ReV at r;obtain⟨t,e⟩:=r;injection e with e1 _;subst e1;rfl
 | str x=>unfold ReV at r;obtain⟨t,e⟩:=r;cases e
 | tup l=>unfold ReV at r;obtain⟨a,its,e,_⟩:=r;cases e
 | lst l=>unfold ReV at r;obtain⟨a,its,e,_⟩:=r;cases e
 | scr l=>unfold ReV at r;obtain⟨a,its,e,_⟩:=r;cases e
 | dct _ _=>unfold ReV at r;exact r.elim
 | ob _ _ _=>unfold ReV at r;exact r.elim
theorem vz {s:IY}:∀{l:List T} {us:List IW} {ns:List Int},ReVs s l us->Mp us ns->nfs l=ns.map T.int
 | [],us,ns,r,h=>by cases ReVs.AC.mp r;cases h;rfl
 | t::l,us,ns,r,h=>by
  obtain⟨u,ws,rfl,p,q⟩:=ReVs.me.mp r
  cases h with
  | cons a b hh=>rw[nfs,EW p,vz q hh];rfl
mutual
theorem ReV.nf {s:IY}:∀{t u:T} {v:IW},ReV s t v->ReV s u v->t.nf=u.nf
 | .non,u,v,r,q=>by
  unfold ReV at r;subst r
  cases u <;> (unfold ReV at q) <;> first | rfl | (cases q;done) | (obtain⟨_,e⟩:=q;cases e;done) | (obtain⟨_,_,e,_⟩:=q;cases e;done)
 | .bl b,u,v,r,q=>by
  unfold ReV at r;subst r
  cases u <;> (unfold ReV at q) <;> first | (cases q;done) | (cases q;rfl) | (obtain⟨_,e⟩:=q;cases e;done) | (obtain⟨_,_,e,_⟩:=q;cases e;done)
 | .int b,u,v,r,q=>by
  unfold ReV at r;obtain⟨k,rfl⟩:=r
  cases u <;> (unfold ReV at q) <;> first | (cases q;done) | (obtain⟨_,e⟩:=q;cases e;done) | (obtain⟨_,e⟩:=q;cases e;rfl) | (obtain⟨_,_,e,_⟩:=q;cases e;done)
 | .str b,u,v,r,q=>by
  unfold ReV at r;obtain⟨k,rfl⟩:=r
  cases u <;> (unfold ReV at q) <;> first | (cases q;done) | (obtain⟨_,e⟩:=q;cases e;done) | (obtain⟨_,e⟩:=q;cases e;rfl) | (obtain⟨_,_,e,_⟩:=q;cases e;done)
 | .tup l,u,v,r,q=>by
  unfold ReV at r;obtain⟨a,its,rfl,h1,h2⟩:=r
  cases u with
  | non=>unfold ReV at q;cases q
  | dct _ _=>unfold ReV at q;exact q.elim
  | ob _ _ _=>unfold ReV at q;exact q.elim
  | bl _=>unfold ReV at q;cases q
  | int _=>unfold ReV at q;obtain⟨_,e⟩:=q;cases e
  | str _=>unfold ReV at q;obtain⟨_,e⟩:=q;cases e
  | tup m=>
   unfold ReV at q;obtain⟨a',its',e,h1',h2'⟩:=q;injection e with e;subst e
   have:=ip h1 h1';subst this;unfold T.nf
   rw[ReVs.nf h2 h2']
  | lst m=>unfold ReV at q;obtain⟨a',its',e,h1',h2'⟩:=q;injection e with e;subst e;exact absurd rfl (ne_of_list_tuple h1' h1)
  | scr m=>unfold ReV at q;obtain⟨a',its',e,h1',h2'⟩:=q;injection e with e;subst e;exact absurd rfl (ne_of_list_tuple h1' h1)
 | .lst l,u,v,r,q=>by
  unfold ReV at r;obtain⟨a,its,rfl,h1,h2⟩:=r
  cases u with
  | non=>unfold ReV at q;cases q
  | dct _ _=>unfold ReV at q;exact q.elim
  | ob _ _ _=>unfold ReV at q;exact q.elim
  | bl _=>unfold ReV at q;cases q
  | int _=>unfold ReV at q;obtain⟨_,e⟩:=q;cases e
  | str _=>unfold ReV at q;obtain⟨_,e⟩:=q;cases e
  | lst m=>
   unfold ReV at q;obtain⟨a',its',e,h1',h2'⟩:=q;injection e with e;subst e
   have:=cC h1 h1';subst this;unfold T.nf
   rw[ReVs.nf h2 h2']
  | tup m=>unfold ReV at q;obtain⟨a',its',e,h1',h2'⟩:=q;injection e with e;subst e;exact absurd rfl (ne_of_list_tuple h1 h1')
  | scr m=>
   unfold ReV at q;obtain⟨a',its',e,h1',h2'⟩:=q;injection e with e;subst e
   have:=cC h1 h1';subst this;unfold T.nf
   rw[ReVs.nf h2 (dy h2'),se]
 | .scr l,u,v,r,q=>by
  unfold ReV at r;obtain⟨a,its,rfl,h1,h2⟩:=r
  cases u with
  | non=>unfold ReV at q;cases q
  | dct _ _=>unfold ReV at q;exact q.elim
  | ob _ _ _=>unfold ReV at q;exact q.elim
  | bl _=>unfold ReV at q;cases q
  | int _=>unfold ReV at q;obtain⟨_,e⟩:=q;cases e
  | str _=>unfold ReV at q;obtain⟨_,e⟩:=q;cases e
  | lst m=>
   unfold ReV at q;obtain⟨a',its',e,h1',h2'⟩:=q;injection e with e;subst e
   have:=cC h1 h1';subst this
   have z:=vz h2' h2;unfold T.nf
   rw[z]
  | tup m=>unfold ReV at q;obtain⟨a',its',e,h1',h2'⟩:=q;injection e with e;subst e;exact absurd rfl (ne_of_list_tuple h1 h1')
  | scr m=>
   unfold ReV at q;obtain⟨a',its',e,h1',h2'⟩:=q;injection e with e;subst e
   have:=cC h1 h1';subst this
   rw[iq h2 h2']
 | .dct _ _,u,v,r,q=>by unfold ReV at r;exact r.elim
 | .ob _ _ _,u,v,r,q=>by unfold ReV at r;exact r.elim
theorem ReVs.nf {s:IY}:∀{l m:List T} {us:List IW},ReVs s l us->ReVs s m us->nfs l=nfs m
 | [],m,us,r,q=>by
  cases ReVs.AC.mp r
  cases m with
  | nil=>rfl
  | cons _ _=>obtain⟨_,_,e,_⟩:=ReVs.me.mp q;cases e
 | t::l,m,us,r,q=>by
  obtain⟨v,ws,rfl,p,z⟩:=ReVs.me.mp r
  cases m with
  | nil=>cases ReVs.AC.mp q
  | cons u m=>
   obtain⟨v',ws',e,p',z'⟩:=ReVs.me.mp q;injection e with e1 e2
   subst e1 e2;rw[nfs,nfs,ReV.nf p p',ReVs.nf z z']
end
section
variable {X:Cx}{a b c:Expr}{fa fb fc:En->Rs T}{pos:Pos}
def gA (x y:T):Bool:=(decide (x.dep<=60)||decide (y.dep<=60))&&(x.nd&&y.nd)
def lX (x y:T):Rs T:=if gA x y=true then .ok (.bl (aV x y))else .bad
def lR (x y:T):Rs T:=if gA x y=true then .ok (.bl (!aV x y))else .bad
theorem gn {x y:T}(h:x.dep<=60)(hx:x.nd=true)(hy:y.nd=true):gA x y=true:=by unfold gA;rw[decide_eq_true h,hx,hy];rfl
theorem iU {x y:T}(h:gA x y=true):x.nd=true/\y.nd=true:=by
 unfold gA at h;exact J6.mp (J6.mp h).2
theorem o8 {x y:T}(h:gA x y=true):x.dep<=60\/y.dep<=60:=by
 unfold gA at h
 replace h:=(J6.mp h).1
 rcases Bool.or_eq_true_iff.mp h with h | h
 ·exact .inl (of_decide_eq_true h)
 ·exact .inr (of_decide_eq_true h)
theorem mF (hu:X.A.units+60<cLine):OpT X (J3 .Eq) lX:=by
 intro pins s σ H O x y vx vy ux uy Q I hf rx ry r1 r2 hp;unfold lX at hp
 split at hp
 ·rename_i h
  have z:=BN 60 X.A s x y ux uy (o8 h) hu (Rep.val I (iU h).1 rx r1) (Rep.val I (iU h).2 ry r2);exact z.2.1 _ _ _ _ ⟨.bl _,H,I,rfl,hp H (Same.refl H) _ (Rep.bl_ _)⟩
 ·exact hp.elim
theorem mC (hu:X.A.units+60<cLine):OpT X (J3 .NotEq) lR:=by
 intro pins s σ H O x y vx vy ux uy Q I hf rx ry r1 r2 hp;unfold lR at hp
 split at hp
 ·rename_i h
  have z:=BN 60 X.A s x y ux uy (o8 h) hu (Rep.val I (iU h).1 rx r1) (Rep.val I (iU h).2 ry r2);exact z.2.2 _ _ _ _ ⟨.bl _,H,I,rfl,hp H (Same.refl H) _ (Rep.bl_ _)⟩
 ·exact hp.elim
def T.items:T->Option (List T)
 | .tup l=>some l
 | .lst l=>some l
 | .scr l=>some (l.map T.int)
 | _=>none
def pw (x:T)(l:List T):Bool:=l.any λy=>aV y x
def Fy (x y:T):Rs T:=match y.items with
 | some l=>if (x.dep<=60\/deps l<=60)/\x.nd=true/\y.nd=true then .ok (.bl (pw x l))else .bad
 | none=> .bad
theorem Bw {A:JK}{s:IY}{x:T}{ux:IW}(rx:ReV s x ux)(hu:A.units+60<cLine){l:List T}{us:List IW}(hd:x.dep<=60\/deps l<=60)(r:ReVs s l us) :
  ∃e:IW->Bool,(∀y∈us,EqAt A s y ux (e y))/\us.any e=pw x l:=by
 classical
 have ex:∀y∈us,∃t∈l,ReV s t y:=λy hy=>by
  obtain⟨i,hi,rfl⟩:=La hy
  have hl:=r.length
  have e1:l[i]? =some l[i]:=by simp
  obtain⟨u,q1,q2⟩:=r.get e1
  have:us[i]? =some us[i]:=by simp
  rw[this]at q1;cases q1;exact⟨l[i],KM _,q2⟩
 let e:IW->Bool:=λy=>decide (∃t∈l,ReV s t y/\aV t x=true)
 have dep:∀t∈l,t.dep<=60\/x.dep<=60:=λt ht=>by
  rcases hd with h | h
  ·exact .inr h
  ·obtain⟨i,hi,rfl⟩:=La ht
   exact .inl (JV (ix (i:=i) (by simp)) h)
 have uniq:∀y t t',ReV s t y->ReV s t' y->aV t x=aV t' x:=λy t t' z z'=>by
  rw[<-ke t,<-ke t',ReV.nf z z']
 have agree:∀y t,t∈l->ReV s t y->e y=aV t x:=λy t h z=>by
  show decide (∃t∈l,ReV s t y/\aV t x=true)=aV t x
  cases q:aV t x with
  | true=>exact decide_eq_true ⟨t,h,z,q⟩
  | false=>
   refine decide_eq_false ?_
   rintro ⟨t',h',z',q'⟩
   rw[<-uniq y t t' z z',q]at q';cases q'
 refine⟨e,λy hy=> ?_,?_⟩
 ·obtain⟨t,h,z⟩:=ex y hy
  rw[agree y t h z];exact(BN 60 A s t x y ux (dep t h) hu z rx).1
 ·have go:∀(l':List T) (us':List IW),(∀t∈l',t∈l)->ReVs s l' us'->us'.any e=l'.any λy=>aV y x:=by
   intro l'
   induction l' with
   | nil=>intro us' _ r';rw[ReVs.AC.mp r'];rfl
   | cons t l' ih=>
    intro us' sub r';obtain⟨u,ws,rfl,p,q⟩:=ReVs.me.mp r';rw[Lb,Lb,ih ws (λt ht=>sub t (IX _ ht)) q,agree u t (sub t Je) p]
  exact go l us (λ_ h=>h) r
theorem wM {s:IY}{y:T}{u:IW}{l:List T}(r:ReV s y u)(h:y.items=some l):∃a us,u= .ref a/\ReVs s l us/\(s.heap.IsTuple a us.toArray\/s.heap.IsList a us.toArray):=by
 cases y with
 | tup m=>cases h;unfold ReV at r;obtain⟨a,us,e,h1,h2⟩:=r;exact⟨a,us,e,h2,.inl h1⟩
 | lst m=>cases h;unfold ReV at r;obtain⟨a,us,e,h1,h2⟩:=r;exact⟨a,us,e,h2,.inr h1⟩
 | scr m=>cases h;unfold ReV at r;obtain⟨a,us,e,h1,h2⟩:=r;exact⟨a,us,e,dy h2,.inr h1⟩
 | _=>cases h
theorem Gw (hu:X.A.units+61<cLine):OpT X (J3 .In) Fy:=by
 intro pins s σ H O x y vx vy ux uy Q I hf rx ry r1 r2 hp;unfold Fy at hp
 split at hp
 ·rename_i l hl
  split at hp
  ·rename_i hd3
   obtain⟨hd,hnx,hny⟩:=hd3;obtain⟨a,us,rfl,rs,hh⟩:=wM (Rep.val I hny ry r2) hl;obtain⟨e,he,ha⟩:=Bw (A:=X.A.in1) (Rep.val I hnx rx r1) (by show X.A.units+1+60<cLine;omega) hd rs
   have q:=hp H (Same.refl H) _ (Rep.bl_ (pw x l))
   have he':∀y,y∈us.toArray->EqAt X.A.in1 s y ux (e y):=λy hy=>he y (by simpa using hy)
   have ha':us.toArray.any e=pw x l:=by simpa using ha
   rcases hh with hh | hh
   ·exact in_tupleAt e hh he' (by rw[ha'];exact⟨.bl _,H,I,rfl,q⟩)
   ·exact in_listAt e hh he' (by rw[ha'];exact⟨.bl _,H,I,rfl,q⟩)
  ·exact hp.elim
 ·exact hp.elim
def ch (g g':T->T->Rs T)(fa fb fc:En->Rs T)(Z:En):Rs T:=do
 let x <-fa Z
 let y <-fb Z
 let z <-g x y
 match z with
 | .bl true=>do
  let w <-fc Z
  g' y w
 | .bl false=> .ok (.bl false)
 | _=> .bad
theorem A2 {op op':Pw}{g g':T->T->Rs T}(ho:OpT X (J3 op) g)(ho':OpT X (J3 op') g')(ha:cj X a fa)(hb:cj X b fb)(hc:cj X c fc)
  (hm:lastMarks [op,op'] [b,c] =false:=by with_unfolding_all rfl):cj X (.Compare a [op,op'] [b,c] pos) (ch g g' fa fb fc):=by
 intro pins s σ H Q I ⟨Z,O,E,hq⟩
 have h1:=aZ E hq;refine Compare_chain (bR (ha pins s σ H _ I h1) λv s1 ⟨x,H1,I1,r1,t,rt,s',E',q1⟩=>chain_link ?_) hm
 have h2:=aZ (f:=fb) E' q1;refine bR (hb pins s1 σ H1 _ I1 h2) λu s2 hh_=> ?_
 obtain⟨y,H2,I2,r2,t2,rt2,s'',E'',q2⟩:=hh_
 refine bR (ho pins s2 σ H2 O t t2 x y v u (λv' H'=> ∃t',Rep X.K O H' t' v'/\Same H2 H'/\Post X H' (match t' with
  | .bl true=>fc Z >>= λw=>g' t2 w
  | .bl false=> .ok (.bl false)
  | _=> .bad) (λt H'=> ∀v,Rep X.K O H' t v->Q v H')) I2 (λp=>E''.fresh) (rt.same s'') rt2 r1 r2 (Post.mono q2.bind λt' H' s3 q v rv=>⟨t',rv,s3,q⟩)) λd s3 ⟨z,H3,I3,r3,t3,rt3,sm3,q3⟩=> ?_
 have E3:=E''.same sm3
 split at q3
 ·cases Rep.FM.mp rt3
  cases r3;refine Ke (ite_tt (chain_last ?_))
  have h4:=aZ (f:=fc) E3 q3;refine bR (hc pins s3 σ H3 _ I3 h4) λw' s4 ⟨z',H4,I4,r4,t4,rt4,s4',E4,q4⟩=> ?_
  exact ho' pins s4 σ H4 O t2 t4 y z' u w' Q I4 (λp=>E4.fresh) ((rt2.same sm3).same s4') rt4 r2 r4 q4
 ·cases Rep.FM.mp rt3
  cases r3;refine Ke (ite_ff ⟨.bl false,H3,I3,rfl,q3 H3 (Same.refl H3) _ (Rep.bl_ false)⟩)
 ·exact q3.elim
def tb (f:En->Rs T)(Z:En):Rs Bool:=do
 let x <-f Z
 match x with
 | .bl k=> .ok k
 | _=> .bad
def bt (f:En->Rs Bool)(Z:En):Rs T:=do
 let k <-f Z
 .ok (.bl k)
theorem Dv {e:Expr}{f:En->Rs T}(h:cj X e f)(he:∀whole,isTrue e X.env whole=(do let v <-whole;standAt e.pos;holding [v] (truthy v)):=by intro _;rfl):sZ X e (tb f):=by
 intro pins s σ H Q I ⟨Z,O,E,hq⟩;refine DW h he pins s σ H Q I ?_
 obtain⟨Z1,O1,E1,h1⟩:=aZ E hq;refine⟨Z1,O1,E1,Post.mono h1 λts H1 s1 q vs r=> ?_⟩
 obtain⟨t',r',s',E',q'⟩:=q vs r
 split at q'
 ·exact⟨_,Rep.FM.mp r',q' H1 (Same.refl H1)⟩
 ·exact q'.elim
theorem Dx {op:Pw}{g:T->T->Rs T}(ho:OpT X (J3 op) g)(ha:cj X a fa)(hb:cj X b fb)(hm:LK op b=false:=by rfl):sZ X (.Compare a [op] [b] pos) (tb (o2 g fa fb)):=by
 intro pins s σ H Q I ⟨Z,O,E,hq⟩
 have hq':Post X H (o2 g fa fb Z) λt H'=> ∀v,Rep X.K O H' t v->∃k,v= .bl k/\Q k H':=Post.mono hq.bind λt H' s' q v r=>by
  split at q
  ·exact⟨_,Rep.FM.mp r,q H' (Same.refl H')⟩
  ·exact q.elim
 have h1:=aZ E hq';refine NG (bR (ha pins s σ H _ I h1) λv s1 ⟨x,H1,I1,r1,t,rt,s',E',q1⟩=> ?_) hm
 have h2:=aZ (f:=fb) E' q1;refine bR (hb pins s1 σ H1 _ I1 h2) λu s2 hh_=> ?_
 obtain⟨y,H2,I2,r2,t2,rt2,s'',E'',q2⟩:=hh_;refine bR (ho pins s2 σ H2 O t t2 x y v u _ I2 (λp=>E''.fresh) (rt.same s'') rt2 r1 r2 q2) λd s3 hh_=> ?_
 obtain⟨z,H3,I3,r3,k,e,q3⟩:=hh_;subst e;cases r3;exact Ke ⟨H3,I3,q3⟩
def sY (f g:En->Rs Bool)(Z:En):Rs Bool:=do
 let k <-f Z
 if k then g Z else .ok false
def mG (f g:En->Rs Bool)(Z:En):Rs Bool:=do
 let k <-f Z
 if k then .ok true else g Z
def cK (f:En->Rs Bool)(Z:En):Rs Bool:=do
 let k <-f Z
 .ok (!k)
variable {f g:En->Rs Bool}{bN:List Expr}
abbrev CW (X:Cx)(e:Expr)(f:En->Rs Bool):Prop:=PW X e (z0 X f)
theorem AL (ha:sZ X a f):CW X (.BoolOp .And [a] pos) f:=A4 ha
theorem Dt (ha:sZ X a f):CW X (.BoolOp .Or [a] pos) f:=xT ha
theorem Du (ha:sZ X a f)(hb:CW X (.BoolOp .And (b::bN) pos) g):CW X (.BoolOp .And (a::b::bN) pos) (sY f g):=by
 intro wh pins s σ H Q I ⟨Z,O,E,hq⟩;refine DU ha hb wh pins s σ H Q I ?_
 obtain⟨Z1,O1,E1,h1⟩:=jL E hq;refine⟨Z1,O1,E1,Post.mono h1 λk H1 s1 q=> ?_⟩
 obtain⟨s',E',q'⟩:=q
 cases k with
 | true=>rw[if_pos rfl];exact⟨Z,O,E',by simpa using q'⟩
 | false=>rw[if_neg Jw];exact q' H1 (Same.refl H1)
theorem F3 (ha:sZ X a f)(hb:CW X (.BoolOp .Or (b::bN) pos) g):CW X (.BoolOp .Or (a::b::bN) pos) (mG f g):=by
 intro wh pins s σ H Q I ⟨Z,O,E,hq⟩;refine Cy ha hb wh pins s σ H Q I ?_
 obtain⟨Z1,O1,E1,h1⟩:=jL E hq;refine⟨Z1,O1,E1,Post.mono h1 λk H1 s1 q=> ?_⟩
 obtain⟨s',E',q'⟩:=q
 cases k with
 | true=>rw[if_pos rfl];exact q' H1 (Same.refl H1)
 | false=>rw[if_neg Jw];exact⟨Z,O,E',by simpa using q'⟩
theorem qt_w {e:Expr}(h:CW X e f):sZ X e f:=h.pt
theorem Dw (ha:sZ X a f):sZ X (.UnaryOp .Not a pos) (cK f):=by
 intro pins s σ H Q I ⟨Z,O,E,hq⟩;refine DX ha pins s σ H Q I ?_
 obtain⟨Z1,O1,E1,h1⟩:=jL E hq;exact⟨Z1,O1,E1,Post.mono h1 λk H1 s1 ⟨s',E',q'⟩=>q' H1 (Same.refl H1)⟩
def bZ (f g:En->Rs T)(Z:En):Rs T:=do
 let x <-f Z
 match x with
 | .bl true=>g Z
 | .bl false=> .ok (.bl false)
 | _=> .bad
def z5 (f g:En->Rs T)(Z:En):Rs T:=do
 let x <-f Z
 match x with
 | .bl true=> .ok (.bl true)
 | .bl false=>g Z
 | _=> .bad
def Bs:T->Rs T
 | .bl k=> .ok (.bl (!k))
 | _=> .bad
theorem Gb {op}(h:cj X a fa):cj X (.BoolOp op [a] pos) fa:=D7 h
theorem Gp (ha:cj X a fa)(hb:cj X (.BoolOp .And (b::bN) pos) fb):cj X (.BoolOp .And (a::b::bN) pos) (bZ fa fb):=by
 intro pins s σ H Q I ⟨Z,O,E,hq⟩;refine Ef ha hb pins s σ H Q I ?_
 obtain⟨Z1,O1,E1,h1⟩:=aZ E hq;refine⟨Z1,O1,E1,Post.mono h1 λts H1 s1 q vs r=> ?_⟩
 obtain⟨t',r',s',E',q'⟩:=q vs r
 split at q'
 ·exact⟨true,Rep.FM.mp r',by rw[if_pos rfl];exact⟨Z,O,E',q'⟩⟩
 ·exact⟨false,Rep.FM.mp r',by rw[if_neg Jw];exact q' H1 (Same.refl H1) _ (Rep.bl_ false)⟩
 ·exact q'.elim
theorem q_or (ha:cj X a fa)(hb:cj X (.BoolOp .Or (b::bN) pos) fb):cj X (.BoolOp .Or (a::b::bN) pos) (z5 fa fb):=by
 intro pins s σ H Q I ⟨Z,O,E,hq⟩;refine Gu ha hb pins s σ H Q I ?_
 obtain⟨Z1,O1,E1,h1⟩:=aZ E hq;refine⟨Z1,O1,E1,Post.mono h1 λts H1 s1 q vs r=> ?_⟩
 obtain⟨t',r',s',E',q'⟩:=q vs r
 split at q'
 ·exact⟨true,Rep.FM.mp r',by rw[if_pos rfl];exact q' H1 (Same.refl H1) _ (Rep.bl_ true)⟩
 ·exact⟨false,Rep.FM.mp r',by rw[if_neg Jw];exact⟨Z,O,E',q'⟩⟩
 ·exact q'.elim
theorem Gd (ha:cj X a fa):cj X (.UnaryOp .Not a pos) (o1 Bs fa):=by
 intro pins s σ H Q I ⟨Z,O,E,hq⟩;refine D8 ha pins s σ H Q I ?_
 obtain⟨Z1,O1,E1,h1⟩:=aZ E hq;refine⟨Z1,O1,E1,Post.mono h1 λts H1 s1 q vs r=> ?_⟩
 obtain⟨t',r',s',E',q'⟩:=q vs r;unfold Bs at q'
 split at q'
 ·exact⟨_,Rep.FM.mp r',q' H1 (Same.refl H1) _ (Rep.bl_ _)⟩
 ·exact q'.elim
def CK (f:En->Rs Bool)(fa fb:En->Rs T)(Z:En):Rs T:=do
 let k <-f Z
 if k then fa Z else fb Z
theorem q_if (hc:sZ X c f)(ha:cj X a fa)(hb:cj X b fb):cj X (.IfExp c a b pos) (CK f fa fb):=by
 intro pins s σ H Q I ⟨Z,O,E,hq⟩;refine ya hc ha hb pins s σ H Q I ?_
 obtain⟨Z1,O1,E1,h1⟩:=jL E hq;refine⟨Z1,O1,E1,Post.mono h1 λk H1 s1 q=> ?_⟩
 obtain⟨s',E',q'⟩:=q
 cases k with
 | true=>rw[if_pos rfl];exact⟨Z,O,E',by simpa using q'⟩
 | false=>rw[if_neg Jw];exact⟨Z,O,E',by simpa using q'⟩
end
end Tr
namespace HT
open PySem PyProof.Rows
section
variable {prog:JB}{w:JY}{A:JK}{E:IW->IY->Prop}{s:IY}
theorem i7 {t:Addr}{items:Array IW}{Q:Bool->IY->Prop}(ht:Py s.heap t items)(h:Q true s):wpAny (model prog w) A (Ms (.ref t)) Q E s:=by
 unfold Ms;refine Ja (MC ht.typeIs (Jl ?_))
 exact h
theorem getItem_tuple_whole {t sl:Addr}{items:Array IW}{vl vu:IW}{lo hi:Option Int}{Q:IW->IY->Prop}(ht:Py s.heap t items)(hs:s.heap.IsSliceOf sl vl vu .none)(pl:Oi vl lo)(pu:Oi vu hi)
  (hw:sIx items.size 0 lo=0/\sIx items.size items.size hi=items.size) (h:Q (.ref t) s):wpAny (model prog w) A (getItem (.ref t) (.ref sl)) Q E s:=by
 obtain⟨os,hos,hcs,hds⟩:=id hs
 have hTs:s.TypeIs (.ref sl) "slice":=⟨os,hos,hcs⟩;unfold getItem
 try with_reducible refine M4 ?_
 first | refine Ja (Jl ?_) | skip
 refine Ja (Oz ht.typeIs (by decide) ?_)
 refine Ja (KA (name:=Jr "__getitem__") ht.typeIs JW
  (Lr JW ht.typeIs NZ ?_ (Oj _ _)))
 show wpAny _ _ (Mr (.ref t) >>= _) _ _ s
 refine Ja (Ol ht ?_)
 refine Ja (MC hTs ?_)
 rw[if_pos (by decide)]
 refine Ja (gf hs pl pu ?_)
 have hyes:(((sIx items.size 0 lo:Nat):Int) == 0&&(1:Int) == 1&&(sIx items.size items.size hi - sIx items.size 0 lo) == items.size)=true:=by
  rw[hw.1,hw.2];simp
 show wpAny _ _ (if (((sIx items.size 0 lo:Nat):Int) == 0&&(1:Int) == 1&&(sIx items.size items.size hi - sIx items.size 0 lo) == items.size)=true then _ else _) _ _ s
 rw[if_pos hyes]
 first
  | refine Ja (i7 ht ?_)
  | refine i7 ht ?_
 try rw[if_pos rfl]
 first
  | exact Ja (OB (Jl ⟨_,rfl,Jl h⟩))
  | exact Ja (OB (Ja (Jl (Jl ⟨_,rfl,Jl h⟩))))
end
end HT
namespace Tr
open PySem PySem.Spec PyProof.Rows L2
section
variable {X:Cx}{a b c:Expr}{fa fb fc:En->Rs T}{pos:Pos}
theorem Reps.atI {K:IU}{O:Ow}{H:Hp}{l:List T}{vs:List V}{i:Int}{t:T}(r:Reps K O H l vs)(e:L2.atI l i=some t):∃v,L2.atI vs i=some v/\Rep K O H t v:=by
 unfold L2.atI at e ⊢;rw[r.length]at e
 cases q:ixN vs.length i with
 | none=>rw[q]at e;cases e
 | some j=>
  rw[q]at e;obtain⟨v,e1,e2⟩:=r.get (i:=j) (t:=t) e;exact⟨v,e1,e2⟩
def aY (x y:T):Rs T:=match x.items,y with
 | some l,.int i=>match L2.atI l i with
  | some t=> .ok t
  | none=> .bad
 | _,_=> .bad
theorem q_ix (ha:cj X a fa)(hb:cj X b fb)(hs:vU b:=by intro _ _;rfl):cj X (.Subscript a b pos) (o2 aY fa fb):=by
 intro pins s σ H Q I ⟨Z,O,E,hq⟩
 have h1:=aZ E hq;refine Subscript_ (bR (ha pins s σ H _ I h1) λv s1 hh_=> ?_)
 obtain⟨x,H1,I1,r1,t,rt,s',E',q1⟩:=hh_
 have h2:=aZ (f:=fb) E' q1;refine bR (hb pins s1 σ H1 _ I1 h2) λu s2 hh_=> ?_
 obtain⟨y,H2,I2,r2,t2,rt2,s'',E'',q2⟩:=hh_
 have rt':=rt.same s'';unfold aY at q2
 split at q2
 ·rename_i l i hl
  split at q2
  ·rename_i z hz
   have hy:=Rep.Da.mp rt2;refine EU a b pins s2 σ H2 x y v u Q I2 r1 r2 ?_ (hs _ _)
   cases t with
   | tup m=>
    cases hl;obtain⟨p,vs,e,n,q,rr⟩:=Rep.Fk.mp rt';obtain⟨w,ew,rw'⟩:=rr.atI hz
    exact .inr (.inl ⟨p,vs,i,w,e,hy,SqT.of q,ew,q2 H2 (Same.refl H2) _ rw'⟩)
   | lst m=>
    cases hl;obtain⟨p,vs,e,n,q,rr⟩:=Rep.Do.mp rt';obtain⟨w,ew,rw'⟩:=rr.atI hz
    exact .inl ⟨p,vs,i,w,e,hy,SqL.of q,ew,q2 H2 (Same.refl H2) _ rw'⟩
   | scr m=>
    cases hl;unfold Rep at rt';obtain⟨p,e,n,q⟩:=rt';obtain⟨w,ew,rw'⟩:=(Reps.ints (K:=X.K) (O:=O) (H:=H2) (ns:=m)).atI hz
    exact .inl ⟨p,_,i,w,e,hy,q,ew,q2 H2 (Same.refl H2) _ rw'⟩
   | _=>cases hl
  ·exact q2.elim
 ·exact q2.elim
def lI (l:List T)(lo hi:Option Int):List T:=(l.drop (HT.sIx l.length 0 lo)).take (HT.sIx l.length l.length hi - HT.sIx l.length 0 lo)
theorem Reps.cut {K:IU}{O:Ow}{H:Hp}{l:List T}{vs:List V}(r:Reps K O H l vs)(lo hi:Option Int):Reps K O H (lI l lo hi) (sW vs lo hi):=by
 unfold lI sW;rw[r.length];exact(r.drop _).take _
theorem w4 {l:List T}{lo hi:Option Int}(h:HT.sIx l.length 0 lo=0/\HT.sIx l.length l.length hi=l.length):lI l lo hi=l:=by
 unfold lI;rw[h.1,h.2];simp
theorem sl_tup_whole:SlR X (λx lo hi H Q=> ∃a xs,x= .ref a/\SqT X.K H a xs/\(HT.sIx xs.length 0 lo=0/\HT.sIx xs.length xs.length hi=xs.length)/\Q (.ref a) H):=by
 intro pins s σ H x v vl vu lo hi sl Q I rx hs pl pu h;obtain⟨a,xs,rfl,hx,hw,q⟩:=h;cases rx;obtain⟨its,r,ht,hz⟩:=I.tuple hx
 have hlen:its.toArray.size=xs.length:=by rw[Jn];exact r.length.symm
 refine⟨"tuple",_,JW.lookup,ht.typeIs,?_⟩
 exact HT.getItem_tuple_whole ht hs pl pu (by rw[hlen];exact hw) ⟨.ref a,H,I,rfl,q⟩
def pN (_:En):Rs (Option Int):=.ok none
def pS (f:En->Rs T)(Z:En):Rs (Option Int):=do
 let x <-f Z
 match x with
 | .int i=> .ok (some i)
 | _=> .bad
def tPO (X:Cx)(f:En->Rs (Option Int)):TO:=λσ H Q=> ∃Z O,EnvO X.K O H Z σ/\Post X H (f Z) λb H'=>Q b H'
abbrev Hv (X:Cx)(e:Option Expr)(f:En->Rs (Option Int)):Prop:=PO X e (tPO X f)
theorem AU:Hv X none pN:=by
 intro pins s σ H Q I ⟨Z,O,E,hq⟩;exact A8 pins s σ H Q I (hq H (Same.refl H))
theorem AS (ha:cj X a fa):Hv X (some a) (pS fa):=by
 intro pins s σ H Q I ⟨Z,O,E,hq⟩;refine A7 ha pins s σ H Q I ?_
 obtain⟨Z1,O1,E1,h1⟩:=aZ E hq;refine⟨Z1,O1,E1,Post.mono h1 λts H1 s1 q vs r=> ?_⟩
 obtain⟨t',r',s',E',q'⟩:=q vs r
 split at q'
 ·exact⟨_,Rep.Da.mp r',q' H1 (Same.refl H1)⟩
 ·exact q'.elim
def slT (x:T)(lo hi:Option Int):Rs T:=match x with
 | .tup l=> .ok (.tup (lI l lo hi))
 | .lst l=> .ok (.lst (lI l lo hi))
 | _=> .bad
def sl (fe:En->Rs T)(fl fu:En->Rs (Option Int))(Z:En):Rs T:=do
 let x <-fe Z
 let l <-fl Z
 let u <-fu Z
 slT x l u
theorem rn {σ:L2.St}{H:Hp}{Z:En}{O:Ow}{α:Type}{f:En->Rs (Option Int)}{k:Option Int->Rs α}{Q:α->Hp->Prop}(E:EnvO X.K O H Z σ)(h:Post X H (f Z >>= k) Q) :
  tPO X f σ H λb H'=>Same H H'/\EnvO X.K O H' Z σ/\Post X H' (k b) Q:=
 ⟨Z,O,E,Post.mono h.bind λt H' s q=>⟨s,E.same s,q⟩⟩
theorem A0 {lo hi:Option Expr}{p2:Pos}{fl fu:En->Rs (Option Int)}(ha:cj X a fa)(hl:Hv X lo fl)(hu:Hv X hi fu):cj X (.Subscript a (.Slice lo hi none p2) pos) (sl fa fl fu):=by
 intro pins s σ H Q I ⟨Z,O,E,hq⟩;refine x8 (sl_tup.or (sl_tup_whole.or AB)) ha hl hu pins s σ H Q I ?_
 obtain⟨Z1,O1,E1,h1⟩:=aZ E hq;refine⟨Z1,O1,E1,Post.mono h1 λts H1 s1 q vs r=> ?_⟩
 obtain⟨t',r',s',E',q'⟩:=q vs r;obtain⟨Z2,O2,E2,h2⟩:=rn E' q';refine⟨Z2,O2,E2,Post.mono h2 λo1 H2 s2 q=> ?_⟩
 obtain⟨s2',E2',q2⟩:=q;obtain⟨Z3,O3,E3,h3⟩:=rn E2' q2;refine⟨Z3,O3,E3,Post.mono h3 λo2 H3 s3 q=> ?_⟩
 obtain⟨s3',E3',q3⟩:=q
 have rt:=(r'.same s2').same s3';unfold slT at q3
 split at q3
 ·rename_i l
  obtain⟨p,ws,e,n,q,rr⟩:=Rep.Fk.mp rt
  have hlen:=rr.length
  by_cases hw:HT.sIx ws.length 0 o1=0/\HT.sIx ws.length ws.length o2=ws.length
  ·refine .inr (.inl ⟨p,ws,e,SqT.of q,hw,?_⟩)
   rw[<-hlen]at hw;refine q3 H3 (Same.refl H3) _ ?_
   rw[w4 hw];exact Rep.Fk.mpr ⟨p,ws,rfl,n,q,rr⟩
  ·exact .inl ⟨p,ws,e,SqT.of q,hw,λp' hp=>q3 _ (bj hp _) _ (gg hp (E3'.fresh hp) (rr.cut o1 o2))⟩
 ·rename_i l
  obtain⟨p,ws,e,n,q,rr⟩:=Rep.Do.mp rt;exact .inr (.inr ⟨p,ws,e,SqL.of q,λp' hp=>q3 _ (bj hp _) _ (jV hp (E3'.fresh hp) (rr.cut o1 o2))⟩)
 ·exact q3.elim
def CallT (X:Cx)(f:IW)(g:List T->Rs T):Prop:=
 ∀(pins:List (Addr×Obj)) (s:IY) (σ:L2.St) (H:Hp) (O:Ow) (ts:List T) (vs:List V) (us:List IW) (Q:VK),Inv X pins σ H s->(∀p,H p=none->¬ O p)->Reps X.K O H ts vs->Vals vs us →
  Post X H (g ts) (λt H'=> ∀v,Rep X.K O H' t v->Q v H')->wpAny (model X.prog X.w) X.A (call f us) (EP X pins σ Q) X.xe s
theorem CallT.of {f:IW}{r:List V->Hp->VK->Prop}(h:CallR X f r){g:List T->Rs T}
  (w:∀(H:Hp) (O:Ow) (ts:List T) (vs:List V) (Q:VK),(∀p,H p=none->¬ O p)->Reps X.K O H ts vs->Post X H (g ts) (λt H'=> ∀v,Rep X.K O H' t v->Q v H')->r vs H Q):CallT X f g:=
 λpins s σ H O ts vs us Q I hf rs rv hp=>h pins s σ H vs us Q I rv (w H O ts vs Q hf rs hp)
def cl (g:List T->Rs T)(fs:En->Rs (List T))(Z:En):Rs T:=fs Z >>= g
variable {e:Expr}{es:List Expr}{fs:En->Rs (List T)}{x:Str}{p:Pos}{id:String}{g:List T->Rs T}
theorem A3 (hc:CallT X (.builtin id) g)(hm:X.mg x=none)(hv:JT x=some (.builtin id))(ha:nV X (e::es) fs)(hg:Gl X x:=by rfl)(hn:x≠ "__name__":=by decide)(hdb:fE x:=by decide)
  (he:Jo (e::es) X.env=(false,eval e X.env)::Jo es X.env:=by rfl) (hpl:(backTo pos (Jo es X.env)).any (·.1)=false:=by rfl):cj X (.Call (.Name x p) (e::es) [] pos) (cl g fs):=by
 intro pins s σ H Q I ⟨Z,O,E,hq⟩;refine Kk (ij I hg hm hv ?_ hn hdb)
 have h1:=e9 E hq;exact LZ (bR (ha pos pins s σ H _ I h1) λus s1 ⟨vs,H1,I1,r1,ts,rs,s',E',q1⟩=>hc pins s1 σ H1 O ts vs us Q I1 (λp=>E'.fresh) rs r1 q1) he hpl
theorem xS {Ty:String}(hc:CallT X (.type Ty) g)(hm:X.mg x=none)(hv:JT x=some (.type Ty))(ha:nV X (e::es) fs)(hg:Gl X x:=by rfl)(hn:x≠ "__name__":=by decide)(hdb:fE x:=by decide)
  (he:Jo (e::es) X.env=(false,eval e X.env)::Jo es X.env:=by rfl) (hpl:(backTo pos (Jo es X.env)).any (·.1)=false:=by rfl):cj X (.Call (.Name x p) (e::es) [] pos) (cl g fs):=by
 intro pins s σ H Q I ⟨Z,O,E,hq⟩;refine Kk (ij I hg hm hv ?_ hn hdb)
 have h1:=e9 E hq;exact Kg (bR (ha pos pins s σ H _ I h1) λus s1 ⟨vs,H1,I1,r1,ts,rs,s',E',q1⟩=>hc pins s1 σ H1 O ts vs us Q I1 (λp=>E'.fresh) rs r1 q1) he hpl
theorem Reps.one {K:IU}{O:Ow}{H:Hp}{t:T}{vs:List V}(r:Reps K O H [t] vs):∃v,vs= [v]/\Rep K O H t v:=by
 obtain⟨v,ws,rfl,p,q⟩:=Reps.me.mp r;cases Reps.AC.mp q;exact⟨v,rfl,p⟩
theorem Rep.sq {K:IU}{O:Ow}{H:Hp}{t:T}{v:V}{l:List T}(r:Rep K O H t v)(h:t.items=some l):∃a vs,v= .ref a/\¬ O a/\Reps K O H l vs/\(SqL K H a vs\/SqT K H a vs):=by
 cases t with
 | tup m=>cases h;obtain⟨a,vs,e,n,q,z⟩:=Rep.Fk.mp r;exact⟨a,vs,e,n,z,.inr (SqT.of q)⟩
 | lst m=>cases h;obtain⟨a,vs,e,n,q,z⟩:=Rep.Do.mp r;exact⟨a,vs,e,n,z,.inl (SqL.of q)⟩
 | scr m=>cases h;unfold Rep at r;obtain⟨a,e,n,q⟩:=r;exact⟨a,_,e,n,Reps.ints,.inl q⟩
 | _=>cases h
def cv:List T->Rs T
 | [.str x] =>if x.length<=sizeLine then .ok (.int x.length)else .bad
 | [x] =>match x.items with
  | some l=> .ok (.int l.length)
  | none=> .bad
 | _=> .bad
theorem cu:CallT X (.builtin "len") cv:=CallT.of (call_len_seq.or qR) λH O ts vs Q hf rs hp=>by
 unfold cv at hp
 split at hp
 ·obtain⟨v,rfl,r⟩:=rs.one
  split at hp
  ·rename_i h
   exact .inr ⟨_,by rw[Rep.Gc.mp r],h,hp H (Same.refl H) _ (Rep.HS _)⟩
  ·exact hp.elim
 ·obtain⟨v,rfl,r⟩:=rs.one
  split at hp
  ·rename_i l hl
   obtain⟨a,vs,rfl,n,z,q⟩:=r.sq hl;exact .inl ⟨a,vs,rfl,q,hp H (Same.refl H) _ (by rw[<-z.length];exact Rep.HS _)⟩
  ·exact hp.elim
 ·exact hp.elim
def jl:List T->Rs T
 | [.tup l] => .ok (.tup l)
 | [.lst l] => .ok (.tup l)
 | _=> .bad
theorem nH:CallT X (.type "tuple") jl:=CallT.of oC λH O ts vs Q hf rs hp=>by
 unfold jl at hp
 split at hp
 ·obtain⟨v,rfl,r⟩:=rs.one
  obtain⟨a,ws,rfl,n,q,z⟩:=Rep.Fk.mp r;exact⟨a,ws,rfl,.inr ⟨SqT.of q,hp H (Same.refl H) _ (Rep.Fk.mpr ⟨a,ws,rfl,n,q,z⟩)⟩⟩
 ·obtain⟨v,rfl,r⟩:=rs.one
  obtain⟨a,ws,rfl,n,q,z⟩:=Rep.Do.mp r;exact⟨a,ws,rfl,.inl ⟨SqL.of q,λl hl=>hp _ (bj hl _) _ (gg hl (hf l hl) z)⟩⟩
 ·exact hp.elim
def y6:List T->Rs T
 | [.int i] => .ok (.int i)
 | [.bl k] => .ok (.int (if k then 1 else 0))
 | _=> .bad
theorem Fo:CallT X (.type "int") y6:=CallT.of w8 λH O ts vs Q hf rs hp=>by
 unfold y6 at hp
 split at hp
 ·obtain⟨v,rfl,r⟩:=rs.one
  exact .inl ⟨_,by rw[Rep.Da.mp r],hp H (Same.refl H) _ (Rep.HS _)⟩
 ·obtain⟨v,rfl,r⟩:=rs.one
  exact .inr ⟨_,by rw[Rep.FM.mp r],hp H (Same.refl H) _ (Rep.HS _)⟩
 ·exact hp.elim
def nL:List T->Option (List Bool)
 | [] =>some []
 | .bl k::r=>(nL r).map (k:: ·)
 | _=>none
def oF:List T->Rs T
 | [.lst l] =>match nL l with
  | some ks=> .ok (.bl (ks.all λk=>k))
  | none=> .bad
 | _=> .bad
theorem nK {K:IU}{O:Ow}{H:Hp}:∀{l:List T} {ks:List Bool} {vs:List V} {us:List IW},nL l=some ks->Reps K O H l vs->Vals vs us->us=ks.map J4
 | [],ks,vs,us,e,r,v=>by cases e;cases Reps.AC.mp r;cases v;rfl
 | t::l,ks,vs,us,e,r,v=>by
  obtain⟨w,ws,rfl,p,q⟩:=Reps.me.mp r
  cases t with
  | bl k=>
   unfold nL at e
   cases z:nL l with
   | none=>rw[z]at e;cases e
   | some ks'=>
    rw[z]at e;cases e
    cases v with
    | cons v1 v2=>
     cases Rep.FM.mp p;cases v1
     rw[nK z q v2];rfl
  | _=>cases e
theorem qP (hc:X.calm=true):CallT X (.builtin "all") oF:=by
 intro pins s σ H O ts vs us Q I hf rs rv hp;unfold oF at hp
 split at hp
 ·obtain⟨v,rfl,r⟩:=rs.one
  split at hp
  ·rename_i ks hk
   obtain⟨a,ws,rfl,n,q,z⟩:=Rep.Do.mp r;obtain⟨u,rfl,ru⟩:=kU rv;cases ru;obtain⟨its,r',pl,hz⟩:=I.list (SqL.of q)
   have hits:=nK hk z r';refine call_all_walk (MR pl.isList ?_)
   have hne:a≠s.heap.objs.size:=λe=>by
    obtain⟨o,ho,_⟩:=pl.isList;rw[e]at ho;exact absurd (Jj ho) (JF _)
   refine⟨s.heap.objs.size,_,_,_,_,_,λi=>(ks[i]?).getD true,rfl,Walks.list (A:=X.A.in1) (I.ok.hd hc) s.heap.objs.size a hne its.toArray,⟨⟨_,Jq _ rfl,rfl,rfl⟩,?_⟩,?_,?_⟩
   ·obtain⟨o,ho,hh⟩:=pl.isList
    exact⟨o,Jf _ ho,hh⟩
   ·intro i v s' Q' E' hP hQ'
    subst hits
    dsimp only at hQ'
    have hP':(ks.map J4)[i]? =some v:=by simpa using hP
    rw[Jz]at hP'
    cases e:ks[i]? with
    | none=>rw[e]at hP';cases hP'
    | some k=>
     rw[e]at hP' hQ';cases hP';exact Ke hQ'
   ·intro h' tk hk'
    have hlen:its.toArray.size=ks.length:=by rw[hits];simp
    have e:((J1 its.toArray.size).all λi=>(ks[i]?).getD true)=(ks.all λk=>k):=by
     rw[hlen];rw[Bool.eq_iff_iff,JC,JC]
     constructor
     ·intro h x hx
      obtain⟨i,hi,rfl⟩:=La hx
      have:=h i (Kf.mpr hi)
      simpa [hi]using this
     ·intro h i hi
      have hi':=Kf.mp hi
      have:=h ks[i] (KM hi')
      simpa [hi']using this
    rw[e]
    have I1:Inv X pins σ H { s with heap:=s.heap.push { cls:=.type "list_iterator",data:=.fields #[.ref a,.int 0 0] } }:=I.kept (t':=s.toks) λb o e=>Jf _ e
    have I2:Inv X pins σ H { s with heap:=h',toks:=tk }:=by
     have:=I1.turned (h':=h') (t':=tk) (it:=s.heap.objs.size) (λb o hb e=>hk' b o (by simpa using hb) e) (I.hok.fresh (Ji _))
      (My I.lt) (.inr I.sz) (λx c e z=> ?_) (λp hp z=> ?_)
     ·exact this
     ·obtain⟨v,q⟩:=I.cell x c e
      exact absurd (Jp q.lt (L3 z.symm)) (JF _)
     ·exact absurd (Jp (Jj (I.pin p hp).1) (L3 z.symm)) (JF _)
    exact⟨.bl _,H,I2,rfl,hp H (Same.refl H) _ (Rep.bl_ _)⟩
  ·exact hp.elim
 ·exact hp.elim
end
def T.ty:T->Option String
 | .non=>some "NoneType"
 | .bl _=>some "bool"
 | .int _=>some "int"
 | .str _=>some "str"
 | .tup _=>some "tuple"
 | .lst _=>some "list"
 | .scr _=>none
 | .dct _ _=>none
 | .ob _ _ _=>none
def sH (i b t l s:Bool)(Ty:String):Option Bool:=match Ty with
 | "int" =>some i | "bool" =>some b | "tuple" =>some t | "list" =>some l | "str" =>some s
 | _=>none
def vq (n Ty:String):Option Bool:=match n with
 | "NoneType" =>sH false false false false false Ty
 | "bool" =>sH true true false false false Ty
 | "int" =>sH true false false false false Ty
 | "str" =>sH false false false false true Ty
 | "tuple" =>sH false false true false false Ty
 | "list" =>sH false false false true false Ty
 | _=>none
theorem wO (K:IU){n Ty:String}{b:Bool}(h:vq n Ty=some b):PySem.W.kitOne K (.type n) (.type Ty)=some b:=by
 unfold vq at h
 split at h <;> first | (cases h;done) | (unfold sH at h;split at h <;> first | (cases h;done) | (cases h;kernel_rfl))
def BE (Ty:String)(t:T):Rs T:=match t.ty with
 | some n=>match vq n Ty with
  | some b=> .ok (.bl b)
  | none=> .bad
 | none=> .bad
theorem Rep.IT {K:IU}{O:Ow}{H:Hp}{t:T}{v:V}{n:String}(r:Rep K O H t v)(h:t.ty=some n):kR K H v (.type n):=by
 cases t with
 | non=>cases h;cases Rep.GT.mp r;exact .non
 | bl b=>cases h;cases Rep.FM.mp r;exact .bl b
 | int b=>cases h;cases Rep.Da.mp r;exact .int b
 | str b=>cases h;cases Rep.Gc.mp r;exact .str b
 | tup l=>cases h;obtain⟨a,vs,rfl,_,q,_⟩:=Rep.Fk.mp r;exact .tup q
 | lst l=>cases h;obtain⟨a,vs,rfl,_,q,_⟩:=Rep.Do.mp r;exact .lst q
 | scr l=>cases h
 | dct _ _=>cases h
 | ob _ _ _=>cases h
section
variable {X:Cx}{a b c e:Expr}{es:List Expr}{fa fb fc:En->Rs T}{fs:En->Rs (List T)}{pos p p2:Pos}{x:Str}
theorem lJ:JT "isinstance" =some (.builtin "isinstance"):=by decide+kernel
theorem Gh {tn:Str}{Ty:String}(hm:X.mg "isinstance" =none)(hmt:X.mg tn=none)(hv:JT tn=some (.type Ty))(ha:cj X a fa)(hg:Gl X "isinstance":=by rfl)(hgt:Gl X tn:=by rfl)
  (hn:tn≠ "__name__":=by decide) (hd:fE tn:=by decide)
  (he:Jo [a,.Name tn p2] X.env=(false,eval a X.env)::Jo [.Name tn p2] X.env:=by rfl) (hpl:(backTo pos (Jo [.Name tn p2] X.env)).any (·.1)=false:=by rfl)
  (hs:Jo [.Name tn p2] X.env=(false,eval (.Name tn p2) X.env)::Jo [] X.env:=by rfl) :
  cj X (.Call (.Name "isinstance" p) [a,.Name tn p2] [] pos) (o1 (BE Ty) fa):=by
 intro pins s σ H Q I ⟨Z,O,E,hq⟩;refine Kk (ij I hg hm lJ ?_ (by decide) (by decide))
 have hA:PA X [a,.Name tn p2] (xC (tP X fa) (xC (tC (.ty Ty)) FL)):=fK ha (fK (Bg (v:=.ty Ty) hgt hmt hv rfl hn hd) kq hs) he;obtain⟨Z1,O1,E1,h1⟩:=aZ E hq;refine LZ (bR (hA pos pins s σ H (λvs H'=> ∃v t,vs= [v,.ty Ty]/\Rep X.K O H' t v/\Post X H' (BE Ty t) (λt H'=> ∀v,Rep X.K O H' t v->Q v H')) I ?_) λus s1 ⟨vs,H1,I1,r1,v,t,e1,rt,q⟩=> ?_) he hpl
 ·refine⟨Z1,O1,E1,Post.mono h1 λts H1 s1 q vs r=> ?_⟩
  obtain⟨t',r',s',E',q'⟩:=q vs r;exact⟨vs,t',rfl,r',q'⟩
 ·subst e1
  obtain⟨u,w',rfl,ru,rw'⟩:=FH r1;cases rw';unfold BE at q
  split at q
  ·rename_i n hn'
   split at q
   ·rename_i bb hb
    exact wN I1 ru (rt.IT hn') (wO _ hb) λtk=>⟨.bl bb,H1,I1.tok _,rfl,q H1 (Same.refl H1) _ (Rep.bl_ _)⟩
   ·exact q.elim
  ·exact q.elim
def spP (K:IU)(n:Nat)(g:List T->Rs T):Sp:=λvs H Q _=> ∃ts O,Reps K O H ts vs/\(∀a,O a->Mtb H a)/\ts.length=n ∧
 match g ts with
 | .ok t=> ∀v H',Same H H'->Rep K O H' t v->Q v H'
 | _=>False
def RzC (P:JB)(w:JY)(mg:Str->Option IW)(outer:List Env)(H:Hp)(s:IY)(c:Str)(ev:IW)(s':IY):Prop:=
 ∃e T C H',ev= .ref e/\mg c=some (.ref C)/\s'.os=s.os/\M0 s'.gens/\Un (ny outer) [] H H' s.heap s'.heap/\HOk P w H' s'.heap/\Same H H'/\H' e=none/\s.heap.get? e=none/\Hy s'.heap C e (some T)/\H' T=none/\s.heap.get? T=none
def FnX (P:JB)(w:JY)(K:IU)(mg:Str->Option IW)(base:Heap)(k:Nat)(f:Addr)(fd:J0)(ps:List Str)(n:Nat)(g:List T->Rs T):Prop:=
 ∀(A:JK) (outer:List Env) (s:IY) (H:Hp) (args:Args) (us:List IW) (vs:List V) (O:Ow) (ts:List T) (c:Str) (R:Pq->IY->Prop),Room k A->Env0 P w K mg base A outer s H->NC s fd args (ps.zip us)->Vals vs us →
  Reps K O H ts vs->(∀a,O a->Mtb H a)->ts.length=n->g ts= .err c->(∀ev s',RzC P w mg outer H s c ev s'->R (.error ev) s')->codeAny (model P w) A (.call (.ref f) args) R s
structure Ad (P:JB)(w:JY)(K:IU)(mg:Str->Option IW)(base:Heap)(k:Nat)(f:Addr)(fd:J0)(ps:List Str)(n:Nat)(g:List T->Rs T):Prop where
 h:nR P w K mg base CX0 k f fd ps (spP K n g)
 x:FnX P w K mg base k f fd ps n g
theorem ym {P:JB}{w:JY}{H:Hp}{h:Heap}{a:Addr}{o:HO}(x:ObjOk P w H h a o):∃u,h.get? a=some u:=by
 cases o with
 | lst xs=>obtain⟨_,_,_,_,e⟩:=x;exact⟨_,e⟩
 | tup xs=>obtain⟨_,_,_,ob,e,_⟩:=x;exact⟨_,e⟩
 | dK kvs=>obtain⟨_,_,_,_,o,_,_,e,_⟩:=x;exact⟨_,e⟩
 | dT kvs=>obtain⟨_,_,_,_,o,_,_,e,_⟩:=x;exact⟨_,e⟩
 | set S n=>obtain⟨o,_,_,_,e,_⟩:=x;exact⟨_,e⟩
 | ins C dx fs=>obtain⟨_,_,_,e,_⟩:=x;exact⟨_,e⟩
 | own y=>obtain⟨_,e⟩:=x;exact⟨_,e⟩
 | xd fs=>obtain⟨_,⟨_,_,_,e,_⟩,_⟩:=x;exact⟨_,e⟩
 | rng lo hi=>obtain⟨_,_,_,e⟩:=x;exact⟨_,e⟩
 | frz ob u=>obtain⟨e,_⟩:=x;exact⟨_,e⟩
 | tbl ps=>exact⟨_,(show h.get? a=some _ from x)⟩
 | met f y=>exact⟨_,(show h.get? a=some _ from x)⟩
 | ext φ=>obtain⟨_,⟨_,e⟩,_⟩:=x;exact⟨_,e⟩
theorem j4 {X:Cx}{pins:List (Addr×Obj)}{σ:L2.St}{H:Hp}{s:IY}(I:Inv X pins σ H s){e:Addr}(n:s.heap.get? e=none):H e=none:=by
 cases z:H e with
 | none=>rfl
 | some o=>
  obtain⟨o',ho'⟩:=ym (I.hok e o z);rw[n]at ho';cases ho'
theorem fT {X:Cx}{pins:List (Addr×Obj)}{σ:L2.St}{H:Hp}{s:IY}(I:Inv X pins σ H s)(hex:X.ex= []){e:Addr}(n:s.heap.get? e=none):X.s₀.heap.get? e=none:=by
 cases z:X.s₀.heap.get? e with
 | none=>rfl
 | some o=>
  obtain⟨o',ho'⟩:=I.base.there e o z (by rw[hex];simp)
  rw[n]at ho';cases ho'
theorem DT {n k:Nat}{f:Addr}{fd:J0}{ps:List Str}{g:List T->Rs T}(F:Ad X.prog X.w X.K X.mg X.base k f fd ps n g)(hr:Room k X.A)(hm:X.mg x=some (.ref f))(hk:KO X.K (.ref f)=true)(hb:Binds X.K fd ps [])(hps:ps.length=n)
  (hl:∀Z ts,fs Z= .ok ts->ts.length=n) (ha:nV X (e::es) fs) (hg:Gl X x:=by rfl) (hdb:fE x:=by decide) (he:Jo (e::es) X.env=(false,eval e X.env)::Jo es X.env:=by rfl) (hpl:(backTo pos (Jo es X.env)).any (·.1)=false:=by rfl) :
  cj X (.Call (.Name x p) (e::es) [] pos) (cl g fs):=by
 intro pins s σ H Q I ⟨Z,O,E,hq⟩
 have hq':Post X H (fs Z >>= g) λt H'=> ∀v,Rep X.K O H' t v->Q v H':=hq
 cases q:fs Z with
 | bad=>rw[q]at hq';exact hq'.elim
 | err c=>
  rw[q]at hq';refine uZ (E:=E0) F.h hr hg hm hk hb .nil u4 ha hdb he hpl pins s σ H Q I ⟨Z,O,E,?_⟩
  rw[q]
  exact hq'
 | ok ts=>
  rw[q]at hq'
  have hq2:Post X H (g ts) λt H'=> ∀v,Rep X.K O H' t v->Q v H':=hq'
  cases q2:g ts with
  | bad=>rw[q2]at hq2;exact hq2.elim
  | ok t=>
   rw[q2]at hq2;refine uZ (E:=E0) F.h hr hg hm hk hb .nil u4 ha hdb he hpl pins s σ H Q I ⟨Z,O,E,?_⟩
   rw[q];intro H1 s1 vs rs;rw[JA];refine⟨ts,O,rs,(E.same s1).mtb,hl Z ts q,?_⟩
   rw[q2]
   exact λv H' s2 r=>hq2 H' (s1.trans s2) v r
  | err c=>
   rw[q2]at hq2;refine Kk (gy I hg hm ?_ hdb)
   refine Le (h₀:=X.base) I.ok.mod.kin hk (bR (ha pos pins s σ H (λvs H'=>Same H H'/\Reps X.K O H' ts vs) I ⟨Z,O,E,?_⟩) (λus s1 ⟨vs,H1,I1,r,sm,rs⟩=>⟨I1.kIn,?_⟩)) he hpl
   ·rw[q];exact λH' sm vs rs=>⟨sm,rs⟩
   ·have hlen:us.length=ps.length:=by rw[<-r.length,<-rs.length,hl Z ts q,hps]
    have hb':=hb s1 us I1.kIn (by rw[JA];exact hlen)
    rw[JA]at hb';refine NJ (Ly (F.x X.A X.stack s1 H1 ⟨us,[]⟩ us vs O ts c (λr s'=>match r with | .error ev=>X.xe ev s' | _=>False) hr I1.Iq hb' r rs (E.same sm).mtb (hl Z ts q) q2 λev s' w=> ?_) λr s' hq=> ?_)
    ·obtain⟨ea,T,C,H',rfl,hmc,ho,hbare,hun,hok,sm2,hea,heo,fl,hT,hTo⟩:=w
     have I2:Inv X pins σ H' s':=I1.Io ho hun hok hbare (λb z=>absurd z (by simp))
     exact hq2 pins _ _ ⟨ea,some T,C,σ,H',rfl,hmc,I2,λb o q _=>sm2 b o (sm b o q),hea,λhex=>fT I1 hex heo,fl,(λt zt=>by cases zt;exact⟨hT,λhex=>fT I1 hex hTo⟩),λpp hpp=>⟨λzz=>(by have:=(I1.pin pp hpp).1;rw[zz,heo]at this;cases this),λzz=>(by cases zz;have:=(I1.pin pp hpp).1;rw[hTo]at this;cases this)⟩⟩
    ·cases r with
     | error ev=>exact hq
     | ok fl=>exact hq.elim
def Cu (X:Cx)(g:T->En->Rs En):TG:=λv σ H Q=> ∃Z O M t,EnvM X.K O M H Z σ/\Rep X.K O H t v/\match g t Z with
 | .ok Z'=> ∀σ',EnvM X.K O M H Z' σ'->Q σ' H
 | _=>False
abbrev CY (X:Cx)(tg:Expr)(g:T->En->Rs En):Prop:=PG X tg (Cu X g)
def tPGs (X:Cx)(g:List T->En->Rs En):Cg:=λvs σ H Q=> ∃Z O M ts,EnvM X.K O M H Z σ/\Reps X.K O H ts vs/\match g ts Z with
 | .ok Z'=> ∀σ',EnvM X.K O M H Z' σ'->Q σ' H
 | _=>False
abbrev zX (X:Cx)(tg:List Expr)(g:List T->En->Rs En):Prop:=PGs X tg (tPGs X g)
theorem PG.imp {X:Cx}{e:Expr}{t t':TG}(h:PG X e t)(w:∀v σ H Q,t' v σ H Q->t v σ H Q):PG X e t':=λpins s σ H v u Q I r q=>h pins s σ H v u Q I r (w v σ H Q q)
theorem PGs.imp {X:Cx}{e:List Expr}{t t':Cg}(h:PGs X e t)(w:∀v σ H Q,t' v σ H Q->t v σ H Q):PGs X e t':=λpins s σ H v u Q I r q=>h pins s σ H v u Q I r (w v σ H Q q)
def gN (i:Nat)(t:T)(Z:En):Rs En:=if i<Z.length then .ok (Z.set i (.va t))else .bad
theorem EnvM.set {K:IU}{O:Ow}{M:Mn}{H:Hp}{Z:En}{σ:L2.St}{i:Nat}{t:T}{v:V}(E:EnvM K O M H Z σ)(hi:i<Z.length)(r:Rep K O H t v):EnvM K O M H (Z.set i (.va t)) (σ.set i (some v)) where
 len:=by rw[Ki,Ki];exact E.len
 val:=λj u e=>by
  by_cases hj:i=j
  ·subst hj
   rw[Jy hi]at e
   cases e;exact⟨v,Jy (by rw[<-E.len];exact hi),r⟩
  ·rw[Jv hj]at e
   obtain⟨w,e1,e2⟩:=E.val j u e;exact⟨w,by rw[Jv hj];exact e1,e2⟩
 own:=λj o e=>by
  by_cases hj:i=j
  ·subst hj
   rw[Jy hi]at e
   cases e
  ·rw[Jv hj]at e
   obtain⟨w,e1,e2⟩:=E.own j o e;exact⟨w,by rw[Jv hj];exact e1,e2⟩
 sub:=E.sub
 dis:=E.dis
 trk:=E.trk
theorem AY (i:Nat)(hN:X.N.Nodup)(hi:X.N[i]? =some x:=by rfl)(hx:Loc X.env.scope x:=by first | exact J8 rfl | exact JP rfl)(hf:X.fn x=true\/X.env.scope.names.lookup x=some .local:=by first | exact .inl rfl | exact .inr rfl | assumption):CY X (.Name x pos) (gN i):=
 PG.imp (Bd hN hi hx hf) λv σ H Q hh_=>by
  obtain⟨Z,O,M,t,E,r,h⟩:=hh_;unfold gN at h
  split at h
  ·rename_i Z' e
   split at e
   ·rename_i hl
    cases e;exact h _ (E.set hl r)
   ·cases e
  ·exact h.elim
def z7 (ts:List T)(Z:En):Rs En:=match ts with
 | [] => .ok Z
 | _=> .bad
def sC (g:T->En->Rs En)(gs:List T->En->Rs En)(ts:List T)(Z:En):Rs En:=match ts with
 | t::r=>do
  let Z1 <-g t Z
  gs r Z1
 | [] => .bad
theorem AX:zX X [] z7:=PGs.imp Bc λvs σ H Q hh_=>by
 obtain⟨Z,O,M,ts,E,r,h⟩:=hh_;unfold z7 at h
 cases ts with
 | nil=>exact⟨Reps.AC.mp r,h σ E⟩
 | cons _ _=>exact h.elim
theorem xQ {g:T->En->Rs En}{gs:List T->En->Rs En}(h1:CY X e g)(h2:zX X es gs)
  (hs:(Kr (e::es) X.env).map (·.2)=assign e X.env::(Kr es X.env).map (·.2):=by rfl):zX X (e::es) (sC g gs):=
 PGs.imp (x6 h1 h2 hs) λvs σ H Q hh_=>by
  obtain⟨Z,O,M,ts,E,r,h⟩:=hh_
  cases ts with
  | nil=>exact h.elim
  | cons t ts=>
   obtain⟨v,ws,rfl,p,q⟩:=Reps.me.mp r;refine⟨v,ws,rfl,Z,O,M,t,E,p,?_⟩
   unfold sC at h
   cases e1:g t Z with
   | bad=>simp[e1]at h
   | err c=>simp[e1]at h
   | ok Z1=>
    intro σ1 E1;refine⟨Z1,O,M,ts,E1,q,?_⟩
    simp only[e1,ay]at h
    cases e2:gs ts Z1 with
    | bad=>simp[e2]at h
    | err c=>simp[e2]at h
    | ok Z2=>
     simp only[e2]at h;exact λσ2 E2=>h σ2 E2
def gT (n:Nat)(gs:List T->En->Rs En)(t:T)(Z:En):Rs En:=match t with
 | .tup l=>if l.length=n then gs l Z else .bad
 | _=> .bad
theorem DO {k n:Nat}{gs:List T->En->Rs En}(hc:X.calm=true)(h:zX X es gs)(hn:(Kr es X.env).length=n:=by rfl)(hst:(Kr es X.env).findIdx? (·.1)=none:=by rfl):CY X (.Tuple es k pos) (gT n gs):=
 PG.imp (D2 hc h hn hst) λv σ H Q hh_=>by
  obtain⟨Z,O,M,t,E,r,h⟩:=hh_;unfold gT at h
  cases t with
  | tup l=>
   obtain⟨a,vs,rfl,n',q,z⟩:=Rep.Fk.mp r
   by_cases hl:l.length=n
   ·simp only[if_pos hl]at h
    exact⟨a,vs,rfl,SqT.of q,by rw[<-z.length];exact hl,Z,O,M,l,E,z,h⟩
   ·simp only[if_neg hl]at h
  | _=>exact h.elim
theorem SqL.nn {K:IU}{H:Hp}{a:Addr}{vs:List V}(q:SqL K H a vs):¬ Nw K H a:=λ⟨h1,h2⟩=>by
 rcases q with(q | ⟨o,q⟩) | ⟨o,_,_,q,_⟩
 ·rw[h1]at q;cases q
 ·rw[h1]at q;cases q
 ·rw[h2]at q;cases q
mutual
theorem Rep.more {K:IU}{O O':Ow}{H:Hp}(sub:∀a,O' a->O a\/Nw K H a):∀{t:T} {v:V},Rep K O H t v->Rep K O' H t v
 | .non,_,r=>by unfold Rep at r ⊢;exact r
 | .bl _,_,r=>by unfold Rep at r ⊢;exact r
 | .int _,_,r=>by unfold Rep at r ⊢;exact r
 | .str _,_,r=>by unfold Rep at r ⊢;exact r
 | .tup l,_,r=>by
  unfold Rep at r ⊢;obtain⟨a,vs,e,n,q,z⟩:=r
  exact⟨a,vs,e,λp=>(sub a p).elim n λw=>(by rw[w.1]at q;cases q),q,Reps.more sub z⟩
 | .lst l,_,r=>by
  unfold Rep at r ⊢;obtain⟨a,vs,e,n,q,z⟩:=r
  exact⟨a,vs,e,λp=>(sub a p).elim n λw=>(by rw[w.1]at q;cases q),q,Reps.more sub z⟩
 | .scr l,_,r=>by
  unfold Rep at r ⊢;obtain⟨a,e,n,q⟩:=r
  exact⟨a,e,λp=>(sub a p).elim n λw=>Tr.SqL.nn q w,q⟩
 | .dct ks ts,_,r=>by
  unfold Rep at r ⊢;obtain⟨a,kvs,e,n,q,k,z⟩:=r
  exact⟨a,kvs,e,λp=>(sub a p).elim n λw=>(by rcases q with q | ⟨_,q⟩ <;> rw[w.1]at q <;> cases q),q,k,Reps.more sub z⟩
 | .ob C ns ts,_,r=>by
  unfold Rep at r ⊢;obtain⟨a,dx,fs,e,n,q,k,z⟩:=r;exact⟨a,dx,fs,e,λp=>(sub a p).elim n λw=>(by rw[w.1]at q;cases q),q,k,Reps.more sub z⟩
theorem Reps.more {K:IU}{O O':Ow}{H:Hp}(sub:∀a,O' a->O a\/Nw K H a):∀{l:List T} {vs:List V},Reps K O H l vs->Reps K O' H l vs
 | [],_,r=>by unfold Reps at r ⊢;exact r
 | t::l,_,r=>by
  unfold Reps at r ⊢;obtain⟨v,ws,e,p,q⟩:=r;exact⟨v,ws,e,Rep.more sub p,Reps.more sub q⟩
end
theorem Rep.move {K:IU}{O O' P:Ow}{H H':Hp}{t:T}{v:V}(hP:∀a,P a->O a\/Nw K H a)(hO:∀a,O' a->O a\/Nw K H a)(h:SameO P H H')(r:Rep K O H t v):Rep K O' H' t v:=
 Rep.less (O:=λa=>O' a\/P a) (λ_ z=> .inl z) (Rep.keep h (λ_ z=> .inr z) (Rep.more (λa z=>z.elim (hO a) (hP a)) r))
theorem Reps.move {K:IU}{O O' P:Ow}{H H':Hp}{t:List T}{v:List V}(hP:∀a,P a->O a\/Nw K H a)(hO:∀a,O' a->O a\/Nw K H a)(h:SameO P H H')(r:Reps K O H t v):Reps K O' H' t v:=
 Reps.less (O:=λa=>O' a\/P a) (λ_ z=> .inl z) (Reps.keep h (λ_ z=> .inr z) (Reps.more (λa z=>z.elim (hO a) (hP a)) r))
def ItT (K:IU)(O:Ow)(H:Hp)(ts:List T)(J:It):Prop:=∀(P O':Ow),(∀a,P a->O a\/Nw K H a)->(∀a,O' a->O a\/Nw K H a)->∀(i:Nat) (Hc:Hp),SameO P H Hc->(∀a,O' a->∃o,Hc a=some o) →
 (ts.length<=i->J.stop i Hc)/\(∀t,ts[i]? =some t->J.go i Hc/\∀x Hc',J.yld i Hc x Hc'->Same Hc Hc'/\Rep K O' Hc' t x)
def tPI (X:Cx)(f:En->Rs (List T)):TI:=λσ H R=> ∃Z O,EnvO X.K O H Z σ/\Post X H (f Z) λts H'=> ∀J,ItT X.K O H' ts J->R J H'
abbrev Ab (X:Cx)(tg iter:Expr)(f:En->Rs (List T)):Prop:=PI X tg iter (tPI X f)
theorem PI.imp {tg iter:Expr}{t t':TI}(h:PI X tg iter t)(w:∀σ H R,t' σ H R->t σ H R):PI X tg iter t':=λpins s σ H R I q=>h pins s σ H R I (w σ H R q)
def iL (f:En->Rs T)(Z:En):Rs (List T):=do
 let x <-f Z
 match x with
 | .lst l=> .ok l
 | _=> .bad
def iT (f:En->Rs T)(Z:En):Rs (List T):=do
 let x <-f Z
 match x with
 | .tup l=> .ok l
 | _=> .bad
theorem uS {tg:Expr}(ha:cj X a fa):Ab X tg a (iL fa):=PI.imp (Ba ha) λσ H R hh_=>by
 obtain⟨Z,O,E,h⟩:=hh_;obtain⟨Z1,O1,E1,h1⟩:=aZ E h;refine⟨Z1,O1,E1,Post.mono h1 λts H1 s1 q vs r=> ?_⟩
 obtain⟨t',r',s',E',q'⟩:=q vs r
 split at q'
 ·rename_i l
  obtain⟨a,ws,rfl,n,q,z⟩:=Rep.Do.mp r';refine⟨a,rfl,⟨ws,SqL.of q⟩,q' H1 (Same.refl H1) _ λP O' hP hO i Hc hs ht=> ?_⟩
  have hnP:¬ P a:=λz=>(hP a z).elim n λw=>by rw[w.1]at q;cases q
  refine⟨λhi=>⟨ws,SqL.of (hs _ _ q hnP),by rw[<-z.length];exact hi⟩,λt ht'=> ?_⟩
  obtain⟨v,e1,e2⟩:=z.get ht';refine⟨⟨ws,v,SqL.of (hs _ _ q hnP),e1⟩,λx Hc' y=> ?_⟩
  obtain⟨e,y⟩:=y;subst e
  have:=y ws (SqL.of (hs _ _ q hnP));rw[e1]at this;cases this;exact⟨Same.refl _,e2.move hP hO hs⟩
 ·exact q'.elim
theorem DL {tg:Expr}(ha:cj X a fa):Ab X tg a (iT fa):=PI.imp (D1 ha) λσ H R hh_=>by
 obtain⟨Z,O,E,h⟩:=hh_;obtain⟨Z1,O1,E1,h1⟩:=aZ E h;refine⟨Z1,O1,E1,Post.mono h1 λts H1 s1 q vs r=> ?_⟩
 obtain⟨t',r',s',E',q'⟩:=q vs r
 split at q'
 ·rename_i l
  obtain⟨a,ws,rfl,n,q,z⟩:=Rep.Fk.mp r';refine⟨a,rfl,⟨ws,SqT.of q⟩,q' H1 (Same.refl H1) _ λP O' hP hO i Hc hs ht=> ?_⟩
  have hnP:¬ P a:=λz=>(hP a z).elim n λw=>by rw[w.1]at q;cases q
  refine⟨λhi=>⟨ws,SqT.of (hs _ _ q hnP),by rw[<-z.length];exact hi⟩,λt ht'=> ?_⟩
  obtain⟨v,e1,e2⟩:=z.get ht';refine⟨⟨ws,v,SqT.of (hs _ _ q hnP),e1⟩,λx Hc' y=> ?_⟩
  obtain⟨e,y⟩:=y;subst e
  have:=y ws (SqT.of (hs _ _ q hnP));rw[e1]at this;cases this;exact⟨Same.refl _,e2.move hP hO hs⟩
 ·exact q'.elim
def rng (lo hi:Int):List T:=(J1 (hi - lo).toNat).map λ(k:Nat)=>T.int (lo+(k:Int))
def z6 (i:Int):Bool:=decide (-(2 ^ 62)<=i)&&decide (i<2 ^ 62)
def iR (f:En->Rs (List T))(Z:En):Rs (List T):=do
 let x <-f Z
 match x with
 | [.int j] =>if z6 j then .ok (rng 0 j)else .bad
 | [.int i,.int j] =>if z6 i&&z6 j then .ok (rng i j)else .bad
 | _=> .bad
theorem qK {i:Int}(h:z6 i=true) : -(2 ^ 62)<=i/\i<2 ^ 62:=by
 unfold z6 at h;rw[IV]at h;exact⟨of_decide_eq_true h.1,of_decide_eq_true h.2⟩
theorem vp {K:IU}{O:Ow}{H:Hp}(lo hi:Int):ItT K O H (rng lo hi) (Itr lo (hi - lo).toNat):=λP O' hP hO i Hc hs ht=>by
 refine⟨λh=> ?_,λt h=> ?_⟩
 ·show(hi - lo).toNat<=i
  unfold rng at h;rw[Jd,Lh]at h;exact h
 ·unfold rng at h
  rw[Jz]at h
  by_cases hi':i<(hi - lo).toNat
  ·rw[List.getElem?_range hi']at h
   cases h;refine⟨hi',λx Hc' y=> ?_⟩
   obtain⟨e,y⟩:=y;subst e y;exact⟨Same.refl _,Rep.HS _⟩
  ·rw[L4 (by simpa using hi')]at h
   cases h
theorem wb {tg:Expr}(hm:X.mg "range" =none)(ha:nV X [a] fs)(hg:Gl X "range":=by rfl)(hs:Jo [a] X.env= [(false,eval a X.env)]:=by rfl):Ab X tg (.Call (.Name "range" p) [a] [] pos) (iR fs):=by
 intro pins s σ H R I ⟨Z,O,E,h⟩
 have h1:=e9 E h;refine Call_ (ij I hg hm boot_range (Kg (bR (ha pos pins s σ H _ I h1) λus s1 ⟨vs,H1,I1,r1,ts,rs,s',E',q1⟩=> ?_) hs rfl))
 split at q1
 ·obtain⟨v,rfl,r⟩:=rs.one
  split at q1
  ·rename_i j hj
   obtain⟨b1,b2⟩:=qK hj;cases Rep.Da.mp r
   cases r1 with
   | cons r rr=>
    cases rr;obtain⟨t,rfl⟩:=r;exact call_range_1 (rN I1 (by omega) (by omega) b1 b2 (q1 H1 (Same.refl H1) _ (vp 0 j)))
  ·exact q1.elim
 ·obtain⟨v,ws,rfl,p1,q⟩:=Reps.me.mp rs
  obtain⟨v2,rfl,r⟩:=q.one
  split at q1
  ·rename_i i j hj
   rw[IV]at hj;obtain⟨b1,b2⟩:=qK hj.1;obtain⟨b3,b4⟩:=qK hj.2;cases Rep.Da.mp p1;cases Rep.Da.mp r
   cases r1 with
   | cons r rr=>
    cases rr with
    | cons r' rr=>
     cases rr;obtain⟨t,rfl⟩:=r;obtain⟨t',rfl⟩:=r';exact call_range_2 (rN I1 b1 b2 b3 b4 (q1 H1 (Same.refl H1) _ (vp i j)))
  ·exact q1.elim
 ·exact q1.elim
end
section
variable {X:Cx}{a b c e:Expr}{es:List Expr}{fa fb fc:En->Rs T}{fs:En->Rs (List T)}{pos p p2:Pos}{x:Str}
def dj (src:List (Option Nat))(Z:En):En:=src.map λo=>match o with
 | some i=>match Z[i]? with
  | some (.va t)=> .va t
  | _=> .em
 | none=> .em
def dM (tgt:T->En->Rs En)(fc:En->Rs Bool)(fe:En->Rs T):List T->En->Rs (List T)
 | [],_=> .ok []
 | t::r,Z=>do
  let Z1 <-tgt t Z
  let k <-fc Z1
  if k then do
   let y <-fe Z1
   let ys <-dM tgt fc fe r Z1
   .ok (y::ys)
  else dM tgt fc fe r Z1
def iO (fi:En->Rs (List T))(src:List (Option Nat))(tgt:T->En->Rs En)(fc:En->Rs Bool)(fe:En->Rs T)(Z:En):Rs T:=do
 let ts <-fi Z
 if ts.length<=sizeLine then match dM tgt fc fe ts (dj src Z)with
  | .ok ys=> .ok (.lst ys)
  | _=> .bad
 else .bad
def bT (_:En):Rs Bool:=.ok true
def tP0 (K:IU)(f:En->Rs T):TE:=λσ H Q=> ∃Z O,EnvO K O H Z σ/\match f Z with
 | .ok t=> ∀H',Same H H'->∀v,Rep K O H' t v->Q v H'
 | _=>False
def tPT0 (K:IU)(f:En->Rs Bool):TT:=λσ H Q=> ∃Z O,EnvO K O H Z σ/\match f Z with
 | .ok t=> ∀H',Same H H'->Q t H'
 | _=>False
theorem tP0.up {f:En->Rs T}{σ:L2.St}{H:Hp}{Q:VK}(h:tP0 X.K f σ H Q):tP X f σ H Q:=by
 obtain⟨Z,O,E,h⟩:=h;refine⟨Z,O,E,?_⟩
 cases q:f Z with
 | ok t=>rw[q]at h;exact h
 | err c=>rw[q]at h;exact h.elim
 | bad=>rw[q]at h;exact h.elim
theorem tPT0.up {f:En->Rs Bool}{σ:L2.St}{H:Hp}{Q:Bool->Hp->Prop}(h:tPT0 X.K f σ H Q):z0 X f σ H Q:=by
 obtain⟨Z,O,E,h⟩:=h;refine⟨Z,O,E,?_⟩
 cases q:f Z with
 | ok t=>rw[q]at h;exact h
 | err c=>rw[q]at h;exact h.elim
 | bad=>rw[q]at h;exact h.elim
theorem AV:Ac X [] (z0 X bT):=λpins s σ H Q I ⟨Z,O,E,h⟩=>A9 pins s σ H Q I (h H (Same.refl H))
abbrev noM:Mn:=λ_ _=>False
theorem wH {src:List (Option Nat)}{Z:En}{j:Nat}{o:OT}(e:(dj src Z)[j]? =some (.ow o)):False:=by
 unfold dj at e;rw[Jz]at e
 cases q:src[j]? with
 | none=>rw[q]at e;cases e
 | some o'=>
  rw[q]at e
  cases o' with
  | none=>cases e
  | some i=>
   have e':(match Z[i]? with | some (Sl.va t)=>Sl.va t | _=>Sl.em)=Sl.ow o:=JJ e
   split at e' <;> cases e'
theorem yH {K:IU}{O:Ow}{H:Hp}{Z:En}{σ:L2.St}(E:EnvO K O H Z σ)(src:List (Option Nat)):EnvM K O noM H (dj src Z) (eR src σ) where
 len:=by unfold dj eR;rw[Jd,Jd]
 val:=λj t e=>by
  unfold dj at e;unfold eR;rw[Jz]at e ⊢
  cases q:src[j]? with
  | none=>rw[q]at e;cases e
  | some o=>
   rw[q]at e
   cases o with
   | none=>cases e
   | some i=>
    have e':(match Z[i]? with | some (Sl.va t)=>Sl.va t | _=>Sl.em)=Sl.va t:=JJ e
    cases q2:Z[i]? with
    | none=>rw[q2]at e';cases e'
    | some z=>
     rw[q2]at e'
     cases z with
     | em=>cases e'
     | ow l=>cases e'
     | va t'=>
      cases e';obtain⟨v,e1,e2⟩:=E.val i _ q2;exact⟨v,by simp[e1],e2⟩
 own:=λj o e=>(wH e).elim
 sub:=λ_ _ z=>z.elim
 dis:=λ_ _ _ z=>z.elim
 trk:=E.mtb
theorem ORep.no {K:IU}{O:Ow}{H:Hp}{o:OT}{v:V}(r:ORep K O kB H o v):False:=by
 cases o with
 | lst l=>obtain⟨a,_,_,e,_⟩:=r;exact(e a).mpr rfl
 | dct ks ts=>obtain⟨a,_,_,e,_⟩:=r;exact(e a).mpr rfl
 | dd ks rows=>obtain⟨a,_,_,_,e,_⟩:=r;exact(e a).mpr (.inl rfl)
 | ob C ns ls=>obtain⟨a,_,_,_,e,_⟩:=r;exact(e a).mpr (.inl rfl)
theorem EnvM.move {K:IU}{O O' P:Ow}{H H':Hp}{Z:En}{σ:L2.St}(E:EnvM K O noM H Z σ)(hP:∀a,P a->O a\/Nw K H a)(hO:∀a,O' a->O a\/Nw K H a)(h:SameO P H H')(trk:∀a,O' a->Mtb H' a):EnvM K O' noM H' Z σ where
 len:=E.len
 val:=λi t e=>let ⟨v,e1,e2⟩:=E.val i t e;⟨v,e1,e2.move hP hO h⟩
 own:=λi o e=>let ⟨_,_,r⟩:=E.own i o e;r.no.elim
 sub:=λ_ _ z=>z.elim
 dis:=λ_ _ _ z=>z.elim
 trk:=trk
def Fw (fi:En->Rs (List T))(src:List (Option Nat))(tgt:T->En->Rs En)(fc:En->Rs Bool)(fe:En->Rs T)(Z:En):Rs (List T):=fi Z >>= λts=>if ts.length<=sizeLine then(match dM tgt fc fe ts (dj src Z)with | .ok ys=>Rs.ok ys | _=> .bad)else .bad
theorem yG {src:List (Option Nat)}{fi:En->Rs (List T)}{tgt:T->En->Rs En}{fc:En->Rs Bool}{fe:En->Rs T}{Z:En}:iO fi src tgt fc fe Z=Fw fi src tgt fc fe Z >>= λl=> .ok (.lst l):=by
 unfold iO Fw
 cases fi Z with
 | bad=>rfl
 | err c=>rfl
 | ok ts=>
  rw[ay,ay]
  by_cases hz:ts.length<=sizeLine
  ·rw[if_pos hz,if_pos hz]
   cases dM tgt fc fe ts (dj src Z) <;> rfl
  ·rw[if_neg hz,if_neg hz];rfl
theorem yF {src:List (Option Nat)}{fi:En->Rs (List T)}{tgt:T->En->Rs En}{fc:En->Rs Bool}{fe:En->Rs T}{σ:L2.St}{H:Hp}{Q:VK}{Z:En}{O:Ow}(E:EnvO X.K O H Z σ)
  (hq1:Post X H (Fw fi src tgt fc fe Z) λall H1=> ∀D ys H',Nw X.K H1 D->Same H1 H'->H' D=some (.lst ys)->Reps X.K (λa=>O a\/a=D) H' all ys->Q (.ref D) H'):FP X.K (tPI X fi) src (Cu X tgt) (tPT0 X.K fc) (tP0 X.K fe) σ H Q:=by
 unfold Fw at hq1;refine⟨Z,O,E,Post.mono hq1.bind λts H1 s1 q1 J hJ D hD hK=> ?_⟩
 have E1:=E.same s1
 by_cases hz:ts.length<=sizeLine
 ·rw[if_pos hz]at q1
  cases hall:dM tgt fc fe ts (dj src Z)with
  | bad=>rw[hall]at q1;exact q1.elim
  | err c=>rw[hall]at q1;exact q1.elim
  | ok all=>
   rw[hall]at q1
   have q2:∀D ys H',Nw X.K H1 D->Same H1 H'->H' D=some (.lst ys)->Reps X.K (λa=>O a\/a=D) H' all ys->Q (.ref D) H':=q1 H1 (Same.refl H1)
   have nD:Nw X.K H1 D:=⟨hD,hK⟩
   let O':Ow:=λa=>O a\/a=D
   have subO:∀a,O' a->O a\/Nw X.K H1 a:=λa z=>z.elim .inl λw=> .inr (w▸nD)
   -- the walk's word
   refine⟨λi m σ' ys H'=>m=ts.length - i/\i<=ts.length/\ys.length<=i/\H' D=some (.lst ys)/\SameO (λa=>a=D) (upd H1 D (.lst [])) H' ∧
    ∃Z' yts zs,EnvM X.K O' noM H' Z' σ'/\Reps X.K O' H' yts ys/\dM tgt fc fe (ts.drop i) Z'= .ok zs/\yts++zs=all,⟨ts.length,?_⟩,?_⟩
   ·have sN:Same H1 (upd H1 D (.lst [])):=bj hD _
    refine⟨by omega,KS _,Ji _,aQ,λb o e _=>e,dj src Z,[],all,?_,Reps.GM,by simpa using hall,rfl⟩
    have E2:EnvM X.K O noM H1 (dj src Z) (eR src σ):=yH E1 src
    exact E2.move (P:=λa=>a=D) (λa z=> .inr (z▸nD)) subO (λb o e _=>sN b o e) λa z=>by
     rcases z with z | z
     ·exact(E1.mtb a z).same sN
     ·rw[z];exact .inl ⟨_,aQ⟩
   ·rintro i m σ' ys H' ⟨rfl,hi',hyl,hDl,hsm,Z',yts,zs,E',ry,hl,hyz⟩
    refine⟨hDl,?_⟩
    have sm1:SameO (λa=>a=D) H1 H':=λb o e nb=>hsm b o (by rw[aE nb];exact e) nb
    have it:=hJ (λa=>a=D) O' (λa z=> .inr (z▸nD)) subO i H' sm1 (λa z=>(E'.trk a z).some)
    by_cases hlt:i<ts.length
    ·refine .inr ?_
     have hti:ts[i]? =some ts[i]:=by simp
     obtain⟨go,yl⟩:=it.2 ts[i] hti;refine⟨go,by omega,λxx Hc y=> ?_⟩
     obtain⟨sc,rx⟩:=yl xx Hc y
     have Ec:=E'.same sc;rw[Ln hlt]at hl;unfold dM at hl;refine⟨Z',O',noM,ts[i],Ec,rx,?_⟩
     cases e1:tgt ts[i] Z' with
     | bad=>rw[e1]at hl;cases hl
     | err cc=>rw[e1]at hl;cases hl
     | ok Z1=>
      rw[e1,ay]at hl;intro σ1 Eg;refine⟨Z1,O',⟨noM,Eg⟩,?_⟩
      cases e2:fc Z1 with
      | bad=>rw[e2]at hl;cases hl
      | err cc=>rw[e2]at hl;cases hl
      | ok k=>
       rw[e2,ay]at hl;intro H3 s3
       have E3:=Eg.same s3
       have tot:Same H' H3:=sc.trans s3
       have D3:H3 D=some (.lst ys):=tot _ _ hDl
       have sm3:SameO (λa=>a=D) (upd H1 D (.lst [])) H3:=λb o e nb=>tot _ _ (hsm b o e nb)
       cases k with
       | false=>
        refine L2.iteF ?_
        have hl':dM tgt fc fe (ts.drop (i+1)) Z1= .ok zs:=by simpa using hl
        exact⟨ts.length - (i+1),by omega,rfl,hlt,by omega,D3,sm3,Z1,yts,zs,E3,ry.same tot,hl',hyz⟩
       | true=>
        refine L2.iteT ?_
        have hl':(fe Z1 >>= λy=>dM tgt fc fe (ts.drop (i+1)) Z1 >>= λys=>Rs.ok (y::ys))= .ok zs:=by simpa using hl
        refine⟨Z1,O',⟨noM,E3⟩,?_⟩
        cases e3:fe Z1 with
        | bad=>rw[e3]at hl';cases hl'
        | err cc=>rw[e3]at hl';cases hl'
        | ok yt=>
         rw[e3,ay]at hl'
         cases e4:dM tgt fc fe (ts.drop (i+1)) Z1 with
         | bad=>rw[e4]at hl';cases hl'
         | err cc=>rw[e4]at hl';cases hl'
         | ok zs'=>
          rw[e4,ay]at hl'
          have hzs:yt::zs'=zs:=by injection hl'
          intro H4 s4 v rv
          have D4:H4 D=some (.lst ys):=s4 _ _ D3
          have E4:=E3.same s4
          have tot4:Same H' H4:=tot.trans s4
          have smD:SameO (λa=>a=D) H4 (upd H4 D (.lst (ys++ [v]))):=λb o e nb=>by rw[aE nb];exact e
          have inO:∀a,a=D->O' a\/Nw X.K H4 a:=λa z=> .inl (.inr z)
          refine⟨D4,ts.length - (i+1),by omega,rfl,hlt,?_,aQ,λb o e nb=>smD b o (s4 _ _ (sm3 b o e nb)) nb,Z1,yts++ [yt],zs',?_,?_,e4,?_⟩
          ·rw[Jc,Ku];omega
          ·exact E4.move inO (λa z=> .inl z) smD λaa z=>by
            by_cases hz:aa=D
            ·rw[hz];exact .inl ⟨_,aQ⟩
            ·unfold Mtb;rw[aE hz];exact E4.trk aa z
          ·have r1:Reps X.K O' H4 (yts++ [yt]) (ys++ [v]):=(ry.same tot4).append (Reps.FS rv Reps.GM)
           exact r1.move inO (λa z=> .inl z) smD
          ·rw[JE,Nk,hzs];exact hyz
    ·refine .inl ⟨it.1 (by omega),?_⟩
     have hi2:i=ts.length:=by omega
     subst hi2;rw[O4]at hl
     have hzs:zs= []:=by unfold dM at hl;injection hl with hl;exact hl.symm
     subst hzs;rw[JA]at hyz;subst hyz
     have sF:Same H1 H':=λb o e=>sm1 b o e λz=>by rw[z,hD]at e;cases e
     exact q2 D ys H' nD sF hDl ry
 ·rw[if_neg hz]at q1
  exact q1.elim
theorem vh {src:List (Option Nat)}{fi:En->Rs (List T)}{tgt:T->En->Rs En}{fc:En->Rs Bool}{fe:En->Rs T}{σ:L2.St}{H:Hp}{Q:VK}(h0:tP X (iO fi src tgt fc fe) σ H Q):FP X.K (tPI X fi) src (Cu X tgt) (tPT0 X.K fc) (tP0 X.K fe) σ H Q:=by
 obtain⟨Z,O,E,hq⟩:=h0;refine yF E ?_
 have e:iO fi src tgt fc fe Z=Fw fi src tgt fc fe Z >>= λl=> .ok (.lst l):=yG
 rw[e]at hq
 cases q:Fw fi src tgt fc fe Z with
 | bad=>rw[q]at hq;exact hq.elim
 | err c=>rw[q]at hq;exact hq
 | ok l=>
  rw[q,ay]at hq;intro H1 s1 D ys H' nD sD eD rD;exact hq H' (s1.trans sD) _ (Rep.Do.mpr ⟨D,ys,rfl,λz=>(E.same s1).fresh nD.1 z,eD,rD.less λa z=> .inl z⟩)
theorem q_lc {elt tg iter:Expr}{ifs:List Expr}{scope:L8}{N':List Str}{src:List (Option Nat)}{fi:En->Rs (List T)}{tgt:T->En->Rs En}{fc:En->Rs Bool}{fe:En->Rs T}
  (hc:X.calm=true) (S:LcScope X scope N' src) (hi:Ab X tg iter fi)
  (block:∀cl C s₀ H₀ fp,CY (cq X scope cl N' C s₀ H₀ fp) tg tgt/\Ac (cq X scope cl N' C s₀ H₀ fp) ifs (z0 (cq X scope cl N' C s₀ H₀ fp) fc)/\cj (cq X scope cl N' C s₀ H₀ fp) elt fe)
  (hs:∀x,J5 iter X.env x=pure x:=by intro _;rfl) :
  cj X (.ListComp elt [⟨tg,iter,ifs,0⟩] scope pos) (iO fi src tgt fc fe):=by
 have hPG:∀cl C s₀ H₀ fp,PG (cq X scope cl N' C s₀ H₀ fp) tg (Cu X tgt):=λcl C s₀ H₀ fp=>(block cl C s₀ H₀ fp).1
 have hPI:∀cl C s₀ H₀ fp,Ac (cq X scope cl N' C s₀ H₀ fp) ifs (tPT0 X.K fc):=λcl C s₀ H₀ fp pins s σ H Q I h=>(block cl C s₀ H₀ fp).2.1 pins s σ H Q I (tPT0.up (X:=cq X scope cl N' C s₀ H₀ fp) h)
 have hPE:∀cl C s₀ H₀ fp,PE (cq X scope cl N' C s₀ H₀ fp) elt (tP0 X.K fe):=λcl C s₀ H₀ fp pins s σ H Q I h=>(block cl C s₀ H₀ fp).2.2 pins s σ H Q I (tP0.up (X:=cq X scope cl N' C s₀ H₀ fp) h)
 exact PE.imp (x9 (g:=Cu X tgt) (tc:=tPT0 X.K fc) (te:=tP0 X.K fe) hc S hi (λcl C s₀ H₀ fp=>⟨hPG cl C s₀ H₀ fp,hPI cl C s₀ H₀ fp,hPE cl C s₀ H₀ fp⟩) hs) λσ H Q h=>vh h
inductive Fl where
 | nx (Z:En) | rt (t:T) | bk (Z:En) | ct (Z:En)
def OO (B:Ow)(M:Mn):Ow:=λa=>B a\/M.u a
structure Ev (K:IU)(B:Ow)(M:Mn)(H:Hp)(Z:En)(σ:L2.St):Prop where
 env:EnvM K (OO B M) M H Z σ
 mine:∀a,M.u a->¬ B a
theorem Ev.same {K:IU}{B:Ow}{M:Mn}{H H':Hp}{Z:En}{σ:L2.St}(h:Same H H')(e:Ev K B M H Z σ):Ev K B M H' Z σ:=⟨e.env.same h,e.mine⟩
theorem Ev.o {K:IU}{B:Ow}{M:Mn}{H:Hp}{Z:En}{σ:L2.St}(e:Ev K B M H Z σ):EnvO K (OO B M) H Z σ:=⟨M,e.env⟩
def PostF (X:Cx)(B P:Ow)(H:Hp)(r:Rs Fl)(D:lM):Prop:=match r with
 | .ok (.nx Z')=> ∀σ' H' M',SameO P H H'->Ev X.K B M' H' Z' σ'->(∀a,M'.u a->P a\/Nw X.K H a)->D.nx σ' H'
 | .ok (.rt t)=> ∀v H',SameO P H H'->Rep X.K B H' t v->D.rt v H'
 | .ok (.bk Z')=> ∀σ' H' M',SameO P H H'->Ev X.K B M' H' Z' σ'->(∀a,M'.u a->P a\/Nw X.K H a)->D.bk σ' H'
 | .ok (.ct Z')=> ∀σ' H' M',SameO P H H'->Ev X.K B M' H' Z' σ'->(∀a,M'.u a->P a\/Nw X.K H a)->D.ct σ' H'
 | .err c=>XA X P H c
 | .bad=>False
def HB (X:Cx)(F:En->Rs Fl):TS:=λD σ H=> ∃Z B M,Ev X.K B M H Z σ/\PostF X B M.u H (F Z) D
abbrev lY (X:Cx)(s:Stmt)(F:En->Rs Fl):Prop:=PS X s (HB X F)
abbrev jB (X:Cx)(s:List Stmt)(F:En->Rs Fl):Prop:=PSs X s (HB X F)
theorem PostF.later {B P P1:Ow}{H H1:Hp}{r:Rs Fl}{D:lM}(h:PostF X B P H r D)(s:SameO P H H1)(sub:∀a,P1 a->P a\/Nw X.K H a):PostF X B P1 H1 r D:=by
 have back:∀a,P1 a\/Nw X.K H1 a->P a\/Nw X.K H a:=λa z=>z.elim (sub a) (eQ s)
 cases r with
 | bad=>exact h
 | err c=>exact XA.later h s sub
 | ok f=>
  cases f with
  | nx Z'=>exact λσ' H' M' s' E' o'=>h σ' H' M' (s.trans s' sub) E' λa z=>back a (o' a z)
  | rt t=>exact λv H' s' r=>h v H' (s.trans s' sub) r
  | bk Z'=>exact λσ' H' M' s' E' o'=>h σ' H' M' (s.trans s' sub) E' λa z=>back a (o' a z)
  | ct Z'=>exact λσ' H' M' s' E' o'=>h σ' H' M' (s.trans s' sub) E' λa z=>back a (o' a z)
theorem PostF.xa {B P:Ow}{H:Hp}{c:Str}{D:lM}(h:PostF X B P H (.err c) D):XA X kB H c:=XA.later (P:=P) h (λ_ _ e _=>e) λ_ z=>z.elim
def sN (Z:En):Rs Fl:=.ok (.nx Z)
def aA (F G:En->Rs Fl)(Z:En):Rs Fl:=do
 let f <-F Z
 match f with
 | .nx Z'=>G Z'
 | f=> .ok f
theorem DB:jB X [] sN:=PSs.imp uV λD σ H ⟨Z,B,M,E,h⟩=>h σ H M (λ_ _ e _=>e) E λa z=> .inl z
theorem AR {st:Stmt}{bN:List Stmt}{F G:En->Rs Fl}(h1:lY X st F)(h2:jB X bN G):jB X (st::bN) (aA F G):=PSs.imp (rO h1 h2) λD σ H hh_=>by
 obtain⟨Z,B,M,E,h⟩:=hh_;refine⟨Z,B,M,E,?_⟩
 unfold aA at h
 cases q:F Z with
 | bad=>rw[q]at h;exact h.elim
 | err c=>rw[q]at h;exact h
 | ok f=>
  rw[q,ay]at h
  cases f with
  | nx Z'=>exact λσ' H' M' s' E' o'=>⟨Z',B,M',E',h.later s' o'⟩
  | rt t=>exact h
  | bk Z'=>exact h
  | ct Z'=>exact h
theorem DA {st:Stmt}{F:En->Rs Fl}(h:lY X st F):jB X [st] F:=uU h
def aI (f:En->Rs T)(Z:En):Rs Fl:=do
 let t <-f Z
 .ok (.rt t)
theorem Dy (ha:cj X a fa):lY X (.Return (some a) pos) (aI fa):=PS.imp (xV ha) λD σ H hh_=>by
 obtain⟨Z,B,M,E,h⟩:=hh_;refine⟨Z,OO B M,E.o,?_⟩
 unfold aI at h
 cases q:fa Z with
 | bad=>rw[q]at h;exact h.elim
 | err c=>rw[q]at h;exact PostF.xa h
 | ok t=>
  rw[q,ay]at h;exact λH' s v r=>h v H' (SameO.of s) (r.less λ_ z=> .inl z)
def eO (f:En->Rs Bool)(F G:En->Rs Fl)(Z:En):Rs Fl:=do
 let k <-f Z
 if k then F Z else G Z
theorem F6 {f:En->Rs Bool}{A B:List Stmt}{F G:En->Rs Fl}(hc:sZ X c f)(ha:jB X A F)(hb:jB X B G):lY X (.If c A B pos) (eO f F G):=PS.imp (xW hc ha hb) λD σ H hh_=>by
 obtain⟨Z,B,M,E,h⟩:=hh_;refine⟨Z,OO B M,E.o,?_⟩
 unfold eO at h
 cases q:f Z with
 | bad=>rw[q]at h;exact h.elim
 | err c=>rw[q]at h;exact PostF.xa h
 | ok k=>
  rw[q,ay]at h;intro H' s
  have E':Ev X.K B M H' Z σ:=E.same s
  cases k with
  | true=>refine L2.iteT ?_;exact⟨Z,B,M,E',PostF.later (by simpa using h) (SameO.of s) λa z=> .inl z⟩
  | false=>refine L2.iteF ?_;exact⟨Z,B,M,E',PostF.later (by simpa using h) (SameO.of s) λa z=> .inl z⟩
def cJ (f:En->Rs T)(g:T->En->Rs En)(Z:En):Rs Fl:=do
 let t <-f Z
 match g t Z with
 | .ok Z'=> .ok (.nx Z')
 | _=> .bad
theorem xK {B:Ow}{M:Mn}{Z:En}{σ:L2.St}{H:Hp}{D:lM}{g:T->En->Rs En}{f:En->Rs T}(E:Ev X.K B M H Z σ)(h:PostF X B M.u H (cJ f g Z) D):Ay (tP X f) (Cu X g) D σ H:=by
 refine⟨Z,OO B M,E.o,?_⟩
 unfold cJ at h
 cases q:f Z with
 | bad=>rw[q]at h;exact h.elim
 | err c=>rw[q]at h;exact PostF.xa h
 | ok t=>
  rw[q,ay]at h;intro H' s v r;refine⟨Z,OO B M,M,t,E.env.same s,r,?_⟩
  cases q2:g t Z with
  | bad=>rw[q2]at h;exact h.elim
  | err c=>rw[q2]at h;exact h.elim
  | ok Z'=>
   rw[q2]at h;exact λσ' E'=>h σ' H' M (SameO.of s) ⟨E',E.mine⟩ λa z=> .inl z
theorem uN {f:En->Rs T}{σ:L2.St}{H:Hp}{Q Q':VK}(h:tP X f σ H Q)(w:∀v H',Q v H'->Q' v H'):tP X f σ H Q':=by
 obtain⟨Z,O,E,q⟩:=h;exact⟨Z,O,E,Post.mono q λt H' _ z v r=>w v H' (z v r)⟩
theorem F5 {elt tg iter:Expr}{ifs:List Expr}{scope:L8}{spos py:Pos}{N':List Str}{src:List (Option Nat)}{fi:En->Rs (List T)}{tgt:T->En->Rs En}{fc:En->Rs Bool}{fe:En->Rs T}(i:Nat){y:Str}
  (hc:X.calm=true) (S:LcScope X scope N' src) (hi:Ab X tg iter fi)
  (block:∀cl C s₀ H₀ fp,CY (cq X scope cl N' C s₀ H₀ fp) tg tgt/\Ac (cq X scope cl N' C s₀ H₀ fp) ifs (z0 (cq X scope cl N' C s₀ H₀ fp) fc)/\cj (cq X scope cl N' C s₀ H₀ fp) elt fe)
  (hN:X.N.Nodup) (hiy:X.N[i]? =some y:=by rfl) (hy:Loc X.env.scope y:=by first | exact J8 rfl | exact JP rfl) (hsw:JU (.ListComp elt [⟨tg,iter,ifs,0⟩] scope pos) (some (.Name y py)) spos.line X.env=pure true:=by rfl)
  (hf:X.fn y=true\/X.env.scope.names.lookup y=some .local:=by first | exact .inl rfl | exact .inr rfl | assumption) (hs:∀x,J5 iter X.env x=pure x:=by intro _;rfl) :
  lY X (.Assign [.Name y py] (.ListComp elt [⟨tg,iter,ifs,0⟩] scope pos) spos) (cJ (iO fi src tgt fc fe) (gN i)):=by
 have hPG:∀cl C s₀ H₀ fp,PG (cq X scope cl N' C s₀ H₀ fp) tg (Cu X tgt):=λcl C s₀ H₀ fp=>(block cl C s₀ H₀ fp).1
 have hPI:∀cl C s₀ H₀ fp,Ac (cq X scope cl N' C s₀ H₀ fp) ifs (tPT0 X.K fc):=λcl C s₀ H₀ fp pins s σ H Q I h=>(block cl C s₀ H₀ fp).2.1 pins s σ H Q I (tPT0.up (X:=cq X scope cl N' C s₀ H₀ fp) h)
 have hPE:∀cl C s₀ H₀ fp,PE (cq X scope cl N' C s₀ H₀ fp) elt (tP0 X.K fe):=λcl C s₀ H₀ fp pins s σ H Q I h=>(block cl C s₀ H₀ fp).2.2 pins s σ H Q I (tP0.up (X:=cq X scope cl N' C s₀ H₀ fp) h)
 refine PS.imp (Gq (g:=Cu X tgt) (tc:=tPT0 X.K fc) (te:=tP0 X.K fe) (i:=i) hc S hi (λcl C s₀ H₀ fp=>⟨hPG cl C s₀ H₀ fp,hPI cl C s₀ H₀ fp,hPE cl C s₀ H₀ fp⟩) hN hiy hy hsw hf hs) λD σ H ⟨Z,B,M,E,h⟩=>vh (uN (xK E h) λv H' z=> ?_)
 obtain⟨Z',O,M',t,E',r,q⟩:=z;unfold gN at q
 split at q
 ·rename_i Z2 e
  split at e
  ·rename_i hl
   cases e;exact q _ (E'.set hl r)
  ·cases e
 ·exact q.elim
theorem DH {tg:Expr}{g:T->En->Rs En}(ha:cj X a fa)(hg:CY X tg g)(hs:Oe [tg] a pos.line X.env=pure false:=by rfl)(hw:Of [tg] a X.env=pure none:=by rfl)
  (h1:(Kr [tg] X.env).map (·.2)= [assign tg X.env]:=by rfl):lY X (.Assign [tg] a pos) (cJ fa g):=PS.imp (DZ ha hg hs hw h1) λD σ H ⟨Z,B,M,E,h⟩=>xK E h
def v9 (f:En->Rs T)(Z:En):Rs Fl:=do
 let _ <-f Z
 .ok (.nx Z)
theorem AQ (ha:cj X a fa)(hs:JU a none pos.line X.env=pure false:=by rfl):lY X (.Expr a pos) (v9 fa):=PS.imp (jX ha hs) λD σ H hh_=>by
 obtain⟨Z,B,M,E,h⟩:=hh_;refine⟨Z,OO B M,E.o,?_⟩
 unfold v9 at h
 cases q:fa Z with
 | bad=>rw[q]at h;exact h.elim
 | err c=>rw[q]at h;exact PostF.xa h
 | ok t=>
  rw[q,ay]at h;exact λH' s v r=>h σ H' M (SameO.of s) (E.same s) λa z=> .inl z
def bp (g:T->En->Rs En)(F:En->Rs Fl):List T->En->Rs Fl
 | [],Z=> .ok (.nx Z)
 | t::r,Z=>do
  let Z1 <-g t Z
  let f <-F Z1
  match f with
  | .nx Z2=>bp g F r Z2
  | .ct Z2=>bp g F r Z2
  | .bk Z2=> .ok (.nx Z2)
  | .rt t=> .ok (.rt t)
def gU (fi:En->Rs (List T))(g:T->En->Rs En)(F:En->Rs Fl)(Z:En):Rs Fl:=do
 let ts <-fi Z
 match bp g F ts Z with
 | .ok f=> .ok f
 | _=> .bad
theorem kz {α:Type}{t:Sem α}{Q:α->IY->Prop}{s:IY}{E:IW->IY->Prop}{P:JB}{w:JY}{A:JK}(h:wpAny (model P w) A t Q (λ_ _=>False) s):wpAny (model P w) A t Q E s:=KN h (λ_ _ q=>q) λ_ _ z=>z.elim
theorem A5 {tg iter:Expr}{body:List Stmt}{wi:TI}{g:TG}{tb:TS}{pos:Pos}(hc:X.calm=true)(hi:PI X tg iter wi)(hg:PG X.nox tg g)(hb:PSs X.nox body tb)
  (hs:∀x,J5 iter X.env x=pure x:=by intro _;rfl):PS X (.For tg iter body [] pos) (tFor wi g tb):=by
 intro pins s σ H D I h;refine wpAny_For (bR (hi pins s σ H _ I h) λv s1 h1=>bR h1 λitv s2 h2=> ?_) hs
 obtain⟨it,fp,tn,J,H2,e,I2,T,st2,f2,W,⟨m0,w0⟩,turn⟩:=h2;subst e
 have stat:∀{H':Hp},(∀b∈fp,H' b=none)->∀b∈fp,nQ X pins H' b:=λhn b hb=>⟨hn b hb,(f2 b hb).2⟩
 refine codeAny_forLoop_any (λn s'=> ∃i σ' H',Inv X pins σ' H' s'/\tn i s'.heap/\(∀b∈fp,H' b=none)/\W i n σ' H') ?_ m0 ⟨0,σ,H2,I2,st2,λb hb=>(f2 b hb).1,w0⟩
 rintro n s3 ⟨i,σ3,H3,I3,st3,fr3,w3⟩
 rcases turn i n σ3 H3 w3 with⟨stop,qn⟩ | ⟨go,N,hN,step⟩
 ·refine kz (bR (T.done X.nox rfl rfl rfl hc i pins s3 σ3 H3 _ (I3.FB _) (stat fr3) st3 stop) λr s4 ⟨hr,I4⟩=> ?_)
  subst hr;exact LH ⟨σ3,H3,I4.FB _,qn⟩
 ·refine kz (bR (T.item X.nox rfl rfl rfl hc i pins s3 σ3 H3 _ (I3.FB _) (stat fr3) st3 go) λr s4 ⟨u,hr,h4⟩=> ?_)
  subst hr;refine kz (bR h4 λ_ s5 hh_=> ?_)
  obtain⟨x,H5,I5,r5,y5,st5,fr5⟩:=hh_
  have I5':=Inv.pinned (X:=X.nox) I5 (stat fr5) (T.obj _ _ st5);refine kz (bR (hg _ s5 σ3 H5 x u _ I5' r5 (step x H5 y5)) λ_ s6 hh_=> ?_)
  obtain⟨σ6,H6,I6,q6⟩:=hh_;refine kz (bR (hb _ s6 σ6 H6 _ I6 q6) λf s7 q7=> ?_)
  have again:∀{σ7:L2.St} {H7:Hp},Inv X.nox (pins++mB fp s5.heap) σ7 H7 s7->N σ7 H7->∃m,m<n/\∃i σ' H',Inv X pins σ' H' s7/\tn i s7.heap/\(∀b∈fp,H' b=none)/\W i m σ' H':=λ{σ7 H7} I7 n7=>by
   obtain⟨m',hm,w7⟩:=hN σ7 H7 n7;refine⟨m',hm,i+1,σ7,H7,(Inv.HV (X:=X.nox) I7).FB _,T.keep _ _ _ st5 λb hb o e=>(I7.pin (b,o) (Jx _ (Jx _ (gw hb e)))).1,λb hb=> ?_,w7⟩
   obtain⟨o,e,d⟩:=T.obj _ _ st5 b hb;exact(I7.pin (b,o) (Jx _ (Jx _ (gw hb e)))).2.1
  cases f with
  | next=>obtain⟨σ7,H7,I7,n7⟩:=q7;exact again I7 n7
  | cont=>obtain⟨σ7,H7,I7,n7⟩:=q7;exact again I7 n7
  | brk=>obtain⟨σ7,H7,I7,q7⟩:=q7;exact⟨σ7,H7,(Inv.HV (X:=X.nox) I7).FB _,q7⟩
  | ret v=>obtain⟨x7,σ7,H7,I7,r7,q7⟩:=q7;exact⟨x7,σ7,H7,(Inv.HV (X:=X.nox) I7).FB _,r7,q7⟩
theorem DD {tg iter:Expr}{body:List Stmt}{fi:En->Rs (List T)}{g:T->En->Rs En}{F:En->Rs Fl}(hc:X.calm=true)(hi:Ab X tg iter fi)(hg:CY X.nox tg g)(hb:jB X.nox body F)
  (hs:∀x,J5 iter X.env x=pure x:=by intro _;rfl):lY X (.For tg iter body [] pos) (gU fi g F):=PS.imp (A5 hc hi hg hb hs) λD σ H hh_=>by
 obtain⟨Z,B,M,E,h⟩:=hh_;refine⟨Z,OO B M,E.o,?_⟩
 unfold gU at h
 cases q:fi Z with
 | bad=>rw[q]at h;exact h.elim
 | err c=>rw[q]at h;exact PostF.xa h
 | ok ts=>
  rw[q,ay]at h
  cases qq:bp g F ts Z with
  | bad=>rw[qq]at h;exact h.elim
  | err c=>rw[qq]at h;exact h.elim
  | ok fin=>
  rw[qq]at h;intro H1 s1 J hJ
  have E1:Ev X.K B M H1 Z σ:=E.same s1
  have h1:PostF X B M.u H1 (.ok fin) D:=PostF.later h (SameO.of s1) λa z=> .inl z
  refine⟨λi m σ' H'=>m=ts.length - i/\i<=ts.length/\SameO M.u H1 H'/\∃Z' M',Ev X.K B M' H' Z' σ'/\(∀a,M'.u a->M.u a\/Nw X.K H1 a)/\bp g F (ts.drop i) Z'= .ok fin,
   ⟨ts.length,by omega,KS _,λ_ _ e _=>e,Z,M,E1,λa z=> .inl z,by simpa using qq⟩,?_⟩
  rintro i m σ' H' ⟨rfl,hi',sm,Z',M',E',ow,hl⟩
  have it:=hJ M.u (OO B M') (λa z=> .inl (.inr z)) (λa z=>z.elim (λw=> .inl (.inl w)) λw=>(ow a w).elim (λy=> .inl (.inr y)) .inr) i H' sm (λa z=>(E'.env.trk a z).some)
  by_cases hlt:i<ts.length
  ·have hti:ts[i]? =some ts[i]:=by simp
   obtain⟨go,yl⟩:=it.2 ts[i] hti;rw[Ln hlt]at hl;unfold bp at hl;refine .inr ⟨go,λσ2 H2=> ∃m',m'<ts.length - i/\(m'=ts.length - (i+1)/\i+1<=ts.length/\SameO M.u H1 H2/\∃Z2 M2,Ev X.K B M2 H2 Z2 σ2/\(∀a,M2.u a->M.u a\/Nw X.K H1 a)/\bp g F (ts.drop (i+1)) Z2= .ok fin),λσ2 H2 z=>z,λx Hc y=> ?_⟩
   obtain⟨sc,rx⟩:=yl x Hc y;refine⟨Z',OO B M',M',ts[i],E'.env.same sc,rx,?_⟩
   cases e1:g ts[i] Z' with
   | bad=>rw[e1]at hl;cases hl
   | err cc=>rw[e1]at hl;cases hl
   | ok Z1=>
    rw[e1,ay]at hl;intro σ1 Eg
    have E2:Ev X.K B M' Hc Z1 σ1:=⟨Eg,E'.mine⟩;refine⟨Z1,B,M',E2,?_⟩
    have smc:SameO M.u H1 Hc:=λb o e n=>sc _ _ (sm b o e n)
    have onward:∀{σ3:L2.St} {H3:Hp} {Z3:En} {M3:Mn},SameO M'.u Hc H3->Ev X.K B M3 H3 Z3 σ3->(∀a,M3.u a->M'.u a\/Nw X.K Hc a)->bp g F (ts.drop (i+1)) Z3= .ok fin →
      ∃m',m'<ts.length - i/\(m'=ts.length - (i+1)/\i+1<=ts.length/\SameO M.u H1 H3/\∃Z2 M2,Ev X.K B M2 H3 Z2 σ3/\(∀a,M2.u a->M.u a\/Nw X.K H1 a)/\bp g F (ts.drop (i+1)) Z2= .ok fin):=
     λ{σ3 H3 Z3 M3} s3 E3 o3 p3=>⟨_,by omega,rfl,hlt,smc.trans s3 ow,Z3,M3,E3,λa z=>(o3 a z).elim (ow a) (eQ smc),p3⟩
    cases e2:F Z1 with
    | bad=>rw[e2]at hl;cases hl
    | err cc=>rw[e2]at hl;cases hl
    | ok f=>
     rw[e2,ay]at hl
     cases f with
     | nx Z2=>exact λσ3 H3 M3 s3 E3 o3=>onward s3 E3 o3 hl
     | ct Z2=>exact λσ3 H3 M3 s3 E3 o3=>onward s3 E3 o3 hl
     | bk Z2=>
      cases hl
      exact λσ3 H3 M3 s3 E3 o3=>h1 σ3 H3 M3 (smc.trans s3 ow) E3 λa z=>(o3 a z).elim (ow a) (eQ smc)
     | rt t=>
      cases hl;exact λv H3 s3 r=>h1 v H3 (smc.trans s3 ow) r
  ·refine .inl ⟨it.1 (by omega),?_⟩
   have hi2:i=ts.length:=by omega
   subst hi2;rw[O4]at hl;cases hl;exact h1 σ' H' M' sm E' ow
def bK (c:En->Rs Bool)(F:En->Rs Fl):Nat->En->Rs Fl
 | 0,_=> .bad
 | n+1,Z=>match c Z with
  | .ok false=> .ok (.nx Z)
  | .ok true=>match F Z with
   | .ok (.nx Z')=>bK c F n Z'
   | .ok (.ct Z')=>bK c F n Z'
   | .ok (.bk Z')=> .ok (.nx Z')
   | .ok (.rt t)=> .ok (.rt t)
   | _=> .bad
  | _=> .bad
theorem xN {c:Expr}{body:List Stmt}{fc:En->Rs Bool}{F:En->Rs Fl}(n:Nat)(hc:sZ X.nox c fc)(hb:jB X.nox body F):lY X (.While c body [] pos) (bK fc F n):=by
 have base:PS X.nox (.While c body [] pos) (tF (z0 X.nox fc) (HB X.nox F)):=xU PassesOwn.never hc hb;intro pins s σ H D I ⟨Z,B,M,E,h⟩
 cases qq:bK fc F n Z with
 | bad=>rw[qq]at h;exact h.elim
 | err c=>
  exfalso
  have:∀n Z,bK fc F n Z≠ .err c:=by
   intro n
   induction n with
   | zero=>intro Z z;cases z
   | succ n ih=>
    intro Z z;unfold bK at z
    split at z
    ·cases z
    ·split at z <;> first | exact ih _ z | cases z
    ·cases z
  exact this n Z qq
 | ok fin=>
  rw[qq]at h
  have goal:tF (z0 X.nox fc) (HB X.nox F) D σ H:=by
   refine⟨λm σ' H'=>SameO M.u H H'/\∃Z' M',Ev X.K B M' H' Z' σ'/\(∀a,M'.u a->M.u a\/Nw X.K H a)/\bK fc F m Z'= .ok fin,⟨n,λ_ _ e _=>e,Z,M,E,λa z=> .inl z,qq⟩,?_⟩
   rintro m σ' H' ⟨sm,Z',M',E',ow,hl⟩
   cases m with
   | zero=>cases hl
   | succ m=>
    refine⟨Z',OO B M',E'.o,?_⟩
    unfold bK at hl
    cases e1:fc Z' with
    | bad=>rw[e1]at hl;cases hl
    | err cc=>rw[e1]at hl;cases hl
    | ok k=>
     rw[e1]at hl;intro H2 s2
     have E2:Ev X.K B M' H2 Z' σ':=E'.same s2
     have sm2:SameO M.u H H2:=λb o e n=>s2 _ _ (sm b o e n)
     cases k with
     | false=>
      cases hl;refine L2.iteF ?_
      exact h σ' H2 M' sm2 E2 ow
     | true=>
      refine L2.iteT ?_
      refine⟨λσ3 H3=>SameO M.u H H3/\∃Z3 M3,Ev X.K B M3 H3 Z3 σ3/\(∀a,M3.u a->M.u a\/Nw X.K H a)/\bK fc F m Z3= .ok fin,λσ3 H3 z=>⟨m,M5 m,z⟩,Z',B,M',E2,?_⟩
      have hl':(match F Z' with | .ok (.nx Z')=>bK fc F m Z' | .ok (.ct Z')=>bK fc F m Z' | .ok (.bk Z')=> .ok (.nx Z') | .ok (.rt t)=> .ok (.rt t) | _=> .bad)= .ok fin:=hl
      cases e2:F Z' with
      | bad=>rw[e2]at hl';cases hl'
      | err cc=>rw[e2]at hl';cases hl'
      | ok f=>
       rw[e2]at hl'
       cases f with
       | nx Z2=>exact λσ3 H3 M3 s3 E3 o3=>⟨sm2.trans s3 ow,Z2,M3,E3,λa z=>(o3 a z).elim (ow a) (eQ sm2),hl'⟩
       | ct Z2=>exact λσ3 H3 M3 s3 E3 o3=>⟨sm2.trans s3 ow,Z2,M3,E3,λa z=>(o3 a z).elim (ow a) (eQ sm2),hl'⟩
       | bk Z2=>
        cases hl'
        exact λσ3 H3 M3 s3 E3 o3=>h σ3 H3 M3 (sm2.trans s3 ow) E3 λa z=>(o3 a z).elim (ow a) (eQ sm2)
       | rt t=>
        cases hl';exact λv H3 s3 r=>h v H3 (sm2.trans s3 ow) r
  refine kz (bR (base pins s σ H D (I.FB _) goal) λf s' q=> ?_)
  cases f with
  | next=>obtain⟨σ7,H7,I7,n7⟩:=q;exact⟨σ7,H7,I7.FB _,n7⟩
  | cont=>obtain⟨σ7,H7,I7,n7⟩:=q;exact⟨σ7,H7,I7.FB _,n7⟩
  | brk=>obtain⟨σ7,H7,I7,n7⟩:=q;exact⟨σ7,H7,I7.FB _,n7⟩
  | ret v=>obtain⟨x7,σ7,H7,I7,r7,q7⟩:=q;exact⟨x7,σ7,H7,I7.FB _,r7,q7⟩
def Cv (Z:En):Rs Fl:=.ok (.ct Z)
end
def bw (F:En->Rs Fl)(Z:En):Rs T:=do
 let f <-F Z
 match f with
 | .nx _=> .ok .non
 | .rt t=> .ok t
 | _=> .bad
def aK (n:Nat)(ts:List T):En:=ts.map Sl.va++Js (n - ts.length) Sl.em
theorem v5 {n:Nat}{ts:List T}{i:Nat}{o:OT}(e:(aK n ts)[i]? =some (.ow o)):False:=by
 unfold aK at e
 by_cases hi:i<ts.length
 ·rw[J2 (by simpa using hi),Jz,Jt hi]at e
  cases e
 ·rw[KI (by simpa using hi),JZ]at e
  split at e <;> cases e
theorem oM {K:IU}{O:Ow}{H:Hp}{N:List Str}{ts:List T}{vs:List V}(r:Reps K O H ts vs)(hl:ts.length<=N.length)(trk:∀a,O a->Mtb H a):Ev K O noM H (aK N.length ts) (start N vs):=by
 have hlen:=r.length
 have sub:∀a,OO O noM a->O a:=λa z=>z.elim id λ⟨_,w⟩=>w.elim
 refine⟨⟨by unfold aK L2.start;simp;omega,λi t e=> ?_,λi o e=>(v5 e).elim,λ_ _ z=>z.elim,λ_ _ _ z=>z.elim,λa z=>trk a (sub a z)⟩,λa ⟨_,z⟩=>z.elim⟩
 unfold aK at e;unfold L2.start
 by_cases hi:i<ts.length
 ·rw[J2 (by simpa using hi),Jz,Jt hi]at e
  have e':ts[i] =t:=by injection e with e;injection e
  obtain⟨v,e1,e2⟩:=r.get (i:=i) (t:=t) (by rw[<-e'];simp)
  refine⟨v,?_,e2.less sub⟩
  rw[J2 (by simp;omega),Jz,e1];rfl
 ·rw[KI (by simpa using hi),JZ]at e
  split at e <;> cases e
section
variable {P:JB}{w:JY}{K:IU}{mg:Str->Option IW}{base:Heap}
theorem Hf {x qual:Str}{st:Stmt}{f:Addr}{fd:J0}{N ps:List Str}{k n:Nat}{g:List T->Rs T}(Fn:L2.Fun K x qual st f fd)(S:aw N ps (ai st))(hn:ps.length=n)
  (hbody:∀(cdv:IW) (A:JK) (outer:List Env) (s:IY) (H:Hp) (E:XK),Room k (A.deeper (envOfC qual (ai st) s.heap.objs.size f cdv)) →
   ∃F,jB (fG CX0 P w K mg base N qual (ai st) f cdv A outer s H E).nox (bJ st) F/\∀ts,ts.length=n->∀t,g ts= .ok t->bw F (aK N.length ts)= .ok t):nR P w K mg base CX0 (k+1) f fd ps (spP K n g):=by
 have hpl:ps.length<=N.length:=by have:=congrArg K9 S.pre;rw[Kx]at this;omega
 refine Fn.ok S (λvs H Q E h=> ?_) (λcdv A outer s H vs Q E hr h=> ?_)
 ·obtain⟨ts,O,r,_,hl,_⟩:=h
  rw[<-r.length,hl,hn]
 ·obtain⟨ts,O,r,trk,hl,h⟩:=h
  obtain⟨F,hF,hv⟩:=hbody cdv A outer s H E hr;refine⟨_,hF,aK N.length ts,O,noM,oM r (by omega) trk,?_⟩
  have no:∀a,¬noM.u a:=λa ⟨_,z⟩=>z
  cases q:g ts with
  | bad=>rw[q]at h;exact h.elim
  | err c=>rw[q]at h;exact h.elim
  | ok t=>
   rw[q]at h
   have hb:=hv ts hl t q;unfold bw at hb
   cases q2:F (aK N.length ts)with
   | bad=>rw[q2]at hb;cases hb
   | err c=>rw[q2]at hb;cases hb
   | ok fl=>
    rw[q2,ay]at hb
    have sameOf:∀H',SameO noM.u H H'->Same H H':=λH' s b o e=>s b o e (no b)
    cases fl with
    | nx Z'=>cases hb;exact λσ' H' M' s' E' o'=>h .non H' (sameOf H' s') Rep.Ir
    | rt t'=>cases hb;exact λv H' s' r'=>h v H' (sameOf H' s') r'
    | bk Z'=>cases hb
    | ct Z'=>cases hb
end
end Tr
namespace Enu
open PySem
open AutoSeq1 (wpAny_loadPart')
section
variable {prog:JB}{w:JY}{A:JK}{E:IW->IY->Prop}{s:IY}
theorem Aw {it tt:Addr}{k:Nat}{its:Array IW}{x:IW}{Q:IW->IY->Prop}(hi:s.heap.IsTupleIter it tt k)(ht:s.heap.IsTuple tt its)(hx:its[k]? =some x)
  (hQ:∀h',h'.IsTupleIter it tt (k+1)->L1 it s.heap h'->Q x { s with heap:=h' }):wpAny (model prog w) A (KQ (.ref it)) Q E s:=by
 obtain⟨ob,g1,g2,g3⟩:=id hi;obtain⟨ot,k1,_,m,k3⟩:=ht;unfold KQ;refine Ja (KA (name:=Jr "__next__") hi.typeIs KJ (Lr KJ hi.typeIs Mj ?_ (Mc _)))
 show wpAny (model prog w) _ (field (.ref it) 0 >>= _) _ _ s
 refine Ja (KW g1 g3 (x:=.ref tt) rfl ?_)
 show wpAny (model prog w) _ (if (JD tt == JI)=true then _ else _) _ _ s
 rw[if_neg (show ¬((JD tt == JI)=true)by exact Jw)]
 show wpAny (model prog w) _ (field (.ref it) 1 >>= _) _ _ s
 refine Ja (KW g1 g3 (x:=.int k 0) rfl ?_)
 show wpAny (model prog w) _ (seqItems? (.ref tt) >>= _) _ _ s
 refine Ja (NR k1 k3 ?_)
 simp only[hx,Kc];refine Ja (NS g1 g3 (by simp) (Jl ⟨x,rfl,Jl (hQ _ ?_ (NT ..))⟩))
 refine⟨_,Nl _ g1 (Nm (LD g3 _)),(Obj.cls_mapFields ..).trans g2,?_⟩
 rw[LD g3];simp[rawInt]
theorem tupStop {it tt:Addr}{k:Nat}{its:Array IW}{Q:IW->IY->Prop}(hh:A.handled=none)(hi:s.heap.IsTupleIter it tt k)(ht:s.heap.IsTuple tt its)(hx:its[k]? =none)
  (hE:∀h' e,Heap.ExtBut it s.heap h'->(∃o,h'.get? e=some o/\o.cls= .type "StopIteration")->E (.ref e) { s with heap:=h' }):wpAny (model prog w) A (KQ (.ref it)) Q E s:=by
 obtain⟨ob,g1,g2,g3⟩:=id hi;obtain⟨ot,k1,_,m,k3⟩:=ht;unfold KQ;refine Ja (KA (name:=Jr "__next__") hi.typeIs KJ (Lr KJ hi.typeIs Mj ?_ (Mc _)))
 show wpAny (model prog w) _ (field (.ref it) 0 >>= _) _ _ s
 refine Ja (KW g1 g3 (x:=.ref tt) rfl ?_)
 show wpAny (model prog w) _ (if (JD tt == JI)=true then _ else _) _ _ s
 rw[if_neg (show ¬((JD tt == JI)=true)by exact Jw)]
 show wpAny (model prog w) _ (field (.ref it) 1 >>= _) _ _ s
 refine Ja (KW g1 g3 (x:=.int k 0) rfl ?_)
 show wpAny (model prog w) _ (seqItems? (.ref tt) >>= _) _ _ s
 refine Ja (NR k1 k3 ?_)
 simp only[hx,Kc];refine Ja (OB (Ja (NS g1 g3 (by simp) ?_)))
 show wpAny (model prog w) _ (newExc (.type "StopIteration") [] >>= _) _ _ _
 refine Ja ?_
 simp only[newTuple,newExc];refine Ja (Ks ?_ (by size_fits))
 refine Ja (m:=firstArgMember _ _) (wpAny_of_eq (a:=JI) (by first | (simp only[firstArgMember];rfl) | rfl) ?_)
 refine Ks ?_ (by size_fits)
 simp only[raiseNew];refine Ja (wpAny_handled ?_)
 first | rw[hh] | rw[show A.in1.handled=none from hh]
 refine Ja (Jl (wpAny_throw ?_))
 refine hE _ _ (((NT ..).extBut.push _).push _) ⟨_,Jq _ rfl,rfl⟩
end
theorem tupDraws {prog:JB}{w:JY}{A:JK}(hh:A.handled=none)(it tt:Addr)(hne:tt≠it)(its:Array IW) :
  Draws prog w A it [it,tt] its.size (λi v=>its[i]? =some v) (λi h=>h.IsTupleIter it tt i/\h.IsTuple tt its) where
 live:=λ_ _ st=>by obtain⟨o,ho,_⟩:=st.1;exact⟨o,ho⟩
 frame:=λ_ _ _ st hk=>by
  obtain⟨⟨o,e,r⟩,⟨o',e',r'⟩⟩:=st;exact⟨⟨o,hk it (by simp) o e,r⟩,⟨o',hk tt (by simp) o' e',r'⟩⟩
 item:=λi s Q E hi st hQ=>by
  refine Aw st.1 st.2 (x:=its[i]) (by simp[hi]) λh' hit' hs'=> ?_
  obtain⟨o',e',r'⟩:=st.2;exact hQ _ h' s.toks (by simp[hi]) ⟨hit',⟨o',(hs'.2 tt hne).trans e',r'⟩⟩ hs'
 done:=λs Q E st hE=>tupStop hh st.1 st.2 (by simp) hE
theorem newT (l:Addr)(items:Array IW)(n:Nat)(dct:Option Addr)(sl:Array (Option IW)) :
  Meets (Builtin.«enumerate.__new__» ⟨[.type "enumerate",.ref l],[]⟩) (λ_ R s=>s.heap.get? l=some { cls:=.type "tuple",dict:=dct,data:=.seq items n,slots:=sl } ∧
   R (.ok (.ret (.ref (s.heap.push { cls:=.type "tuple_iterator",data:=.fields #[.ref l,.int 0 0] }).objs.size)))
    { s with heap:=(s.heap.push { cls:=.type "tuple_iterator",data:=.fields #[.ref l,.int 0 0] }).push { cls:=.type "enumerate",data:=.fields #[.none,.bool false,.ref s.heap.objs.size,rawInt 0,.none,.none] } }):=
 .of_wp λprog w A R s h=>by
  obtain⟨hp,g,d,tk,os⟩:=s;obtain⟨hl,h⟩:=h
  have hsub:=sub_enumerate
  have hT:Heap.IsTuple (Shared.heap ⟨hp,g,d,tk,os⟩) l items:=⟨_,hl,rfl,n,rfl⟩
  wp_walk using K6 hl
  refine wpAny_stack_any λst=>Jl ?_
  split
  ·rename_i c _ _ _ _ _
   cases (c == Md "enumerate")
   ·wp_walk using K6 hl,LJ hT
    exact⟨_,rfl,h⟩
   ·wp_walk using K6 hl,LJ hT
    exact⟨_,rfl,h⟩
  ·wp_walk using K6 hl,LJ hT
   exact⟨_,rfl,h⟩
theorem callT {prog:JB}{w:JY}{A:JK}{E:IW->IY->Prop}{s:IY}{l:Addr}{items:Array IW}{Q:IW->IY->Prop}(hL:s.heap.IsTuple l items)
  (h:∀h',IsEnum h' (s.heap.objs.size+1) s.heap.objs.size 0 .none->h'.IsTupleIter s.heap.objs.size l 0->h'.objs.size=s.heap.objs.size+2 →
   (∀b o,s.heap.get? b=some o->h'.get? b=some o)->Q (.ref (s.heap.objs.size+1)) { s with heap:=h' }):wpAny (model prog w) A (call (.type "enumerate") [.ref l]) Q E s:=by
 obtain⟨⟨cc,dc,dd,ss⟩,hl,hc,n,hd⟩:=hL
 replace hc:cc= .type "tuple":=hc
 replace hd:dd= .seq items n:=hd
 subst hc hd;refine callType_new F.called_enumerate (by decide) (F.typeCall_enumerate_1 _) (F.newCall_enumerate_1 _) (λobj=>F.args_object_init_2 obj _) F.entry_enumerate_new (newT l items n dc ss) ⟨hl,?_⟩
 have hz:(s.heap.push { cls:=.type "tuple_iterator",data:=.fields #[.ref l,.int 0 0] }).objs.size=s.heap.objs.size+1:=KR ..
 show _/\_
 rw[hz]
 have he:IsEnum ((s.heap.push { cls:=.type "tuple_iterator",data:=.fields #[.ref l,.int 0 0] }).push
   { cls:=.type "enumerate",data:=.fields #[.none,.bool false,.ref s.heap.objs.size,rawInt 0,.none,.none] }) (s.heap.objs.size+1) s.heap.objs.size 0 .none:=by
  have q:=Jq (s.heap.push { cls:=.type "tuple_iterator",data:=.fields #[.ref l,.int 0 0] })
   (o:={ cls:=.type "enumerate",data:=.fields #[.none,.bool false,.ref s.heap.objs.size,rawInt 0,.none,.none] }) rfl
  rw[hz]at q;exact q
 refine⟨⟨_,he,rfl⟩,h _ he ⟨_,Jf _ (Jq _ rfl),rfl,rfl⟩ (by rw[KR,hz]) λb o x=>Jf _ (Jf _ x)⟩
end Enu
namespace L2
open PySem PySem.Spec PyProof.Rows
section
variable {X:Cx}{pins:List (Addr×Obj)}{σ:L2.St}{H:Hp}{s:IY}{h':Heap}
theorem Inv.Iw {t':Nat}{fp:List Addr}{Tp:Addr}{xs:List V}(I:Inv X pins σ H s)(hf:∀b∈fp,nQ X pins H b)(k:∀b o,b∉fp->s.heap.get? b=some o->h'.get? b=some o)
  (ht:∀b∈fp,∃o,h'.get? b=some o) (hT:s.heap.objs.size<=Tp) (new:ObjOk X.prog X.w (upd H Tp (.tup xs)) h' Tp (.tup xs)):Inv X pins σ (upd H Tp (.tup xs)) { s with heap:=h',toks:=t' }:=by
 have hn:H Tp=none:=I.hok.fresh hT
 have lR:∀b o,s.heap.get? b=some o->b≠Tp:=λb o e=>Kb (Jp (Jj e) hT)
 have nf:∀b u,H b=some u->b∉fp:=λb u e z=>by rw[(hf b z).1]at e;cases e
 refine I.step (g':=s.gens) (d':=s.drawn) (ch:=fp) (λb hb=>⟨(hf b hb).2.2.2.1,(hf b hb).2.1,(hf b hb).2.2.2.2.1,(hf b hb).2.2.2.2.2⟩) (λb o _ _ hc e _=>k b o hc e) (λb o _ _ hc e _=>⟨o.slots,k b o hc e⟩)
  (λb o _ e n=>by rw[aE (lR b o e)];exact n) (λb o hc e=>⟨o,k b o hc e⟩) (λb ys e=>by rw[aE (bS e hn)];exact e) (λb o u e=>by rw[aE (bS e hn)];exact e)
  (λb ps e=>⟨#[],by rw[aE (bS e hn),e];simp⟩) (λm hm=> ?_) (λb u e=> ?_) I.bare
 ·obtain⟨o,es,ep,ho,r⟩:=hm
  exact⟨o,es,ep,k _ o (λz=>(hf _ z).2.1 rfl) ho,r⟩
 ·by_cases hb:b=Tp
  ·subst hb;rw[aQ]at e;cases e;exact new
  ·rw[aE hb]at e
   refine(I.hok b u e).Ia (λc v hc q=>k c v ?_ q) (λc q=>by rw[aE (bS q hn)];exact q) λc ys q=>by rw[aE (bS q hn)];exact q
   rcases hc with z | z
   ·rw[z];exact nf b u e
   ·exact nf c _ z
theorem Inv.Ig {t':Nat}{fp:List Addr}(I:Inv X pins σ H s)(hf:∀b∈fp,nQ X pins H b)(k:∀b o,b∉fp->s.heap.get? b=some o->h'.get? b=some o):Inv X pins σ H { s with heap:=h',toks:=t' }:=by
 have nf:∀b u,H b=some u->b∉fp:=λb u e z=>by rw[(hf b z).1]at e;cases e
 refine I.step (g':=s.gens) (d':=s.drawn) (ch:=fp) (λb hb=>⟨(hf b hb).2.2.2.1,(hf b hb).2.1,(hf b hb).2.2.2.2.1,(hf b hb).2.2.2.2.2⟩) (λb o _ _ hc e _=>k b o hc e) (λb o _ _ hc e _=>⟨o.slots,k b o hc e⟩)
  (λb o _ e n=>n) (λb o hc e=>⟨o,k b o hc e⟩) (λb ys e=>e) (λb o u e=>e)
  (λb ps e=>⟨#[],by rw[e];simp⟩) (λm hm=> ?_) (λb u e=> ?_) I.bare
 ·obtain⟨o,es,ep,ho,r⟩:=hm
  exact⟨o,es,ep,k _ o (λz=>(hf _ z).2.1 rfl) ho,r⟩
 ·refine(I.hok b u e).Ia (λc v hc q=>k c v ?_ q) (λc q=>q) λc ys q=>q
  rcases hc with z | z
  ·rw[z];exact nf b u e
  ·exact nf c _ z
end
def z8 (K:IU)(H:Hp)(a:Addr)(tt:Bool)(xs:List V):Prop:=if tt then SqT K H a xs else SqL K H a xs
def HP (K:IU)(a:Addr)(tt:Bool):It:=
 ⟨λi H=> ∃xs x,z8 K H a tt xs/\xs[i]? =some x,λi H x H'=> ∃p v,x= .ref p/\H p=none/\H'=upd H p (.tup [.int (i:Nat),v])/\∀xs,z8 K H a tt xs->xs[i]? =some v,λi H=> ∃xs,z8 K H a tt xs/\xs.length<=i⟩
def itAt (tt:Bool)(h:Heap)(it a:Addr)(i:Nat):Prop:=if tt then h.IsTupleIter it a i else h.IsListIter it a i
theorem itAt.obj {tt:Bool}{h:Heap}{it a:Addr}{i:Nat}(st:itAt tt h it a i):∃o,h.get? it=some o/\∀v,o.data≠ .cell v:=by
 cases tt with
 | true=>obtain⟨o,e,c,d⟩:=(show h.IsTupleIter it a i from st);exact⟨o,e,λv z=>by rw[d]at z;cases z⟩
 | false=>obtain⟨o,e,c,d⟩:=(show h.IsListIter it a i from st);exact⟨o,e,λv z=>by rw[d]at z;cases z⟩
theorem itAt.keep {tt:Bool}{h h':Heap}{it a:Addr}{i:Nat}(st:itAt tt h it a i)(k:∀o,h.get? it=some o->h'.get? it=some o):itAt tt h' it a i:=by
 cases tt with
 | true=>obtain⟨o,e,r⟩:=(show h.IsTupleIter it a i from st);exact(show h'.IsTupleIter it a i from⟨o,k o e,r⟩)
 | false=>obtain⟨o,e,r⟩:=(show h.IsListIter it a i from st);exact(show h'.IsListIter it a i from⟨o,k o e,r⟩)
theorem vZ {P:JB}{w:JY}{K:IU}{elts:List Expr}{kk:Nat}{pos:Pos}(tt:Bool)(a e it:Addr)(hei:e≠it) :
  xb P w K (.Tuple elts kk pos) (HP K a tt) [e,it] e (λi h=>(∃old,IsEnum h e it i old)/\itAt tt h it a i) where
 mem:=by simp
 obj:=λi h st b hb=>by
  obtain⟨⟨old,he⟩,hi⟩:=st;rcases Jg.mp hb with rfl | hb
  ·exact⟨_,he,λv z=>by have z':Pf _=Data.cell v:=z;cases z'⟩
  ·rw[Jk.mp hb];exact hi.obj
 keep:=λi h h' st k=>by
  obtain⟨⟨old,he⟩,hi⟩:=st;exact⟨⟨old,k e (by simp) _ he⟩,hi.keep λo q=>k it (by simp) o q⟩
 item:=by
  intro X hP hw hK hc i pins s σ H E I hf st hg;subst hP hw hK;obtain⟨xs,x,hq,hx⟩:=hg;obtain⟨⟨old,he⟩,hi⟩:=st
  -- by what is walked
  have key:∀(its:List IW),Vals xs its->(∀ys,z8 X.K H a tt ys->ys=xs)->∀(fp0:List Addr) (St:Nat->Heap->Prop),Draws X.prog X.w X.A.in1 it fp0 its.toArray.size (λi v=>its.toArray[i]? =some v) St->e∉fp0->it∈fp0->St i s.heap →
    (∀h',St (i+1) h'->itAt tt h' it a (i+1)) →
    wpAny (model X.prog X.w) X.A (pyNext (.ref e)) (λr s1=> ∃u,r=some u/\wpAny (model X.prog X.w) X.A (LI (.Tuple elts kk pos) (.ref e) u) (λ_ s2=> ∃x' H',Inv X pins σ H' s2/\RelV x' u/\(HP X.K a tt).yld i H x' H' ∧
     ((∃old,IsEnum s2.heap e it (i+1:Nat) old)/\itAt tt s2.heap it a (i+1))/\∀b∈ [e,it],H' b=none) E s1) E s:=by
   intro its rv uniq fp0 St D hef hif hst hnext;obtain⟨u,hu,ru⟩:=rv.get hx
   have hlt:i<its.toArray.size:=by
    have:=(Jh.mp hu).1
    simpa using this
   have W:=WalksT.enumerateD D e hei hef hif;refine W.item i s _ _ hlt ⟨⟨old,he⟩,hst⟩ λTp vals h1 tk hPt hTsz hTup hMid hk=>⟨.ref Tp,rfl,?_⟩
   refine W.go elts kk pos i Tp { s with heap:=h1,toks:=tk } _ _ hMid λh2 hst2 hk2=> ?_
   obtain⟨t,x',hPx,hvals⟩:=hPt;subst hvals
   have hxe:x'=u:=by
    have h1':its.toArray[i]? =some x':=hPx
    have h2':its.toArray[i]? =some u:=by simpa using hu
    rw[h1']at h2';exact JJ h2'
   subst hxe
   have hTw:=W.apart i Tp h1 hMid;obtain⟨oT,eT,rT⟩:=hTup
   have eT2:h2.get? Tp=some oT:=hk2 Tp oT hTw eT
   have kAll:∀b o,b∉ [e,it]->s.heap.get? b=some o->h2.get? b=some o:=λb o hb q=>hk2 b o hb (hk b o hb q)
   obtain⟨⟨old2,he2⟩,hs2⟩:=hst2
   have hit2:=hnext h2 hs2
   have there:∀b∈ [e,it],∃o,h2.get? b=some o:=λb hb=>by
    rcases Jg.mp hb with rfl | hb
    ·exact⟨_,he2⟩
    ·rw[Jk.mp hb];obtain⟨o,q,_⟩:=hit2.obj;exact⟨o,q⟩
   have hn:H Tp=none:=I.hok.fresh hTsz
   have new:ObjOk X.prog X.w (upd H Tp (.tup [.int (i:Nat),x])) h2 Tp (.tup [.int (i:Nat),x]):=
    ⟨by show 2<=sizeLine;decide,[.int (i:Nat) t,x'],.cons ⟨t,rfl⟩ (.cons ru .nil),⟨oT,eT2,rT⟩⟩
   have I2:=I.Iw (t':=tk) hf kAll there hTsz new;refine⟨.ref Tp,_,I2,rfl,⟨Tp,x,rfl,hn,rfl,λys hy=>by rw[uniq ys hy];exact hx⟩,⟨⟨old2,he2⟩,hit2⟩,λb hb=> ?_⟩
   have hbT:b≠Tp:=λz=>by
    obtain⟨o,q⟩:∃o,s.heap.get? b=some o:=by
     rcases Jg.mp hb with rfl | hb
     ·exact⟨_,he⟩
     ·rw[Jk.mp hb];obtain⟨o,q,_⟩:=hi.obj;exact⟨o,q⟩
    exact absurd (Jp (Jj q) hTsz) (by rw[z];exact JF _)
   rw[aE hbT];exact(hf b hb).1
  have hne:∀b∈ [e,it],a≠b:=λb hb z=>by
   have hb':=(hf b hb).1;rw[<-z]at hb'
   have hbs:=hf b hb
   cases tt with
   | true=>
    have hq':SqT X.K H a xs:=hq;rcases hq' with(q | ⟨o,q⟩) | ⟨o,its,n,q,_⟩
    ·rw[hb']at q;cases q
    ·rw[hb']at q;cases q
    ·rcases hbs.2.2.2.1 with z1 | z1
     ·exact I.ok.noex a o (I.ok.mod.kin a o q) (z▸z1)
     ·exact absurd (Jp (Jj (I.ok.bs a o (I.ok.mod.kin a o q)).1) (z▸z1)) (JF _)
   | false=>
    have hq':SqL X.K H a xs:=hq;rcases hq' with(q | ⟨o,q⟩) | ⟨o,its,n,q,_⟩
    ·rw[hb']at q;cases q
    ·rw[hb']at q;cases q
    ·rcases hbs.2.2.2.1 with z1 | z1
     ·exact I.ok.noex a o (I.ok.mod.kin a o q) (z▸z1)
     ·exact absurd (Jp (Jj (I.ok.bs a o (I.ok.mod.kin a o q)).1) (z▸z1)) (JF _)
  have hea:e≠a:=λz=>hne e (by simp) z.symm
  have hia:it≠a:=λz=>hne it (by simp) z.symm
  cases tt with
  | true=>
   have hq':SqT X.K H a xs:=hq;obtain⟨its,rv,p,hz⟩:=I.tuple hq'
   exact key its rv (λys hy=>I.Ie hy hq') _ _ (Enu.tupDraws (A:=X.A.in1) (I.ok.hd hc) it a (Ls hia) its.toArray) (by simp[hei,hea]) (by simp) ⟨hi,p⟩ λh' z=>z.1
  | false=>
   have hq':SqL X.K H a xs:=hq;obtain⟨its,rv,p,hz⟩:=I.list hq';exact key its rv (λys hy=>I.HZ hy hq') _ _ (Draws.list (A:=X.A.in1) (I.ok.hd hc) it a (Ls hia) its.toArray) (by simp[hei,hea]) (by simp) ⟨hi,p.isList⟩ λh' z=>z.1
 done:=by
  intro X hP hw hK hc i pins s σ H E I hf st hg;subst hP hw hK;obtain⟨xs,hq,hx⟩:=hg;obtain⟨⟨old,he⟩,hi⟩:=st
  have fin:∀h',Heap.ExtBut it s.heap h'->(none:Option IW)=none/\Inv X pins σ H { s with heap:=h' }:=λh' eb=>⟨rfl,I.Ig (t':=s.toks) hf λb o hb q=>eb b o (λz=>hb (by simp[z])) q⟩
  cases tt with
  | true=>
   have hq':SqT X.K H a xs:=hq;obtain⟨its,rv,p,hz⟩:=I.tuple hq'
   have hl:=rv.length
   have hnone:its.toArray[i]? =none:=by simp;omega
   have hT:s.TypeIs (.ref e) "enumerate":=⟨_,he,rfl⟩;unfold pyNext;refine Ja (wpAny_attempt (KA (name:=Jr "__next__") hT Nn (Lr Nn hT F.entry_enumerate_next ?_ (F.args_enumerate_next_1 _))))
   show wpAny (model X.prog X.w) _ (field (.ref e) 2 >>= _) _ _ _
   refine Ja (KW he rfl (x:=.ref it) rfl ?_)
   refine Ja (Enu.tupStop (I.ok.hd hc) hi p hnone λh' x he' hx'=> ?_)
   obtain⟨o,ho,hcl⟩:=hx'
   exact Ja (wpAny_isInstance (T:="StopIteration") (b:=true) ⟨o,ho,hcl⟩ isSubtype_stop (Jl (fin h' he')))
  | false=>
   have hq':SqL X.K H a xs:=hq;obtain⟨its,rv,p,hz⟩:=I.list hq'
   have hl:=rv.length
   have hnone:its.toArray[i]? =none:=by simp;omega
   exact wpAny_pyNext_enum_end (I.ok.hd hc) he hi p.isList hnone fin
 self:=λ_ _ _ _ _ st h=>by
  obtain⟨⟨old,he⟩,_⟩:=st;exact OD he h
section
variable {X:Cx}{elts:List Expr}{kk:Nat}{tpos:Pos}
theorem nJ:JT "enumerate" =some (.type "enumerate"):=by decide+kernel
def iEnu (K:IU)(tl:TA):TI:=λσ H R=>tl σ H λvs H1=> ∃a tt,vs= [.ref a]/\(∃xs,z8 K H1 a tt xs)/\R (HP K a tt) H1
theorem Bb {l:Expr}{tl:TA}{p pos:Pos}(hg:Gl X "enumerate")(hm:X.mg "enumerate" =none)(hl:PA X [l] tl)(hs:Jo [l] X.env= [(false,eval l X.env)]:=by rfl):PI X (.Tuple elts kk tpos) (.Call (.Name "enumerate" p) [l] [] pos) (iEnu X.K tl):=by
 intro pins s σ H R I h;refine Call_ (ij I hg hm nJ (Kg (bR (hl pos pins s σ H _ I h) λus s1 ⟨vs,H1,I1,r1,q1⟩=> ?_) hs rfl))
 obtain⟨a,tt,e,⟨xs,hq⟩,q⟩:=q1;subst e;obtain⟨u,rfl,ru⟩:=kU r1;cases ru
 have fin:∀h',IsEnum h' (s1.heap.objs.size+1) s1.heap.objs.size 0 .none->itAt tt h' s1.heap.objs.size a 0->h'.objs.size=s1.heap.objs.size+2->(∀b o,s1.heap.get? b=some o->h'.get? b=some o) →
   wpAny (model X.prog X.w) X.A (pyIter (.ref (s1.heap.objs.size+1))) (PIE X pins σ (.Tuple elts kk tpos) R) X.xe { s1 with heap:=h' }:=λh' he hi hsz hk=>by
  refine OD he ?_
  have I2:Inv X pins σ H1 { s1 with heap:=h' }:=I1.kept (t':=s1.toks) hk
  refine⟨s1.heap.objs.size+1,[s1.heap.objs.size+1,s1.heap.objs.size],_,_,H1,rfl,I2,vZ tt a (s1.heap.objs.size+1) s1.heap.objs.size (Nat.succ_ne_self _),⟨⟨_,he⟩,hi⟩,λb hb=> ?_,q⟩
  rcases Jg.mp hb with rfl | hb
  ·exact I1.Il (by omega) (I1.hok.fresh (by omega))
  ·rw[Jk.mp hb];exact I1.Il (Ji _) (I1.hok.fresh (Ji _))
 cases tt with
 | true=>
  have hq':SqT X.K H1 a xs:=hq;obtain⟨its,rv,pl,hz⟩:=I1.tuple hq'
  exact Enu.callT pl λh' he hi hsz hk=>fin h' he hi hsz hk
 | false=>
  have hq':SqL X.K H1 a xs:=hq;obtain⟨its,rv,pl,hz⟩:=I1.list hq';exact call_enumerate_list pl.isList λh' he hi hsz hk=>fin h' he hi hsz hk
end
end L2
namespace Tr
open PySem PySem.Spec PyProof.Rows L2
section
variable {X:Cx}{a:Expr}{fa:En->Rs T}{fs:En->Rs (List T)}{p pos:Pos}
def iS (f:En->Rs T)(Z:En):Rs (List T):=do
 let x <-f Z
 match x with
 | .lst l=> .ok l
 | .tup l=> .ok l
 | _=> .bad
theorem DM {tg:Expr}(ha:cj X a fa):Ab X tg a (iS fa):=by
 intro pins s σ H R I ⟨Z,O,E,h⟩;unfold iS at h
 cases q:fa Z with
 | bad=>rw[q]at h;exact h.elim
 | err c=>exact uS ha pins s σ H R I ⟨Z,O,E,by unfold iL;rw[q]at h ⊢;exact h⟩
 | ok x=>
  rw[q,ay]at h
  cases x with
  | lst l=>exact uS ha pins s σ H R I ⟨Z,O,E,by unfold iL;rw[q];exact h⟩
  | tup l=>exact DL ha pins s σ H R I ⟨Z,O,E,by unfold iT;rw[q];exact h⟩
  | _=>exact h.elim
def cH:Nat->List T->List T
 | _,[] => []
 | n,t::r=> .tup [.int n,t] ::cH (n+1) r
theorem pd:∀(l:List T) (n i:Nat),(cH n l)[i]? =(l[i]?).map λt=>T.tup [.int ((n+i:Nat):Int),t]
 | [],n,i=>by simp[cH]
 | t::l,n,0=>by simp[cH]
 | t::l,n,i+1=>by
  rw[cH,Kj,pd l (n+1) i,Kj]
  congr 2
  funext t
  congr 4
  omega
theorem o9:∀(l:List T) (n:Nat),(cH n l).length=l.length
 | [],n=>rfl
 | t::l,n=>by rw[cH,Jb,Jb,o9 l]
def iE (f:En->Rs (List T))(Z:En):Rs (List T):=do
 let xs <-f Z
 match xs with
 | [x] =>match x.items with
  | some l=> .ok (cH 0 l)
  | none=> .bad
 | _=> .bad
theorem AW {elts:List Expr}{kk:Nat}{tpos:Pos}(hm:X.mg "enumerate" =none)(ha:nV X [a] fs)(hg:Gl X "enumerate":=by rfl)(hs:Jo [a] X.env= [(false,eval a X.env)]:=by rfl) :
  Ab X (.Tuple elts kk tpos) (.Call (.Name "enumerate" p) [a] [] pos) (iE fs):=PI.imp (Bb hg hm ha hs) λσ H R hh_=>by
 obtain⟨Z,O,E,h⟩:=hh_;obtain⟨Z1,O1,E1,h1⟩:=e9 E h;refine⟨Z1,O1,E1,Post.mono h1 λts H1 s1 q vs r=> ?_⟩
 obtain⟨t',r',s',E',q'⟩:=q vs r
 split at q'
 ·rename_i x0
  obtain⟨v,rfl,rv⟩:=r'.one
  split at q'
  ·rename_i l hl
   have main:∀(aa:Addr) (tt:Bool) (ws:List V),v= .ref aa->¬ O aa->Reps X.K O H1 l ws->z8 X.K H1 aa tt ws->(∀P Hc,SameO P H1 Hc->¬ P aa->z8 X.K Hc aa tt ws)->¬ Nw X.K H1 aa →
     ∃a tt,[v] = [V.ref a]/\(∃xs,z8 X.K H1 a tt xs)/\R (HP X.K a tt) H1:=λaa tt ws e n z sq mv nn=>by
    refine⟨aa,tt,by rw[e],⟨ws,sq⟩,q' H1 (Same.refl H1) _ λP O' hP hO i Hc hsm htr=> ?_⟩
    have hnP:¬ P aa:=λy=>(hP aa y).elim n nn
    have sqc:=mv P Hc hsm hnP;refine⟨λhi=>⟨ws,sqc,by rw[<-z.length,<-o9 l 0];exact hi⟩,λt ht=> ?_⟩
    rw[pd]at ht
    cases e1:l[i]? with
    | none=>rw[e1]at ht;cases ht
    | some t0=>
     rw[e1]at ht;cases ht;obtain⟨v0,f1,f2⟩:=z.get e1;refine⟨⟨ws,v0,sqc,f1⟩,λx Hc' y=> ?_⟩
     obtain⟨pp,vv,e2,hpn,e3,hy⟩:=y
     have:=hy ws sqc;rw[f1]at this;cases this;subst e2 e3;refine⟨bj hpn _,gg hpn (λzz=> ?_) (Reps.FS (by simpa using Rep.HS _) (Reps.FS (f2.move hP hO hsm) Reps.GM))⟩
     obtain⟨o,w⟩:=htr pp zz;rw[hpn]at w;cases w
   cases x0 with
   | tup m=>
    cases hl;obtain⟨aa,ws,e,n,qq,z⟩:=Rep.Fk.mp rv
    exact main aa true ws e n z (show SqT X.K H1 aa ws from SqT.of qq) (λP Hc hsm hn=>show SqT X.K Hc aa ws from SqT.of (hsm _ _ qq hn)) λw=>by rw[w.1]at qq;cases qq
   | lst m=>
    cases hl;obtain⟨aa,ws,e,n,qq,z⟩:=Rep.Do.mp rv
    exact main aa false ws e n z (show SqL X.K H1 aa ws from SqL.of qq) (λP Hc hsm hn=>show SqL X.K Hc aa ws from SqL.of (hsm _ _ qq hn)) λw=>by rw[w.1]at qq;cases qq
   | scr m=>
    cases hl;unfold Rep at rv;obtain⟨aa,e,n,qq⟩:=rv
    exact main aa false _ e n Reps.ints (show SqL X.K H1 aa _ from qq) (λP Hc hsm hn=>show SqL X.K Hc aa _ from Tr.SqL.keep hsm hn qq) (Tr.SqL.nn qq)
   | _=>cases hl
  ·exact q'.elim
 ·exact q'.elim
end
end Tr
namespace Tm
open PySem PyProof.Rows
theorem kC:fillsNumberSlot (.type "tuple") "mul" =pure false:=
 PySem.fillsNumberSlot_seq (id:="tuple.__mul__") (r:=some (.builtin "tuple.__rmul__")) M6.lookup (by decide+kernel) Ov.lookup (by decide+kernel)
theorem pW:seqRepeat? (.type "tuple")=pure (some (.builtin "tuple.__mul__")):=by
 unfold seqRepeat?;rw[O5 (T:="tuple") (name:="__mul__") (id:="tuple.__mul__") M6.lookup (by decide+kernel),O5 (T:="tuple") (name:="__rmul__") (id:="tuple.__rmul__") Ov.lookup (by decide+kernel)]
 rfl
theorem tS (a:Int)(t:Tok)(l:Addr)(items:Array IW)(n:Nat)(dd:Option Addr)(sl:Array (Option IW)) :
  Meets (Builtin.«int.__rmul__» ⟨[.int a t,.ref l],[]⟩) (λ_ R s=>s.heap.get? l=some { cls:=.type "tuple",dict:=dd,data:=.seq items n,slots:=sl }/\R (.ok (.ret Value.notImplemented)) s):=
 .of_wp λprog w A R s h=>by obtain⟨hp,g,d,tk,os⟩:=s;obtain⟨hl,h⟩:=h;wp_walk;exact⟨_,rfl,h⟩
open AutoSeq1 (wpAny_loadPart')
theorem yy (l:Addr)(items:Array IW)(n:Nat)(dd:Option Addr)(sl:Array (Option IW))(x:Int)(u:Tok)(h1:1<x)(h2:x<2 ^ 31)(hne:items.isEmpty=false)(hz:items.size*x.toNat<=sizeLine)
  (hz2:(MM (λa b=>a++b) #[] (Js x.toNat items)).size<=sizeLine) :
  Meets (Builtin.«tuple.__mul__» ⟨[.ref l,.int x u],[]⟩) (λ_ R s=>s.heap.get? l=some { cls:=.type "tuple",dict:=dd,data:=.seq items n,slots:=sl } ∧
   R (.ok (.ret (JD s.heap.objs.size))) { s with heap:=s.heap.push { cls:=Md "tuple",data:=Data.seq (MM (λa b=>a++b) #[] (Js x.toNat items)) } }):=
 .of_wp λprog w A R s h=>by
  obtain⟨hp,g,d,tk,os⟩:=s;obtain⟨hl,h⟩:=h
  have hT:Py hp l items:=⟨_,hl,rfl,n,rfl⟩
  have hx:((items.size:Nat):Int)*x=((items.size*x.toNat:Nat):Int):=by
   have e:x=((x.toNat:Nat):Int):=by omega
   rw[Int.natCast_mul,<-e]
  wp_walk using K6 hl
  rw[if_neg (by simp;omega)]
  refine Ja (Ol (s:=⟨hp,g,d,tk,os⟩) hT ?_)
  dsimp only
  rw[if_neg (by rw[hne];simp;omega),if_neg (by rw[hne];simp;omega),hx,if_neg (by have:(sizeLine:Nat)<=1000000000:=(by decide);omega),if_neg (by unfold Builtin.Tuple.tupleTooMany;rw[decide_eq_true_iff];omega)]
  refine Ja (m:=Kv _) (Ks ?_ hz2)
  exact Jl ⟨_,rfl,h⟩
section
variable {prog:JB}{w:JY}{A:JK}{E:IW->IY->Prop}{s:IY}
theorem mul_tuple {t:Addr}{vs:List IW}{k:Int}{tk:Tok}{Q:IW->IY->Prop}(ht:Py s.heap t vs.toArray)(h1:1<k)(h2:k<2 ^ 31)(hv:vs≠ [])(hz:vs.length*k.toNat<=sizeLine)
  (h:Q (.ref s.heap.objs.size) { s with heap:=s.heap.push { cls:=.type "tuple",data:=.seq (Js k.toNat vs).flatten.toArray } }) :
  wpAny (model prog w) A (Kw .Mult (.ref t) (.int k tk)) Q E s:=by
 obtain⟨⟨cls,dd,data,sl⟩,ho,hc,n,hd⟩:=id ht;simp only at hc hd;subst hc hd
 have e:MM (λa b=>a++b) #[] (Js k.toNat vs.toArray)=(Js k.toNat vs).flatten.toArray:=by
  have q:=L2.foldl_rep vs k.toNat []
  simpa using q
 refine MG (T:="tuple") (U:="int") (by decide) ⟨_,ho,rfl⟩ (λs'=>NK s' k tk) kC Ph Mi pW OZ.lookup
  (Me Mi (NK s k tk) O0 (Os _ _) (tS k tk t vs.toArray n dd sl)
   ⟨ho,rfl,⟨_,ho,rfl⟩,Me M6 ⟨_,ho,rfl⟩ F.entry_tuple_mul (F.args_tuple_mul_2 _ _) (yy t vs.toArray n dd sl k tk h1 h2 (by simpa using hv) (by simpa using hz) (by rw[e,Jn,L2.len_rep,OL];exact hz)) ⟨ho,?_⟩⟩)
 rw[e];exact h
end
end Tm
namespace Tr
open PySem PySem.Spec PyProof.Rows L2
section
variable {X:Cx}
def bY (x y:T):Rs T:=match x,y with
 | .tup l,.int k=>if 1<k/\k<2 ^ 31/\l≠ []/\l.length*k.toNat<=sizeLine then .ok (.tup (Js k.toNat l).flatten)else .bad
 | x,y=>ud x y
instance (l:List T):Decidable (l≠ []):=by cases l <;> simp <;> infer_instance
theorem cY:OpT X (Kw .Mult) bY:=by
 intro pins s σ H O x y vx vy ux uy Q I hf rx ry r1 r2 hp;unfold bY at hp
 split at hp
 ·rename_i l k
  split at hp
  ·rename_i h
   obtain⟨a,vs,e1,n1,q1,z1⟩:=Rep.Fk.mp rx;subst e1;cases Rep.Da.mp ry;cases r1;obtain⟨tk,rfl⟩:=r2;obtain⟨its,rv,pl,hz⟩:=I.tuple (SqT.of q1)
   have hl1:=z1.length
   have hl2:=rv.length
   have hne:its≠ []:=λz=>h.2.2.1 (List.eq_nil_of_length_eq_zero (by rw[hl1,hl2,z];rfl))
   refine Tm.mul_tuple pl h.1 h.2.1 hne (by rw[<-hl2,<-hl1];exact h.2.2.2) ?_
   have hn:=I.hok.fresh (Ji _);refine⟨.ref _,_,I.laid (t':=s.toks) (o:=.tup (Js k.toNat vs).flatten) (λb ob q=>Jf _ q) (Ji _) ?_,rfl,hp _ (bj hn _) _ (gg hn (hf _ hn) (z1.rep _))⟩
   refine⟨?_,_,rv.rep k.toNat,Pg _ _⟩
   rw[len_rep,OL,<-hl1];exact h.2.2.2
  ·exact hp.elim
 ·exact Ej pins s σ H O _ _ vx vy ux uy Q I hf rx ry r1 r2 hp
end
def GO (outer:List (Str×Li))(N:List Str)(names:List (Str×Li))(N':List Str)(src:List (Option Nat)):Bool:=
 names.all (λy=>y.2 != .cell||names.lookup y.1 == some .cell)&&names.all (λy=>y.2 != .local||names.lookup y.1 == some .local)&&src.length == N'.length&&
 (J1 N'.length).all (λj=>match src[j]? with
  | some (some i)=>match N'[j]? with
   | some x=>N[i]? == some x&&names.lookup x == some .free
   | none=>true
  | _=>true)&&
 names.all (λy=>y.2 != .free||(outer.lookup y.1 == some .cell||outer.lookup y.1 == some .free))
theorem LcScope.by {X:Cx}{scope:L8}{N N':List Str}{src:List (Option Nat)}{names:List (Str×Li)}(hN:X.N=N)(hs:X.env.scope.names=names)(hk:scope.kind= .function)(h:GO names N scope.names N' src=true):LcScope X scope N' src:=by
 unfold GO at h;simp only[IV]at h;obtain⟨⟨⟨⟨h1,h2⟩,h3⟩,h4⟩,h5⟩:=h
 have a1:=JC.mp h1
 have a2:=JC.mp h2
 have a4:=JC.mp h4
 have a5:=JC.mp h5;refine⟨hk,λy hy hl=>by have:=a1 y hy;rw[hl]at this;simpa using this,λy hy hl=> ?_,by simpa using h3,λj i x e1 e2=> ?_,λx hx=> ?_⟩
 ·have:=a2 y hy
  rw[hl]at this
  simpa using this
 ·have hj:j<N'.length:=(Jh.mp e2).1
  have:=a4 j (Kf.mpr hj);rw[e1]at this;simp only[e2]at this;rw[IV]at this;rw[hN];exact⟨by simpa using this.1,by simpa using this.2⟩
 ·have:=a5 _ hx
  simp only[bne_self_eq_false,N7,Pk]at this
  show X.env.scope.names.lookup x=_\/X.env.scope.names.lookup x=_
  rw[hs];rcases this with z | z
  ·exact .inl (by simpa using z)
  ·exact .inr (by simpa using z)
def bx:Expr->Bool
 | .Starred .. =>false
 | _=>true
def bz:List Expr->Bool
 | [] =>true
 | e::r=>bx e&&bz r
theorem bu {e:Expr}{es:List Expr}{env:Env}(h:bx e=true):Jo (e::es) env=(false,eval e env)::Jo es env:=by
 cases e <;> first | rfl | cases h
theorem ef {pos:Pos}{env:Env}:∀{es:List Expr},bz es=true->(backTo pos (Jo es env)).any (·.1)=false
 | [],_=>rfl
 | e::r,h=>by
  unfold bz at h;rw[IV]at h;rw[bu h.1]
  have ih:=ef (pos:=pos) (env:=env) h.2
  show(false||(backTo pos (Jo r env)).any (·.1))=false
  rw[ih];rfl
section
variable {X:Cx}{a b e:Expr}{es:List Expr}{fa:En->Rs T}{fs:En->Rs (List T)}{pos p p2:Pos}{x:Str}
theorem qa_c {f:En->Rs T}{g:En->Rs (List T)}(he:cj X e f)(hr:nV X es g)(hn:bx e=true:=by rfl):nV X (e::es) (ae f g):=AZ he hr (bu hn)
theorem q_cB {id:String}{g:List T->Rs T}(hc:CallT X (.builtin id) g)(hm:X.mg x=none)(hv:JT x=some (.builtin id))(ha:nV X (e::es) fs)(hn:bz (e::es)=true:=by rfl)(hg:Gl X x:=by rfl)(h1:x≠ "__name__":=by decide)(h2:fE x:=by decide) :
  cj X (.Call (.Name x p) (e::es) [] pos) (cl g fs):=by
 unfold bz at hn;rw[IV]at hn;exact A3 hc hm hv ha hg h1 h2 (bu hn.1) (ef hn.2)
theorem q_cT {Ty:String}{g:List T->Rs T}(hc:CallT X (.type Ty) g)(hm:X.mg x=none)(hv:JT x=some (.type Ty))(ha:nV X (e::es) fs)(hn:bz (e::es)=true:=by rfl)(hg:Gl X x:=by rfl)(h1:x≠ "__name__":=by decide)(h2:fE x:=by decide) :
  cj X (.Call (.Name x p) (e::es) [] pos) (cl g fs):=by
 unfold bz at hn;rw[IV]at hn;exact xS hc hm hv ha hg h1 h2 (bu hn.1) (ef hn.2)
theorem q_c {n k:Nat}{f:Addr}{fd:J0}{ps:List Str}{g:List T->Rs T}(F:Ad X.prog X.w X.K X.mg X.base k f fd ps n g)(hr:Room k X.A)(hm:X.mg x=some (.ref f))(hk:KO X.K (.ref f)=true)(hb:Binds X.K fd ps [])
  (hl:∀Z ts,fs Z= .ok ts->ts.length=n) (ha:nV X (e::es) fs) (hps:ps.length=n:=by rfl) (hn:bz (e::es)=true:=by rfl) (hg:Gl X x:=by rfl) (h2:fE x:=by decide):cj X (.Call (.Name x p) (e::es) [] pos) (cl g fs):=by
 unfold bz at hn;rw[IV]at hn;exact DT F hr hm hk hb hps hl ha hg h2 (bu hn.1) (ef hn.2)
theorem q_is {tn:Str}{Ty:String}(hm:X.mg "isinstance" =none)(hmt:X.mg tn=none)(hv:JT tn=some (.type Ty))(ha:cj X a fa)(hn:bx a=true:=by rfl)(hg:Gl X "isinstance":=by rfl)(hgt:Gl X tn:=by rfl)
  (h1:tn≠ "__name__":=by decide) (h2:fE tn:=by decide):cj X (.Call (.Name "isinstance" p) [a,.Name tn p2] [] pos) (o1 (BE Ty) fa):=
 Gh hm hmt hv ha hg hgt h1 h2 (bu hn) (ef rfl) (bu rfl)
end
theorem vS (Z:En)(ts:List T)(h:aj Z= .ok ts):ts.length=0:=by cases h;rfl
theorem vR {n:Nat}{f:En->Rs T}{g:En->Rs (List T)}(hg:∀Z ts,g Z= .ok ts->ts.length=n)(Z:En)(ts:List T)(h:ae f g Z= .ok ts):ts.length=n+1:=by
 unfold ae at h
 cases q:f Z with
 | bad=>rw[q]at h;cases h
 | err c=>rw[q]at h;cases h
 | ok t=>
  rw[q,ay]at h
  cases q2:g Z with
  | bad=>rw[q2]at h;cases h
  | err c=>rw[q2]at h;cases h
  | ok r=>
   rw[q2,ay]at h;cases h;rw[Jb,hg Z r q2]
theorem j8 {k:Nat}{A:JK}(h:Room k A):A.units+60<cLine:=by have:=h.un;omega
theorem G8 {k:Nat}{A:JK}(h:Room k A):A.units+61<cLine:=by have:=h.un;omega
structure Fn (K:IU)(mg:Str->Option IW)(x:Str)(st:Stmt)(ps:List Str)(f:Addr)(fd:J0):Prop where
 fn:L2.Fun K x x st f fd
 bd:Binds K fd ps []
 mg:mg x=some (.ref f)
def val (n m:Nat)(F:En->Rs Fl)(ts:List T):Rs T:=if ts.length=n then bw F (aK m ts)else .bad
theorem Di {n m:Nat}{F:En->Rs Fl}{ts:List T}{t:T}(h:val n m F ts= .ok t):bw F (aK m ts)= .ok t:=by
 unfold val at h
 split at h
 ·exact h
 ·cases h
theorem sp_script {K:IU}{H:Hp}{a:Addr}{ns:List Int}{g:List T->Rs T}{E:XK}(hS:SqL K H a (ns.map V.int))(h:g [.scr ns] = .ok (.bl true)):spP K 1 g [.ref a] H (λv _=>v= .bl true) E:=by
 refine⟨[.scr ns],λ_=>False,Reps.FS ?_ Reps.GM,λ_ z=>z.elim,rfl,?_⟩
 ·unfold Rep;exact⟨a,rfl,λz=>z,hS⟩
 ·rw[h];exact λv H' _ r=>Rep.FM.mp r
theorem rB {α:Type}{l:List α}{i:Nat}{z:α}(h:l[i]? =some z):l.set i z=l:=by
 obtain⟨hi,rfl⟩:=Jh.mp h
 exact List.set_getElem_self hi
def Mn.set (M:Mn)(i:Nat)(m:Ow):Mn:=λj=>if j=i then m else M j
theorem Mn.HU {M:Mn}{i:Nat}{m:Ow}{a:Addr}(h:(M.set i m).u a):m a\/M.u a:=by
 obtain⟨j,h⟩:=h;unfold Mn.set at h
 by_cases z:j=i
 ·rw[if_pos z]at h;exact .inl h
 ·rw[if_neg z]at h;exact .inr ⟨j,h⟩
theorem Mn.Ib {M:Mn}{i:Nat}{m:Ow}:M.set i m i=m:=by unfold Mn.set;rw[if_pos rfl]
theorem Mn.Ih {M:Mn}{i j:Nat}{m:Ow}(h:j≠i):M.set i m j=M j:=by unfold Mn.set;rw[if_neg h]
theorem RowsR.move {K:IU}{O O' P:Ow}{H H':Hp}(hP:∀a,P a->O a\/Nw K H a)(hO:∀a,O' a->O a\/Nw K H a)(h:SameO P H H'):∀{rs:List (List T×List T)} {as:List Addr},(∀b∈as,¬P b)->RowsR K O H rs as->RowsR K O' H' rs as
 | [],_,_,r=>r
 | _::_,_,hb,⟨b,bs,kvs,e1,e2,e3,e4,e5⟩=>by
  subst e1;exact⟨b,bs,kvs,rfl,h _ _ e2 (hb b Je),e3,e4.move hP hO h,e5.move hP hO h λc hc=>hb c (IX _ hc)⟩
theorem LsR.move {K:IU}{O O' P:Ow}{H H':Hp}(hP:∀a,P a->O a\/Nw K H a)(hO:∀a,O' a->O a\/Nw K H a)(h:SameO P H H'):∀{rs:List (List T)} {as:List Addr},(∀b∈as,¬P b)->LsR K O H rs as->LsR K O' H' rs as
 | [],_,_,r=>r
 | _::_,_,hb,⟨b,bs,vs,e1,e2,e4,e5⟩=>by
  subst e1;exact⟨b,bs,vs,rfl,h _ _ e2 (hb b Je),e4.move hP hO h,e5.move hP hO h λc hc=>hb c (IX _ hc)⟩
theorem ORep.move {K:IU}{O O' P M:Ow}{H H':Hp}{o:OT}{v:V}(hP:∀a,P a->O a\/Nw K H a)(hO:∀a,O' a->O a\/Nw K H a)(h:SameO P H H')(hM:∀a,M a->¬ P a)(r:ORep K O M H o v):ORep K O' M H' o v:=by
 cases o with
 | lst l=>obtain⟨a,vs,e1,e2,e3,e4⟩:=r;exact⟨a,vs,e1,e2,h _ _ e3 (hM a ((e2 a).mpr rfl)),e4.move hP hO h⟩
 | dct ks ts=>obtain⟨a,kvs,e1,e2,e3,e4,e5⟩:=r;exact⟨a,kvs,e1,e2,h _ _ e3 (hM a ((e2 a).mpr rfl)),e4,e5.move hP hO h⟩
 | dd ks rows=>
  obtain⟨a,kvs,as,e1,e2,e3,e4,e5,e6,e7,e8⟩:=r
  exact⟨a,kvs,as,e1,e2,e3,e4,h _ _ e5 (hM a ((e2 a).mpr (.inl rfl))),e6,e7,e8.move hP hO h λb hb=>hM b ((e2 b).mpr (.inr hb))⟩
 | ob C ns ls=>
  obtain⟨a,dx,as,e1,e2,e3,e4,e5,e6,e7,e8⟩:=r;exact⟨a,dx,as,e1,e2,e3,h _ _ e4 (hM a ((e2 a).mpr (.inl rfl))),h _ _ e5 (hM dx ((e2 dx).mpr (.inr (.inl rfl)))),e6,e7,e8.move hP hO h λb hb=>hM b ((e2 b).mpr (.inr (.inr hb)))⟩
theorem RowsR.mtb {K:IU}{O:Ow}{H:Hp}:∀{rs:List (List T×List T)} {as:List Addr},RowsR K O H rs as->∀b∈as,∃kvs,H b=some (.dT kvs)
 | [],_,r,b,hb=>by unfold RowsR at r;subst r;simp at hb
 | _::_,_,⟨b0,bs,kvs,e1,e2,e3,e4,e5⟩,b,hb=>by
  subst e1;rcases Jg.mp hb with rfl | hb
  ·exact⟨kvs,e2⟩
  ·exact e5.mtb b hb
theorem LsR.mtb {K:IU}{O:Ow}{H:Hp}:∀{rs:List (List T)} {as:List Addr},LsR K O H rs as->∀b∈as,∃vs,H b=some (.lst vs)
 | [],_,r,b,hb=>by unfold LsR at r;subst r;simp at hb
 | _::_,_,⟨b0,bs,kvs,e1,e2,e4,e5⟩,b,hb=>by
  subst e1;rcases Jg.mp hb with rfl | hb
  ·exact⟨kvs,e2⟩
  ·exact e5.mtb b hb
def LO (H:Hp)(a:Addr):Prop:=(∃vs,H a=some (.lst vs))\/∃o,H a=some o/\isO o=true
def OT.isD:OT->Bool
 | .lst _=>false
 | .ob _ _ _=>false
 | _=>true
theorem ORep.kind {K:IU}{O M:Ow}{H:Hp}{o:OT}{v:V}(r:ORep K O M H o v):∀a,M a->if o.isD then ∃kvs,H a=some (.dT kvs)else LO H a:=λa z=>by
 cases o with
 | lst l=>obtain⟨b,vs,e1,e2,e3,e4⟩:=r;cases (e2 a).mp z;exact .inl ⟨vs,e3⟩
 | dct ks ts=>obtain⟨b,kvs,e1,e2,e3,e4,e5⟩:=r;cases (e2 a).mp z;exact⟨kvs,e3⟩
 | dd ks rows=>
  obtain⟨b,kvs,as,e1,e2,e3,e4,e5,e6,e7,e8⟩:=r
  rcases(e2 a).mp z with z | z
  ·cases z;exact⟨kvs,e5⟩
  ·exact e8.mtb a z
 | ob C ns ls=>
  obtain⟨b,dx,as,e1,e2,e3,e4,e5,e6,e7,e8⟩:=r
  rcases(e2 a).mp z with z | z | z
  ·cases z;exact .inr ⟨_,e4,rfl⟩
  ·cases z;exact .inr ⟨_,e5,rfl⟩
  ·exact .inl (e8.mtb a z)
theorem ORep.mtb {K:IU}{O M:Ow}{H:Hp}{o:OT}{v:V}(r:ORep K O M H o v)(a:Addr)(z:M a):Mtb H a:=by
 have:=r.kind a z
 split at this
 ·exact .inr (.inl this)
 ·exact this.imp_right .inr
theorem rK {K:IU}{O:Ow}{H:Hp}:∀{rs:List (List T×List T)} {as:List Addr},(∀b∈as,¬O b)->RowsR K O H rs as->Reps K O H (rs.map λr=>T.dct r.1 r.2) (as.map V.ref)
 | [],_,_,r=>by unfold RowsR at r;subst r;exact Reps.GM
 | _::_,_,hn,⟨b,bs,kvs,e1,e2,e3,e4,e5⟩=>by
  subst e1;exact Reps.FS (Rep.HR.mpr ⟨b,kvs,rfl,hn b Je,.inl e2,e3,e4⟩) (rK (λc hc=>hn c (IX _ hc)) e5)
theorem RowsR.less {K:IU}{O O':Ow}{H:Hp}(sub:∀a,O' a->O a):∀{rs:List (List T×List T)} {as:List Addr},RowsR K O H rs as->RowsR K O' H rs as
 | [],_,r=>r
 | _::_,_,⟨b,bs,kvs,e1,e2,e3,e4,e5⟩=>⟨b,bs,kvs,e1,e2,e3,e4.less sub,e5.less sub⟩
theorem LsR.less {K:IU}{O O':Ow}{H:Hp}(sub:∀a,O' a->O a):∀{rs:List (List T)} {as:List Addr},LsR K O H rs as->LsR K O' H rs as
 | [],_,r=>r
 | _::_,_,⟨b,bs,kvs,e1,e2,e4,e5⟩=>⟨b,bs,kvs,e1,e2,e4.less sub,e5.less sub⟩
theorem LsR.rep {K:IU}{O:Ow}{H:Hp}:∀{rs:List (List T)} {as:List Addr},(∀b∈as,¬O b)->LsR K O H rs as->Reps K O H (rs.map T.lst) (as.map V.ref)
 | [],_,_,r=>by unfold LsR at r;subst r;exact Reps.GM
 | _::_,_,hn,⟨b,bs,kvs,e1,e2,e4,e5⟩=>by
  subst e1;exact Reps.FS (Rep.Do.mpr ⟨b,kvs,rfl,hn b Je,e2,e4⟩) (LsR.rep (λc hc=>hn c (IX _ hc)) e5)
theorem pE {α β:Type}:∀{l:List α} {m:List β},l.length=m.length->(l.zip m).map (·.1)=l
 | [],[],_=>rfl
 | a::l,b::m,h=>by
  have h':l.length=m.length:=by simpa using h
  show a::(l.zip m).map (·.1)=_
  rw[pE h']
theorem uL {α β:Type}:∀{l:List α} {m:List β},l.length=m.length->(l.zip m).map (·.2)=m
 | [],[],_=>rfl
 | a::l,b::m,h=>by
  have h':l.length=m.length:=by simpa using h
  show b::(l.zip m).map (·.2)=_
  rw[uL h']
theorem ORep.rep {K:IU}{O O' M:Ow}{H:Hp}{o:OT}{v:V}(sub:∀a,O' a->O a)(hn:∀a,M a->¬ O' a)(r:ORep K O M H o v):Rep K O' H o.view v:=by
 cases o with
 | lst l=>obtain⟨a,vs,e1,e2,e3,e4⟩:=r;exact Rep.Do.mpr ⟨a,vs,e1,hn a ((e2 a).mpr rfl),e3,e4.less sub⟩
 | dct ks ts=>obtain⟨a,kvs,e1,e2,e3,e4,e5⟩:=r;exact Rep.HR.mpr ⟨a,kvs,e1,hn a ((e2 a).mpr rfl),.inl e3,e4,e5.less sub⟩
 | dd ks rows=>
  obtain⟨a,kvs,as,e1,e2,e3,e4,e5,e6,e7,e8⟩:=r;refine Rep.HR.mpr ⟨a,kvs,e1,hn a ((e2 a).mpr (.inl rfl)),.inl e5,e6,?_⟩
  rw[e7]
  exact rK (λb hb=>hn b ((e2 b).mpr (.inr hb))) (e8.less sub)
 | ob C ns ls=>
  obtain⟨a,dx,as,e1,e2,e3,e4,e5,e6,e7,e8⟩:=r
  have hl:ns.length=(as.map V.ref).length:=by rw[Jd];exact e6
  refine Rep.Ii.mpr ⟨a,dx,_,e1,hn a ((e2 a).mpr (.inl rfl)),e4,pE hl,?_⟩
  rw[uL hl];exact(e8.less sub).rep λb hb=>hn b ((e2 b).mpr (.inr (.inr hb)))
section
variable {K:IU}{B:Ow}{M:Mn}{H H':Hp}{Z:En}{σ:L2.St}{i:Nat}{o o':OT}{v:V}{m:Ow}
theorem Ev.new (E:Ev K B M H Z σ)(hl:i<Z.length)(hm:∀a,m a->Nw K H a)(s:Same H H')(r:ORep K (OO B (M.set i m)) m H' o v) :
  Ev K B (M.set i m) H' (Z.set i (.ow o)) (σ.set i (some v))/\∀a,(M.set i m).u a->M.u a\/Nw K H a:=by
 have hls:i<σ.length:=by rw[<-E.env.len];exact hl
 have sub:∀a,(M.set i m).u a->M.u a\/Nw K H a:=λa z=>(Mn.HU z).elim (λw=> .inr (hm a w)) .inl
 have subO:∀a,OO B (M.set i m) a->OO B M a\/Nw K H a:=λa z=>z.elim (λw=> .inl (.inl w)) λw=>(sub a w).elim (λy=> .inl (.inr y)) .inr
 have cK:∀a,Nw K H a->¬ OO B M a:=λa w z=>by
  obtain⟨o,e⟩:=(E.env.trk a z).some;rw[w.1]at e;cases e
 refine⟨⟨⟨by rw[Ki,Ki];exact E.env.len,λj t e=> ?_,λj o' e=> ?_,λj a z=> .inr ⟨j,z⟩,λj k a z1 z2=> ?_,λa z=> ?_⟩,λa z=> ?_⟩,sub⟩
 ·by_cases hj:i=j
  ·subst hj;rw[Jy hl]at e;cases e
  ·rw[Jv hj]at e
   obtain⟨w,e1,e2⟩:=E.env.val j t e;exact⟨w,by rw[Jv hj];exact e1,(e2.more subO).same s⟩
 ·by_cases hj:i=j
  ·subst hj
   rw[Jy hl]at e
   cases e;exact⟨v,Jy hls,by rw[Mn.Ib];exact r⟩
  ·rw[Jv hj]at e
   obtain⟨w,e1,e2⟩:=E.env.own j o' e;refine⟨w,by rw[Jv hj];exact e1,?_⟩
   rw[Mn.Ih (λz=>hj z.symm)]
   exact(e2.move (P:=kB) (λ_ z=>z.elim) subO (λb u q _=>q) λ_ _ z=>z).same s
 ·unfold Mn.set at z1 z2
  by_cases hj:j=i
  ·by_cases hk:k=i
   ·exact hj.trans hk.symm
   ·rw[if_pos hj]at z1;rw[if_neg hk]at z2
    exact(cK a (hm a z1) (.inr ⟨k,z2⟩)).elim
  ·by_cases hk:k=i
   ·rw[if_neg hj]at z1;rw[if_pos hk]at z2
    exact(cK a (hm a z2) (.inr ⟨j,z1⟩)).elim
   ·rw[if_neg hj]at z1;rw[if_neg hk]at z2
    exact E.env.dis j k a z1 z2
 ·rcases z with z | z
  ·exact(E.env.trk a (.inl z)).same s
  ·rcases Mn.HU z with w | w
   ·exact r.mtb a w
   ·exact(E.env.trk a (.inr w)).same s
 ·intro hb
  rcases Mn.HU z with w | w
  ·exact cK a (hm a w) (.inl hb)
  ·exact E.mine a w hb
theorem Ev.put (E:Ev K B M H Z σ)(hi:Z[i]? =some (.ow o))(hs:σ[i]? =some (some v))(s:SameO (M i) H H')(r:ORep K (OO B M) (M i) H' o' v):Ev K B M H' (Z.set i (.ow o')) σ/\SameO M.u H H':=by
 have hl:i<Z.length:=(Jh.mp hi).1
 have inO:∀a,M i a->OO B M a\/Nw K H a:=λa z=> .inl (.inr ⟨i,z⟩)
 have idO:∀a,OO B M a->OO B M a\/Nw K H a:=λa z=> .inl z
 refine⟨⟨⟨by rw[Ki];exact E.env.len,λj t e=> ?_,λj o2 e=> ?_,E.env.sub,E.env.dis,λa z=> ?_⟩,E.mine⟩,λb u e n=>s b u e λz=>n ⟨i,z⟩⟩
 ·by_cases hj:i=j
  ·subst hj;rw[Jy hl]at e;cases e
  ·rw[Jv hj]at e
   obtain⟨w,e1,e2⟩:=E.env.val j t e;exact⟨w,e1,e2.move inO idO s⟩
 ·by_cases hj:i=j
  ·subst hj
   rw[Jy hl]at e
   cases e;exact⟨v,hs,r⟩
  ·rw[Jv hj]at e
   obtain⟨w,e1,e2⟩:=E.env.own j o2 e;exact⟨w,e1,e2.move inO idO s λa z y=>hj (E.env.dis i j a y z)⟩
 ·by_cases hz:M i a
  ·exact r.mtb a hz
  ·exact(E.env.trk a z).at λo e=>s _ _ e hz
def disown (i:Nat)(Z:En):En:=match Z[i]? with
 | some (.ow o)=>Z.set i (.va o.view)
 | _=>Z
theorem EnvM.disown {O O':Ow}{Z:En}(E:EnvM K O M H Z σ)(i:Nat)(sub:∀a,O' a->O a)(hn:∀a,M i a->¬ O' a)(hin:∀j a,j≠i->M j a->O' a):EnvM K O' (M.set i kB) H (disown i Z) σ:=by
 have base:EnvM K O' (M.set i kB) H (Z.set i (match Z[i]? with | some (.ow o)=> .va o.view | some x=>x | none=> .em)) σ:=by
  refine⟨by rw[Ki];exact E.len,λj t e=> ?_,λj o e=> ?_,λj a z=> ?_,λj k a z1 z2=> ?_,λa z=>E.trk a (sub a z)⟩
  ·by_cases hj:i=j
   ·subst hj
    by_cases hl:i<Z.length
    ·rw[Jy hl]at e
     cases q:Z[i]? with
     | none=>rw[q]at e;cases e
     | some z=>
      rw[q]at e
      cases z with
      | em=>cases e
      | va t'=>cases e;obtain⟨w,e1,e2⟩:=E.val i _ q;exact⟨w,e1,e2.less sub⟩
      | ow o=>cases e;obtain⟨w,e1,e2⟩:=E.own i _ q;exact⟨w,e1,e2.rep sub hn⟩
    ·rw[L4 (by rw[Ki];omega)]at e;cases e
   ·rw[Jv hj]at e
    obtain⟨w,e1,e2⟩:=E.val j t e;exact⟨w,e1,e2.less sub⟩
  ·by_cases hj:i=j
   ·subst hj
    by_cases hl:i<Z.length
    ·rw[Jy hl]at e
     cases q:Z[i]? with
     | none=>rw[q]at e;cases e
     | some z=>
      rw[q]at e
      cases z with
      | em=>cases e
      | va t'=>cases e
      | ow o=>cases e
    ·rw[L4 (by rw[Ki];omega)]at e;cases e
   ·rw[Jv hj]at e
    obtain⟨w,e1,e2⟩:=E.own j o e;refine⟨w,e1,?_⟩
    rw[Mn.Ih (λz=>hj z.symm)]
    exact e2.move (P:=kB) (λ_ z=>z.elim) (λa z=> .inl (sub a z)) (λb u q _=>q) λ_ _ z=>z
  ·unfold Mn.set at z
   by_cases hj:j=i
   ·rw[if_pos hj]at z;exact z.elim
   ·rw[if_neg hj]at z;exact hin j a hj z
  ·unfold Mn.set at z1 z2
   by_cases hj:j=i
   ·rw[if_pos hj]at z1;exact z1.elim
   ·by_cases hk:k=i
    ·rw[if_pos hk]at z2;exact z2.elim
    ·rw[if_neg hj]at z1;rw[if_neg hk]at z2;exact E.dis j k a z1 z2
 unfold Tr.disown
 cases q:Z[i]? with
 | none=>rw[q,List.set_eq_of_length_le (List.getElem?_eq_none_iff.mp q)]at base;exact base
 | some z=>
  rw[q]at base
  cases z with
  | em=>rw[rB q]at base;exact base
  | va t=>rw[rB q]at base;exact base
  | ow o=>exact base
theorem Ev.disown (E:Ev K B M H Z σ)(i:Nat):Ev K B (M.set i kB) H (disown i Z) σ/\∀a,(M.set i kB).u a->M.u a:=by
 have sub:∀a,(M.set i kB).u a->M.u a:=λa z=>(Mn.HU z).elim (λw=>w.elim) id
 refine⟨⟨E.env.disown i (λa z=>z.elim .inl λw=> .inr (sub a w)) (λa z y=> ?_) λj a hj z=> .inr ⟨j,by rw[Mn.Ih hj];exact z⟩,λa z=>E.mine a (sub a z)⟩,sub⟩
 rcases y with y | ⟨j,y⟩
 ·exact E.mine a ⟨i,z⟩ y
 ·unfold Mn.set at y
  by_cases hj:j=i
  ·rw[if_pos hj]at y;exact y
  ·rw[if_neg hj]at y;exact hj (E.env.dis j i a y z)
end
section
variable {X:Cx}{a:Expr}{es:List Expr}{fa:En->Rs T}{pos p2 p3:Pos}{x:Str}
theorem Ev.subO {K:IU}{B:Ow}{M:Mn}{H:Hp}{i:Nat}{m:Ow}(hm:∀a,m a->Nw K H a)(a:Addr)(z:OO B (M.set i m) a):OO B M a\/Nw K H a:=
 z.elim (λw=> .inl (.inl w)) λw=>(Mn.HU w).elim (λy=> .inr (hm a y)) λy=> .inl (.inr y)
theorem j0 {K:IU}{H H1:Hp}(s:Same H H1){a:Addr}(n:Nw K H1 a):Nw K H a:=(eQ (SameO.of (P:=kB) s) n).elim (λz=>z.elim) id
def FO (X:Cx)(t:TA):TE:=λσ H Q=>t σ H λxs H1=>xs.length<=sizeLine/\∀p,Nw X.K H1 p->Q (.ref p) (upd H1 p (.lst xs))
theorem uX {t:TA}(h:PA X es t):PE X (.List es pos) (FO X t):=by
 intro pins s σ H Q I hq;refine Og (bR (h pos pins s σ H _ I hq) λus s1 ⟨xs,H1,I1,r,z,q⟩=>⟨by rw[<-r.length];exact z,?_⟩)
 have hf:H1 s1.heap.objs.size=none:=I1.hok.fresh (Ji _)
 have hk:X.K.lookup s1.heap.objs.size=none:=by
  cases q:X.K.lookup s1.heap.objs.size with
  | none=>rfl
  | some o=>exact absurd (Jj (I1.kIn _ o q)) (JF _)
 refine⟨.ref s1.heap.objs.size,upd H1 s1.heap.objs.size (.lst xs),I1.laid (t':=s1.toks) (λb u e=>Jf _ e) (Ji _) ?_,rfl,q _ ⟨hf,hk⟩⟩
 exact⟨z,us,0,r,Jq _ rfl⟩
def je (i:Nat)(f:En->Rs (List T))(Z:En):Rs Fl:=do
 let l <-f Z
 if i<Z.length/\l.length<=sizeLine then .ok (.nx (Z.set i (.ow (.lst l))))else .bad
theorem AM (i:Nat){f:En->Rs (List T)}(hN:X.N.Nodup)(ha:nV X es f)(hi:X.N[i]? =some x:=by rfl)(hx:Loc X.env.scope x:=by first | exact J8 rfl | exact JP rfl)(hs:JU (.List es p2) (some (.Name x p3)) pos.line X.env=pure false:=by rfl)
  (hf:X.fn x=true\/X.env.scope.names.lookup x=some .local:=by first | exact .inl rfl | exact .inr rfl | assumption):lY X (.Assign [.Name x p3] (.List es p2) pos) (je i f):=PS.imp (pZ hN hi hx (uX ha) hs hf) λD σ H hh_=>by
 obtain⟨Z,B,M,E,h⟩:=hh_;refine⟨Z,OO B M,E.o,?_⟩
 unfold je at h
 cases q:f Z with
 | bad=>rw[q]at h;exact h.elim
 | err c=>rw[q]at h;exact PostF.xa h
 | ok l=>
  rw[q,ay]at h;intro H1 s1 vs rs
  by_cases hl:i<Z.length/\l.length<=sizeLine
  ·rw[if_pos hl]at h
   refine⟨by rw[<-rs.length];exact hl.2,λp hp=> ?_⟩
   have hm:∀a,a=p->Nw X.K H1 a:=λa z=>z▸hp
   obtain⟨E2,sub⟩:=(E.same s1).new (m:=λa=>a=p) (o:=.lst l) (v:=.ref p) (H':=upd H1 p (.lst vs)) hl.1 hm (bj hp.1 _) ⟨p,vs,rfl,λb=>LS,aQ,(rs.more (Ev.subO hm)).same (bj hp.1 _)⟩
   exact h _ _ _ (SameO.of (s1.trans (bj hp.1 _))) E2 λa z=>(sub a z).imp_right (j0 s1)
  ·rw[if_neg hl]at h
   exact h.elim
def n6 (i:Nat)(f:En->Rs T)(Z:En):Rs Fl:=match Z[i]? with
 | some (.ow (.lst l))=>f Z >>= λt=>if l.length<sizeLine then .ok (.nx (Z.set i (.ow (.lst (l++ [t])))))else .bad
 | _=> .bad
theorem Ev.putL {K:IU}{B:Ow}{M:Mn}{H:Hp}{Z:En}{σ:L2.St}{i:Nat}{o:OT}{l':List T}{b:Addr}{vs':List V}(E:Ev K B M H Z σ)(hi:Z[i]? =some (.ow o))(hs:σ[i]? =some (some (.ref b)))(hM:∀c,M i c↔c=b)(r:Reps K (OO B M) H l' vs') :
  Ev K B M (upd H b (.lst vs')) (Z.set i (.ow (.lst l'))) σ/\SameO M.u H (upd H b (.lst vs')):=by
 have sm:SameO (M i) H (upd H b (.lst vs')):=λc u e nb=>by rw[aE (λz=>nb ((hM c).mpr z))];exact e
 exact E.put hi hs sm ⟨b,vs',rfl,hM,aQ,r.move (P:=M i) (λa z=> .inl (.inr ⟨i,z⟩)) (λa z=> .inl z) sm⟩
theorem DJ (i:Nat){apos cpos:Pos}(ha:cj X a fa)(hN:X.N[i]? =some x:=by rfl)(hv:qW X.env.scope x:=by first | exact J8 rfl | exact JP (J8 rfl) | exact JP (JP rfl))(hn:bx a=true:=by rfl)
  (hbase:JM (.Name x p2) "append" X.env (eval (.Name x p2) X.env)=eval (.Name x p2) X.env:=by rfl) (hline:(apos.endLine == cpos.line)=true:=by rfl)
  (hd:fE x:=by decide) (hcd:(x == ("__classdict__" : Str))=false:=by decide)
  (hsw:JU (.Call (.Attribute (.Name x p2) "append" apos) [a] [] cpos) none pos.line X.env=pure false:=by rfl):lY X (.Expr (.Call (.Attribute (.Name x p2) "append" apos) [a] [] cpos) pos) (n6 i fa):=by
 have h1:Jo [a] X.env=(false,eval a X.env)::Jo [] X.env:=bu hn;refine PS.imp (jX (ye K8 MJ MK kJ (hW hN hv hd hcd) (fK ha kq h1) hbase ?_ hline h1 rfl) hsw) λD σ H ⟨Z,B,M,E,h⟩=> ?_
 ·rw[h1];rfl
 unfold n6 at h
 split at h
 ·rename_i l hl
  obtain⟨v0,e1,b,vs,rfl,hM,e3,e4⟩:=E.env.own i _ hl;refine⟨.ref b,e1,.inl ⟨rfl,vs,SqL.of e3⟩,Z,OO B M,E.o,?_⟩
  cases q:fa Z with
  | bad=>rw[q]at h;exact h.elim
  | err c=>rw[q]at h;exact PostF.xa h
  | ok t=>
   rw[q,ay]at h
   split at h
   ·rename_i hz
    intro H1 s1 v r
    have e3':=s1 _ _ e3;refine⟨b,vs,v,rfl,rfl,e3',by rw[<-e4.length];exact hz,?_⟩
    obtain⟨g1,g2⟩:=(E.same s1).putL (l':=l++ [t]) (vs':=vs++ [v]) hl e1 hM ((e4.same s1).append (Reps.FS r Reps.GM));exact h σ _ M (λc o e nb=>g2 c o (s1 _ _ e) nb) g1 λc z=> .inl z
   ·exact h.elim
 ·exact h.elim
def E5 (i:Nat)(l:List T)(Z:En):T->Rs Fl
 | .lst m=>if l.length+m.length<=sizeLine then .ok (.nx (Z.set i (.ow (.lst (l++m)))))else .bad
 | _=> .bad
def my (i:Nat)(f:En->Rs T)(Z:En):Rs Fl:=match Z[i]? with
 | some (.ow (.lst l))=>f Z >>= E5 i l Z
 | _=> .bad
theorem DE (i:Nat){apos cpos:Pos}(ha:cj X a fa)(hN:X.N[i]? =some x:=by rfl)(hv:qW X.env.scope x:=by first | exact J8 rfl | exact JP (J8 rfl) | exact JP (JP rfl))(hn:bx a=true:=by rfl)
  (hbase:JM (.Name x p2) "extend" X.env (eval (.Name x p2) X.env)=eval (.Name x p2) X.env:=by rfl) (hline:(apos.endLine == cpos.line)=true:=by rfl)
  (hd:fE x:=by decide) (hcd:(x == ("__classdict__" : Str))=false:=by decide)
  (hsw:JU (.Call (.Attribute (.Name x p2) "extend" apos) [a] [] cpos) none pos.line X.env=pure false:=by rfl):lY X (.Expr (.Call (.Attribute (.Name x p2) "extend" apos) [a] [] cpos) pos) (my i fa):=by
 have h1:Jo [a] X.env=(false,eval a X.env)::Jo [] X.env:=bu hn;refine PS.imp (jX (ye K8 PySem.F.slot_list_extend PySem.F.type_list_extend wz (hW hN hv hd hcd) (fK ha kq h1) hbase ?_ hline h1 rfl) hsw) λD σ H ⟨Z,B,M,E,h⟩=> ?_
 ·rw[h1];rfl
 unfold my at h
 split at h
 ·rename_i l hl
  obtain⟨v0,e1,b,vs,rfl,hM,e3,e4⟩:=E.env.own i _ hl;refine⟨.ref b,e1,.inl ⟨rfl,vs,SqL.of e3⟩,Z,OO B M,E.o,?_⟩
  cases q:fa Z with
  | bad=>rw[q]at h;exact h.elim
  | err c=>rw[q]at h;exact PostF.xa h
  | ok t=>
   rw[q,ay]at h;unfold E5 at h
   split at h
   ·rename_i m
    split at h
    ·rename_i hz
     intro H1 s1 v r;obtain⟨c,ws,rfl,nO,hc,rm⟩:=Rep.Do.mp r
     have e3':=s1 _ _ e3;refine⟨b,c,vs,ws,rfl,rfl,e3',hc,by rw[<-e4.length,<-rm.length];exact hz,?_⟩
     obtain⟨g1,g2⟩:=(E.same s1).putL (l':=l++m) (vs':=vs++ws) hl e1 hM ((e4.same s1).append rm);exact h σ _ M (λc o e nb=>g2 c o (s1 _ _ e) nb) g1 λc z=> .inl z
    ·exact h.elim
   ·exact h.elim
 ·exact h.elim
def pU (i:Nat)(F:En->Rs Fl)(Z:En):Rs Fl:=F (disown i Z)
theorem DG (i:Nat){st:Stmt}{F:En->Rs Fl}(h:lY X st F):lY X st (pU i F):=PS.imp h λD σ H hh_=>by
 obtain⟨Z,B,M,E,q⟩:=hh_;obtain⟨E',sub⟩:=E.disown i;exact⟨disown i Z,B,_,E',PostF.later q (λ_ _ e _=>e) λa z=> .inl (sub a z)⟩
mutual
def T.nk (D:Bool):T->Bool
 | .scr _=>false
 | .dct _ ts=> !D&&nks D ts
 | .ob _ _ _=>false
 | .lst l=>D&&nks D l
 | .tup l=>nks D l
 | _=>true
def nks (D:Bool):List T->Bool
 | [] =>true
 | t::l=>t.nk D&&nks D l
end
mutual
theorem Rep.lend {K:IU}{O O':Ow}{H:Hp}{D:Bool}(hk:∀a,O a->O' a\/if D then ∃kvs,Rd H a (.dT kvs)else LO H a):∀{t:T} {v:V},t.nk D=true->Rep K O' H t v->Rep K O H t v
 | .non,_,_,r=>by unfold Rep at r ⊢;exact r
 | .bl _,_,_,r=>by unfold Rep at r ⊢;exact r
 | .int _,_,_,r=>by unfold Rep at r ⊢;exact r
 | .str _,_,_,r=>by unfold Rep at r ⊢;exact r
 | .tup l,_,h,r=>by
  unfold Rep at r ⊢;unfold T.nk at h;obtain⟨a,vs,e,n,q,z⟩:=r;refine⟨a,vs,e,λp=>(hk a p).elim n λw=> ?_,q,Reps.lend hk h z⟩
  split at w
  ·obtain⟨_,w | ⟨_,w⟩⟩:=w <;> rw[q]at w <;> cases w
  ·rcases w with⟨_,w⟩ | ⟨_,w,y⟩ <;> rw[q]at w <;> cases w <;> cases y
 | .lst l,_,h,r=>by
  unfold Rep at r ⊢;unfold T.nk at h;rw[IV]at h;obtain⟨h1,h2⟩:=h;subst h1;obtain⟨a,vs,e,n,q,z⟩:=r;refine⟨a,vs,e,λp=>(hk a p).elim n λw=> ?_,q,Reps.lend hk h2 z⟩
  rw[if_pos rfl]at w;obtain⟨_,w | ⟨_,w⟩⟩:=w <;> rw[q]at w <;> cases w
 | .scr l,_,h,r=>by unfold T.nk at h;cases h
 | .dct ks ts,_,h,r=>by
  unfold Rep at r ⊢;unfold T.nk at h;rw[IV]at h;obtain⟨h1,h2⟩:=h
  cases D with
  | true=>cases h1
  | false=>
   obtain⟨a,kvs,e,n,q,k,z⟩:=r;refine⟨a,kvs,e,λp=>(hk a p).elim n λw=> ?_,q,k,Reps.lend hk h2 z⟩
   rw[if_neg Jw]at w;rcases w with⟨_,w⟩ | ⟨_,w,y⟩ <;> rcases q with q | ⟨_,q⟩ <;> rw[q]at w <;> cases w <;> cases y
 | .ob _ _ _,_,h,r=>by unfold T.nk at h;cases h
theorem Reps.lend {K:IU}{O O':Ow}{H:Hp}{D:Bool}(hk:∀a,O a->O' a\/if D then ∃kvs,Rd H a (.dT kvs)else LO H a):∀{l:List T} {vs:List V},nks D l=true->Reps K O' H l vs->Reps K O H l vs
 | [],_,_,r=>by unfold Reps at r ⊢;exact r
 | t::l,_,h,r=>by
  unfold Reps at r ⊢;unfold nks at h;rw[IV]at h;obtain⟨v,ws,e,p,q⟩:=r;exact⟨v,ws,e,Rep.lend hk h.1 p,Reps.lend hk h.2 q⟩
end
def ln (i:Nat)(f:En->Rs T)(Z:En):Rs T:=match Z[i]? with
 | some (.ow o)=>f (disown i Z) >>= λt=>if t.nk o.isD=true then .ok t else .bad
 | _=>f Z
def EC (i:Nat)(f:En->Rs Bool)(Z:En):Rs Bool:=f (disown i Z)
theorem pA {K:IU}{O:Ow}{M:Mn}{H:Hp}{Z:En}{σ:L2.St}(E:EnvM K O M H Z σ)(i:Nat):EnvM K (λa=>O a/\¬ M i a) (M.set i kB) H (disown i Z) σ:=
 E.disown i (λa z=>z.1) (λa z y=>y.2 z) λj a hj z=>⟨E.sub j a z,λy=>hj (E.dis j i a z y)⟩
theorem q_ln (i:Nat){e:Expr}{f:En->Rs T}(h:cj X e f):cj X e (ln i f):=PE.imp h λσ H Q ⟨Z,O,⟨M,E⟩,q⟩=>by
 unfold ln at q
 split at q
 ·rename_i o hi
  refine⟨disown i Z,_,⟨_,pA E i⟩,?_⟩
  obtain⟨w,e1,r⟩:=E.own i o hi;refine Post.mono (Post.bind q) λt H' s q2 v rv=> ?_
  split at q2
  ·rename_i hk
   have kd:=(r.same s).kind;refine q2 H' (Same.refl _) v (Rep.lend (λa z=> ?_) hk rv)
   by_cases hm:M i a
   ·refine .inr ?_
    have this:=kd a hm
    by_cases hD:o.isD=true
    ·rw[if_pos hD]at this ⊢;exact this.imp λ_ z=> .inl z
    ·rw[if_neg hD]at this ⊢;exact this
   ·exact .inl ⟨z,hm⟩
  ·exact q2.elim
 ·exact⟨Z,O,⟨M,E⟩,q⟩
theorem F4 (i:Nat){e:Expr}{f:En->Rs Bool}(h:sZ X e f):sZ X e (EC i f):=PT.imp h λσ H Q ⟨Z,O,⟨M,E⟩,q⟩=>⟨disown i Z,_,⟨_,pA E i⟩,q⟩
end
end Tr
namespace Tr
open PySem L2
def oB:List T->List T->List Key->Option T
 | k'::ks,v::vs,k=>if keyOf k'=some k then some v else oB ks vs k
 | _,_,_=>none
def gB (k v:T):List T->List T->List T×List T
 | k'::ks,v'::vs=>if keyOf k'=keyOf k then(k'::ks,v::vs)else(k'::(gB k v ks vs).1,v'::(gB k v ks vs).2)
 | _,_=>([k],[v])
def sS (x y:T):Rs T:=match x,keyOf y with
 | .dct ks vs,some k=>match oB ks vs k with
  | some t=> .ok t
  | none=> .bad
 | _,_=> .bad
def gR (x y:T):Rs T:=match x,keyOf y with
 | .dct ks vs,some k=>match oB ks vs k with
  | some t=> .ok t
  | none=> .ok .non
 | _,_=> .bad
def oD (g:T->T->Rs T)(fa fb:En->Rs T)(Z:En):Rs T:=fa Z >>= λx=>match x with
 | .dct ks vs=>fb Z >>= g (.dct ks vs)
 | _=> .bad
def oL (g:T->T->Rs T)(fa fb:En->Rs T)(Z:En):Rs T:=fa Z >>= λx=>match x with
 | .lst l=>fb Z >>= g (.lst l)
 | _=> .bad
def Ft:List T->Option (List (T×T))
 | [] =>some []
 | .tup [k,v] ::l=>match keyOf k,Ft l with
  | some _,some r=>some ((k,v)::r)
  | _,_=>none
 | _=>none
def iw:List (T×T)->List T×List T->List T×List T
 | [],d=>d
 | (k,v)::r,d=>iw r (gB k v d.1 d.2)
def vH:List T->Rs T
 | [.lst l] =>match Ft l with
  | some ps=>if l.length<=1000 then .ok (.dct (iw ps ([],[])).1 (iw ps ([],[])).2)else .bad
  | none=> .bad
 | _=> .bad
def oP (i:Nat)(f:En->Rs T)(Z:En):Rs Fl:=f Z >>= λt=>vH [t] >>= λd=>match d with
 | .dct ks vs=>if i<Z.length then .ok (.nx (Z.set i (.ow (.dct ks vs))))else .bad
 | _=> .bad
def v8 (i:Nat)(fk fv:En->Rs T)(Z:En):Rs Fl:=match Z[i]? with
 | some (.ow (.dct ks vs))=>fv Z >>= λv=>fk Z >>= λk=>match keyOf k with
  | some _=>if ks.length<1000 then .ok (.nx (Z.set i (.ow (.dct (gB k v ks vs).1 (gB k v ks vs).2))))else .bad
  | none=> .bad
 | _=> .bad
def iV (x:T):List T->Nat->Option Nat
 | [],_=>none
 | t::l,n=>if aV t x then some n else iV x l (n+1)
def fM (y x:T):Rs T:=match y with
 | .lst l=>if (x.dep<=60\/deps l<=60)/\x.nd=true/\nds l=true then match iV x l 0 with
   | some n=> .ok (.int n)
   | none=> .bad
  else .bad
 | _=> .bad
def FU:Nat:=1000000000000
end Tr
namespace Tr
open PySem PySem.Spec PyProof.Rows L2
theorem fV {h b b':Heap}:∀{l:List Env},h.FunFrames b l->(∀a∈l.filterMap (·.frame),b'.get? a=none)->h.FunFrames b' l
 | [],_,_=>trivial
 | env::bN,⟨hk,⟨L,o,hf,hn,ho,hd⟩,hr⟩,q=>by
  rw[Ko,hf]at q;exact⟨hk,⟨L,o,hf,q L Je,ho,hd⟩,fV hr λa ha=>q a (IX _ ha)⟩
section
variable {M:Model}{A:JK}{E:IW->IY->Prop}{s:IY}
structure Co (fs:List Addr)(C e:Addr)(T:Option Addr)(h h':Heap)(T':Addr):Prop where
 flt:Hy h' C e (some T')
 new:T=some T'\/h.get? T'=none
 keep:∀b o,b∉fs->b≠e->T≠some b->h.get? b=some o->h'.get? b=some o
 slot:∀b o,b∈fs->h.get? b=some o->∃sl,h'.get? b=some { o with slots:=sl }
theorem yE {base:Heap}{env:Env}{outer:List Env}{L C e:Addr}{T:Option Addr}{Q:Unit->IY->Prop}(hfr:A.frames=some (env::outer))(hl:s.heap.FunFrames base (env::outer))(hf:env.frame=some L)
  (F:Hy s.heap C e T) (h:∀h' T',Co ((env::outer).filterMap (·.frame)) C e T s.heap h' T'->Q () { s with heap:=h' }):wpAny M A (leaving env (.ref e)) Q E s:=by
 generalize hB:Nf s.heap (e::(T.toList++(env::outer).filterMap (·.frame)))=B
 have bm:∀b,b∈e::(T.toList++(env::outer).filterMap (·.frame))->B.get? b=none:=λb m=>by rw[<-hB];exact L9 _ m
 have hl':s.heap.FunFrames B (env::outer):=fV hl λa ha=>bm a (IX _ (Jx _ ha))
 have hst:B.StaysIn s.heap:=λb o q=>by rw[<-hB]at q;exact Mw _ q
 have hen:B.get? e=none:=bm e Je
 have main:∀h',Heap.Left B (env::outer) e (.ref C) s.heap h'->Q () { s with heap:=h' }:=λh' ⟨x1,x2,⟨oe,vs,T',oT,ts,he,hc,hd,h1,hnT,hTe,hT,hdT,h3⟩,x4⟩=>by
  refine h h' T' ⟨⟨hTe,oe,vs,he,hc,hd,h1,oT,ts,hT,hdT,h3⟩,?_,λb o n1 n2 n3 q=> ?_,λb o m q=> ?_⟩
  ·cases q:s.heap.get? T' with
   | none=>exact .inr rfl
   | some o=>
    left
    by_cases z:T'∈e::(T.toList++(env::outer).filterMap (·.frame))
    ·rcases Jg.mp z with z | z
     ·exact absurd z hTe
     ·rcases Ju.mp z with z | z
      ·cases T with
       | none=>simp at z
       | some t=>simp at z;rw[z]
      ·obtain⟨_,o',ho',hnf⟩:=x2.mem z
       rw[hT]at ho';cases ho';exact absurd hdT (hnf ts)
    ·rw[<-hB,K7 _ q z]at hnT;cases hnT
  ·refine x1 b o ?_
   rw[<-hB];refine K7 _ q λz=> ?_
   rcases Jg.mp z with z | z
   ·exact n2 z
   ·rcases Ju.mp z with z | z
    ·cases T with
     | none=>simp at z
     | some t=>simp at z;exact n3 (by rw[z])
    ·exact n1 z
  ·obtain⟨_,o',ho',hnf⟩:=hl.mem m
   rw[q]at ho';cases ho';exact x4 b o q hnf
 cases T with
 | none=>
  obtain⟨oe,vs,he,hc,hd,h1⟩:=F;refine wpAny_leaving_first hfr hl' hf he hst hen hd h1 λh' x=>main h' ?_
  rw[hc]at x;exact x
 | some t=>
  obtain⟨hte,oe,vs,he,hc,hd,h1,oT,ts,hT,hdT,h3⟩:=F;exact wpAny_leaving_next hfr hl' hf ⟨oe,vs,t,oT,ts,he,hc,hd,h1,bm t (IX _ (JN _ (by simp))),hte,hT,hdT,h3⟩ hst hen main
end
abbrev tj:List IW:=[.type "ValueError",.type "Exception",.type "BaseException",.type "object"]
structure OwnExc (K:IU)(C:Addr)(bm:List IW):Prop where
 at_:∀h:Heap,K.In h->∃nm q N bs hdct sn sub ab col dd k0 k1 k2 k3 k5 mN,h.get? C=some (Lu nm q C N bs bm hdct sn sub ab col dd k0 k1 k2 k3 k5 "ValueError.__new__")/\h.Ns N mN/\mN "__init__" =none/\OwnTail h tj bm
theorem OwnExc.base {K:IU}{C:Addr}{bm:List IW}(O:OwnExc K C bm){h:Heap}(k:K.In h):bm.contains (.type "BaseException")=true:=by
 obtain⟨_,_,_,_,_,_,_,_,_,_,_,_,_,_,_,_,_,_,_,T⟩:=O.at_ h k;exact T.hasType (by decide)
def tO (c:Str)(_:En):Rs Fl:=.err c
section
variable {X:Cx}
theorem xO {c:Str}{msg:Str}{C:Addr}{bm:List IW}{np p1 cpos pos:Pos}{j:Nat}(O:OwnExc X.K C bm)(hc:X.calm=true)(hm:X.mg c=some (.ref C))(hg:Gl X c:=by rfl)(hd:fE c:=by decide) :
  lY X (.Raise (some (.Call (.Name c np) [.Constant (.str msg) j p1] [] cpos)) none pos) (tO c):=by
 intro pins s σ H D I ⟨Z,B,M,E,k⟩
 have k:XA X M.u H c:=k;obtain⟨nm,q,N,bs,hdct,sn,sub,ab,col,dd,k0,k1,k2,k3,k5,mN,hC,hN,hni,T⟩:=O.at_ s.heap I.kIn;refine wpAny_Raise_call_subU (C:=C) (mN:=mN) (nm:=nm) (q:=q) (N:=N) (bs:=bs) (hdct:=hdct) (sn:=sn) (sub:=sub) (ab:=ab) (col:=col) (dd:=dd) (k0:=k0) (k1:=k1) (k2:=k2) (k3:=k3) (k5:=k5) Mt (Bn:="ValueError") (by decide) Mt (O.base I.kIn) (I.ok.hd hc) (by rfl) hni (gy I hg hm ⟨rfl,?_⟩ hd)
 show wpAny _ _ (evalArgs (.ref C) true ((false,eval (.Constant (.str msg) j p1) X.env)::backTo cpos (Jo [] X.env)) []) _ _ s
 refine Ll (LA (N3 (LR ?_)))
 refine⟨rfl,by show 1<=sizeLine;decide,hC,hN,T,λh' e hm'=>k pins _ _ ?_⟩
 obtain⟨t,ht,ht2,ht3⟩:=hm'.there
 have I':Inv X pins σ H { s with heap:=h',toks:=s.toks+1 }:=I.kept (t':=s.toks+1) λb o z=>hm'.keeps b o z
 refine⟨e,none,C,σ,H,rfl,hm,I',λb o z _=>z,?_,?_,⟨_,_,ht,rfl,rfl,rfl⟩,(λt z=>by cases z),λp hp=>⟨λz=> ?_,λz=>by cases z⟩⟩
 ·exact j4 I hm'.new
 ·exact λhex=>fT I hex hm'.new
 ·have:=(I.pin p hp).1
  rw[z,show s.heap.get? e=none from hm'.new]at this
  cases this
end
section
variable {P:JB}{w:JY}{K:IU}{mg:Str->Option IW}{base:Heap}
theorem EY {x qual:Str}{st:Stmt}{f:Addr}{fd:J0}{N ps:List Str}{k n:Nat}{g:List T->Rs T}(Fn:L2.Fun K x qual st f fd)(S:aw N ps (ai st))(hn:ps.length=n)
  (hbody:∀(cdv:IW) (A:JK) (outer:List Env) (s:IY) (H:Hp) (E:XK),Room k (A.deeper (envOfC qual (ai st) s.heap.objs.size f cdv)) →
   ∃F,(∀xe,jB ((fG CX0 P w K mg base N qual (ai st) f cdv A outer s H E).FB xe) (bJ st) F)/\∀ts,ts.length=n->∀c,g ts= .err c->F (aK N.length ts)= .err c):FnX P w K mg base (k+1) f fd ps n g:=by
 intro A outer s H args us vs O ts c R hr e0 hb r rs trk hl hg hR
 have hpl:ps.length<=N.length:=by have:=congrArg K9 S.pre;rw[Kx]at this;omega
 obtain⟨oc,od,kV,doc,pm,an,cdv,ct,osl,rfl,lk,hcd⟩:=Fn.ex
 have hlen:vs.length=ps.length:=by rw[<-rs.length,hl,hn]
 have KX:K.In s.heap:=e0.mod.kin.keeps λb o e=>(e0.bs b o e).1
 have lim:s.heap.NoLimit:=e0.mod.nolimit.keeps λb o e=>(e0.bs b o e).1
 have hkind:∀y∈ps.zip us,(ai st).names.lookup y.1=some .local\/((ai st).names.lookup y.1=some .cell/\((K5 (s.heap.objs.size+1) (ai st).names []).lookup y.1).isSome=true):=λ⟨n,v⟩ hy=>by
  rcases S.par n (LB hy).1 with q | q
  ·exact .inl q
  ·exact .inr ⟨q,Ld _ _ _ (.inl q)⟩
 refine L5 hr.depth (KX _ _ lk) rfl S.co S.gen rfl (Mx KX hcd) (hb _ _ _ _ ?_)
 refine Lk S.kind hkind λenv he s1 x=> ?_
 subst he;refine⟨lim.keeps x.toInCall.keep,OR ?_⟩
 obtain⟨F,hF,hv⟩:=hbody cdv A outer s H E0 (hr.deeper _)
 let xe:IW->IY->Prop:=λev s'=>wpAny (model P w) (A.deeper (envOfC qual (ai st) s.heap.objs.size f cdv)) (leaving (envOfC qual (ai st) s.heap.objs.size f cdv) ev) (λ_ s''=>R (.error ev) s'') (λe' s''=>R (.error e') s'') s'
 have I:Inv ((fG CX0 P w K mg base N qual (ai st) f cdv A outer s H E0).FB xe) [] (start N vs) H s1:=(kN S hr.hd e0 hlen r x).FB _
 have no:∀a,¬noM.u a:=λa ⟨_,z⟩=>z
 refine KN (hF xe [] s1 (start N vs) H { nx:=λ_ _=>False,rt:=λ_ _=>False,bk:=λ_ _=>False,ct:=λ_ _=>False } I ⟨aK N.length ts,O,noM,oM rs (by omega) trk,?_⟩) (λfl s' z=> ?_) λe s' hs=>hs
 rotate_left
 ·cases fl with
  | next=>obtain⟨_,_,_,z⟩:=z;exact z.elim
  | cont=>obtain⟨_,_,_,z⟩:=z;exact z.elim
  | brk=>obtain⟨_,_,_,z⟩:=z;exact z.elim
  | ret v=>obtain⟨_,_,_,_,_,z⟩:=z;exact z.elim
 rw[hv ts hl c hg];intro pins ev s' w'
 show wpAny _ _ _ _ _ _
 obtain⟨e,T,C,σ',H',rfl,hm,I',sm,he,heo,fl,hT,_⟩:=w'
 have heo:=heo rfl
 have hT:∀t,T=some t->H' t=none/\s.heap.get? t=none:=λt z=>⟨(hT t z).1,(hT t z).2 rfl⟩
 refine yE (base:=base) (outer:=outer) (L:=s.heap.objs.size) I'.ok.frames I'.stack rfl fl λh' T' g=>hR _ _ ?_
 have hex:((fG CX0 P w K mg base N qual (ai st) f cdv A outer s H E0).FB xe).ex= []:=rfl
 have Tn:H' T'=none/\s.heap.get? T'=none:=by
  rcases g.new with z | z
  ·exact hT T' z
  ·exact⟨j4 I' z,fT I' hex z⟩
 have out:∀b o,s.heap.get? b=some o->b≠s.heap.objs.size:=λb o q z=>by
  have:=Jj q;rw[z]at this;exact absurd this (JF _)
 have mem:∀b,b∈ny ((envOfC qual (ai st) s.heap.objs.size f cdv)::outer)->b=s.heap.objs.size\/b∈ny outer:=λb z=>by
  have z':b∈s.heap.objs.size::ny outer:=z;exact Jg.mp z'
 have ne:∀b o,s.heap.get? b=some o->b≠e/\T≠some b:=λb o q=>⟨λz=>(by subst z;rw[show s.heap.get? b=none from heo]at q;cases q),λz=>(by rw[show s.heap.get? b=none from(hT b z).2]at q;cases q)⟩
 have keepH:∀b u,H' b≠none->s'.heap.get? b=some u->h'.get? b=some u:=λb u hb q=>by
  refine g.keep b u (λz=>hb (I'.HX b z)) (λz=>hb (by rw[z];exact he)) (λz=>hb (hT b z).1) q
 refine⟨e,T',C,H',rfl,hm,I'.os,I'.bare,⟨λb o q n hb hx=> ?_,λb o q n hb hx=> ?_,λb o q n hx=>I'.base.free b o q n hx,λb o q hx=> ?_,I'.base.tups,I'.base.frzs,I'.base.tbls⟩,λa o q=> ?_,λb o q=>sm b o q (no b),he,heo,g.flt,Tn.1,Tn.2⟩
 ·exact g.keep b o (λz=>(mem b z).elim (out b o q) hb) (ne b o q).1 (ne b o q).2 (I'.base.keep b o q n hb hx)
 ·obtain⟨sl,q1⟩:=I'.base.slot b o q n hb hx
  obtain⟨sl',q2⟩:=g.slot b _ (IX _ hb) q1;exact⟨sl',q2⟩
 ·obtain⟨o',q1⟩:=I'.base.there b o q hx
  by_cases z:b∈ny ((envOfC qual (ai st) s.heap.objs.size f cdv)::outer)
  ·obtain⟨sl,q2⟩:=g.slot b o' z q1
   exact⟨_,q2⟩
  ·exact⟨o',g.keep b o' z (ne b o q).1 (ne b o q).2 q1⟩
 ·refine(I'.hok a o q).Ia (λb u hb z=>keepH b u ?_ z) (λ_ z=>z) λ_ _ z=>z
  rcases hb with rfl | hb
  ·rw[q];simp
  ·rw[hb];simp
end
theorem Au {n m:Nat}{F:En->Rs Fl}{ts:List T}{c:Str}(h:val n m F ts= .err c):F (aK m ts)= .err c:=by
 unfold val at h
 split at h
 ·unfold bw at h
  cases z:F (aK m ts)with
  | bad=>rw[z]at h;cases h
  | err c'=>rw[z]at h;cases h;rfl
  | ok f=>
   rw[z,ay]at h;cases f <;> cases h
 ·cases h
section
variable {P:JB}{w:JY}{K:IU}{mg:Str->Option IW}{base:Heap}
theorem EZ {x qual:Str}{st:Stmt}{f:Addr}{fd:J0}{N ps:List Str}{k n:Nat}{F:En->Rs Fl}(Fn:L2.Fun K x qual st f fd)(S:aw N ps (ai st))(hn:ps.length=n)
  (hbody:∀(cdv:IW) (A:JK) (outer:List Env) (s:IY) (H:Hp) (E:XK),Room k (A.deeper (envOfC qual (ai st) s.heap.objs.size f cdv)) →
   ∀xe,jB ((fG CX0 P w K mg base N qual (ai st) f cdv A outer s H E).FB xe) (bJ st) F):Ad P w K mg base (k+1) f fd ps n (val n N.length F):=
 ⟨Hf Fn S hn λcdv A outer s H E hr=>⟨F,hbody cdv A outer s H E hr _,λts _ _ h=>Di h⟩,EY Fn S hn λcdv A outer s H E hr=>⟨F,hbody cdv A outer s H E hr,λts _ c h=>Au h⟩⟩
end
section
variable {X:Cx}{k n:Nat}{f:Addr}{fd:J0}{ps:List Str}{g:List T->Rs T}{pins:List (Addr×Obj)}{σ:L2.St}{H:Hp}{s:IY}{us:List IW}{vs:List V}{ts:List T}{O:Ow}{Q:VK}
theorem FY (F:Ad X.prog X.w X.K X.mg X.base k f fd ps n g)(hr:Room k X.A)(hb:Binds X.K fd ps [])(hps:ps.length=n)(I:Inv X pins σ H s)(r:Vals vs us)(rs:Reps X.K O H ts vs)(mt:∀a,O a->Mtb H a)(hl:ts.length=n)
  (hq:Post X H (g ts) λt H'=> ∀v,Rep X.K O H' t v->Q v H'):wpAny (model X.prog X.w) X.A (call (.ref f) us) (EP X pins σ Q) X.xe s:=by
 cases q2:g ts with
 | bad=>rw[q2]at hq;exact hq.elim
 | ok t=>
  rw[q2]at hq;refine tR (E:=E0) (dvs:=[]) (ds:=[]) F.h hr hb .nil u4 I r ⟨ts,O,by simpa using rs,mt,hl,?_⟩
  rw[q2]
  exact λv H' s2 rr=>hq H' s2 v rr
 | err c=>
  rw[q2]at hq
  have hlen:us.length=ps.length:=by rw[<-r.length,<-rs.length,hl,hps]
  have hb':=hb s us I.kIn (by rw[JA];exact hlen)
  rw[JA]at hb';refine NJ (Ly (F.x X.A X.stack s H ⟨us,[]⟩ us vs O ts c (λr s'=>match r with | .error ev=>X.xe ev s' | _=>False) hr I.Iq hb' r rs mt hl q2 λev s' w=> ?_) λr s' hq=> ?_)
  ·obtain⟨ea,T,C,H',rfl,hmc,ho,hbare,hun,hok,sm2,hea,heo,fl,hT,hTo⟩:=w
   have I2:Inv X pins σ H' s':=I.Io ho hun hok hbare (λb z=>absurd z (by simp))
   exact hq pins _ _ ⟨ea,some T,C,σ,H',rfl,hmc,I2,λb o q _=>sm2 b o q,hea,λhex=>fT I hex heo,fl,(λt zt=>by cases zt;exact⟨hT,λhex=>fT I hex hTo⟩),λpp hpp=>⟨λzz=>(by have:=(I.pin pp hpp).1;rw[zz,heo]at this;cases this),λzz=>(by cases zz;have:=(I.pin pp hpp).1;rw[hTo]at this;cases this)⟩⟩
  ·cases r with
   | error ev=>exact hq
   | ok fl=>exact hq.elim
end
section
variable {X:Cx}{a:Expr}{fa:En->Rs T}{pos p:Pos}{x:Str}
theorem F7:lY X (.Continue pos) Cv:=PS.imp rP λD σ H ⟨Z,B,M,E,h⟩=>h σ H M (λ_ _ e _=>e) E λa z=> .inl z
end
inductive OTail (h:Heap):List IW->Prop
 | base:OTail h tj
 | own {A:Addr} {c0:IW} {dd:Option Addr} {cd:ClassData} {sl:Array (Option IW)} {mA:Str->Option IW} {tl:List IW} :
   h.get? A=some { cls:=c0,dict:=dd,data:=.cls cd,slots:=sl }->h.Ns cd.ns mA->(∀n∈calmNames,mA n=none)->OTail h tl->OTail h (.ref A::tl)
theorem OTail.tail {h:Heap}{tl:List IW}(T:OTail h tl):OwnTail h tj tl:=by
 induction T with
 | base=>exact .base
 | own hA hN hq _ ih=>exact .own hA hN (hq _ (.head _)) ih
structure OX (K:IU)(C:Addr)(bm:List IW):Prop where
 at_:∀h:Heap,K.In h->∃nm q N bs hdct sn sub ab col dd k0 k1 k2 k3 k5 mN,h.get? C=some (Lu nm q C N bs bm hdct sn sub ab col dd k0 k1 k2 k3 k5 "ValueError.__new__")/\h.Ns N mN/\(∀n∈calmNames,mN n=none)/\OTail h bm
theorem OX.own {K:IU}{C:Addr}{bm:List IW}(O:OX K C bm):OwnExc K C bm:=⟨λh k=>by
 obtain⟨nm,q,N,bs,hdct,sn,sub,ab,col,dd,k0,k1,k2,k3,k5,mN,h1,h2,h3,h4⟩:=O.at_ h k;exact⟨nm,q,N,bs,hdct,sn,sub,ab,col,dd,k0,k1,k2,k3,k5,mN,h1,h2,h3 _ (.head _),h4.tail⟩⟩
section
variable {M:Model}{A:JK}{E:IW->IY->Prop}{s:IY}
theorem GF {base:Heap}{env:Env}{outer:List Env}{L C e:Addr}{T:Option Addr}{Q:Unit->IY->Prop}(hfr:A.frames=some (env::outer))(hl:s.heap.FunFrames base (env::outer))(hf:env.frame=some L)
  (F:Hy s.heap C e T) (h:∀h' T',Co ((env::outer).filterMap (·.frame)) C e T s.heap h' T'->Q () { s with heap:=h' }) :
  wpAny M A (Pt (.ref e) env) (λ_ s'=>wpAny M A (setFlight (.ref e) none) Q E s') E s:=by
 generalize hB:Nf s.heap (e::(T.toList++(env::outer).filterMap (·.frame)))=B
 have bm:∀b,b∈e::(T.toList++(env::outer).filterMap (·.frame))->B.get? b=none:=λb m=>by rw[<-hB];exact L9 _ m
 have hl':s.heap.FunFrames B (env::outer):=fV hl λa ha=>bm a (IX _ (Jx _ ha))
 have hst:B.StaysIn s.heap:=λb o q=>by rw[<-hB]at q;exact Mw _ q
 have hen:B.get? e=none:=bm e Je
 have main:∀h',Heap.Left B (env::outer) e (.ref C) s.heap h'->Q () { s with heap:=h' }:=λh' ⟨x1,x2,⟨oe,vs,T',oT,ts,he,hc,hd,h1,hnT,hTe,hT,hdT,h3⟩,x4⟩=>by
  refine h h' T' ⟨⟨hTe,oe,vs,he,hc,hd,h1,oT,ts,hT,hdT,h3⟩,?_,λb o n1 n2 n3 q=> ?_,λb o m q=> ?_⟩
  ·cases q:s.heap.get? T' with
   | none=>exact .inr rfl
   | some o=>
    left
    by_cases z:T'∈e::(T.toList++(env::outer).filterMap (·.frame))
    ·rcases Jg.mp z with z | z
     ·exact absurd z hTe
     ·rcases Ju.mp z with z | z
      ·cases T with
       | none=>simp at z
       | some t=>simp at z;rw[z]
      ·obtain⟨_,o',ho',hnf⟩:=x2.mem z
       rw[hT]at ho';cases ho';exact absurd hdT (hnf ts)
    ·rw[<-hB,K7 _ q z]at hnT;cases hnT
  ·refine x1 b o ?_
   rw[<-hB];refine K7 _ q λz=> ?_
   rcases Jg.mp z with z | z
   ·exact n2 z
   ·rcases Ju.mp z with z | z
    ·cases T with
     | none=>simp at z
     | some t=>simp at z;exact n3 (by rw[z])
    ·exact n1 z
  ·obtain⟨_,o',ho',hnf⟩:=hl.mem m
   rw[q]at ho';cases ho';exact x4 b o q hnf
 cases T with
 | none=>
  obtain⟨oe,vs,he,hc,hd,h1⟩:=F;unfold Pt;simp only[hf];refine Ja (KW he hd h1 ?_)
  rw[if_neg (by decide)]
  refine wpAny_newEntry hfr hl' hf he hst hen hd (Kl.mp h1).1 λh' x=>main h' ?_
  rw[hc]at x;exact x
 | some t=>
  obtain⟨hte,oe,vs,he,hc,hd,h1,oT,ts,hT,hdT,h3⟩:=F
  have hnT:B.get? t=none:=bm t (IX _ (JN _ (by simp)))
  unfold Pt;simp only[hf];refine Ja (KW he hd h1 ?_)
  rw[if_pos (show(JD t != JI)=true from by simp)]
  refine Ja (KW hT hdT h3 ?_)
  rw[if_neg (show ¬((JI == rawInt L)=true)from by simp[rawInt])]
  refine Ja (NS hT hdT (Kl.mp h3).1 ?_)
  have other:∀b,b≠t->(s.heap.update t (N8 (·.setIfInBounds 3 JI))).get? b=s.heap.get? b:=λb hb=>LP _ _ (Ls hb)
  have noRec:∀b o,s.heap.get? b=some o->(∀vs,o.data≠ .fields vs)->b≠t:=λb o hb hnf q=>by
   rw[q,hT]at hb;injection hb with hb;subst hb;exact hnf ts hdT
  refine wpAny_newEntry hfr (hl'.of_keeps λb o hb hnf=>⟨o,(other b (noRec b o hb hnf)).trans hb,rfl⟩) hf ((other e (Ls hte)).trans he)
   (λb o hbo=>(other b λq=>by rw[q,hnT]at hbo;cases hbo).trans (hst b o hbo)) hen hd (Kl.mp h1).1
   λh' x=>main h' ?_
  obtain⟨x1,x2,x3,x4⟩:=x;rw[hc]at x3;exact⟨x1,x2,x3,λb o hb hnf=>x4 b o ((other b (noRec b o hb hnf)).trans hb) hnf⟩
end
section
variable {X:Cx}{pins:List (Addr×Obj)}{σ:L2.St}{H:Hp}{s:IY}{h':Heap}
theorem Inv.gone {C e T':Addr}{T:Option Addr}(I:Inv X pins σ H s)(hst:X.stack=X.env::X.outer)(hfe:X.env.frame=some X.env.locals)(hcl:∀x c,X.env.cells.lookup x≠some c)(hex:X.ex= [])
  (g:Co ((X.env::X.outer).filterMap (·.frame)) C e T s.heap h' T') (he:H e=none) (heo:X.s₀.heap.get? e=none) (hT:∀t,T=some t->H t=none/\X.s₀.heap.get? t=none) (hp:∀p∈X.pn++pins,p.1≠e/\T≠some p.1) :
  Inv X pins σ H { s with heap:=h' }:=by
 have mem:∀b,b∈(X.env::X.outer).filterMap (·.frame)↔b=X.env.locals\/b∈X.fs:=λb=>by
  rw[Ko,hfe];exact Jg
 have out:∀b o,X.s₀.heap.get? b=some o->b≠X.env.locals:=λb o q z=>by
  have h1:=Jj q
  have h2:=I.ok.above;rw[z]at h1;exact absurd (Jp h1 h2) (JF _)
 have ne:∀b o,X.s₀.heap.get? b=some o->b≠e/\T≠some b:=λb o q=>⟨λz=>(by subst z;rw[heo]at q;cases q),λz=>(by rw[(hT b z).2]at q;cases q)⟩
 have fr:∀b,b∈(X.env::X.outer).filterMap (·.frame)->H b=none:=λb z=>I.HX b (by rw[hst];exact z)
 have keepH:∀b u,H b≠none->s.heap.get? b=some u->h'.get? b=some u:=λb u hb q=>by
  refine g.keep b u (λz=>hb (fr b z)) (λz=>hb (by rw[z];exact he)) (λz=>hb (hT b z).1) q
 refine⟨I.ok,I.os,I.bare,⟨λb o q n hb hx=> ?_,λb o q n hb hx=> ?_,I.base.free,λb o q hx=> ?_,I.base.tups,I.base.frzs,I.base.tbls⟩,?_,λx c z=>absurd z (hcl x c),I.free,I.freeC,λp hp'=> ?_,λa o q=> ?_,I.len⟩
 ·exact g.keep b o (λz=>((mem b).mp z).elim (out b o q) hb) (ne b o q).1 (ne b o q).2 (I.base.keep b o q n hb hx)
 ·obtain⟨sl,q1⟩:=I.base.slot b o q n hb hx
  obtain⟨sl',q2⟩:=g.slot b _ ((mem b).mpr (.inr hb)) q1;exact⟨sl',q2⟩
 ·obtain⟨o',q1⟩:=I.base.there b o q hx
  by_cases z:b∈(X.env::X.outer).filterMap (·.frame)
  ·obtain⟨sl,q2⟩:=g.slot b o' z q1
   exact⟨_,q2⟩
  ·exact⟨o',g.keep b o' z (ne b o q).1 (ne b o q).2 q1⟩
 ·obtain⟨m,⟨o,es,ep,ho,hd,r⟩,hl⟩:=I.loc
  obtain⟨sl,q2⟩:=g.slot X.env.locals o ((mem _).mpr (.inl rfl)) ho;refine⟨m,⟨_,es,ep,q2,hd,r⟩,λi x v a1 a2 a3=> ?_⟩
  obtain⟨u,ru,lk⟩:=hl i x v a1 a2 a3;refine⟨u,ru,?_⟩
  rcases lk with z | ⟨_,c,z,_⟩
  ·exact .inl z
  ·exact absurd z (hcl x c)
 ·obtain⟨b1,b2,b3,b4,b5⟩:=I.pin p hp'
  exact⟨g.keep p.1 p.2 (λz=>((mem _).mp z).elim b3 b4) (hp p hp').1 (hp p hp').2 b1,b2,b3,b4,b5⟩
 ·refine(I.hok a o q).Ia (λb u hb z=>keepH b u ?_ z) (λ_ z=>z) λ_ _ z=>z
  rcases hb with rfl | hb
  ·rw[q];simp
  ·rw[hb];simp
end
section
variable {M:Model}{A:JK}{E:IW->IY->Prop}{h:Heap}{g:Array GenState}{d:Drawn}{t:Nat}{os:MF}
variable {nm q:Str}{C N:Addr}{bs bm:List IW}{hdct:Bool}{sn:List Str}{sub:List IW}{ab:Bool}{col:Option Bool}{dd:Option Addr}{k0 k1 k2 k3 k5:Option IW}{newId:String}
variable {nm' q':Str}{D N':Addr}{bs' bm':List IW}{hdct':Bool}{sn':List Str}{sub':List IW}{ab':Bool}{col':Option Bool}{dd':Option Addr}{k0' k1' k2' k3' k5':Option IW}{newId':String}
theorem wA {e:Addr}{oe:Obj}{Q:Bool->IY->Prop}(hC:h.get? C=some (Lu nm q C N bs bm hdct sn sub ab col dd k0 k1 k2 k3 k5 newId))(hD:h.get? D=some (Lu nm' q' D N' bs' bm' hdct' sn' sub' ab' col' dd' k0' k1' k2' k3' k5' newId'))
  (he:h.get? e=some oe) (hcls:oe.cls= .ref C) (hb:bm'.contains (.type "BaseException")=true) (hin:(JD C::bm).contains (.ref D)=true) (hq:Q true ⟨h,g,d,t,os⟩):wpAny M A (excMatches (.ref e) (.ref D)) Q E ⟨h,g,d,t,os⟩:=by
 have hcB:(JD D::bm').contains (.type "BaseException")=true:=by rw[LF,hb,Bool.or_true]
 have f:=tc_notTuple;unfold excMatches
 repeat (first | (with_reducible refine OF he ?_;rw[hcls]) | with_reducible refine OF hD ?_ | (with_reducible refine N1 hD ?_;rw[hcB]) | (with_reducible refine N1 hC ?_;rw[hin]) | wp_step)
 exact hq
end
abbrev CP (X:Cx)(e:Addr)(oe:Obj):Cx:={ X with A:=X.A.mark (some (.ref e)),calm:=false,pn:=(e,oe)::X.pn,xe:=λ_ _=>False }
section
variable {X:Cx}{pins:List (Addr×Obj)}{σ:L2.St}{H:Hp}{s:IY}{e:Addr}{oe:Obj}
theorem vt (I:Inv X pins σ H s)(he:s.heap.get? e=some oe)(hH:H e=none)(hne:e≠X.env.locals)(hf:e∉X.fs)(hc:∀v,oe.data≠ .cell v):Inv (CP X e oe) pins σ H s:=by
 have ok:=I.ok;refine⟨⟨ok.mod,ok.kind,ok.glob,ok.blt,ok.above,ok.inj,ok.has,ok.cab,(λz=>by cases z),?_,ok.stk,ok.exf,ok.bs,ok.bsz,ok.noex,ok.exfs,ok.funs,ok.frf⟩,I.os,I.bare,I.base,I.loc,I.cell,I.free,I.freeC,λp hp=> ?_,I.hok,I.len⟩
 ·exact ok.frames
 ·rcases Jg.mp (show p∈(e,oe)::(X.pn++pins)from hp)with z | z
  ·subst z;exact⟨he,hH,hne,hf,hc⟩
  ·exact I.pin p z
theorem BF (ok:X.Ok)(I:Inv (CP X e oe) pins σ H s):Inv X pins σ H s:=
 ⟨ok,I.os,I.bare,I.base,I.loc,I.cell,I.free,I.freeC,λp hp=>I.pin p (IX _ hp),I.hok,I.len⟩
end
section
variable {X:Cx}
theorem Inv.IE {σ:L2.St}{H:Hp}{s:IY}(pins:List (Addr×Obj))(I:Inv X pins σ H s):Inv { X with pn:=X.pn++pins } [] σ H s:=
 ⟨⟨I.ok.mod,I.ok.kind,I.ok.glob,I.ok.blt,I.ok.above,I.ok.inj,I.ok.has,I.ok.cab,I.ok.hd,I.ok.frames,I.ok.stk,I.ok.exf,I.ok.bs,I.ok.bsz,I.ok.noex,I.ok.exfs,I.ok.funs,I.ok.frf⟩,I.os,I.bare,I.base,I.loc,I.cell,I.free,I.freeC,λp hp=>I.pin p (by rw[JA]at hp;exact hp),I.hok,I.len⟩
theorem Inv.IM {σ:L2.St}{H:Hp}{s:IY}{pins pins1:List (Addr×Obj)}{xe:IW->IY->Prop}(I:Inv { X with pn:=X.pn++pins,xe:=xe } pins1 σ H s):Inv X pins σ H s:=
 ⟨⟨I.ok.mod,I.ok.kind,I.ok.glob,I.ok.blt,I.ok.above,I.ok.inj,I.ok.has,I.ok.cab,I.ok.hd,I.ok.frames,I.ok.stk,I.ok.exf,I.ok.bs,I.ok.bsz,I.ok.noex,I.ok.exfs,I.ok.funs,I.ok.frf⟩,I.os,I.bare,I.base,I.loc,I.cell,I.free,I.freeC,λp hp=>I.pin p (JN _ hp),I.hok,I.len⟩
end
theorem GD {K:IU}{N:Addr}{ob:IW}{oe:Option Addr}{es:Array DictEntry}{n:Nat}{oz:Array (Option IW)}(r:K.lookup N=some ⟨ob,oe,.dict es n,oz⟩)(s:(es.toList.all λe=>xE e.key)=true)
  (u0:Lw K N "__init__" =some none) (u1:Lw K N "__getattribute__" =some none) (u2:Lw K N "__getattr__" =some none) (u3:Lw K N "__class__" =some none) :
  ∀h:Heap,K.In h->∃mN,h.Ns N mN/\∀n∈calmNames,mN n=none:=λh k=>by
 refine⟨nsFind es,⟨_,es,n,k _ _ r,rfl,λe he=> ?_,λ_=>rfl⟩,λx hx=> ?_⟩
 ·have:=JC.mp s e (by simpa using he)
  cases q:e.key <;> rw[q]at this <;> first | exact⟨_,_,rfl⟩ | cases this
 ·have key:∀x,Lw K N x=some none->nsFind es x=none:=λx u=>by
   unfold Lw at u;rw[r]at u;simp only at u
   split at u
   ·cases u
   ·rename_i he
    unfold nsFind findBy;rw[<-N4,he];rfl
  unfold calmNames at hx;simp only[Jg,J9,or_false]at hx;rcases hx with rfl | rfl | rfl | rfl
  ·exact key _ u0
  ·exact key _ u1
  ·exact key _ u2
  ·exact key _ u3
section
variable {K:IU}{nm q:Str}{C N:Addr}{bs:List IW}{hdct:Bool}{sn:List Str}{sub:List IW}{ab:Bool}{col:Option Bool}{dd:Option Addr}{k0 k1 k2 k3 k5:Option IW}
variable {nm' q':Str}{D N':Addr}{bs':List IW}{hdct':Bool}{sn':List Str}{sub':List IW}{ab':Bool}{col':Option Bool}{dd':Option Addr}{k0' k1' k2' k3' k5':Option IW}
theorem Bi (w:K.lookup C=some (Lu nm q C N bs tj hdct sn sub ab col dd k0 k1 k2 k3 k5 "ValueError.__new__"))(ns:∀h:Heap,K.In h->∃mN,h.Ns N mN/\∀n∈calmNames,mN n=none):OX K C tj:=⟨λh k=>by
 obtain⟨mN,h1,h2⟩:=ns h k;exact⟨nm,q,N,bs,hdct,sn,sub,ab,col,dd,k0,k1,k2,k3,k5,mN,k _ _ w,h1,h2,.base⟩⟩
theorem yg (w:K.lookup C=some (Lu nm q C N bs (.ref D::tj) hdct sn sub ab col dd k0 k1 k2 k3 k5 "ValueError.__new__"))(ns:∀h:Heap,K.In h->∃mN,h.Ns N mN/\∀n∈calmNames,mN n=none)
  (wD:K.lookup D=some (Lu nm' q' D N' bs' tj hdct' sn' sub' ab' col' dd' k0' k1' k2' k3' k5' "ValueError.__new__")) (nsD:∀h:Heap,K.In h->∃mN,h.Ns N' mN/\∀n∈calmNames,mN n=none):OX K C (.ref D::tj):=⟨λh k=>by
 obtain⟨mN,h1,h2⟩:=ns h k;obtain⟨mD,d1,d2⟩:=nsD h k;exact⟨nm,q,N,bs,hdct,sn,sub,ab,col,dd,k0,k1,k2,k3,k5,mN,k _ _ w,h1,h2,.own (k _ _ wD) d1 d2 .base⟩⟩
end
end Tr
namespace L2
open PySem PySem.Spec PyProof.Rows
section
variable {κ:Type}[DecidableEq κ]
def jk (kvs:List (κ×V))(k:κ):Option V:=(kvs.find? λkv=>decide (kv.1=k)).map (·.2)
def dE (kvs:List (κ×V))(k:κ)(v:V):List (κ×V):=
 if (kvs.any λkv=>decide (kv.1=k))=true then kvs.map (λkv=>if kv.1=k then(kv.1,v)else kv)else kvs++ [(k,v)]
theorem xt {k:κ}:jk ([]:List (κ×V)) k=none:=rfl
theorem jJ {p:κ×V}{r:List (κ×V)}{k:κ}(e:p.1=k):jk (p::r) k=some p.2:=by simp[jk,KG,e]
theorem jK {p:κ×V}{r:List (κ×V)}{k:κ}(e:¬ p.1=k):jk (p::r) k=jk r k:=by simp[jk,KG,e]
theorem rj (k:κ):∀kvs:List (κ×V),(kvs.any λkv=>decide (kv.1=k))=(jk kvs k).isSome
 | [] =>rfl
 | p::r=>by
  rw[Lb]
  by_cases e:p.1=k
  ·simp only[jJ e,decide_eq_true e,Bool.true_or,N6]
  ·rw[jK e,decide_eq_false e,N7];exact rj k r
theorem fN (kvs:List (κ×V))(k:κ)(v:V):(dE kvs k v).length<=kvs.length+1:=by
 unfold dE;split
 ·rw[Jd];omega
 ·rw[Jc,Jb,Pl];omega
theorem RelO.Ip {o:Option V}{u:Option IW}(r:RelO o u):o.isSome=u.isSome:=by
 cases o with
 | none=>cases u with
  | none=>rfl
  | some _=>exact(show False from r).elim
 | some _=>cases u with
  | none=>exact(show False from r).elim
  | some _=>rfl
theorem RelO.getD {o:Option V}{u:Option IW}{d:V}{d':IW}(r:RelO o u)(rd:RelV d d'):RelV (o.getD d) (u.getD d'):=by
 cases o with
 | none=>cases u with
  | none=>exact rd
  | some _=>exact(show False from r).elim
 | some _=>cases u with
  | none=>exact(show False from r).elim
  | some _=>exact r
theorem KV.val {kvs:List (κ×V)}{vs:List (κ×IW)}(r:KV kvs vs)(k:κ):RelO (jk kvs k) (valueAt vs k):=by
 unfold KV at r
 induction r with
 | nil=>exact KZ
 | @cons p q ps qs h t ih=>
  obtain⟨h1,h2⟩:=h
  by_cases e:p.1=k
  ·have e':q.1=k:=h1.symm.trans e
   have b:valueAt (q::qs) k=some q.2:=by simp[valueAt,KG,e']
   rw[jJ e,b];exact h2
  ·have e':¬ q.1=k:=λz=>e (h1.trans z)
   have b:valueAt (q::qs) k=valueAt qs k:=by simp[valueAt,KG,e']
   rw[jK e,b];exact ih
theorem KV.any {kvs:List (κ×V)}{vs:List (κ×IW)}(r:KV kvs vs)(k:κ):(kvs.any λkv=>decide (kv.1=k))=vs.any λkv=>decide (kv.1=k):=by
 unfold KV at r
 induction r with
 | nil=>rfl
 | cons h t ih=>rw[Lb,Lb,ih,h.1]
theorem KV.Iz {kvs:List (κ×V)}{vs:List (κ×IW)}(r:KV kvs vs)(k:κ){y:V}{u:IW}(ry:RelV y u) :
  KV (kvs.map λkv=>if kv.1=k then(kv.1,y)else kv) (vs.map λkv=>if kv.1=k then(kv.1,u)else kv):=by
 unfold KV at r ⊢
 induction r with
 | nil=>exact .nil
 | @cons p q ps qs h t ih=>
  rw[IZ,IZ];refine .cons ?_ ih
  obtain⟨h1,h2⟩:=h
  by_cases e:p.1=k
  ·rw[if_pos e,if_pos (h1.symm.trans e)];exact⟨h1,ry⟩
  ·rw[if_neg e,if_neg (λz=>e (h1.trans z))];exact⟨h1,h2⟩
theorem KV.put {kvs:List (κ×V)}{vs:List (κ×IW)}(r:KV kvs vs)(k:κ){y:V}{u:IW}(ry:RelV y u):KV (dE kvs k y) (stored vs k u):=by
 unfold dE stored;rw[r.any k]
 by_cases e:(vs.any λkv=>decide (kv.1=k))=true
 ·rw[if_pos e,if_pos e];exact r.Iz k ry
 ·rw[if_neg e,if_neg e];exact Paired.snoc r ⟨rfl,ry⟩
theorem KV.length {kvs:List (κ×V)}{vs:List (κ×IW)}(r:KV kvs vs):kvs.length=vs.length:=MV r
end
theorem vo {P:JB}{w:JY}{k:Key}{u:IW}(r:RelV (kV k) u):(cm P w).is k u=true:=by
 cases k with
 | inl i=>obtain⟨t,e⟩:=(show ∃t,u=Km i t from r);subst e;exact sh P w i t
 | inr x=>obtain⟨t,e⟩:=(show ∃t,u=Kn x t from r);subst e;exact sg P w x t
theorem o7 {P:JB}{w:JY}:∀{ks:List Key} {us:List IW},Vals (ks.map kV) us->ItemsAre (cm P w) ks us
 | [],_,r=>by rw[Nj]at r;cases r;exact .nil
 | k::ks,_,r=>by
  rw[IZ]at r
  cases r with
  | cons h t=>exact .cons (vo h) (o7 t)
abbrev KT (H:Hp):List (List Key×V)->List (List Key×Addr×IW)->Prop:=Px λp q=>p.1=q.1/\H q.2.1=some (.tup (p.1.map kV))/\RelV p.2 q.2.2
theorem KT.val {H:Hp}{kvs:List (List Key×V)}{xs:List (List Key×Addr×IW)}(r:KT H kvs xs)(k:List Key):RelO (jk kvs k) ((atKey xs k).map (·.2)):=by
 induction r with
 | nil=>exact KZ
 | @cons p q ps qs h t ih=>
  obtain⟨h1,_,h2⟩:=h
  by_cases e:p.1=k
  ·have e':q.1=k:=h1.symm.trans e
   have b:atKey (q::qs) k=some q.2:=by simp[atKey,KG,e']
   rw[jJ e,b];exact h2
  ·have e':¬ q.1=k:=λz=>e (h1.trans z)
   have b:atKey (q::qs) k=atKey qs k:=by simp[atKey,KG,e']
   rw[jK e,b];exact ih
theorem KT.Iz {H:Hp}{kvs:List (List Key×V)}{xs:List (List Key×Addr×IW)}(r:KT H kvs xs)(k:List Key){y:V}{u:IW}(ry:RelV y u) :
  KT H (kvs.map λkv=>if kv.1=k then(kv.1,y)else kv) (xs.map (putAt k u)):=by
 induction r with
 | nil=>exact .nil
 | @cons p q ps qs h t ih=>
  rw[IZ,IZ];refine .cons ?_ ih
  obtain⟨h1,h2,h3⟩:=h;unfold putAt
  by_cases e:p.1=k
  ·rw[if_pos e,if_pos (h1.symm.trans e)];exact⟨h1,h2,ry⟩
  ·rw[if_neg e,if_neg (λz=>e (h1.trans z))];exact⟨h1,h2,h3⟩
theorem KT.put {H:Hp}{kvs:List (List Key×V)}{xs:List (List Key×Addr×IW)}(r:KT H kvs xs)(k:List Key){b:Addr}{y:V}{u:IW}(hb:H b=some (.tup (k.map kV)))(ry:RelV y u) :
  KT H (dE kvs k y) (storedH xs k b u):=by
 have e:(kvs.any λkv=>decide (kv.1=k))=(atKey xs k).isSome:=by
  rw[rj,(r.val k).Ip,Option.isSome_map]
 unfold dE storedH;rw[e]
 by_cases q:(atKey xs k).isSome=true
 ·rw[if_pos q,if_pos q];exact r.Iz k ry
 ·rw[if_neg q,if_neg q];exact Paired.snoc r ⟨rfl,hb,ry⟩
theorem KT.keeps {H H':Hp}{kvs:List (List Key×V)}{xs:List (List Key×Addr×IW)}(r:KT H kvs xs)(ht:∀b ys,H b=some (.tup ys)->H' b=some (.tup ys)):KT H' kvs xs:=
 Paired.IB r λ_ _ z=>⟨z.1,ht _ _ z.2.1,z.2.2⟩
section
variable {P:JB}{w:JY}{H:Hp}{h:Heap}{a:Addr}
theorem jW {u:HO}(ok:HOk P w H h)(e:Rd H a u):ObjOk P w H h a u:=e.ok ok
theorem sR {kvs:List (Key×V)}(ok:HOk P w H h)(e:Rd H a (.dK kvs)):kvs.length<=sizeLine/\(a == Lj)=false/\∃vs,KV kvs vs/\h.DictOf (cm P w) a vs:=
 show ObjOk P w H h a (.dK kvs)from jW ok e
theorem Hr {kvs:List (Key×V)}(ok:HOk P w H h)(e:H a=some (.dK kvs)):kvs.length<=sizeLine/\(a == Lj)=false/\∃vs,KV kvs vs/\h.DictOf (cm P w) a vs:=sR ok (.inl e)
theorem ni {ks:List Key}(ok:HOk P w H h)(e:H a=some (.tup (ks.map kV))):(MQ (cm P w)).is h ks a:=by
 obtain⟨_,its,r,o,h1,h2,n,h3⟩:=(show ObjOk P w H h a (.tup (ks.map kV))from ok a _ e)
 exact⟨o,its.toArray,n,h1,h2,h3,by simpa using o7 r⟩
theorem sP {kvs:List (List Key×V)}(ok:HOk P w H h)(e:Rd H a (.dT kvs)):kvs.length<=sizeLine/\(a == Lj)=false ∧
  ∃xs,KT H kvs xs/\h.DictOfH (MQ (cm P w)) a xs:=by
 obtain⟨z,y,xs,r,o,es,ep,h1,h2,h3,h4,h5⟩:=(show ObjOk P w H h a (.dT kvs)from jW ok e)
 refine⟨z,y,xs,r,o,es,ep,h1,h2,h3,h4,λx hx=> ?_,h5⟩
 have all:∀{l:List (List Key×V)} {m:List (List Key×Addr×IW)},KT H l m->∀x∈m,(MQ (cm P w)).is h x.1 x.2.1:=by
  intro l m q
  induction q with
  | nil=>intro x hx;exact nomatch hx
  | @cons p q ps qs hq t ih=>
   intro x hx;rcases Jg.mp hx with e | hx
   ·subst e
    exact ni ok (by rw[<-hq.1];exact hq.2.1)
   ·exact ih x hx
 exact all r x hx
theorem zF {kvs:List (List Key×V)}(ok:HOk P w H h)(e:H a=some (.dT kvs)):kvs.length<=sizeLine/\(a == Lj)=false ∧
  ∃xs,KT H kvs xs/\h.DictOfH (MQ (cm P w)) a xs:=sP ok (.inl e)
end
def DGet (H:Hp)(a:Addr)(y:V)(r:Option V):Prop:=
 (∃kvs k,Rd H a (.dK kvs)/\y=kV k/\r=jk kvs k)\/∃kvs k b,Rd H a (.dT kvs)/\y= .ref b/\H b=some (.tup (k.map kV))/\r=jk kvs k
def DPut (H:Hp)(a:Addr)(y v:V)(H':Hp):Prop:=
 (∃kvs k,H a=some (.dK kvs)/\y=kV k/\kvs.length<sizeLine/\H'=upd H a (.dK (dE kvs k v))) ∨
 ∃kvs k b,H a=some (.dT kvs)/\y= .ref b/\H b=some (.tup (k.map kV))/\kvs.length<sizeLine/\H'=upd H a (.dT (dE kvs k v))
theorem DPut.t {H:Hp}{a b:Addr}{kvs:List (List Key×V)}{k:List Key}{v:V}(e:H a=some (.dT kvs))(eb:H b=some (.tup (k.map kV)))(hl:kvs.length<sizeLine) :
  DPut H a (.ref b) v (upd H a (.dT (dE kvs k v))):=.inr ⟨kvs,k,b,e,rfl,eb,hl,rfl⟩
section
variable {X:Cx}{pins:List (Addr×Obj)}{σ:St}{H:Hp}{s:IY}{a:Addr}{y v:V}{u r:IW}{o:Option V}{A:JK}{E:IW->IY->Prop}
theorem Inv.big (I:Inv X pins σ H s):Lj<s.heap.objs.size:=by
 have h:JG<s.heap.objs.size:=(I.mod.glob.keeps I.bk).lt;exact Nat.lt_trans (by decide) h
theorem wZ {Q:IW->IY->Prop}(hu:A.units+1<cLine)(I:Inv X pins σ H s)(g:DGet H a y (some v))(ry:RelV y u)(h:∀w' s',Inv X pins σ H s'->RelV v w'->Q w' s') :
  wpAny (model X.prog X.w) A (getItem (.ref a) u) Q E s:=by
 rcases g with⟨kvs,k,e,ey,l⟩ | ⟨kvs,k,b,e,ey,eb,l⟩
 ·subst ey
  obtain⟨z,hd,vs,rel,dd⟩:=sR I.hok e;obtain⟨w',hw,rw'⟩:=RelO.some_of (v:=v) (o:=valueAt vs k) (by rw[l];exact rel.val k)
  exact wpAny_getItem_of (vo ry) dd.mapOf hw (h w' _ (I.tok _) rw')
 ·subst ey
  cases (show u=JD b from ry)
  obtain⟨z,hd,xs,rel,dd⟩:=sP I.hok e;obtain⟨w',hw,rw'⟩:=RelO.some_of (v:=v) (o:=(atKey xs k).map (·.2)) (by rw[l];exact rel.val k)
  obtain⟨p,hp,hp2⟩:=Na.mp hw;refine wpAny_getItem_heap (LL hu) (ni I.hok eb) dd hp ?_
  rw[hp2];exact h w' _ (I.tok _) rw'
theorem qO {h':Heap}{t':Nat}{ob:HO}(I:Inv X pins σ H s)(mu:Hw (H a))(hs:L1 a s.heap h')(he:∃q,h'.get? a=some q)(new:ObjOk X.prog X.w (upd H a ob) h' a ob) :
  Inv X pins σ (upd H a ob) { s with heap:=h',toks:=t' }:=
 I.write (x:=a) (e:=a) mu (.inl rfl) (λb q hb z=>(hs.2 b hb).trans z) he new
theorem Fg {P:JB}{w:JY}{H':Hp}{h':Heap}{kvs:List (Key×V)}{vs:List (Key×IW)}(z:kvs.length<=sizeLine)(hd:(a == Lj)=false)(rel:KV kvs vs)(dd:h'.DictOf (cm P w) a vs) :
  ObjOk P w H' h' a (.dK kvs):=⟨z,hd,vs,rel,dd⟩
theorem wY {H':Hp}{Q:Unit->IY->Prop}(hu:A.units+1<cLine)(I:Inv X pins σ H s)(g:DPut H a y v H')(ry:RelV y u)(rv:RelV v r)(h:∀s',Inv X pins σ H' s'->Q () s') :
  wpAny (model X.prog X.w) A (setItem (.ref a) u r) Q E s:=by
 rcases g with⟨kvs,k,e,ey,l,eH⟩ | ⟨kvs,k,b,e,ey,eb,l,eH⟩
 ·subst ey eH
  obtain⟨z,hd,vs,rel,dd⟩:=Hr I.hok e
  have hz:vs.length<=sizeLine:=by rw[<-rel.length];exact z
  have hl:(dE kvs k v).length<=sizeLine:=by have:=fN kvs k v;omega
  refine wpAny_setItem_pairs (hsz:=hz) (vo ry) dd λh' dd' hs=>h _ ?_
  have he:∃q,h'.get? a=some q:=let ⟨q,_,_,hq,_⟩:=dd';⟨q,hq⟩
  exact qO I (by rw[e];exact KZ) hs he (Fg hl hd (rel.put k rv) dd')
 ·subst ey eH
  cases (show u=JD b from ry)
  obtain⟨z,hd,xs,rel,dd⟩:=zF I.hok e
  have hz:xs.length<=sizeLine:=by rw[<-MV rel];exact z
  have hl:(dE kvs k v).length<=sizeLine:=by have:=fN kvs k v;omega
  refine wpAny_setItem_heap (hsz:=hz) (LL hu) (ni I.hok eb) dd λh' dd' hs=>h _ ?_
  obtain⟨q,es,ep,hq,h2,h3,h4,_,h5⟩:=dd';refine qO I (by rw[e];exact KZ) hs ⟨q,hq⟩ ⟨hl,hd,_,(rel.put k eb rv).keeps λc ys ec=> ?_,q,es,ep,hq,h2,h3,h4,h5⟩
  rw[aE (mZ ec e (λz=>nomatch z))]
  exact ec
end
def Cm (i:Expr):Prop:=∀ov iv,N0 i false ov iv=operate [ov,iv] (getItem ov iv)
theorem Az {prog:JB}{w:JY}{A:JK}{E:IW->IY->Prop}{s:IY}{env:Env}{value slice:Expr}{pos:Pos}{T id:String}{Q:IW->IY->Prop}
  (hl:OA (.type T) "__getitem__" =pure (some (.builtin id))) (hs:Cm slice)
  (h:wpAny (model prog w) A (eval value env) (λo s₁=>wpAny (model prog w) A (eval slice env) (λi s₂=>s₂.TypeIs o T/\wpAny (model prog w) A (getItem o i) Q E s₂) E s₁) E s) :
  wpAny (model prog w) A (eval (.Subscript value slice pos) env) Q E s:=by
 refine Subscript_ (KN h (λo s₁ h₁=>KN h₁ (λi s₂ h₂=> ?_) λ_ _ x=>x) λ_ _ x=>x)
 obtain⟨hT,h₂⟩:=h₂;unfold Om;refine Ja ?_
 rw[getitemInPython_of_ne hT.not_modules];refine Ja (wpAny_specialOf hT hl ?_)
 have fin:wpAny (model prog w) A (N0 slice false o i) (λr s₃=>wpAny (model prog w) A (letTemporaryGo value o r >>= λ_=>pure r) Q E s₃) E s₂:=by
  rw[hs o i];exact wpAny_operating (KN h₂ (λr s₃ h₃=>Ja (wpAny_letTemporaryGo (Jl h₃))) λ_ _ x=>x)
 first
  | exact Jl (Ja fin)
  | exact Ja (Jl (Ja fin))
  | exact Ja fin
theorem sT {X:Cx}{pins:List (Addr×Obj)}{σ:St}{H:Hp}{s:IY}{a:Addr}{y:V}{o:Option V}(I:Inv X pins σ H s)(g:DGet H a y o):s.TypeIs (.ref a) "dict":=by
 rcases g with⟨kvs,k,e,_,_⟩ | ⟨kvs,k,b,e,_,_,_⟩
 ·obtain⟨_,_,vs,_,dd⟩:=sR I.hok e
  exact dd.typeIs
 ·obtain⟨_,_,xs,_,dd⟩:=sP I.hok e
  exact dd.typeIs
def FR (td ty:TE):TE:=λσ H Q=>td σ H λx H1=>ty σ H1 λy H2=> ∃a v,x= .ref a/\DGet H2 a y (some v)/\Q v H2
def FX (td ty tv:TE):TS:=λD σ H=>tv σ H λv H1=>td σ H1 λx H2=>ty σ H2 λy H3=> ∃a H4,x= .ref a/\DPut H3 a y v H4/\D.nx σ H4
section
variable {X:Cx}{o i e value:Expr}{pos pos' tpos:Pos}{td ty tv:TE}
theorem Bf (hu:X.A.units+1<cLine)(ho:PE X o td)(hi:PE X i ty)(hs:Cm i):PE X (.Subscript o i pos) (FR td ty):=by
 intro pins s σ H Q I h;refine Az PySem.F.slot_dict_getitem.lookup hs (bR (ho pins s σ H _ I h) λu s1 ⟨x,H1,I1,rx,q1⟩=>bR (hi pins s1 σ H1 _ I1 q1) λiv s2 hh_=> ?_)
 obtain⟨y,H2,I2,ry,a,v,ex,g,q2⟩:=hh_;subst ex;obtain rfl:u=JD a:=rx;exact⟨sT I2 g,wZ hu I2 g ry λw' s3 I3 rw'=>⟨v,H2,I3,rw',q2⟩⟩
theorem A6 (hu:X.A.units+1<cLine)(ho:PE X o td)(hi:PE X i ty)(hv:PE X value tv)(hs:JU value (some (.Subscript o i pos')) pos.line X.env=pure false) :
  PS X (.Assign [.Subscript o i pos'] value pos) (FX td ty tv):=by
 intro pins s σ H D I h;refine wpAny_Assign_Subscript (bR (hv pins s σ H _ I h) λr s1 ⟨v,H1,I1,rv,q1⟩=>bR (ho pins s1 σ H1 _ I1 q1) λu s2 ⟨x,H2,I2,rx,q2⟩=>bR (hi pins s2 σ H2 _ I2 q2) λiv s3 ⟨y,H3,I3,ry,a,H4,ex,g,q3⟩=> ?_) hs
 subst ex;obtain rfl:u=JD a:=rx;exact wY hu I3 g ry rv λs4 I4=>⟨σ,H4,I4,q3⟩
end
theorem zG {P:JB}{w:JY}{H:Hp}(h:Heap)(hb:Lj<h.objs.size):ObjOk P w H (h.push { cls:=.type "dict",data:=.dict #[] }) h.objs.size (.dT []):=
 ⟨KS _,beq_eq_false_iff_ne.mpr (Ls (Kb hb)),[],.nil,_,#[],0,Jq _ rfl,⟨rfl,rfl,rfl⟩,rfl,rfl,LW⟩
structure M1 (X:Cx)(o:Expr)(m:Str)(apos:Pos)(e:Expr)(cpos:Pos):Prop where
 base:JM o m X.env (eval o X.env)=eval o X.env
 few:((backTo cpos (Jo [e] X.env)).all (λx=> !x.1)&&(NL cpos (LV [] X.env)).all (λx=>x.1.isSome)
  &&decide (([e]:List Expr).length+([]:List Pr).length+(if ([]:List Pr).isEmpty then 0 else 1)<30))=true
 line:(apos.endLine == cpos.line)=true
 trees:backTo cpos (Jo [e] X.env)= [(false,eval e X.env)]
structure M2 (X:Cx)(o:Expr)(m:Str)(apos:Pos)(e f:Expr)(cpos:Pos):Prop where
 base:JM o m X.env (eval o X.env)=eval o X.env
 few:((backTo cpos (Jo [e,f] X.env)).all (λx=> !x.1)&&(NL cpos (LV [] X.env)).all (λx=>x.1.isSome)
  &&decide (([e,f]:List Expr).length+([]:List Pr).length+(if ([]:List Pr).isEmpty then 0 else 1)<30))=true
 line:(apos.endLine == cpos.line)=true
 trees:backTo cpos (Jo [e,f] X.env)= [(false,eval e X.env),(false,eval f X.env)]
def IsD (H:Hp)(a:Addr):Prop:=(∃kvs,Rd H a (.dK kvs))\/∃kvs,Rd H a (.dT kvs)
theorem EV {X:Cx}{pins:List (Addr×Obj)}{σ:St}{H:Hp}{s:IY}{a:Addr}(I:Inv X pins σ H s)(d:IsD H a) :
  s.TypeIs (.ref a) "dict"/\(∀b,JD a= .ref b->∃ob,s.heap.get? b=some ob/\ob.dict=none)/\(a == Lj)=false:=by
 rcases d with⟨kvs,e⟩ | ⟨kvs,e⟩
 ·obtain⟨_,hd,vs,_,dd⟩:=sR I.hok e
  refine⟨dd.typeIs,λb q=> ?_,hd⟩
  cases q;obtain⟨ob,_,_,h1,h2,_⟩:=dd;exact⟨ob,h1,h2.2.1⟩
 ·obtain⟨_,hd,xs,_,dd⟩:=sP I.hok e
  refine⟨dd.typeIs,λb q=> ?_,hd⟩
  cases q;obtain⟨ob,_,_,h1,h2,_⟩:=dd;exact⟨ob,h1,h2.2.1⟩
section
variable {X:Cx}{pins:List (Addr×Obj)}{σ:St}{H:Hp}{s:IY}{a:Addr}{y d:V}{u r:IW}{o:Option V}{A:JK}{E:IW->IY->Prop}
theorem Fi {Q:IW->IY->Prop}(hu:A.units+1<cLine)(I:Inv X pins σ H s)(g:DGet H a y o)(ry:RelV y u)(h:∀w' s',Inv X pins σ H s'->RelV (o.getD .non) w'->Q w' s') :
  wpAny (model X.prog X.w) A (call (.builtin "dict.get") [.ref a,u]) Q E s:=by
 rcases g with⟨kvs,k,e,ey,l⟩ | ⟨kvs,k,b,e,ey,eb,l⟩
 ·subst ey
  obtain⟨z,hd,vs,rel,dd⟩:=sR I.hok e;refine call_meetsIn L0 dd.typeIs M9 (MS _ _) (meets_dict_get (cm X.prog X.w) a (vo ry) hd) ⟨_,dd.mapOf,h _ _ (I.tok _) ?_⟩
  rw[l];exact(rel.val k).getD rfl
 ·subst ey
  cases (show u=JD b from ry)
  obtain⟨z,hd,xs,rel,dd⟩:=sP I.hok e;refine call_meetsIn L0 dd.typeIs M9 (MS _ _) (meetsH_dict_get (MQ (cm X.prog X.w)) a b hd) ⟨LL hu,k,xs,ni I.hok eb,dd,h _ _ (I.tok _) ?_⟩
  rw[l];exact(rel.val k).getD rfl
end
def Dl (td ty:TE):TE:=λσ H Q=>td σ H λx H1=> ∃a,x= .ref a/\IsD H1 a/\ty σ H1 λy H2=> ∃o,DGet H2 a y o/\Q (o.getD .non) H2
section
variable {X:Cx}{o e f:Expr}{apos cpos:Pos}{td ty tx:TE}
theorem yd (hu:X.A.units+1<cLine)(ho:PE X o td)(he:PE X e ty)(m:M1 X o "get" apos e cpos):PE X (.Call (.Attribute o "get" apos) [e] [] cpos) (Dl td ty):=by
 intro pins s σ H Q I h;refine wpAny_Call_method m.base m.few m.line PySem.F.plainAttrs_dict L0 PySem.F.type_dict_get (bR (ho pins s σ H _ I h) λu s1 hh_=> ?_)
 obtain⟨x,H1,I1,rx,a,ex,d,q1⟩:=hh_;subst ex;obtain rfl:u=JD a:=rx;obtain⟨t1,t2,_⟩:=EV I1 d;refine⟨t1,t2,?_⟩
 rw[m.trees];refine LN rfl (Ll (LA (bR (he pins s1 σ H1 _ I1 q1) λiv s2 ⟨y,H2,I2,ry,ov,g,q2⟩=>LR ?_)))
 exact Fi hu I2 g ry λw' s3 I3 rw'=>⟨_,H2,I3,rw',q2⟩
end
end L2
namespace Tr
open PySem PySem.Spec PyProof.Rows L2
theorem DGet.IG {H:Hp}{a b:Addr}{kvs:List (List Key×V)}{k:List Key}(e:Rd H a (.dT kvs))(eb:H b=some (.tup (k.map kV))):DGet H a (.ref b) (jk kvs k):=.inr ⟨kvs,k,b,e,rfl,eb,rfl⟩
theorem HI {k:Nat}{A:JK}(h:Room k A):A.units+1<cLine:=by have:=h.un;omega
theorem nj {K:IU}{O:Ow}{H:Hp}:∀{l:List T} {vs:List V} {k:List Key},nq l=some k->Reps K O H l vs->vs=k.map kV
 | [],vs,k,h,r=>by cases Reps.AC.mp r;cases h;rfl
 | t::l,vs,k,h,r=>by
  obtain⟨v,ws,rfl,p,q⟩:=Reps.me.mp r;unfold nq at h
  cases e1:CA t with
  | none=>rw[e1]at h;cases h
  | some a=>
   cases e2:nq l with
   | none=>rw[e1,e2]at h;cases h
   | some b=>
    rw[e1,e2]at h;cases h;rw[nj e2 q,IZ]
    congr 1
    cases t with
    | int i=>cases e1;exact Rep.Da.mp p
    | str x=>cases e1;exact Rep.Gc.mp p
    | _=>cases e1
theorem lT {K:IU}{O:Ow}{H:Hp}{y:T}{v:V}{k:List Key}(h:keyOf y=some k)(r:Rep K O H y v):∃b,v= .ref b/\H b=some (.tup (k.map kV)):=by
 cases y with
 | tup l=>
  obtain⟨a,vs,e1,_,e3,e4⟩:=Rep.Fk.mp r;rw[nj h e4]at e3
  exact⟨a,e1,e3⟩
 | _=>cases h
theorem nG {K:IU}{O:Ow}{H:Hp}{k:List Key}:∀{ks ts:List T} {kvs:List (List Key×V)},ks.map keyOf=kvs.map (λp=>some p.1)->Reps K O H ts (kvs.map (·.2))->match oB ks ts k with
  | some t=> ∃v,jk kvs k=some v/\Rep K O H t v
  | none=>jk kvs k=none
 | [],ts,kvs,h,r=>by
  cases kvs with
  | nil=>unfold oB;exact xt
  | cons _ _=>cases h
 | k'::ks,ts,kvs,h,r=>by
  cases kvs with
  | nil=>cases h
  | cons p kvs=>
   rw[IZ,IZ]at h;injection h with h1 h2
   rw[IZ]at r
   cases ts with
   | nil=>have:=Reps.AC.mp r;cases this
   | cons t ts=>
    obtain⟨v,ws,e,q1,q2⟩:=Reps.me.mp r;injection e with e1 e2
    subst e1 e2;unfold oB
    by_cases hk:keyOf k'=some k
    ·rw[if_pos hk]
     rw[h1]at hk;injection hk with hk
     exact⟨_,jJ hk,q1⟩
    ·rw[if_neg hk]
     have hk2:¬ p.1=k:=λz=>hk (by rw[h1,z])
     rw[jK hk2];exact nG h2 q2
theorem pX {κ:Type}[DecidableEq κ]{k:κ}{p:κ×V}{r:List (κ×V)}{v:V}(h:¬ p.1=k):dE (p::r) k v=p::dE r k v:=by
 unfold dE;rw[Lb,decide_eq_false h,N7]
 by_cases q:(r.any λkv=>decide (kv.1=k))=true
 ·rw[if_pos q,if_pos q,IZ,if_neg h]
 ·rw[if_neg q,if_neg q];rfl
theorem pY {κ:Type}[DecidableEq κ]{k:κ}{p:κ×V}{r:List (κ×V)}{v:V}(h:p.1=k)(hn:∀q∈r,q.1≠k):dE (p::r) k v=(p.1,v)::r:=by
 unfold dE;rw[Lb,decide_eq_true h,Bool.true_or,if_pos rfl,IZ,if_pos h]
 congr 1
 conv=>rhs;rw[<-List.map_id r]
 exact Lc λq hq=>if_neg (hn q hq)
theorem nE {K:IU}{O:Ow}{H:Hp}{kT vT:T}{k:List Key}{v:V}(hk:keyOf kT=some k)(hv:Rep K O H vT v):∀{ks ts:List T} {kvs:List (List Key×V)},ks.map keyOf=kvs.map (λp=>some p.1)->Reps K O H ts (kvs.map (·.2))->(kvs.map (·.1)).Nodup →
  (gB kT vT ks ts).1.map keyOf=(dE kvs k v).map (λp=>some p.1)/\Reps K O H (gB kT vT ks ts).2 ((dE kvs k v).map (·.2))
 | [],ts,kvs,h,r,_=>by
  cases kvs with
  | nil=>
   unfold gB;refine⟨?_,Reps.FS hv Reps.GM⟩
   simp[dE,hk]
  | cons _ _=>cases h
 | k'::ks,ts,kvs,h,r,hn=>by
  cases kvs with
  | nil=>cases h
  | cons p kvs=>
   rw[IZ,IZ]at h;injection h with h1 h2
   rw[IZ]at r;rw[IZ]at hn;obtain⟨n1,n2⟩:=JH.mp hn
   cases ts with
   | nil=>have:=Reps.AC.mp r;cases this
   | cons t ts=>
    obtain⟨v',ws,e,q1,q2⟩:=Reps.me.mp r;injection e with e1 e2
    subst e1 e2;unfold gB
    by_cases hz:keyOf k'=keyOf kT
    ·rw[if_pos hz]
     have hp:p.1=k:=by rw[hz,hk]at h1;injection h1 with h1;exact h1.symm
     rw[pY hp λq hq z=>n1 (by rw[hp,<-z];exact List.mem_map_of_mem hq)]
     exact⟨by rw[IZ,IZ,h1,h2],Reps.FS hv q2⟩
    ·rw[if_neg hz]
     have hp:¬ p.1=k:=λz=>hz (by rw[h1,z,hk])
     obtain⟨a1,a2⟩:=nE hk hv h2 q2 n2;rw[pX hp];exact⟨by rw[IZ,IZ,h1,a1],Reps.FS q1 a2⟩
theorem Cn {H:Hp}{kvs:List (List Key×V)}{xs:List (List Key×Addr×IW)}(rel:KT H kvs xs):kvs.map (·.1)=xs.map (·.1):=by
 induction rel with
 | nil=>rfl
 | cons h t ih=>rw[IZ,IZ,ih,h.1]
theorem zJ {X:Cx}{pins:List (Addr×Obj)}{σ:L2.St}{H:Hp}{s:IY}{a:Addr}{kvs:List (List Key×V)}(I:Inv X pins σ H s)(e:H a=some (.dT kvs)):(kvs.map (·.1)).Nodup/\kvs.length<=sizeLine:=by
 obtain⟨z,_,xs,rel,_,_,_,_,_,_,_,_,hn⟩:=zF I.hok e;rw[Cn rel];exact⟨hn,z⟩
section
variable {X:Cx}{a b:Expr}{fa fb:En->Rs T}{pos:Pos}
theorem Gk (hu:X.A.units+1<cLine)(ha:cj X a fa)(hb:cj X b fb)(hs:Cm b:=by intro _ _;rfl):cj X (.Subscript a b pos) (o2 sS fa fb):=by
 refine PE.imp (Bf hu ha hb hs) λσ H Q ⟨Z,O,E,hq⟩=> ?_
 obtain⟨Z1,O1,E1,h1⟩:=aZ E hq;refine⟨Z1,O1,E1,Post.mono h1 λt H1 s1 q v r=> ?_⟩
 obtain⟨t',r',s',E',q'⟩:=q v r;obtain⟨Z2,O2,E2,h2⟩:=aZ (f:=fb) E' q';refine⟨Z2,O2,E2,Post.mono h2 λt2 H2 s2 q2 v2 r2=> ?_⟩
 obtain⟨t2',r2',s2',E2',q2'⟩:=q2 v2 r2
 have r'':=r'.same s2';unfold sS at q2'
 split at q2'
 ·rename_i ks vs k hk
  split at q2'
  ·rename_i x hx
   obtain⟨a,kvs,e1,e2,e3,e4,e5⟩:=Rep.HR.mp r'';obtain⟨b,f1,f2⟩:=lT hk r2'
   have g:=nG (k:=k) e4 e5;rw[hx]at g;obtain⟨w,g1,g2⟩:=g;exact⟨a,w,e1,by rw[f1,<-g1];exact DGet.IG e3 f2,q2' H2 (Same.refl H2) w g2⟩
  ·exact q2'.elim
 ·exact q2'.elim
end
end Tr
namespace Tr
open PySem PySem.Spec PyProof.Rows L2
open PySem.SeqAt
theorem yz {A:JK}{s:IY}{x:T}{ux:IW}(rx:ReV s x ux)(hu:A.units+60<cLine){l:List T}{us:List IW}(hd:x.dep<=60\/deps l<=60)(r:ReVs s l us) :
  ∃e:IW->Bool,(∀y∈us,EqAt A s y ux (e y))/\us.map e=l.map λt=>aV t x:=by
 classical
 have ex:∀y∈us,∃t∈l,ReV s t y:=λy hy=>by
  obtain⟨i,hi,rfl⟩:=La hy
  have hl:=r.length
  have e1:l[i]? =some l[i]:=by simp
  obtain⟨u,q1,q2⟩:=r.get e1
  have:us[i]? =some us[i]:=by simp
  rw[this]at q1;cases q1;exact⟨l[i],KM _,q2⟩
 let e:IW->Bool:=λy=>decide (∃t∈l,ReV s t y/\aV t x=true)
 have dep:∀t∈l,t.dep<=60\/x.dep<=60:=λt ht=>by
  rcases hd with h | h
  ·exact .inr h
  ·obtain⟨i,hi,rfl⟩:=La ht
   exact .inl (JV (ix (i:=i) (by simp)) h)
 have uniq:∀y t t',ReV s t y->ReV s t' y->aV t x=aV t' x:=λy t t' z z'=>by
  rw[<-ke t,<-ke t',ReV.nf z z']
 have agree:∀y t,t∈l->ReV s t y->e y=aV t x:=λy t h z=>by
  show decide (∃t∈l,ReV s t y/\aV t x=true)=aV t x
  cases q:aV t x with
  | true=>exact decide_eq_true ⟨t,h,z,q⟩
  | false=>
   refine decide_eq_false ?_
   rintro ⟨t',h',z',q'⟩
   rw[<-uniq y t t' z z',q]at q';cases q'
 refine⟨e,λy hy=> ?_,?_⟩
 ·obtain⟨t,h,z⟩:=ex y hy
  rw[agree y t h z];exact(BN 60 A s t x y ux (dep t h) hu z rx).1
 ·have go:∀(l':List T) (us':List IW),(∀t∈l',t∈l)->ReVs s l' us'->us'.map e=l'.map λy=>aV y x:=by
   intro l'
   induction l' with
   | nil=>intro us' _ r';rw[ReVs.AC.mp r'];rfl
   | cons t l' ih=>
    intro us' sub r';obtain⟨u,ws,rfl,p,q⟩:=ReVs.me.mp r';rw[IZ,IZ,ih ws (λt ht=>sub t (IX _ ht)) q,agree u t (sub t Je) p]
  exact go l us (λ_ h=>h) r
theorem nB {x:T}:∀{l:List T} {n k:Nat},iV x l n=some k->n<=k/\(l.map λt=>aV t x)[k - n]? =some true/\∀m,m<k - n->(l.map λt=>aV t x)[m]? =some false
 | [],n,k,h=>by cases h
 | t::l,n,k,h=>by
  unfold iV at h
  cases q:aV t x with
  | true=>
   rw[q,if_pos rfl]at h;cases h;refine⟨Ji _,?_,λm hm=>by omega⟩
   rw[Np,IZ,q];rfl
  | false=>
   rw[q,if_neg (by decide)]at h
   obtain⟨h1,h2,h3⟩:=nB h
   have e:k - n=(k - (n+1))+1:=by omega
   refine⟨by omega,?_,λm hm=> ?_⟩
   ·rw[e,IZ,Kj];exact h2
   ·cases m with
    | zero=>rw[IZ,q];rfl
    | succ m=>rw[IZ,Kj];exact h3 m (by omega)
section
variable {X:Cx}{a b:Expr}{fa fb:En->Rs T}{pos apos cpos:Pos}
theorem xR (hu:X.A.units+61<cLine)(ha:cj X a fa)(hb:cj X b fb)(hn:bx b=true:=by rfl)
  (hbase:JM a "index" X.env (eval a X.env)=eval a X.env:=by rfl) (hline:(apos.endLine == cpos.line)=true:=by rfl):cj X (.Call (.Attribute a "index" apos) [b] [] cpos) (oL fM fa fb):=by
 have hs:Jo [b] X.env=(false,eval b X.env)::Jo [] X.env:=bu hn;intro pins s σ H Q I ⟨Z,O,E,hq⟩;refine Nd hbase (by rw[hs];rfl) hline rfl (bR (ha pins s σ H _ I (aZ E hq)) λv s1 hh_=> ?_)
 obtain⟨x,H1,I1,r1,t,rt,s',E',q1⟩:=hh_
 cases t with
 | lst l=>
  obtain⟨c,vs,e1,e2,e3,e4⟩:=Rep.Do.mp rt;subst e1;obtain rfl:v=JD c:=r1;obtain⟨h1,h2⟩:=xw I1 (show RelV (.ref c) (.ref c)from rfl) (.inl ⟨rfl,vs,SqL.of e3⟩)
  refine⟨_,_,K8,PySem.F.slot_list_index,PySem.F.type_list_index,h1,h2,?_⟩
  rw[hs];refine LN rfl (Ll (LA (bR (hb pins s1 σ H1 _ I1 (aZ (f:=fb) E' q1)) λu s2 ⟨y,H2,I2,r2,t2,rt2,s'',E'',q2⟩=>LR ?_)))
  unfold fM at q2
  split at q2
  ·rename_i l' heq
   cases heq
   split at q2
   ·rename_i hd3
    obtain⟨hd,hnx,hny⟩:=hd3
    split at q2
    ·rename_i k hk
     have rv:=Rep.val I2 (show(T.lst l).nd=true by unfold T.nd;exact hny) (rt.same s'') (show RelV (.ref c) (.ref c)from rfl)
     unfold ReV at rv;obtain⟨c',us,ec,hl,rs⟩:=rv;cases ec;obtain⟨⟨cls,dd,data,sl⟩,ho,hc,n,hdd⟩:=id hl;simp only at hc hdd;subst hc hdd;obtain⟨e,he,ha⟩:=yz (A:=X.A.in1) (Rep.val I2 hnx rt2 r2) (by show X.A.units+1+60<cLine;omega) hd rs
     obtain⟨_,k1,k2⟩:=nB hk;rw[Nq]at k1 k2;rw[<-ha]at k1 k2
     have hkl:k<us.length:=by have:=(Jh.mp k1).1;rwa [Jd]at this
     have hz:us.length<=sizeLine:=by
      have z:=(I2.Ic (s'' _ _ e3)).1
      have h3:=rs.length
      have h4:=e4.length;omega
     refine Me F.slot_list_index ⟨_,ho,rfl⟩ F.entry_list_index (F.args_list_index_2 _ _) (list_indexAt c us.toArray n dd sl u e k (by simpa using hkl) (by rw[Mo]at hz;omega) ?_ ?_) ⟨ho,λy hy=>he y (by simpa using hy),?_⟩
     ·have:=(Jh.mp k1).2
      rw[M7]at this
      simpa using this
     ·intro m hm hmk
      have:=(Jh.mp (k2 m hmk)).2
      rw[M7]at this
      simpa using this
     ·exact⟨.int _,H2,I2.tok _,⟨_,rfl⟩,q2 H2 (Same.refl H2) _ (Rep.HS _)⟩
    ·exact q2.elim
   ·exact q2.elim
  ·rename_i hno
   exact(hno l rfl).elim
 | _=>exact q1.elim
theorem DS (hu:X.A.units+1<cLine)(ha:cj X a fa)(hb:cj X b fb)(hn:bx b=true:=by rfl)
  (hbase:JM a "get" X.env (eval a X.env)=eval a X.env:=by rfl) (hline:(apos.endLine == cpos.line)=true:=by rfl):cj X (.Call (.Attribute a "get" apos) [b] [] cpos) (oD gR fa fb):=by
 have hs:Jo [b] X.env=(false,eval b X.env)::Jo [] X.env:=bu hn;refine PE.imp (yd hu ha hb ⟨hbase,by rw[hs];rfl,hline,by rw[hs];rfl⟩) λσ H Q ⟨Z,O,E,hq⟩=> ?_
 obtain⟨Z1,O1,E1,h1⟩:=aZ E hq;refine⟨Z1,O1,E1,Post.mono h1 λt H1 s1 q v r=> ?_⟩
 obtain⟨t',r',s',E',q'⟩:=q v r
 cases t' with
 | dct ks vs=>
  obtain⟨c,kvs,e1,e2,e3,e4,e5⟩:=Rep.HR.mp r';refine⟨c,e1,.inr ⟨kvs,e3⟩,?_⟩
  obtain⟨Z2,O2,E2,h2⟩:=aZ (f:=fb) E' q';refine⟨Z2,O2,E2,Post.mono h2 λt2 H2 s2 q2 v2 r2=> ?_⟩
  obtain⟨t2',r2',s2',E2',q2'⟩:=q2 v2 r2;unfold gR at q2'
  split at q2'
  ·rename_i ks' vs' k heq hk
   cases heq;obtain⟨b,f1,f2⟩:=lT hk r2'
   have g:=nG (k:=k) e4 (e5.same s2');refine⟨jk kvs k,by rw[f1];exact DGet.IG (Rd.Iy (P:=kB) (SameO.of s2') (λz=>z) e3) f2,?_⟩
   cases hx:oB ks vs k with
   | some z=>
    rw[hx]at g q2';obtain⟨w,g1,g2⟩:=g;rw[g1]
    exact q2' H2 (Same.refl H2) w g2
   | none=>
    rw[hx]at g q2';rw[g];exact q2' H2 (Same.refl H2) .non Rep.Ir
  ·exact q2'.elim
 | _=>exact q'.elim
end
end Tr
namespace Tr
open PySem PySem.Spec PyProof.Rows L2
section
variable {X:Cx}{a b c:Expr}{fa fb fc:En->Rs T}{pos p2 p3 p4:Pos}{x:Str}
theorem Dz (i:Nat)(hu:X.A.units+1<cLine)(hb:cj X b fb)(hc:cj X c fc)(hN:X.N[i]? =some x:=by rfl)(hv:qW X.env.scope x:=by first | exact J8 rfl | exact JP (J8 rfl) | exact JP (JP rfl))
  (hd:fE x:=by decide) (hcd:(x == ("__classdict__" : Str))=false:=by decide)
  (hs:JU c (some (.Subscript (.Name x p2) b p3)) pos.line X.env=pure false:=by rfl):lY X (.Assign [.Subscript (.Name x p2) b p3] c pos) (v8 i fb fc):=by
 intro pins s σ H D I ⟨Z,B,M,E,h⟩;refine A6 hu (hW hN hv hd hcd) hb hc hs pins s σ H D I ?_
 unfold v8 at h
 split at h
 ·rename_i ks vs hl
  obtain⟨v0,e1,d,kvs,rfl,hM,e3,e4,e5⟩:=E.env.own i _ hl;obtain⟨nd,nz⟩:=zJ I e3;refine⟨Z,OO B M,E.o,?_⟩
  cases q:fc Z with
  | bad=>rw[q]at h;exact h.elim
  | err c=>rw[q]at h;exact PostF.xa h
  | ok vT=>
   rw[q,ay]at h;intro H1 s1 v r;refine⟨.ref d,e1,Z,OO B M,(E.same s1).o,?_⟩
   have h1:=h.later (SameO.of s1) (P1:=M.u) λa z=> .inl z
   cases q2:fb Z with
   | bad=>rw[q2]at h1;exact h1.elim
   | err c=>rw[q2]at h1;exact PostF.xa h1
   | ok kT=>
    rw[q2,ay]at h1;intro H2 s2 y ry
    cases q3:keyOf kT with
    | none=>rw[q3]at h1;exact h1.elim
    | some k=>
     rw[q3]at h1
     have h2:=h1.later (SameO.of s2) (P1:=M.u) λa z=> .inl z
     have hlen:ks.length=kvs.length:=by have:=congrArg K9 e4;simpa using this
     by_cases hz:ks.length<1000
     ·simp only[if_pos hz]at h2
      obtain⟨kb,f1,f2⟩:=lT q3 ry
      have e3':=s2 _ _ (s1 _ _ e3);obtain⟨g1,g2⟩:=nE q3 (r.same s2) e4 ((e5.same s1).same s2) nd;refine⟨d,upd H2 d (.dT (dE kvs k v)),rfl,by rw[f1];exact DPut.t e3' f2 (by rw[Mo];omega),?_⟩
      have sm:SameO (M i) H2 (upd H2 d (.dT (dE kvs k v))):=λc u e nb=>by rw[aE (λz=>nb ((hM c).mpr z))];exact e
      obtain⟨g3,g4⟩:=((E.same s1).same s2).put (o':=.dct (gB kT vT ks vs).1 (gB kT vT ks vs).2) hl e1 sm ⟨d,_,rfl,hM,aQ,g1,g2.move (P:=M i) (λa z=> .inl (.inr ⟨i,z⟩)) (λa z=> .inl z) sm⟩
      exact h2 σ _ M g4 g3 λc z=> .inl z
     ·simp only[if_neg hz]at h2
      exact h2.elim
 ·exact h.elim
end
end Tr
namespace PySem
open Sem (wp)
namespace F
theorem lk_list_keys:OA (.type "list") "keys" =pure none:=by rw[Pu,NH];kernel_rfl
theorem lk_list_getattr:OA (.type "list") "__getattr__" =pure none:=by rw[Pu,NH];kernel_rfl
end F
section
variable {prog:JB}{w:JY}{A:JK}{E:IW->IY->Prop}{h:Heap}{g:Array GenState}{d:Drawn}{t:Nat}{os:MF}{a:Addr}{its:Array IW}{n:Nat}
theorem lF {tk:Tok}{Q:Fin->IY->Prop}(hx:h.get? a=some { cls:=.type "list",data:=.seq its n })(hh:A.handled=none)
  (hq:∀h' tk' e,Pm h h' e (.ref a) "keys"->E (.ref e) ⟨h',g,d,tk',os⟩) :
  wpAny (model prog w) A (Builtin.«object.__getattribute__» ⟨[.ref a,.str "keys" tk],[]⟩) Q E ⟨h,g,d,t,os⟩:=by
 have hT:(⟨h,g,d,t,os⟩:IY).TypeIs (.ref a) "list":=⟨_,hx,rfl⟩
 have f4:=F.lk_list_keys
 repeat (any_goals (first | assumption | wp_step))
 exact wpAny_raiseAttrError hh (λh' tk e hx=>hq h' tk e hx) (attrMsg_fits (by decide+kernel) (by rw[Mo];decide))
theorem ng {tk:Tok}{R:Pq->IY->Prop}(hx:h.get? a=some { cls:=.type "list",data:=.seq its n })(hh:A.handled=none)
  (hq:∀h' tk' e,Pm h h' e (.ref a) "keys"->R (.error (.ref e)) ⟨h',g,d,tk',os⟩) :
  codeAny (model prog w) A (.call (.builtin "list.__getattribute__") ⟨[.ref a,.str "keys" tk],[]⟩) R ⟨h,g,d,t,os⟩:=
 codeAny_call_builtin K3.plain F.entry_list_ga (K3.check _ _ _ _ _ _ _ _ (show(⟨h,g,d,t,os⟩:IY).TypeIs (.ref a) "list" from⟨_,hx,rfl⟩) (F.args_list_getattribute_2 _ _) (lF hx hh hq))
theorem nh {Q:Option IW->IY->Prop}(hx:h.get? a=some { cls:=.type "list",data:=.seq its n })(hh:A.handled=none)
  (hq:∀h' tk',(∀b o,h.get? b=some o->h'.get? b=some o)->Q none ⟨h',g,d,tk',os⟩):wpAny (model prog w) A (getAttr? (.ref a) "keys") Q E ⟨h,g,d,t,os⟩:=by
 have hT:∀tk,(⟨h,g,d,tk,os⟩:IY).TypeIs (.ref a) "list":=λ_=>⟨_,hx,rfl⟩
 have f1:=sub_AttributeError
 have f2:=K3.lookup
 have f3:=K3.bind (.ref a)
 have f5:=F.lk_list_getattr;unfold getAttr? getAttrBy? getAttrBy
 repeat (any_goals (first | assumption | exact hT _ | wp_step))
 refine ng hx hh λh' tk' e hx'=> ?_
 obtain⟨t',u',he⟩:=hx'.there
 repeat (any_goals (first | assumption | exact hT _ | wp_step))
 exact hq _ _ hx'.keeps
end
end PySem
namespace PySem.F
theorem entry_dict_update_loop:entryFor table "dict.update.loop" =some Builtin.«dict.update.loop»:=entryFor_of_tree (by kernel_rfl)
theorem plain_dict_update_loop:plainId "dict.update.loop" =true:=by decide+kernel
end PySem.F
namespace Tr
open PySem PySem.Spec PyProof.Rows L2
def hV (kvs:List (List Key×V)):List (List Key×V)->List (List Key×V)
 | [] =>kvs
 | p::ps=>hV (dE kvs p.1 p.2) ps
def PairsAt (H:Hp):List V->List (List Key×V)->Prop
 | [],ps=>ps= []
 | x::xs,ps=> ∃b kb p r,ps=p::r/\x= .ref b/\H b=some (.tup [.ref kb,p.2])/\H kb=some (.tup (p.1.map kV))/\PairsAt H xs r
theorem PairsAt.upd {H:Hp}{d:Addr}{kvs:List (List Key×V)}{o:HO}(hd:H d=some (.dT kvs)):∀{xs:List V} {ps:List (List Key×V)},PairsAt H xs ps->PairsAt (L2.upd H d o) xs ps
 | [],_,h=>h
 | x::xs,_,⟨b,kb,p,r,e1,e2,e3,e4,e5⟩=>⟨b,kb,p,r,e1,e2,by rw[aE (mZ e3 hd (λz=>nomatch z))];exact e3,by rw[aE (mZ e4 hd (λz=>nomatch z))];exact e4,e5.upd hd⟩
theorem pG {H:Hp}{d:Addr}{a b:HO}:upd (upd H d a) d b=upd H d b:=by
 funext c
 by_cases h:c=d
 ·rw[h,aQ,aQ]
 ·rw[aE h,aE h,aE h]
section
variable {X:Cx}{pins:List (Addr×Obj)}{σ:L2.St}{A:JK}{res:IW}{R:Pq->IY->Prop}{d l it:Addr}{xs:List V}
theorem wX (hh:A.handled=none)(hu:A.units+3<cLine):∀(k i:Nat) (s:IY) (H:Hp) (kvs ps:List (List Key×V)),xs.length - i=k->i<=xs.length->H l=some (.lst xs)->H d=some (.dT kvs)->kvs.length+(xs.length - i)<=1000->Inv X pins σ H s->s.heap.IsListIter it l i->nQ X pins H it->PairsAt H (xs.drop i) ps →
  (∀s',Inv X pins σ (upd H d (.dT (hV kvs ps))) s'->R (.ok (.ret res)) s')->codeAny (model X.prog X.w) A (.builtin "dict.update.loop" ⟨[.ref d,.ref it,rawInt i,res],[]⟩) R s:=by
 intro k
 induction k with
 | zero=>
  intro i s H kvs ps hk hi hl hd hz I hit hf hp hR;refine Pv F.entry_dict_update_loop ?_
  rw[NM F.plain_dict_update_loop _];obtain⟨z,its,n,r,hlen,e⟩:=I.Ic hl
  have hL:s.heap.IsList l its.toArray:=⟨_,e,rfl,n,rfl⟩
  show wpAny _ A.in1 (pyNext (.ref it) >>= _) _ _ s
  refine Ja (NA hh hit hL (by simp;omega) λh' hm=> ?_)
  show wpAny _ _ (Builtin.Dict.addKeywords d [] >>= _) _ _ _
  refine Ja (Jl (Jl ?_))
  have hnil:xs.drop i= []:=LQ (by omega)
  rw[hnil]at hp;unfold PairsAt at hp;subst hp
  have e2:upd H d (.dT (hV kvs []))=H:=by
   funext b
   by_cases hb:b=d
   ·rw[hb,aQ,hd];rfl
   ·rw[aE hb]
  rw[e2]at hR
  exact hR _ (I.Ig (fp:=[it]) (t':=s.toks) (λb hb=>by rw[Jk.mp hb];exact hf) λb o hb eb=>hm b o (λz=>hb (by rw[z];exact Jk.mpr rfl)) eb)
 | succ k ih=>
  intro i s H kvs ps hk hi hl hd hz I hit hf hp hR;refine Pv F.entry_dict_update_loop ?_
  rw[NM F.plain_dict_update_loop _];obtain⟨z,its,n,r,hlen,e⟩:=I.Ic hl
  have hL:s.heap.IsList l its.toArray:=⟨_,e,rfl,n,rfl⟩
  have hlt:i<xs.length:=by omega
  have hlt':i<its.length:=by omega
  show wpAny _ A.in1 (pyNext (.ref it) >>= _) _ _ s
  refine Ja (Nb hit hL (x:=its[i]) (by simp[hlt']) λh' hit' hm=> ?_)
  have I1:Inv X pins σ H { s with heap:=h' }:=I.Ig (fp:=[it]) (t':=s.toks) (λb hb=>by rw[Jk.mp hb];exact hf) λb o hb eb=>(hm.2 b (λz=>hb (by rw[z];exact Jk.mpr rfl))).trans eb
  have hdrop:xs.drop i=xs[i] ::xs.drop (i+1):=Ln hlt;rw[hdrop]at hp;obtain⟨b,kb,p,r',rfl,ex,hb,hkb,hp'⟩:=hp
  have rx:RelV xs[i] its[i]:=by
   obtain⟨u,q1,q2⟩:=r.get (Jt hlt)
   rw[Jt hlt']at q1
   cases q1;exact q2
  rw[ex]at rx
  have eu:its[i] =JD b:=rx;rw[eu];obtain⟨z2,its2,r2,ob,hob1,hob2,nb,hob3⟩:=(show ObjOk X.prog X.w H h' b (.tup [.ref kb,p.2])from I1.hok b _ hb)
  obtain⟨u1,us1,q1,rfl⟩:∃u1 us1,RelV (V.ref kb) u1/\its2=u1::us1:=by cases r2 with | cons a b=>exact⟨_,_,a,rfl⟩
  cases r2 with
  | cons ra rb=>
   obtain⟨u2,q2,rfl⟩:∃u2,RelV p.2 u2/\us1= [u2]:=by cases rb with | cons a b=>cases b;exact⟨_,a,rfl⟩
   obtain rfl:u1=JD kb:=q1
   show wpAny _ A.in1 (holding [JD b] _ >>= _) _ _ _
   refine Ja (M4 ?_)
   refine Ja (wpAny_tryCatch ?_)
   unfold Builtin.Dict.pairItems;refine Ja (MC (s:={ s with heap:=h' }) (T:="tuple") ⟨ob,hob1,hob2⟩ ?_)
   rw[if_pos (by decide)]
   refine Ja (NR (s:={ s with heap:=h' }) hob1 hob3 (Jl ?_))
   show wpAny _ _ (holding [JD kb,u2] (dictSet d (.ref kb) u2)) _ _ _
   refine M4 ?_
   obtain⟨zz,hds,xs2,rel,dd⟩:=zF I1.hok hd
   have hzl:xs2.length<=sizeLine:=by rw[<-MV rel];exact zz
   have hkl:kvs.length<sizeLine:=by rw[Mo];omega
   have hl2:(dE kvs p.1 p.2).length<=sizeLine:=by have:=fN kvs p.1 p.2;omega
   refine wpAny_dictSet_heap (hsz:=hzl) (LL (by show A.units+1<cLine;omega)) (ni I1.hok hkb) dd λh2 dd2 hs2=> ?_
   obtain⟨q,es,ep,hq,h22,h3,h4,_,h5⟩:=dd2
   have I2:Inv X pins σ (upd H d (.dT (dE kvs p.1 p.2))) { s with heap:=h2,toks:=s.toks+(MQ (cm X.prog X.w)).draws p.1 }:=
    qO (s:={ s with heap:=h' }) I1 (by rw[hd];exact KZ) hs2 ⟨q,hq⟩ ⟨hl2,hds,_,(rel.put p.1 hkb q2).keeps λc ys ec=>by rw[aE (mZ ec hd (λz=>nomatch z))];exact ec,q,es,ep,hq,h22,h3,h4,h5⟩
   have hld:l≠d:=mZ hl hd (λz=>nomatch z)
   have hitd:it≠d:=λz=>by have:=hf.1;rw[z,hd]at this;cases this
   have hcast:(i:Int)+1=((i+1:Nat):Int):=by omega
   refine Jl ⟨plainId_quiet F.plain_dict_update_loop _,?_⟩
   rw[hcast];refine ih (i+1) _ (upd H d (.dT (dE kvs p.1 p.2))) (dE kvs p.1 p.2) r' (by omega) (by omega) (by rw[aE hld];exact hl) aQ (by have:=fN kvs p.1 p.2;omega) I2 ?_ ⟨by rw[aE hitd];exact hf.1,hf.2⟩ (hp'.upd hd) λs' I'=> ?_
   ·obtain⟨oi,ho1,ho2,ho3⟩:=hit'
    exact⟨oi,(hs2.2 it hitd).trans ho1,ho2,ho3⟩
   ·rw[pG]at I'
    exact hR s' I'
end
theorem PairsAt.same {H H':Hp}(s:Same H H'):∀{xs:List V} {ps:List (List Key×V)},PairsAt H xs ps->PairsAt H' xs ps
 | [],_,h=>h
 | x::xs,_,⟨b,kb,p,r,e1,e2,e3,e4,e5⟩=>⟨b,kb,p,r,e1,e2,s _ _ e3,s _ _ e4,e5.same s⟩
section
variable {X:Cx}{pins:List (Addr×Obj)}{σ:L2.St}{A:JK}{E:IW->IY->Prop}{H:Hp}{s:IY}{l:Addr}{xs:List V}{ps:List (List Key×V)}
theorem zI {Q:IW->IY->Prop}(hh:A.handled=none)(hu:A.units+8<cLine)(I:Inv X pins σ H s)(hl:H l=some (.lst xs))(hz:xs.length<=1000)(hp:PairsAt H xs ps)
  (h:∀p s',Nw X.K H p->Inv X pins σ (upd H p (.dT (hV [] ps))) s'->Q (.ref p) s'):wpAny (model X.prog X.w) A (call (.type "dict") [.ref l]) Q E s:=by
 have hk:X.K.lookup s.heap.objs.size=none:=by
  cases q:X.K.lookup s.heap.objs.size with
  | none=>rfl
  | some o=>exact absurd (Jj (I.kIn _ o q)) (JF _)
 have hn:H s.heap.objs.size=none:=I.hok.fresh (Ji _)
 have hlp:l≠s.heap.objs.size:=λz=>by rw[z,hn]at hl;cases hl
 refine callType_codes (Q₁:=λobj s₁=>obj= .ref s.heap.objs.size/\s₁= { s with heap:=s.heap.push { cls:=.type "dict",data:=.dict #[] } }) F.kt_called_dict (F.kt_typeCall_dict_1 _) F.entry_dict_init (kt_code_dict_new _ ⟨rfl,rfl⟩) ?_
 rintro obj s₁ ⟨rfl,rfl⟩
 have I1:Inv X pins σ (upd H s.heap.objs.size (.dT [])) { s with heap:=s.heap.push { cls:=.type "dict",data:=.dict #[] } }:=I.laid (a:=s.heap.objs.size) (o:=.dT []) (t':=s.toks) (λ_ _ q=>Jf _ q) (Ji _) (zG s.heap I.big)
 have hT:({ s with heap:=s.heap.push { cls:=.type "dict",data:=.dict #[] } }:IY).TypeIs (.ref s.heap.objs.size) "dict":=⟨_,Jq _ rfl,rfl⟩
 have hl1:upd H s.heap.objs.size (.dT []) l=some (.lst xs):=by rw[aE hlp];exact hl
 obtain⟨z,its,n,r,hlen,e⟩:=I1.Ic hl1;refine⟨hT,F.args_dict_init_2 _ _,?_⟩
 unfold Builtin.«dict.__init__»;refine Ja ?_
 unfold Builtin.Dict.selfAndRest;refine Ja (wpAny_notOrdered_dict hT ?_)
 show wpAny _ _ (pure (s.heap.objs.size,[JD l])) _ _ _
 refine Jl ?_
 show wpAny _ _ (MT "dict.__init__" s.heap.objs.size (.ref l) [] .none) _ _ _
 unfold MT;refine Ja (MC (T:="list") ⟨_,e,rfl⟩ ?_)
 rw[if_pos (by decide)]
 refine Ja (nh e hh λh' tk' kp=> ?_)
 have I2:Inv X pins σ (upd H s.heap.objs.size (.dT [])) { s with heap:=h',toks:=tk' }:=I1.kept (t':=tk') kp
 rw[if_pos (by rfl)]
 refine Ja (OB ?_)
 have eL:({ s with heap:=h',toks:=tk' }:IY).heap.IsList l its.toArray:=⟨_,kp _ _ e,rfl,n,rfl⟩
 refine Ja (MR eL ?_)
 have I3:Inv X pins σ (upd H s.heap.objs.size (.dT [])) { s with heap:=h'.push { cls:=.type "list_iterator",data:=.fields #[.ref l,.int 0 0] },toks:=tk' }:=I2.kept (t':=tk') λb u q=>Jf _ q
 have hpl:s.heap.objs.size<h'.objs.size:=Jj (kp _ _ (Jq _ rfl))
 have hni:upd H s.heap.objs.size (.dT []) h'.objs.size=none:=by
  rw[aE (My hpl)];exact I.hok.fresh (Lx hpl)
 have hp1:PairsAt (upd H s.heap.objs.size (.dT [])) xs ps:=hp.same (bj hn _);refine Jl ⟨plainId_quiet F.plain_dict_update_loop _,?_⟩
 refine wX (A:=A.in1) (X:=X) (pins:=pins) (σ:=σ) (l:=l) (xs:=xs) (it:=h'.objs.size) hh (by show A.units+1+3<cLine;omega) xs.length 0 _ (upd H s.heap.objs.size (.dT [])) [] ps (by omega) (KS _) hl1 aQ (by simp;omega) I3 ⟨_,Jq _ rfl,rfl,rfl⟩ (I2.Il (Ji _) hni) hp1 λs' I'=> ?_
 rw[pG]at I';exact⟨rfl,h _ _ ⟨hn,hk⟩ I'⟩
end
theorem hu8 {k:Nat}{A:JK}(h:Room k A):A.units+8<cLine:=by have:=h.un;omega
theorem t9 {kvs:List (List Key×V)}{k:List Key}{v:V}(h:(kvs.map (·.1)).Nodup):((dE kvs k v).map (·.1)).Nodup:=by
 unfold dE
 by_cases a:(kvs.any λkv=>decide (kv.1=k))=true
 ·rw[if_pos a,Nr]
  have:((λx=>x.1)∘λkv:List Key×V=>if kv.1=k then(kv.1,v)else kv)=λx=>x.1:=by
   funext x
   show(if x.1=k then(x.1,v)else x).1=x.1
   by_cases e:x.1=k
   ·rw[if_pos e]
   ·rw[if_neg e]
  rw[this];exact h
 ·rw[if_neg a,KH,Kd]
  refine⟨h,by simp,λx hx y hy=> ?_⟩
  simp only[IZ,Nj,Jk]at hy;subst hy;intro z;subst z;obtain⟨p,hp,e⟩:=JQ.mp hx;exact a (List.any_eq_true.mpr ⟨p,hp,decide_eq_true e⟩)
def HN (K:IU)(O:Ow)(H:Hp):List (T×T)->List (List Key×V)->Prop
 | [],ps=>ps= []
 | a::l,ps=> ∃p r,ps=p::r/\keyOf a.1=some p.1/\Rep K O H a.2 p.2/\HN K O H l r
theorem pf {K:IU}{O:Ow}{H:Hp}:∀{l:List (T×T)} {ps:List (List Key×V)} {ks ts:List T} {kvs:List (List Key×V)},HN K O H l ps->ks.map keyOf=kvs.map (λp=>some p.1)->Reps K O H ts (kvs.map (·.2))->(kvs.map (·.1)).Nodup →
  (iw l (ks,ts)).1.map keyOf=(hV kvs ps).map (λp=>some p.1)/\Reps K O H (iw l (ks,ts)).2 ((hV kvs ps).map (·.2))
 | [],ps,ks,ts,kvs,h,h1,h2,hn=>by unfold HN at h;subst h;exact⟨h1,h2⟩
 | (a,b)::l,ps,ks,ts,kvs,h,h1,h2,hn=>by
  obtain⟨p,r,rfl,e1,e2,e3⟩:=h;obtain⟨g1,g2⟩:=nE (vT:=b) e1 e2 h1 h2 hn
  show(iw l (gB a b ks ts)).1.map keyOf=(hV (dE kvs p.1 p.2) r).map (λp=>some p.1)/\Reps K O H (iw l (gB a b ks ts)).2 ((hV (dE kvs p.1 p.2) r).map (·.2))
  exact pf (l:=l) e3 g1 g2 (t9 hn)
theorem uW {K:IU}{O:Ow}{H:Hp}:∀{l:List T} {tps:List (T×T)} {xs:List V},Ft l=some tps->Reps K O H l xs->∃ps,PairsAt H xs ps/\HN K O H tps ps
 | [],tps,xs,h,r=>by cases Reps.AC.mp r;cases h;exact⟨[],rfl,rfl⟩
 | t::l,tps,xs,h,r=>by
  obtain⟨v,ws,rfl,p,q⟩:=Reps.me.mp r;unfold Ft at h
  split at h
  ·rename_i heq;cases heq
  ·rename_i k v' l' heq
   cases heq
   split at h
   ·rename_i kk rr hk hr
    cases h;obtain⟨ps,g1,g2⟩:=uW hr q;obtain⟨b,vs,e1,e2,e3,e4⟩:=Rep.Fk.mp p;obtain⟨u1,us1,rfl,f1,f2⟩:=Reps.me.mp e4;obtain⟨u2,us2,rfl,f3,f4⟩:=Reps.me.mp f2;cases Reps.AC.mp f4;obtain⟨kb,f5,f6⟩:=lT hk f1;subst f5;exact⟨(kk,u2)::ps,⟨b,kb,(kk,u2),ps,rfl,e1,e3,f6,g1⟩,⟨(kk,u2),ps,rfl,hk,f3,g2⟩⟩
   ·cases h
  ·cases h
section
variable {X:Cx}{e:Expr}{f:En->Rs T}{x y:Str}{p pos p2 p3:Pos}
def Dk (X:Cx)(f:En->Rs T):TE:=λσ H Q=>tP X f σ H λv H'=> ∃a xs ps,v= .ref a/\H' a=some (.lst xs)/\xs.length<=1000/\PairsAt H' xs ps/\∀q,Nw X.K H' q->Q (.ref q) (upd H' q (.dT (hV [] ps)))
theorem yc (hu:X.A.units+8<cLine)(hc:X.calm=true)(hm:X.mg "dict" =none)(ha:cj X e f)(hg:Gl X "dict")(hs:bx e=true):PE X (.Call (.Name "dict" p) [e] [] pos) (Dk X f):=by
 have h1:Jo [e] X.env=(false,eval e X.env)::Jo [] X.env:=bu hs;intro pins s σ H Q I hq;refine Kk (ij I hg hm (show JT "dict" =some (.type "dict")by decide+kernel) ?_ (by decide) (by decide))
 refine Kg (bR (fK (te:=tP X f) ha kq h1 pos pins s σ H (λxs H'=> ∃v,xs= [v]/\∃a xs ps,v= .ref a/\H' a=some (.lst xs)/\xs.length<=1000/\PairsAt H' xs ps/\∀q,Nw X.K H' q->Q (.ref q) (upd H' q (.dT (hV [] ps)))) I ?_) λus s1 hh=> ?_) h1 rfl
 ·obtain⟨Z,O,E,h⟩:=hq
  exact⟨Z,O,E,Post.mono h λt H' _ g v r=>⟨v,rfl,g v r⟩⟩
 ·obtain⟨vs,H1,I1,r1,v,rfl,a,xs,ps,ev,e1,e2,e3,e4⟩:=hh
  subst ev;obtain⟨u,rfl,ru⟩:=r1.one;obtain rfl:u=JD a:=ru;exact zI (I1.ok.hd hc) hu I1 e1 e2 e3 λq s' nw I'=>⟨.ref q,_,I',rfl,e4 q nw⟩
theorem AN (i:Nat)(hu:X.A.units+8<cLine)(hc:X.calm=true)(hm:X.mg "dict" =none)(hN:X.N.Nodup)(ha:cj X e f)(hst:bx e=true:=by rfl)(hg:Gl X "dict":=by rfl)(hi:X.N[i]? =some x:=by rfl)(hx:Loc X.env.scope x:=by first | exact J8 rfl | exact JP rfl)(hs:JU (.Call (.Name "dict" p) [e] [] p2) (some (.Name x p3)) pos.line X.env=pure false:=by rfl)
  (hf:X.fn x=true\/X.env.scope.names.lookup x=some .local:=by first | exact .inl rfl | exact .inr rfl | assumption):lY X (.Assign [.Name x p3] (.Call (.Name "dict" p) [e] [] p2) pos) (oP i f):=PS.imp (pZ hN hi hx (yc hu hc hm ha hg hst) hs hf) λD σ H hh_=>by
 obtain⟨Z,B,M,E,h⟩:=hh_;refine⟨Z,OO B M,E.o,?_⟩
 unfold oP at h
 cases q:f Z with
 | bad=>rw[q]at h;exact h.elim
 | err c=>rw[q]at h;exact PostF.xa h
 | ok t=>
  rw[q,ay]at h;intro H1 s1 v r
  have h1:=h.later (SameO.of s1) (P1:=M.u) λa z=> .inl z
  cases t with
  | lst l=>
   obtain⟨a,xs,rfl,e2,e3,e4⟩:=Rep.Do.mp r;unfold vH at h1
   split at h1
   ·rename_i l' heq
    cases heq
    split at h1
    ·rename_i tps hps
     by_cases hz:l.length<=1000
     ·rw[if_pos hz,ay]at h1
      obtain⟨ps,g1,g2⟩:=uW hps e4;refine⟨a,xs,ps,rfl,e3,by rw[<-e4.length];exact hz,g1,λnd nw=> ?_⟩
      by_cases hl:i<Z.length
      ·simp only[if_pos hl]at h1
       have hm:∀a,a=nd->Nw X.K H1 a:=λa z=>z▸nw
       obtain⟨k1,k2⟩:=pf (ks:=[]) (ts:=[]) (kvs:=[]) g2 rfl Reps.GM LW;obtain⟨E2,sub⟩:=(E.same s1).new (m:=λa=>a=nd) (o:=.dct (iw tps ([],[])).1 (iw tps ([],[])).2) (v:=.ref nd) (H':=upd H1 nd (.dT (hV [] ps))) hl hm (bj nw.1 _) ⟨nd,_,rfl,λb=>LS,aQ,k1,(k2.more (Ev.subO hm)).same (bj nw.1 _)⟩
       exact h1 _ _ _ (SameO.of (bj nw.1 _)) E2 sub
      ·simp only[if_neg hl]at h1;exact h1.elim
     ·rw[if_neg hz]at h1;exact h1.elim
    ·exact h1.elim
   ·rename_i hno
    exact(hno l rfl).elim
  | _=>exact h1.elim
end
end Tr
namespace Tr
theorem sj:∀l,fy l l=false
 | [] =>rfl
 | a::l=>by unfold fy;rw[if_pos rfl];exact sj l
theorem qC:∀a b c,fy a b=true->fy b c=true->fy a c=true
 | [],[],_,h,_=>absurd h (by simp[fy])
 | _::_,[],_,h,_=>absurd h (by simp[fy])
 | [],_::_,[],_,h=>absurd h (by simp[fy])
 | [],_::_,_::_,_,_=>rfl
 | _::_,_::_,[],_,h=>absurd h (by simp[fy])
 | x::a,y::b,z::c,h,g=>by
  unfold fy at h g ⊢
  by_cases e:x=y
  ·subst e
   rw[if_pos rfl]at h
   by_cases e2:x=z
   ·rw[if_pos e2]at g ⊢;exact qC a b c h g
   ·rw[if_neg e2]at g ⊢;exact g
  ·rw[if_neg e]at h
   by_cases e2:y=z
   ·subst e2;rw[if_neg e];exact h
   ·rw[if_neg e2]at g
    have h1:=of_decide_eq_true h
    have h2:=of_decide_eq_true g;rw[if_neg (by omega)]
    exact decide_eq_true (by omega)
theorem m8:∀a b,fy a b=false->fy b a=false->a=b
 | [],[],_,_=>rfl
 | [],_::_,h,_=>absurd h (by simp[fy])
 | _::_,[],_,h=>absurd h (by simp[fy])
 | x::a,y::b,h,g=>by
  unfold fy at h g
  by_cases e:x=y
  ·subst e
   rw[if_pos rfl]at h g;rw[m8 a b h g]
  ·rw[if_neg e]at h
   rw[if_neg (λz=>e z.symm)]at g
   have h1:=of_decide_eq_false h
   have h2:=of_decide_eq_false g;omega
theorem yB (a b c:List Int)(h:fy a c=true):fy a b=true\/fy b c=true:=by
 cases h1:fy a b with
 | true=>exact .inl rfl
 | false=>
  cases h2:fy b a with
  | true=>exact .inr (qC _ _ _ h2 h)
  | false=>rw[<-m8 _ _ h1 h2];exact .inr h
end Tr
namespace Tr
open PySem PySem.Spec PyProof.Rows L2
variable (R:RK)
variable {R:RK}
def RK.kind (R:RK)(h:Heap):PyProof.Rows.KeyKind:={ α:=List Int,blt:=fy,irrefl:=sj,trans:=qC,negTrans:=yB,total:=m8,keyOf:=R.key h,dflt:=[] }
def RK.row (R:RK)(h:Heap)(v:IW):List Int:=(R.key h v).getD []
end Tr
namespace L2
open PySem PySem.Spec PyProof.Rows
theorem sH {n b:Nat}:b∈ [n+4,n,n+1,n+2,n+3] ↔n<=b/\b<n+5:=by
 simp only[Jg,J9,or_false];omega
end L2
namespace Tr
open PySem PySem.Spec PyProof.Rows L2
def Wk (K:IU)(O:Ow)(H1:Hp)(l:List T)(v:V):Prop:=∃(aa:Addr) (tt:Bool) (ws:List V),v= .ref aa/\¬ O aa/\Reps K O H1 l ws/\z8 K H1 aa tt ws/\(∀P Hc,SameO P H1 Hc->¬ P aa->z8 K Hc aa tt ws)/\¬ Nw K H1 aa
end Tr
namespace Tr
open PySem
def c0 (g:List T->Rs T)(_:En):Rs T:=match g []with
 | .ok t=> .ok t
 | _=> .bad
end Tr
namespace PySem
open Sem (wp)
open L2 (itAt)
structure PW (prog:JB)(w:JY)(A:JK)(I:Addr)(T:String)(fp wr:List Addr)(n:Nat)(R:Nat->IW->IW->Prop)(St:Nat->Option Addr->Heap->Prop):Prop where
 sub:∀b∈wr,b∈fp
 ty:∀i o (s:IY),St i o s.heap->s.TypeIs (.ref I) T
 frame:∀i o h h',St i o h->(∀b∈fp,∀ob,h.get? b=some ob->h'.get? b=some ob)->St i o h'
 item:∀i o (s:IY) (Q:Option IW->IY->Prop) (E:IW->IY->Prop),i<n->St i o s.heap->(∀t,o=some t->∃ob,s.heap.get? t=some ob) →
  (∀p h' tk x y,R i x y->s.heap.objs.size<=p->IsPair h' p x y->St (i+1) (some (o.getD p)) h'->(∀b ob,b∉wr->s.heap.get? b=some ob->h'.get? b=some ob)->Q (some (.ref p)) { s with heap:=h',toks:=tk })->wpAny (model prog w) A (pyNext (.ref I)) Q E s
 done:∀o (s:IY) (Q:Option IW->IY->Prop) (E:IW->IY->Prop),St n o s.heap->(∀t,o=some t->∃ob,s.heap.get? t=some ob)->(∀h' tk,(∀b ob,b∉wr->s.heap.get? b=some ob->h'.get? b=some ob)->Q none { s with heap:=h',toks:=tk })->wpAny (model prog w) A (pyNext (.ref I)) Q E s
 self:∀i o (s:IY) (Q:IW->IY->Prop) (E:IW->IY->Prop),St i o s.heap->Q (.ref I) s->wpAny (model prog w) A (pyIter (.ref I)) Q E s
end PySem
namespace Tr
open PySem
inductive Fx where
 | nx (Z:En) | rt (t:T) (Z:En)
def ir {α:Type}(f:Str):List Str->List α->Option α
 | n::ns,l::ls=>if n=f then some l else ir f ns ls
 | _,_=>none
def gV (f:Str)(l':List T):List Str->List (List T)->List (List T)
 | n::ns,l::ls=>if n=f then l'::ls else l::gV f l' ns ls
 | _,ls=>ls
def nA (c f:Str):T->Rs T
 | .ob c' ns ts=>if c'=c then(match ir f ns ts with | some t=> .ok t | none=> .bad)else .bad
 | _=> .bad
def iJ (c m:Str)(g:List T->Rs T)(fo:En->Rs T)(fs:En->Rs (List T))(Z:En):Rs T:=do
 let o <-fo Z
 match o with
 | .ob c' ns ts=>if c'=c/\ns.contains m=false then fs Z >>= λl=>g (.ob c' ns ts::l)else .bad
 | _=> .bad
def xP (f:En->Rs T)(Z:En):Rs (T×En):=f Z >>= λt=> .ok (t,Z)
def tw (i:Nat)(c f:Str)(fa:En->Rs T)(Z:En):Rs (T×En):=match Z[i]? with
 | some (.ow (.ob c' ns ls))=>if c'=c then(match ir f ns ls with
  | some l=>fa Z >>= λt=>if l.length<sizeLine then .ok (.non,Z.set i (.ow (.ob c' ns (gV f (l++ [t]) ns ls))))else .bad
  | none=> .bad)else .bad
 | _=> .bad
def xq (i:Nat)(Z:En):Rs (T×OT)->Rs (T×En)
 | .ok p=> .ok (p.1,Z.set i (.ow p.2))
 | .err c=> .err c
 | .bad=> .bad
def ee (i:Nat)(c m:Str)(g:List Sl->Rs (T×OT))(fs:En->Rs (List T))(Z:En):Rs (T×En):=match Z[i]? with
 | some (.ow (.ob c' ns ls))=>if c'=c/\ns.contains m=false then fs Z >>= λts=>xq i Z (g (.ow (.ob c' ns ls)::ts.map Sl.va))else .bad
 | _=> .bad
def tq (i:Nat)(g:List Sl->Rs (T×OT))(fs:En->Rs (List T))(Z:En):Rs (T×En):=match Z[i]? with
 | some (.ow o)=>fs Z >>= λts=>xq i Z (g (.ow o::ts.map Sl.va))
 | _=> .bad
def dX (n:Nat)(sls:List Sl):En:=sls++Js (n - sls.length) Sl.em
def n8 (j:Nat):Fx->Rs (T×OT)
 | .nx Z=>match Z[j]? with
  | some (.ow o)=> .ok (.non,o)
  | _=> .bad
 | .rt t Z=>match Z[j]? with
  | some (.ow o)=> .ok (t,o)
  | _=> .bad
def fR (n j m:Nat)(F:En->Rs Fx)(sls:List Sl):Rs (T×OT):=if sls.length=n then F (dX m sls) >>= n8 j else .bad
def xh {α:Type}:Rs α->Rs α
 | .err _=> .bad
 | r=>r
def mN (Z:En):Rs Fx:=.ok (.nx Z)
def jx (F G:En->Rs Fx)(Z:En):Rs Fx:=match F Z with
 | .ok (.nx Z')=>xh (G Z')
 | r=>r
def wB (x:En->Rs (T×En))(Z:En):Rs Fx:=x Z >>= λp=> .ok (.nx p.2)
def m5 (x:En->Rs (T×En))(Z:En):Rs Fx:=x Z >>= λp=> .ok (.rt p.1 p.2)
def Fu (f:En->Rs Bool)(F G:En->Rs Fx)(Z:En):Rs Fx:=f Z >>= λk=>if k then F Z else G Z
def EB (c:Str)(_:En):Rs Fx:=.err c
def qA (i:Nat)(c f:Str)(fs:En->Rs (List T))(Z:En):Rs Fx:=match Z[i]? with
 | some (.ow (.ob c' ns ls))=>fs Z >>= λl=>if c'=c/\l.length<=sizeLine/\ns.length<1000 then
   .ok (.nx (Z.set i (.ow (if ns.contains f then .ob c' ns (gV f l ns ls)else .ob c' (ns++ [f]) (ls++ [l])))))else .bad
 | _=> .bad
def si (F:En->Rs Fx)(h:Str->Rs T)(Z:En):Rs Fx:=match F Z with
 | .err c=>(match h c with
  | .ok t=> .ok (.rt t Z)
  | _=> .bad)
 | r=>r
def zc (c:Str)(t:T)(d:Str):Rs T:=if d=c then .ok t else .bad
def rJ (x:En->Rs (T×En))(Z:En):Rs Fl:=x Z >>= λp=> .ok (.nx p.2)
def tQ (i:Nat)(x:En->Rs (T×En))(Z:En):Rs Fl:=x Z >>= λp=>if i<p.2.length then .ok (.nx (p.2.set i (.va p.1)))else .bad
def mx (i:Nat)(c:Str)(g:List Sl->Rs (T×OT))(fs:En->Rs (List T))(Z:En):Rs Fl:=fs Z >>= λts=>xh (g (.ow (.ob c [] [])::ts.map Sl.va)) >>= λp=>match p.1 with
 | .non=>if i<Z.length then .ok (.nx (Z.set i (.ow p.2)))else .bad
 | _=> .bad
def Df (x:En->Rs (T×En))(Z:En):Rs (Bool×En):=x Z >>= λp=>match p.1 with
 | .bl b=> .ok (b,p.2)
 | _=> .bad
def Aq (g:T->T->Rs T)(x:En->Rs (T×En))(f:En->Rs T)(Z:En):Rs (T×En):=x Z >>= λp=>xh (f p.2 >>= g p.1) >>= λt=> .ok (t,p.2)
def De (f:En->Rs Bool)(Z:En):Rs (Bool×En):=f Z >>= λb=> .ok (b,Z)
def tp (x y:En->Rs (Bool×En))(Z:En):Rs (Bool×En):=x Z >>= λp=>if p.1 then .ok (true,p.2)else xh (y p.2)
def y9 (f:En->Rs (List T))(Z:En):Rs (List T):=f Z >>= λx=>match x with
 | [.lst l] => .ok l.reverse
 | _=> .bad
def tN (x:En->Rs (Bool×En))(F G:En->Rs Fl)(Z:En):Rs Fl:=x Z >>= λp=>if p.1 then F p.2 else G p.2
end Tr
namespace Tr
open PySem PySem.Spec PyProof.Rows L2
abbrev one (j:Nat)(m:Ow):Mn:=noM.set j m
abbrev BM (B m:Ow):Ow:=λa=>B a\/m a
theorem one_u {j:Nat}{m:Ow}{a:Addr}:(one j m).u a↔m a:=⟨λz=>(Mn.HU z).elim id λ⟨_,w⟩=>w.elim,λz=>⟨j,by unfold one;rw[Mn.Ib];exact z⟩⟩
theorem one_oo {B:Ow}{j:Nat}{m:Ow}{a:Addr}:OO B (one j m) a↔BM B m a:=or_congr LS one_u
section
variable {K:IU}{B:Ow}{M:Mn}{H H':Hp}{Z:En}{σ:L2.St}{i:Nat}{o o':OT}{v:V}{m:Ow}
theorem Ev.old (E:Ev K B M H Z σ){a:Addr}(w:Nw K H a):¬ OO B M a:=λz=>by
 obtain⟨o,e⟩:=(E.env.trk a z).some;rw[w.1]at e;cases e
theorem Ev.back (E:Ev K B M H Z σ)(hi:Z[i]? =some (.ow o))(hs:σ[i]? =some (some v))(s:SameO (M i) H H')(r:ORep K (OO B (M.set i m)) m H' o' v)(hm:∀a,m a->M i a\/Nw K H a) :
  Ev K B (M.set i m) H' (Z.set i (.ow o')) σ/\SameO M.u H H'/\∀a,(M.set i m).u a->M.u a\/Nw K H a:=by
 have hl:i<Z.length:=(Jh.mp hi).1
 have sub:∀a,(M.set i m).u a->M.u a\/Nw K H a:=λa z=>(Mn.HU z).elim (λw=>(hm a w).imp_left λy=>⟨i,y⟩) .inl
 have subO:∀a,OO B (M.set i m) a->OO B M a\/Nw K H a:=λa z=>z.elim (λw=> .inl (.inl w)) λw=>(sub a w).elim (λy=> .inl (.inr y)) .inr
 have inO:∀a,M i a->OO B M a\/Nw K H a:=λa z=> .inl (.inr ⟨i,z⟩)
 refine⟨⟨⟨by rw[Ki];exact E.env.len,λj t e=> ?_,λj o2 e=> ?_,λj a z=> .inr ⟨j,z⟩,λj k a z1 z2=> ?_,λa z=> ?_⟩,λa z hb=> ?_⟩,λb u e n=>s b u e λz=>n ⟨i,z⟩,sub⟩
 ·by_cases hj:i=j
  ·subst hj;rw[Jy hl]at e;cases e
  ·rw[Jv hj]at e
   obtain⟨w,e1,e2⟩:=E.env.val j t e;exact⟨w,e1,e2.move inO subO s⟩
 ·by_cases hj:i=j
  ·subst hj
   rw[Jy hl]at e
   cases e;exact⟨v,hs,by rw[Mn.Ib];exact r⟩
  ·rw[Jv hj]at e
   obtain⟨w,e1,e2⟩:=E.env.own j o2 e;refine⟨w,e1,?_⟩
   rw[Mn.Ih (λz=>hj z.symm)]
   exact e2.move inO subO s λa z y=>hj (E.env.dis i j a y z)
 ·unfold Mn.set at z1 z2
  by_cases hj:j=i
  ·by_cases hk:k=i
   ·exact hj.trans hk.symm
   ·rw[if_pos hj]at z1;rw[if_neg hk]at z2
    exact(hm a z1).elim (λw=>(hk (E.env.dis k i a z2 w)).elim) λw=>(E.old w (.inr ⟨k,z2⟩)).elim
  ·by_cases hk:k=i
   ·rw[if_neg hj]at z1;rw[if_pos hk]at z2
    exact(hm a z2).elim (λw=>(hj (E.env.dis j i a z1 w)).elim) λw=>(E.old w (.inr ⟨j,z1⟩)).elim
   ·rw[if_neg hj]at z1;rw[if_neg hk]at z2
    exact E.env.dis j k a z1 z2
 ·rcases z with z | ⟨j,z⟩
  ·exact(E.env.trk a (.inl z)).at λo e=>s _ _ e λw=>E.mine a ⟨i,w⟩ z
  ·unfold Mn.set at z
   by_cases hj:j=i
   ·rw[if_pos hj]at z;exact r.mtb a z
   ·rw[if_neg hj]at z
    exact(E.env.trk a (.inr ⟨j,z⟩)).at λo e=>s _ _ e λw=>hj (E.env.dis j i a z w)
 ·rcases Mn.HU z with w | w
  ·exact(hm a w).elim (λy=>E.mine a ⟨i,y⟩ hb) λy=>E.old y (.inl hb)
  ·exact E.mine a w hb
end
section
variable {X:Cx}{a e:Expr}{es:List Expr}{fa:En->Rs T}{fs:En->Rs (List T)}{pos p2 apos cpos:Pos}{x c f:Str}
def PostX (X:Cx)(B P:Ow)(σ:L2.St)(H:Hp)(r:Rs (T×En))(Q:VK):Prop:=match r with
 | .ok p=> ∀v H' M',SameO P H H'->Ev X.K B M' H' p.2 σ->(∀a,M'.u a->P a\/Nw X.K H a)->Rep X.K (OO B M') H' p.1 v->Q v H'
 | .err c=>XA X kB H c
 | .bad=>False
def tX (X:Cx)(f:En->Rs (T×En)):TE:=λσ H Q=> ∃Z B M,Ev X.K B M H Z σ/\PostX X B M.u σ H (f Z) Q
abbrev z9 (X:Cx)(e:Expr)(f:En->Rs (T×En)):Prop:=PE X e (tX X f)
theorem Dg (h:cj X a fa):z9 X a (xP fa):=PE.imp h λσ H Q hh_=>by
 obtain⟨Z,B,M,E,q⟩:=hh_;refine⟨Z,OO B M,E.o,?_⟩
 unfold xP at q
 cases z:fa Z with
 | bad=>rw[z]at q;exact q
 | err c=>rw[z]at q;exact q
 | ok t=>
  rw[z,ay]at q;exact λH' s v r=>q v H' M (SameO.of s) (E.same s) (λ_ w=> .inl w) r
theorem zf {K:IU}{O:Ow}{H:Hp}:∀{fs:List (Str×V)} {ts:List T} {t:T},ir f (fs.map (·.1)) ts=some t->Reps K O H ts (fs.map (·.2))->∃v,fs.lookup f=some v/\Rep K O H t v
 | [],ts,t,h,_=>by cases h
 | (n,w)::fs,[],t,h,_=>by cases h
 | (n,w)::fs,u::ts,t,h,r=>by
  obtain⟨w',ws,e,p,q⟩:=Reps.me.mp r;cases e
  have h':(if n=f then some u else ir f (fs.map (·.1)) ts)=some t:=h
  rw[JO]
  by_cases z:n=f
  ·subst z
   rw[if_pos rfl]at h';cases h';exact⟨w,by rw[beq_self_eq_true],p⟩
  ·rw[if_neg z]at h'
   rw[beq_eq_false_iff_ne.mpr (Ls z)];exact zf h' q
theorem Gj (hc:Cls X.K (bP X.K c))(hn:NoAttr X.K (bP X.K c) f)(ha:cj X a fa)(hb:JM a f X.env (eval a X.env)=eval a X.env:=by rfl):cj X (.Attribute a f pos) (o1 (nA c f) fa):=PE.imp (yb ha hb) λσ H Q hh_=>by
 obtain⟨Z,O,E,h⟩:=hh_;refine uN (aZ (k:=nA c f) E h) λv H' ⟨t,r,s,E',q⟩=> ?_
 cases t with
 | ob c' ns ts=>
  unfold nA at q
  dsimp only at q
  split at q
  ·rename_i hcc
   subst hcc;obtain⟨b,dx,fs,e1,e2,e3,e4,e5⟩:=Rep.Ii.mp r;subst e4
   split at q
   ·rename_i t ht
    obtain⟨w,l1,l2⟩:=zf ht e5;exact⟨b,_,dx,fs,w,e1,e3,hc,hn,l1,q H' (Same.refl _) w l2⟩
   ·exact q.elim
  ·exact q.elim
 | _=>exact q.elim
theorem ze {K:IU}{O:Ow}{H:Hp}:∀{ns:List Str} {as:List Addr} {ls:List (List T)} {l:List T},ir f ns ls=some l->LsR K O H ls as->ns.length=as.length->as.Nodup →
  ∃b vs,(ns.zip (as.map V.ref)).lookup f=some (.ref b)/\b∈as/\H b=some (.lst vs)/\Reps K O H l vs/\∀(l':List T) (vs':List V),O b->Reps K O H l' vs'->LsR K O (upd H b (.lst vs')) (gV f l' ns ls) as
 | [],as,ls,l,h,_,_,_=>by cases ls <;> cases h
 | n::ns,[],ls,l,h,_,hl,_=>by cases hl
 | n::ns,b::as,[],l,h,_,_,_=>by cases h
 | n::ns,b::as,u::ls,l,h,r,hl,nd=>by
  obtain⟨b',bs,vs,e1,e2,e3,e4⟩:=r;cases e1
  have nb:b∉as:=(JH.mp nd).1
  have h':(if n=f then some u else ir f ns ls)=some l:=h
  show ∃c ws,((n,V.ref b)::ns.zip (as.map V.ref)).lookup f=_/\_
  rw[JO]
  have keep:∀(c:Addr) (vs':List V),O c->∀{t:List T} {ws:List V},Reps K O H t ws->Reps K O (upd H c (.lst vs')) t ws:=λc vs' hc t ws q=>Reps.keep (P:=λa=>a=c) (λd o e n=>by rw[aE n];exact e) (λa z=>z▸hc) q
  by_cases z:n=f
  ·subst z
   rw[if_pos rfl]at h';cases h';refine⟨b,vs,by rw[beq_self_eq_true],Je,e2,e3,λl' vs' ob rl=> ?_⟩
   show LsR K O _ (if n=n then l'::ls else _) _
   rw[if_pos rfl];refine⟨b,as,vs',rfl,aQ,keep _ _ ob rl,?_⟩
   clear h hl nd e3 e2
   induction ls generalizing as with
   | nil=>exact e4
   | cons w ls ih=>
    obtain⟨c,cs,ws,f1,f2,f3,f4⟩:=e4;subst f1;exact⟨c,cs,ws,rfl,by rw[aE (λy=>nb (by rw[<-y];exact Je))];exact f2,keep _ _ ob f3,ih cs f4 λy=>nb (IX _ y)⟩
  ·rw[if_neg z]at h'
   rw[beq_eq_false_iff_ne.mpr (Ls z)];obtain⟨d,ws,g1,g2,g3,g4,g5⟩:=ze h' e4 (by simpa using hl) (JH.mp nd).2
   refine⟨d,ws,g1,IX _ g2,g3,g4,λl' vs' od rl=> ?_⟩
   show LsR K O _ (if n=f then l'::ls else u::gV f l' ns ls) _
   rw[if_neg z];exact⟨b,as,vs,rfl,by rw[aE (λy=>nb (by rw[y];exact g2))];exact e2,keep _ _ od e3,g5 l' vs' od rl⟩
theorem Ev.putF {K:IU}{B:Ow}{M:Mn}{H:Hp}{Z:En}{σ:L2.St}{i:Nat}{ns:List Str}{ls:List (List T)}{l:List T}(E:Ev K B M H Z σ)(hi:Z[i]? =some (.ow (.ob c ns ls)))(hf:ir f ns ls=some l) :
  ∃p dx fs b vs,σ[i]? =some (some (.ref p))/\H p=some (.ins (bP K c) dx fs)/\fs.lookup f=some (.ref b)/\H b=some (.lst vs)/\Reps K (OO B M) H l vs/\∀(l':List T) (vs':List V),Reps K (OO B M) H l' vs' →
   Ev K B M (upd H b (.lst vs')) (Z.set i (.ow (.ob c ns (gV f l' ns ls)))) σ/\SameO M.u H (upd H b (.lst vs')):=by
 obtain⟨v0,s0,p,dx,as,e1,e2,⟨n1,n2,n3,n4⟩,e4,e5,e6,e7,e8⟩:=E.env.own i _ hi;subst e1;obtain⟨b,vs,g1,g2,g3,g4,g5⟩:=ze hf e8 e6 n4
 have Mb:M i b:=(e2 b).mpr (.inr (.inr g2));refine⟨p,dx,_,b,vs,s0,e4,g1,g3,g4,λl' vs' rl=> ?_⟩
 have sm:SameO (M i) H (upd H b (.lst vs')):=λd u e nb=>by rw[aE (λz=>nb (by rw[z];exact Mb))];exact e
 refine E.put hi s0 sm ⟨p,dx,as,rfl,e2,⟨n1,n2,n3,n4⟩,?_,?_,e6,e7,g5 l' vs' (.inr ⟨i,Mb⟩) rl⟩
 ·rw[aE (mZ e4 g3 (λz=>nomatch z))];exact e4
 ·rw[aE (mZ e5 g3 (λz=>nomatch z))];exact e5
theorem FG (i:Nat){p3:Pos}(hc:Cls X.K (bP X.K c))(hn:NoAttr X.K (bP X.K c) f)(ha:cj X a fa)(hN:X.N[i]? =some x:=by rfl)(hv:qW X.env.scope x:=by first | exact J8 rfl | exact JP (J8 rfl) | exact JP (JP rfl))(hs:bx a=true:=by rfl)
  (hb1:JM (.Name x p2) f X.env (eval (.Name x p2) X.env)=eval (.Name x p2) X.env:=by rfl)
  (hbase:JM (.Attribute (.Name x p2) f p3) "append" X.env (eval (.Attribute (.Name x p2) f p3) X.env)=eval (.Attribute (.Name x p2) f p3) X.env:=by rfl) (hline:(apos.endLine == cpos.line)=true:=by rfl)
  (hd:fE x:=by decide) (hcd:(x == ("__classdict__" : Str))=false:=by decide):z9 X (.Call (.Attribute (.Attribute (.Name x p2) f p3) "append" apos) [a] [] cpos) (tw i c f fa):=by
 have h1:Jo [a] X.env=(false,eval a X.env)::Jo [] X.env:=bu hs;refine PE.imp (ye K8 MJ MK kJ (yb (hW hN hv hd hcd) hb1) (fK ha kq h1) hbase (by rw[h1];rfl) hline h1 rfl) λσ H Q ⟨Z,B,M,E,h⟩=> ?_
 unfold tw at h
 split at h
 ·rename_i c' ns ls hl
  split at h
  ·rename_i hcc
   subst hcc
   split at h
   ·rename_i l hf
    obtain⟨p,dx,fs,b,vs,s0,e1,e2,e3,e4,k⟩:=E.putF hl hf;refine⟨.ref p,s0,p,_,dx,fs,.ref b,rfl,e1,hc,hn,e2,.inl ⟨rfl,vs,SqL.of e3⟩,Z,OO B M,E.o,?_⟩
    cases q:fa Z with
    | bad=>rw[q]at h;exact h.elim
    | err c=>rw[q]at h;exact h
    | ok t=>
     rw[q,ay]at h
     split at h
     ·rename_i hz
      intro H1 s1 v r;obtain⟨p',dx',fs',b',vs',s0',e1',e2',e3',e4',k'⟩:=(E.same s1).putF hl hf;cases s0.symm.trans s0'
      have z1:=(s1 _ _ e1).symm.trans e1';cases z1;cases e2.symm.trans e2'
      have z3:=(s1 _ _ e3).symm.trans e3';cases z3;obtain⟨g1,g2⟩:=k' (l++ [t]) (vs++ [v]) (e4'.append (Reps.FS r Reps.GM));exact⟨b,vs,v,rfl,rfl,e3',by rw[<-e4.length];exact hz,h .non _ M (λc o e nb=>g2 c o (s1 _ _ e) nb) g1 (λc z=> .inl z) Rep.Ir⟩
     ·exact h.elim
   ·exact h.elim
  ·exact h.elim
 ·exact h.elim
end
theorem qB {m:Str}:∀{fs:List (Str×V)},(fs.map (·.1)).contains m=false->fs.lookup m=none
 | [],_=>rfl
 | (n,v)::fs,h=>by
  rw[IZ,LF,NN]at h;rw[JO,h.1];exact qB h.2
section
variable {X:Cx}{o e:Expr}{es:List Expr}{fo:En->Rs T}{fs:En->Rs (List T)}{pos p2 apos:Pos}{x c m:Str}{k n j:Nat}{f:Addr}{fd:J0}{ps:List Str}
theorem A1 {pl:Sem Bool}{g:List T->Rs T}(hc:Cls X.K (bP X.K c))(hm:uH X.K (bP X.K c) m f)(F:Ad X.prog X.w X.K X.mg X.base k f fd ps 1 g)(hr:Room k X.A)(hb:Binds X.K fd ps [])(hps:ps.length=1)(ho:cj X o fo)
  (ht:eval (.Call (.Attribute o m apos) [] [] pos) X.env=(do
   let ov <-eval o X.env
   standAt apos.atName
   let (f,first) <-holding [ov] (NB ov m pl)
   callWith pos f first (backTo pos (Jo [] X.env)) (NL pos (LV [] X.env))):=by rfl):cj X (.Call (.Attribute o m apos) [] [] pos) (iJ c m g fo aj):=by
 intro pins s σ H Q I ⟨Z,O,E,hq⟩;refine Nh (pl:=pl) (bR (ho pins s σ H _ I (aZ E hq)) λu s1 ⟨v,H1,I1,rx,t,r,sm,E1,q⟩=> ?_) ht
 cases t with
 | ob c' ns ts=>
  dsimp only at q
  split at q
  ·rename_i hcc
   obtain⟨h1,h2⟩:=hcc;subst h1;obtain⟨p,dx,fs',rfl,n,e3,e4,e5⟩:=Rep.Ii.mp r;obtain rfl:u= .ref p:=rx;subst e4;refine nv I1 e3 hc hm (qB h2) ?_
   exact PySem.W.callWith_K0 (first:=[.ref p]) I1.kIn hm.kp (FY (us:=[.ref p]) (vs:=[.ref p]) F hr hb hps I1 (.cons rfl .nil) (Reps.FS r Reps.GM) E1.mtb rfl q)
  ·exact q.elim
 | _=>exact q.elim
end
def spE (K:IU)(n j:Nat)(g:List Sl->Rs (T×OT)):Sp:=λvs H Q _=> ∃sls B m v,Ev K B (one j m) H sls (vs.map some)/\sls.length=n/\vs[j]? =some v ∧
 match g sls with
 | .ok p=> ∀u H' m',SameO m H H'->ORep K (BM B m') m' H' p.2 v->(∀a,m' a->m a\/Nw K H a)->Rep K (BM B m') H' p.1 u->Q u H'
 | _=>False
def FnXE (P:JB)(w:JY)(K:IU)(mg:Str->Option IW)(base:Heap)(k:Nat)(f:Addr)(fd:J0)(ps:List Str)(n j:Nat)(g:List Sl->Rs (T×OT)):Prop:=
 ∀(A:JK) (outer:List Env) (s:IY) (H:Hp) (args:Args) (us:List IW) (vs:List V) (B m:Ow) (sls:List Sl) (c:Str) (R:Pq->IY->Prop),Room k A->Env0 P w K mg base A outer s H->NC s fd args (ps.zip us)->Vals vs us →
  Ev K B (one j m) H sls (vs.map some)->sls.length=n->g sls= .err c->(∀ev s',RzC P w mg outer H s c ev s'->R (.error ev) s')->codeAny (model P w) A (.call (.ref f) args) R s
structure CZ (P:JB)(w:JY)(K:IU)(mg:Str->Option IW)(base:Heap)(k:Nat)(f:Addr)(fd:J0)(ps:List Str)(n j:Nat)(g:List Sl->Rs (T×OT)):Prop where
 h:nR P w K mg base CX0 k f fd ps (spE K n j g)
 x:FnXE P w K mg base k f fd ps n j g
section
variable {K:IU}{B:Ow}{M:Mn}{H H':Hp}{Z:En}{σ:L2.St}{i:Nat}{o o':OT}{v v0:V}{m:Ow}{ts:List T}{vs:List V}
abbrev BC (B:Ow)(M:Mn)(i:Nat):Ow:=λa=>OO B M a/\¬ M i a
theorem uA {j:Nat}{a:Addr}:OO (BC B M i) (one j (M i)) a->OO B M a:=λz=>(one_oo.mp z).elim (λw=>w.1) λw=> .inr ⟨i,w⟩
theorem Ev.args {j:Nat}{sls:List Sl}{ws:List V}(E:Ev K B M H Z σ)(hi:Z[i]? =some (.ow o))(hs:σ[i]? =some (some v0))(hl:sls.length=ws.length)(hj:sls[j]? =some (.ow o))(hw:ws[j]? =some v0)
  (ho:∀(k:Nat) (o':OT),sls[k]? =some (Sl.ow o')->k=j) (hv:∀(k:Nat) (t:T),sls[k]? =some (Sl.va t)->∃w,ws[k]? =some w/\Rep K (OO B M) H t w):Ev K (BC B M i) (one j (M i)) H sls (ws.map some):=by
 obtain⟨v',s',r⟩:=E.env.own i o hi;rw[hs]at s';cases s';refine⟨⟨by rw[Jd];exact hl,λk t e=> ?_,λk o' e=> ?_,λk a z=> .inr ⟨k,z⟩,λk k' a z1 z2=> ?_,λa z=>E.env.trk a (uA z)⟩,λa z y=>y.2 (one_u.mp z)⟩
 ·obtain⟨w,e1,e2⟩:=hv k t e
  exact⟨w,by rw[Jz,e1];rfl,e2.less λa z=>uA z⟩
 ·have hk:=ho k o' e
  subst hk;rw[hj]at e;cases e;refine⟨v0,by rw[Jz,hw];rfl,?_⟩
  rw[show one k (M i) k=M i from Mn.Ib]
  exact r.move (P:=kB) (λ_ z=>z.elim) (λa z=> .inl (uA z)) (λb u q _=>q) λ_ _ z=>z
 ·unfold one Mn.set at z1 z2
  by_cases h1:k=j
  ·by_cases h2:k'=j
   ·exact h1.trans h2.symm
   ·rw[if_neg h2]at z2;exact z2.elim
  ·rw[if_neg h1]at z1;exact z1.elim
theorem Ev.ret {t:T}{u:V}(E:Ev K B M H Z σ)(hi:Z[i]? =some (.ow o))(hs:σ[i]? =some (some v0))(s:SameO (M i) H H')(r:ORep K (BM (BC B M i) m) m H' o' v0)(hm:∀a,m a->M i a\/Nw K H a)(rt:Rep K (BM (BC B M i) m) H' t u) :
  Ev K B (M.set i m) H' (Z.set i (.ow o')) σ/\SameO M.u H H'/\(∀a,(M.set i m).u a->M.u a\/Nw K H a)/\Rep K (OO B (M.set i m)) H' t u:=by
 have sub:∀a,OO B (M.set i m) a->BM (BC B M i) m a:=λa z=>by
  rcases z with z | ⟨k,z⟩
  ·exact .inl ⟨.inl z,λw=>E.mine a ⟨i,w⟩ z⟩
  ·unfold Mn.set at z
   by_cases hk:k=i
   ·rw[if_pos hk]at z;exact .inr z
   ·rw[if_neg hk]at z;exact .inl ⟨.inr ⟨k,z⟩,λw=>hk (E.env.dis k i a z w)⟩
 obtain⟨g1,g2,g3⟩:=E.back hi hs s (r.move (P:=kB) (λ_ z=>z.elim) (λa z=> .inl (sub a z)) (λb u q _=>q) λ_ _ z=>z) hm
 exact⟨g1,g2,g3,rt.less sub⟩
end
section
variable {X:Cx}{k n j:Nat}{f:Addr}{fd:J0}{ps:List Str}{g:List Sl->Rs (T×OT)}{pins:List (Addr×Obj)}{σ:L2.St}{H:Hp}{s:IY}{us:List IW}{vs:List V}{sls:List Sl}{B m:Ow}{Q:VK}{v:V}
def CV (X:Cx)(B m:Ow)(v:V)(H:Hp)(r:Rs (T×OT))(Q:VK):Prop:=match r with
 | .ok p=> ∀u H' m',SameO m H H'->ORep X.K (BM B m') m' H' p.2 v->(∀a,m' a->m a\/Nw X.K H a)->Rep X.K (BM B m') H' p.1 u->Q u H'
 | .err c=>XA X kB H c
 | .bad=>False
theorem Cw (F:CZ X.prog X.w X.K X.mg X.base k f fd ps n j g)(hr:Room k X.A)(hb:Binds X.K fd ps [])(hps:ps.length=n)(I:Inv X pins σ H s)(r:Vals vs us)(Ea:Ev X.K B (one j m) H sls (vs.map some))(hl:sls.length=n)(hv:vs[j]? =some v)
  (hq:CV X B m v H (g sls) Q):wpAny (model X.prog X.w) X.A (call (.ref f) us) (EP X pins σ Q) X.xe s:=by
 cases q2:g sls with
 | bad=>rw[q2]at hq;exact hq.elim
 | ok p=>
  rw[q2]at hq;refine tR (E:=E0) (dvs:=[]) (ds:=[]) F.h hr hb .nil u4 I r ⟨sls,B,m,v,by simpa using Ea,hl,by simpa using hv,?_⟩
  rw[q2]
  exact hq
 | err c=>
  rw[q2]at hq
  have hlen:us.length=ps.length:=by rw[<-r.length,hps,<-hl,Ea.env.len,Jd]
  have hb':=hb s us I.kIn (by rw[JA];exact hlen)
  rw[JA]at hb';refine NJ (Ly (F.x X.A X.stack s H ⟨us,[]⟩ us vs B m sls c (λr s'=>match r with | .error ev=>X.xe ev s' | _=>False) hr I.Iq hb' r Ea hl q2 λev s' w=> ?_) λr s' hq=> ?_)
  ·obtain⟨ea,T,C,H',rfl,hmc,ho,hbare,hun,hok,sm2,hea,heo,fl,hT,hTo⟩:=w
   have I2:Inv X pins σ H' s':=I.Io ho hun hok hbare (λb z=>absurd z (by simp))
   exact hq pins _ _ ⟨ea,some T,C,σ,H',rfl,hmc,I2,λb o q _=>sm2 b o q,hea,λhex=>fT I hex heo,fl,(λt zt=>by cases zt;exact⟨hT,λhex=>fT I hex hTo⟩),λpp hpp=>⟨λzz=>(by have:=(I.pin pp hpp).1;rw[zz,heo]at this;cases this),λzz=>(by cases zz;have:=(I.pin pp hpp).1;rw[hTo]at this;cases this)⟩⟩
  ·cases r with
   | error ev=>exact hq
   | ok fl=>exact hq.elim
theorem xY {M:Mn}{Z:En}{i:Nat}{o:OT}{v0:V}{H0:Hp}{P0:Ow}(E:Ev X.K B M H Z σ)(hi:Z[i]? =some (.ow o))(hs:σ[i]? =some (some v0)){r:Rs (T×OT)}(h:PostX X B M.u σ H (xq i Z r) Q):CV X (BC B M i) (M i) v0 H r Q:=by
 cases r with
 | bad=>exact h
 | err c=>exact h
 | ok p=>
  intro u H' m' s r hm rt;obtain⟨g1,g2,g3,g4⟩:=E.ret hi hs s r hm rt;exact h u H' _ g2 g1 g3 g4
theorem PostX.later {P:Ow}{H1:Hp}{r:Rs (T×En)}(h:PostX X B P σ H r Q)(s:Same H H1):PostX X B P σ H1 r Q:=by
 cases r with
 | bad=>exact h
 | err c=>exact XA.later h (SameO.of s) λ_ z=>z.elim
 | ok p=>exact λv H' M' s' E' o' r'=>h v H' M' (λb o e nb=>s' b o (s _ _ e) nb) E' (λa z=>(o' a z).imp_right (j0 s)) r'
theorem uo {o:OT}{ts:List T}{k:Nat}{o':OT}(h:(Sl.ow o::ts.map Sl.va)[k]? =some (.ow o')):k=0:=by
 cases k with
 | zero=>rfl
 | succ k=>
  rw[Kj,Jz]at h
  cases z:ts[k]? <;> rw[z]at h <;> cases h
theorem um {K:IU}{O:Ow}{H:Hp}{o:OT}{v0:V}{ts:List T}{vs:List V}(r:Reps K O H ts vs){k:Nat}{t:T}(h:(Sl.ow o::ts.map Sl.va)[k]? =some (.va t)):∃w,(v0::vs)[k]? =some w/\Rep K O H t w:=by
 cases k with
 | zero=>cases h
 | succ k=>
  rw[Kj,Jz]at h
  cases z:ts[k]? with
  | none=>rw[z]at h;cases h
  | some u=>
   rw[z]at h;cases h;exact r.get z
end
section
variable {X:Cx}{e:Expr}{es:List Expr}{fs:En->Rs (List T)}{pos p p2 apos:Pos}{x y c m:Str}{k n:Nat}{f:Addr}{fd:J0}{ps:List Str}{g:List Sl->Rs (T×OT)}
theorem Dh {pl:Sem Bool}(i:Nat)(hc:Cls X.K (bP X.K c))(hm:uH X.K (bP X.K c) m f)(F:CZ X.prog X.w X.K X.mg X.base k f fd ps n 0 g)(hr:Room k X.A)(hb:Binds X.K fd ps [])(hps:ps.length=n)(hl:∀Z ts,fs Z= .ok ts->ts.length+1=n)(ha:nV X (e::es) fs)
  (hN:X.N[i]? =some x:=by rfl) (hv:qW X.env.scope x:=by first | exact J8 rfl | exact JP (J8 rfl) | exact JP (JP rfl)) (hd:fE x:=by decide) (hcd:(x == ("__classdict__" : Str))=false:=by decide)
  (hst:Jo (e::es) X.env=(false,eval e X.env)::Jo es X.env:=by rfl) (hpl:(backTo pos (Jo es X.env)).any (·.1)=false:=by rfl)
  (ht:eval (.Call (.Attribute (.Name x p2) m apos) (e::es) [] pos) X.env=(do
   let ov <-eval (.Name x p2) X.env
   standAt apos.atName
   let (f,first) <-holding [ov] (NB ov m pl)
   callWith pos f first (backTo pos (Jo (e::es) X.env)) (NL pos (LV [] X.env))):=by rfl) :
  z9 X (.Call (.Attribute (.Name x p2) m apos) (e::es) [] pos) (ee i c m g fs):=by
 intro pins s σ H Q I ⟨Z,B,M,E,h⟩;unfold ee at h
 split at h
 ·rename_i c' ns ls hi
  split at h
  ·rename_i hcc
   obtain⟨h1,h2⟩:=hcc;subst h1;obtain⟨v0,s0,q,dx,as,e1,e2,e3,e4,e5,e6,e7,e8⟩:=E.env.own i _ hi;subst e1;refine Nh (pl:=pl) (bR (hW (pos:=p2) hN hv hd hcd pins s σ H (λv H'=>v= .ref q/\H'=H) I ⟨_,s0,rfl,rfl⟩) λu s1 ⟨v,H1,I1,rx,ev,eH⟩=> ?_) ht
   subst ev eH;obtain rfl:u= .ref q:=rx;refine nv I1 e4 hc hm (qB (by rw[pE (by rw[Jd];exact e6)];exact h2)) ?_
   refine Le (first:=[.ref q]) (h₀:=X.base) I.ok.mod.kin hm.kp (bR (ha pos pins s1 σ H1 (λvs H2=> ∃ts,fs Z= .ok ts/\Same H1 H2/\Reps X.K (OO B M) H2 ts vs) I1 ⟨Z,OO B M,E.o,?_⟩) λus s2 ⟨vs,H2,I2,r,ts,q1,sm,rs⟩=>⟨I2.kIn,?_⟩) hst hpl
   ·cases z:fs Z with
    | bad=>rw[z]at h;exact h.elim
    | err c=>rw[z]at h;exact h
    | ok ts=>exact λH' s' vs rs=>⟨ts,rfl,s',rs⟩
   ·rw[q1,ay]at h
    have E2:=E.same sm;refine Cw (us:=.ref q::us) (vs:=.ref q::vs) (v:=.ref q) F hr hb hps I2 (.cons rfl r) (E2.args (o:=.ob c' ns ls) hi s0 (by rw[Jb,Jb,Jd,rs.length]) rfl rfl (λk o' z=>uo z) λk t z=>um rs z) ?_ rfl (xY (H0:=H1) (P0:=kB) E2 hi s0 (h.later sm))
    rw[Jb,Jd];exact hl Z ts q1
  ·exact h.elim
 ·exact h.elim
theorem FF (i:Nat)(F:CZ X.prog X.w X.K X.mg X.base k f fd ps n 0 g)(hr:Room k X.A)(hm:X.mg y=some (.ref f))(hk:KO X.K (.ref f)=true)(hb:Binds X.K fd ps [])(hps:ps.length=n)(hl:∀Z ts,fs Z= .ok ts->ts.length+1=n)(ha:nV X es fs)
  (hN:X.N[i]? =some x:=by rfl) (hv:qW X.env.scope x:=by first | exact J8 rfl | exact JP (J8 rfl) | exact JP (JP rfl)) (hd:fE x:=by decide) (hcd:(x == ("__classdict__" : Str))=false:=by decide)
  (hg:Gl X y:=by rfl) (hdb:fE y:=by decide) (he:Jo (.Name x p2::es) X.env=(false,eval (.Name x p2) X.env)::Jo es X.env:=by rfl) (hpl:(backTo pos (Jo es X.env)).any (·.1)=false:=by rfl) :
  z9 X (.Call (.Name y p) (.Name x p2::es) [] pos) (tq i g fs):=by
 intro pins s σ H Q I ⟨Z,B,M,E,h⟩;unfold tq at h
 split at h
 ·rename_i o hi
  obtain⟨v0,s0,r0⟩:=E.env.own i _ hi;refine Kk (gy I hg hm ?_ hdb)
  refine Le (h₀:=X.base) I.ok.mod.kin hk (bR (fK (hW (pos:=p2) hN hv hd hcd) ha he pos pins s σ H (λws H2=> ∃ts vs,ws=v0::vs/\fs Z= .ok ts/\Same H H2/\Reps X.K (OO B M) H2 ts vs) I ⟨v0,s0,Z,OO B M,E.o,?_⟩) λus s2 ⟨ws,H2,I2,r,ts,vs,e1,q1,sm,rs⟩=>⟨I2.kIn,?_⟩) he hpl
  ·cases z:fs Z with
   | bad=>rw[z]at h;exact h.elim
   | err c=>rw[z]at h;exact h
   | ok ts=>exact λH' s' vs rs=>⟨ts,vs,rfl,rfl,s',rs⟩
  ·subst e1
   rw[q1,ay]at h
   have E2:=E.same sm;refine Cw (v:=v0) F hr hb hps I2 r (E2.args (o:=o) hi s0 (by rw[Jb,Jb,Jd,rs.length]) rfl rfl (λk o' z=>uo z) λk t z=>um rs z) ?_ rfl (xY (H0:=H) (P0:=kB) E2 hi s0 (h.later sm))
   rw[Jb,Jd];exact hl Z ts q1
 ·exact h.elim
end
section
variable {X:Cx}{a b e c:Expr}{es:List Expr}{fb:En->Rs T}{x y:En->Rs (T×En)}{fs:En->Rs (List T)}{pos p2 p3 apos cpos:Pos}{bN:List Expr}
theorem FE {B:Ow}{M:Mn}{Z:En}{σ:L2.St}{H:Hp}(E:Ev X.K B M H Z σ)(he:∀c,x Z= .err c->XA X kB H c)(hb:x Z≠ .bad) :
  tX X x σ H λv H1=> ∃p M1,x Z= .ok p/\SameO M.u H H1/\Ev X.K B M1 H1 p.2 σ/\(∀a,M1.u a->M.u a\/Nw X.K H a)/\Rep X.K (OO B M1) H1 p.1 v:=by
 refine⟨Z,B,M,E,?_⟩
 cases z:x Z with
 | bad=>exact(hb z).elim
 | err c=>exact he c z
 | ok p=>exact λv H' M' s e o r=>⟨p,M',rfl,s,e,o,r⟩
def PostXB (X:Cx)(B P:Ow)(σ:L2.St)(H:Hp)(r:Rs (Bool×En))(Q:Bool->Hp->Prop):Prop:=match r with
 | .ok p=> ∀H' M',SameO P H H'->Ev X.K B M' H' p.2 σ->(∀a,M'.u a->P a\/Nw X.K H a)->Q p.1 H'
 | .err c=>XA X kB H c
 | .bad=>False
def tXB (X:Cx)(f:En->Rs (Bool×En)):TT:=λσ H Q=> ∃Z B M,Ev X.K B M H Z σ/\PostXB X B M.u σ H (f Z) Q
abbrev Fq (X:Cx)(e:Expr)(f:En->Rs (Bool×En)):Prop:=PT X e (tXB X f)
theorem Ap {f:En->Rs Bool}(h:sZ X a f):Fq X a (De f):=PT.imp h λσ H Q hh_=>by
 obtain⟨Z,B,M,E,q⟩:=hh_;refine⟨Z,OO B M,E.o,?_⟩
 unfold De at q
 cases z:f Z with
 | bad=>rw[z]at q;exact q
 | err c=>rw[z]at q;exact q
 | ok t=>
  rw[z,ay]at q;exact λH' s=>q H' M (SameO.of s) (E.same s) λ_ w=> .inl w
theorem xp {op:Pw}{g:T->T->Rs T}{pins:List (Addr×Obj)}{s1:IY}{B:Ow}{M:Mn}{σ:L2.St}{H H1:Hp}{p:T×En}{M1:Mn}{v:IW}{vx:V}{Q:VK}(ho:OpT X (J3 op) g)(hb:cj X b fb)(I1:Inv X pins σ H1 s1)(r1:RelV vx v)(sm:SameO M.u H H1)(E1:Ev X.K B M1 H1 p.2 σ)
  (gr:∀a,M1.u a->M.u a\/Nw X.K H a) (rt:Rep X.K (OO B M1) H1 p.1 vx) (h:PostX X B M.u σ H (xh (fb p.2 >>= g p.1) >>= λt=> .ok (t,p.2)) Q) :
  wpAny (model X.prog X.w) X.A (eval b X.env) (λu s2=>wpAny (model X.prog X.w) X.A (J3 op v u) (EP X pins σ Q) X.xe s2) X.xe s1:=by
 cases z:fb p.2 with
 | bad=>rw[z]at h;exact h.elim
 | err c=>rw[z]at h;exact h.elim
 | ok t2=>
  rw[z,ay]at h;refine bR (hb pins s1 σ H1 (λu H2=>Same H1 H2/\Rep X.K (OO B M1) H2 t2 u) I1 ⟨p.2,OO B M1,E1.o,by rw[z];exact λH' s u r=>⟨s,r⟩⟩) λu s2 hh_=> ?_
  obtain⟨y,H2,I2,r2,s',rt2⟩:=hh_;refine ho pins s2 σ H2 (OO B M1) p.1 t2 vx y v u Q I2 (λp=>(E1.same s').o.fresh) (rt.same s') rt2 r1 r2 ?_
  cases z2:g p.1 t2 with
  | bad=>rw[z2]at h;exact h.elim
  | err c=>rw[z2]at h;exact h.elim
  | ok t3=>
   rw[z2]at h;exact λH' s3 v r=>h v H' M1 (λb o e nb=>s3 _ _ (s' _ _ (sm b o e nb))) ((E1.same s').same s3) gr r
theorem Dd {op:Pw}{g:T->T->Rs T}(ho:OpT X (J3 op) g)(ha:z9 X a x)(hb:cj X b fb)(hm:LK op b=false:=by rfl):Fq X (.Compare a [op] [b] pos) (Df (Aq g x fb)):=by
 intro pins s σ H Q I ⟨Z,B,M,E,h⟩
 have h':PostX X B M.u σ H (Aq g x fb Z) λv H'=> ∃k,v= .bl k/\Q k H':=by
  unfold Df at h
  cases z:Aq g x fb Z with
  | bad=>rw[z]at h;exact h
  | err c=>rw[z]at h;exact h
  | ok p=>
   rw[z,ay]at h;obtain⟨t,Z'⟩:=p
   cases t with
   | bl k=>exact λv H' M' s e o r=>⟨k,Rep.FM.mp r,h H' M' s e o⟩
   | _=>exact h.elim
 unfold Aq at h';refine NG (bR (ha pins s σ H _ I (FE E (λc z=>by rw[z]at h';exact h') (λz=>by rw[z]at h';exact h'))) λv s1 ⟨vx,H1,I1,r1,p,M1,hx,sm,E1,gr,rt⟩=> ?_) hm
 rw[hx,ay]at h';refine bR (xp ho hb I1 r1 sm E1 gr rt h') λu s2 q2=>bR q2 λd s3 hh_=> ?_
 obtain⟨z,H3,I3,r3,k,ez,q3⟩:=hh_;subst ez;cases r3;exact Ke ⟨H3,I3,q3⟩
theorem PostXB.later {B P P1:Ow}{σ:L2.St}{H H1:Hp}{r:Rs (Bool×En)}{Q:Bool->Hp->Prop}(h:PostXB X B P σ H (xh r) Q)(s:SameO P H H1)(sub:∀a,P1 a->P a\/Nw X.K H a):PostXB X B P1 σ H1 r Q:=by
 cases r with
 | bad=>exact h
 | err c=>exact h.elim
 | ok p=>exact λH' M' s' E' o'=>h H' M' (s.trans s' sub) E' λa z=>(o' a z).elim (sub a) (eQ s)
abbrev Hu (X:Cx)(e:Expr)(f:En->Rs (Bool×En)):Prop:=PW X e (tXB X f)
variable {f g:En->Rs (Bool×En)}
theorem Dc (ha:Fq X a f):Hu X (.BoolOp .Or [a] pos) f:=xT ha
theorem FD (ha:Fq X a f)(hb:Hu X (.BoolOp .Or (b::bN) pos) g):Hu X (.BoolOp .Or (a::b::bN) pos) (tp f g):=by
 intro wh pins s σ H Q I ⟨Z,B,M,E,h⟩;refine Cy ha hb wh pins s σ H Q I ⟨Z,B,M,E,?_⟩
 unfold tp at h
 cases z:f Z with
 | bad=>rw[z]at h;exact h
 | err c=>rw[z]at h;exact h
 | ok p=>
  rw[z,ay]at h;obtain⟨k,Z'⟩:=p;intro H' M' s' E' o'
  cases k with
  | true=>rw[if_pos rfl];exact(show PostXB X B M.u σ H (.ok (true,Z')) Q by simpa using h) H' M' s' E' o'
  | false=>rw[if_neg Jw];exact⟨Z',B,M',E',PostXB.later (by simpa using h) s' o'⟩
theorem xt_w (h:Hu X e f):Fq X e f:=h.pt
theorem DC {A C:List Stmt}{F G:En->Rs Fl}(hc:Fq X c f)(ha:jB X A F)(hb:jB X C G):lY X (.If c A C pos) (tN f F G):=PS.imp (xW hc ha hb) λD σ H hh_=>by
 obtain⟨Z,B,M,E,h⟩:=hh_;refine⟨Z,B,M,E,?_⟩
 unfold tN at h
 cases z:f Z with
 | bad=>rw[z]at h;exact h.elim
 | err c=>rw[z]at h;exact PostF.xa h
 | ok p=>
  rw[z,ay]at h;obtain⟨k,Z'⟩:=p;intro H' M' s' E' o'
  cases k with
  | true=>refine L2.iteT ?_;exact⟨Z',B,M',E',PostF.later (by simpa using h) s' o'⟩
  | false=>refine L2.iteF ?_;exact⟨Z',B,M',E',PostF.later (by simpa using h) s' o'⟩
theorem DF (ha:z9 X a x)(hs:JU a none pos.line X.env=pure false:=by rfl):lY X (.Expr a pos) (rJ x):=PS.imp (jX ha hs) λD σ H hh_=>by
 obtain⟨Z,B,M,E,h⟩:=hh_;refine⟨Z,B,M,E,?_⟩
 unfold rJ at h
 cases z:x Z with
 | bad=>rw[z]at h;exact h.elim
 | err c=>rw[z]at h;exact PostF.xa h
 | ok p=>rw[z,ay]at h;exact λv H' M' s' E' o' r=>h σ H' M' s' E' o'
theorem DI (i:Nat){n:Str}(hN:X.N.Nodup)(ha:z9 X a x)(hi:X.N[i]? =some n:=by rfl)(hx:Loc X.env.scope n:=by first | exact J8 rfl | exact JP rfl)(hs:JU a (some (.Name n p3)) pos.line X.env=pure false:=by rfl)
  (hf:X.fn n=true\/X.env.scope.names.lookup n=some .local:=by first | exact .inl rfl | exact .inr rfl | assumption):lY X (.Assign [.Name n p3] a pos) (tQ i x):=PS.imp (pZ hN hi hx ha hs hf) λD σ H hh_=>by
 obtain⟨Z,B,M,E,h⟩:=hh_;refine⟨Z,B,M,E,?_⟩
 unfold tQ at h
 cases z:x Z with
 | bad=>rw[z]at h;exact h.elim
 | err c=>rw[z]at h;exact PostF.xa h
 | ok p=>
  rw[z,ay]at h;intro v H' M' s' E' o' r
  by_cases hl:i<p.2.length
  ·rw[if_pos hl]at h
   exact h _ H' M' s' ⟨E'.env.set hl r,E'.mine⟩ o'
  ·rw[if_neg hl]at h;exact h.elim
end
def PostM (X:Cx)(B P:Ow)(j:Nat)(σ:L2.St)(H:Hp)(r:Rs Fx)(D:lM):Prop:=match r with
 | .ok (.nx Z')=> ∀σ' H' M',SameO P H H'->Ev X.K B M' H' Z' σ'->(∀a,M'.u a->P a\/Nw X.K H a)->σ'[j]? =σ[j]?->D.nx σ' H'
 | .ok (.rt t Z')=> ∀v σ' H' M',SameO P H H'->Ev X.K B M' H' Z' σ'->(∀a,M'.u a->P a\/Nw X.K H a)->σ'[j]? =σ[j]?->Rep X.K (OO B M') H' t v->D.rt v H'
 | .err c=>XA X kB H c
 | .bad=>False
def tPM (X:Cx)(j:Nat)(F:En->Rs Fx):TS:=λD σ H=> ∃Z B M,Ev X.K B M H Z σ/\PostM X B M.u j σ H (F Z) D
abbrev Ck (X:Cx)(j:Nat)(s:Stmt)(F:En->Rs Fx):Prop:=PS X s (tPM X j F)
abbrev Aa (X:Cx)(j:Nat)(s:List Stmt)(F:En->Rs Fx):Prop:=PSs X s (tPM X j F)
section
variable {X:Cx}{j:Nat}{a c:Expr}{es:List Expr}{x:En->Rs (T×En)}{fs:En->Rs (List T)}{pos p2 p3:Pos}
theorem PostM.later {B P P1:Ow}{σ σ1:L2.St}{H H1:Hp}{r:Rs Fx}{D:lM}(h:PostM X B P j σ H (xh r) D)(s:SameO P H H1)(sub:∀a,P1 a->P a\/Nw X.K H a)(hj:σ1[j]? =σ[j]?):PostM X B P1 j σ1 H1 r D:=by
 have back:∀a,P1 a\/Nw X.K H1 a->P a\/Nw X.K H a:=λa z=>z.elim (sub a) (eQ s)
 cases r with
 | bad=>exact h
 | err c=>exact h.elim
 | ok f=>
  cases f with
  | nx Z'=>exact λσ' H' M' s' E' o' k=>h σ' H' M' (s.trans s' sub) E' (λa z=>back a (o' a z)) (k.trans hj)
  | rt t Z'=>exact λv σ' H' M' s' E' o' k r=>h v σ' H' M' (s.trans s' sub) E' (λa z=>back a (o' a z)) (k.trans hj) r
theorem PostM.same {B P:Ow}{σ:L2.St}{H H1:Hp}{r:Rs Fx}{D:lM}(h:PostM X B P j σ H r D)(s:Same H H1):PostM X B P j σ H1 r D:=by
 cases r with
 | err c=>exact XA.later h (SameO.of s) λ_ z=>z.elim
 | bad=>exact h
 | ok f=>exact PostM.later (r:=.ok f) h (SameO.of s) (λa z=> .inl z) rfl
theorem GJ:Aa X j [] mN:=PSs.imp uV λD σ H ⟨Z,B,M,E,h⟩=>h σ H M (λ_ _ e _=>e) E (λa z=> .inl z) rfl
theorem GI {st:Stmt}{F:En->Rs Fx}(h:Ck X j st F):Aa X j [st] F:=uU h
theorem EA {st:Stmt}{bN:List Stmt}{F G:En->Rs Fx}(h1:Ck X j st F)(h2:Aa X j bN G):Aa X j (st::bN) (jx F G):=PSs.imp (rO h1 h2) λD σ H hh_=>by
 obtain⟨Z,B,M,E,h⟩:=hh_;refine⟨Z,B,M,E,?_⟩
 unfold jx at h
 cases q:F Z with
 | bad=>rw[q]at h;exact h.elim
 | err c=>rw[q]at h;exact h
 | ok f=>
  rw[q]at h
  cases f with
  | nx Z'=>exact λσ' H' M' s' E' o' k=>⟨Z',B,M',E',PostM.later h s' o' k⟩
  | rt t Z'=>exact h
theorem m_ex (ha:z9 X a x)(hs:JU a none pos.line X.env=pure false:=by rfl):Ck X j (.Expr a pos) (wB x):=PS.imp (jX ha hs) λD σ H hh_=>by
 obtain⟨Z,B,M,E,h⟩:=hh_;refine⟨Z,B,M,E,?_⟩
 unfold wB at h
 cases z:x Z with
 | bad=>rw[z]at h;exact h.elim
 | err c=>rw[z]at h;exact h
 | ok p=>rw[z,ay]at h;exact λv H' M' s' E' o' r=>h σ H' M' s' E' o' rfl
theorem GH (ha:z9 X a x):Ck X j (.Return (some a) pos) (m5 x):=PS.imp (xV ha) λD σ H hh_=>by
 obtain⟨Z,B,M,E,h⟩:=hh_;refine⟨Z,B,M,E,?_⟩
 unfold m5 at h
 cases z:x Z with
 | bad=>rw[z]at h;exact h.elim
 | err c=>rw[z]at h;exact h
 | ok p=>rw[z,ay]at h;exact λv H' M' s' E' o' r=>h v σ H' M' s' E' o' rfl r
theorem m_if {f:En->Rs Bool}{A C:List Stmt}{F G:En->Rs Fx}(hc:sZ X c f)(ha:Aa X j A F)(hb:Aa X j C G):Ck X j (.If c A C pos) (Fu f F G):=PS.imp (xW hc ha hb) λD σ H hh_=>by
 obtain⟨Z,B,M,E,h⟩:=hh_;refine⟨Z,OO B M,E.o,?_⟩
 unfold Fu at h
 cases q:f Z with
 | bad=>rw[q]at h;exact h.elim
 | err c=>rw[q]at h;exact h
 | ok k=>
  rw[q,ay]at h;intro H' s
  have E':Ev X.K B M H' Z σ:=E.same s
  cases k with
  | true=>refine L2.iteT ?_;exact⟨Z,B,M,E',PostM.same (by simpa using h) s⟩
  | false=>refine L2.iteF ?_;exact⟨Z,B,M,E',PostM.same (by simpa using h) s⟩
theorem Ev.blank {K:IU}{B:Ow}{M:Mn}{H:Hp}{Z:En}{σ:L2.St}(E:Ev K B M H Z σ):Ev K (OO B M) noM H (Js σ.length .em) σ:=
 ⟨⟨by simp,λi t e=>(by rw[JZ]at e;split at e <;> cases e),λi o e=>(by rw[JZ]at e;split at e <;> cases e),λ_ _ z=>z.elim,λ_ _ _ z=>z.elim,λa z=>E.env.trk a (z.elim id λ⟨_,w⟩=>w.elim)⟩,λa ⟨_,z⟩=>z.elim⟩
theorem GL {st:Stmt}{c:Str}(h:lY X st (tO c)):Ck X j st (EB c):=PS.imp h λD σ H hh_=>by
 obtain⟨Z,B,M,E,q⟩:=hh_;refine⟨_,_,_,E.blank,?_⟩
 exact XA.later (P:=kB) q (λ_ _ e _=>e) λ_ ⟨_,z⟩=>z.elim
end
section
variable {K:IU}
theorem oR {f:Str}{b:Addr}:∀{ns:List Str} {as:List Addr},ns.length=as.length->ns.contains f=true->∃as1 d as2,as=as1++d::as2/\putF f (.ref b) (ns.zip (as.map V.ref))=ns.zip ((as1++b::as2).map V.ref) ∧
  ∀{O:Ow} {H:Hp} {ls:List (List T)} {l:List T} {vs:List V},H b=some (.lst vs)->Reps K O H l vs->LsR K O H ls as->LsR K O H (gV f l ns ls) (as1++b::as2)
 | [],as,_,h=>by cases h
 | n::ns,[],hl,_=>by cases hl
 | n::ns,d::as,hl,h=>by
  by_cases z:n=f
  ·subst z
   refine⟨[],d,as,rfl,?_,λ{O H ls l vs} e1 e2 r=> ?_⟩
   ·show(if n=n then(n,V.ref b)::_ else _)=_
    rw[if_pos rfl];rfl
   ·cases ls with
    | nil=>cases (show d::as= []from r)
    | cons u ls=>
     obtain⟨b',bs,ws,f1,f2,f3,f4⟩:=r;cases f1
     show LsR K O H (if n=n then l::ls else _) _
     rw[if_pos rfl];exact⟨b,as,vs,rfl,e1,e2,f4⟩
  ·have h':ns.contains f=true:=by
    rw[LF,Pk]at h;rcases h with h | h
    ·exact absurd (eq_of_beq h).symm z
    ·exact h
   obtain⟨as1,d',as2,g1,g2,g3⟩:=oR (f:=f) (b:=b) (by simpa using hl) h'
   refine⟨d::as1,d',as2,by rw[g1];rfl,?_,λ{O H ls l vs} e1 e2 r=> ?_⟩
   ·show(if n=f then _ else(n,V.ref d)::putF f (.ref b) (ns.zip (as.map V.ref)))=_
    rw[if_neg z,g2];rfl
   ·cases ls with
    | nil=>cases (show d::as= []from r)
    | cons u ls=>
     obtain⟨b',bs,ws,f1,f2,f3,f4⟩:=r;cases f1
     show LsR K O H (if n=f then _ else u::gV f l ns ls) _
     rw[if_neg z];exact⟨d,_,ws,rfl,f2,f3,g3 e1 e2 f4⟩
theorem uT {f:Str}{b:Addr}:∀{ns:List Str} {as:List Addr},ns.length=as.length->ns.contains f=false->putF f (.ref b) (ns.zip (as.map V.ref))=(ns++ [f]).zip ((as++ [b]).map V.ref)
 | [],[],_,_=>rfl
 | n::ns,[],hl,_=>by cases hl
 | n::ns,d::as,hl,h=>by
  rw[LF,NN]at h
  show(if n=f then _ else(n,V.ref d)::putF f (.ref b) (ns.zip (as.map V.ref)))=_
  rw[if_neg (λz=>by rw[z,beq_self_eq_true]at h;exact Bool.noConfusion h.1),uT (by simpa using hl) h.2];rfl
theorem LsR.app {O:Ow}{H:Hp}{b:Addr}{l:List T}{vs:List V}(e1:H b=some (.lst vs))(e2:Reps K O H l vs):∀{ls:List (List T)} {as:List Addr},LsR K O H ls as->LsR K O H (ls++ [l]) (as++ [b])
 | [],as,r=>by cases (show as= []from r);exact⟨b,[],vs,rfl,e1,e2,rfl⟩
 | u::ls,as,⟨d,ds,ws,f1,f2,f3,f4⟩=>by subst f1;exact⟨d,ds++ [b],ws,rfl,f2,f3,LsR.app e1 e2 f4⟩
end
section
variable {X:Cx}{j:Nat}{es:List Expr}{fs:En->Rs (List T)}{pos p2 p3 p4:Pos}
theorem GK (i:Nat){n c f:Str}(hc:Cls X.K (bP X.K c))(hn:NoAttr X.K (bP X.K c) f)(ha:nV X es fs)(hN:X.N[i]? =some n:=by rfl)(hv:qW X.env.scope n:=by first | exact J8 rfl | exact JP (J8 rfl) | exact JP (JP rfl))
  (hd:fE n:=by decide) (hcd:(n == ("__classdict__" : Str))=false:=by decide) (hs:JU (.List es p4) (some (.Attribute (.Name n p2) f p3)) pos.line X.env=pure false:=by rfl) :
  Ck X j (.Assign [.Attribute (.Name n p2) f p3] (.List es p4) pos) (qA i c f fs):=PS.imp (DY (hW hN hv hd hcd) (uX ha) hs) λD σ H hh_=>by
 obtain⟨Z,B,M,E,h⟩:=hh_;unfold qA at h
 split at h
 ·rename_i c' ns ls hi
  refine⟨Z,OO B M,E.o,?_⟩
  cases z:fs Z with
  | bad=>rw[z]at h;exact h.elim
  | err c=>rw[z]at h;exact h
  | ok l=>
   rw[z,ay]at h;intro H1 s1 vs rs
   split at h
   ·rename_i hcc
    obtain⟨h1,h2,h3⟩:=hcc;subst h1;refine⟨by rw[<-rs.length];exact h2,λb hb=> ?_⟩
    have E1:=E.same s1;obtain⟨v0,s0,p,dx,as,e1,e2,⟨n1,n2,n3,n4⟩,e4,e5,e6,e7,e8⟩:=E1.env.own i _ hi;subst e1
    have nb:∀{d:Addr} {o:HO},H1 d=some o->d≠b:=λe z=>by rw[z,hb.1]at e;cases e
    have mb:∀a,M i a->a≠b:=λa w=>nb (E1.env.trk a (.inr ⟨i,w⟩)).some.choose_spec
    have pb:p≠b:=nb e4
    have hbas:b∉as:=λw=>mb b ((e2 b).mpr (.inr (.inr w))) rfl
    have sm1:Same H1 (upd H1 b (.lst vs)):=bj hb.1 _;refine⟨_,s0,p,_,dx,_,rfl,sm1 _ _ e4,hc,hn,by rw[List.length_zip,Jd,<-e6];simpa using h3,?_⟩
    have key:∀(ns':List Str) (as':List Addr) (ls':List (List T)),putF f (.ref b) (ns.zip (as.map V.ref))=ns'.zip (as'.map V.ref)->ns'.length=as'.length->ns'.Nodup->as'.Nodup->(∀a,a∈as'->a=b\/a∈as) →
      (∀{O:Ow} {H:Hp},H b=some (.lst vs)->Reps X.K O H l vs->LsR X.K O H ls as->LsR X.K O H ls' as')->PostM X B M.u j σ H (.ok (.nx (Z.set i (.ow (.ob c' ns' ls'))))) D->D.nx σ (upd (upd H1 b (.lst vs)) p (.ins (bP X.K c') dx (putF f (.ref b) (ns.zip (as.map V.ref))))):=λns' as' ls' k1 k2 k3 k4 k5 k6 k7=>by
     rw[k1]
     generalize hm:(λa=>a=p\/a=dx\/a∈as':Ow)=m
     have hsub:∀a,m a->M i a\/Nw X.K H1 a:=λa w=>by
      subst hm;rcases w with w | w | w
      ·exact .inl ((e2 a).mpr (.inl w))
      ·exact .inl ((e2 a).mpr (.inr (.inl w)))
      ·exact(k5 a w).elim (λy=> .inr (y▸hb)) λy=> .inl ((e2 a).mpr (.inr (.inr y)))
     have hO:∀a,OO B (M.set i m) a->OO B M a\/Nw X.K H1 a:=λa w=>w.elim (λy=> .inl (.inl y)) λy=>(Mn.HU y).elim (λq=>(hsub a q).imp_left λt=> .inr ⟨i,t⟩) λq=> .inl (.inr q)
     have sm2:SameO (λa=>a=p) (upd H1 b (.lst vs)) (upd (upd H1 b (.lst vs)) p (.ins (bP X.K c') dx (ns'.zip (as'.map V.ref)))):=λd o e ne=>by rw[aE ne];exact e
     have smi:SameO (M i) H1 (upd (upd H1 b (.lst vs)) p (.ins (bP X.K c') dx (ns'.zip (as'.map V.ref)))):=λd o e ne=>sm2 d o (sm1 _ _ e) λw=>ne ((e2 d).mpr (.inl w))
     have nin:∀a∈as',a≠p:=λa ha w=>(k5 a ha).elim (λy=>pb (w▸y)) λy=>n1 (w▸y)
     have rp:∀{t:List T} {ws:List V},Reps X.K (OO B M) H1 t ws->Reps X.K (OO B (M.set i m)) (upd (upd H1 b (.lst vs)) p (.ins (bP X.K c') dx (ns'.zip (as'.map V.ref)))) t ws:=λr=>r.move (P:=M i) (λa w=> .inl (.inr ⟨i,w⟩)) hO smi
     have smp:SameO (λa=>a=p) H1 (upd (upd H1 b (.lst vs)) p (.ins (bP X.K c') dx (ns'.zip (as'.map V.ref)))):=λd o e ne=>sm2 d o (sm1 _ _ e) ne
     have fin:=k6 (O:=OO B (M.set i m)) (H:=upd (upd H1 b (.lst vs)) p (.ins (bP X.K c') dx (ns'.zip (as'.map V.ref)))) (by rw[aE (Ls pb)];exact aQ) (rp rs) (e8.move (P:=λa=>a=p) (λa w=> .inl (.inr ⟨i,(e2 a).mpr (.inl w)⟩)) hO smp λd hd w=>n1 (w▸hd))
     have ndx:dx∉as':=λw=>(k5 dx w).elim (nb e5) n2
     obtain⟨g1,g2,g3⟩:=E1.back (m:=m) (o':=.ob c' ns' ls') hi s0 smi ⟨p,dx,as',rfl,λd=>by subst hm;exact LS,⟨λw=>nin p w rfl,ndx,n3,k4⟩,aQ,by rw[aE n3];exact sm1 _ _ e5,k2,k3,fin⟩ hsub
     exact k7 σ _ _ (λd o e ne=>g2 d o (s1 _ _ e) ne) g1 (λa w=>(g3 a w).imp_right (j0 s1)) rfl
    cases hf:ns.contains f with
    | true=>
     rw[hf,if_pos rfl]at h;obtain⟨as1,d,as2,q1,q2,q3⟩:=oR (K:=X.K) (f:=f) (b:=b) e6 hf;subst q1;refine key ns (as1++b::as2) (gV f l ns ls) q2 (by rw[e6];simp) e7 ?_ (λa w=> ?_) (λa1 a2 a3=>q3 a1 a2 a3) h
     ·rw[Kd]at n4 ⊢
      obtain⟨m1,m2,m3⟩:=n4
      have nb1:b∉as1:=λw=>hbas (JN _ w)
      have nb2:b∉as2:=λw=>hbas (Jx _ (IX _ w))
      refine⟨m1,JH.mpr ⟨nb2,(JH.mp m2).2⟩,λu hu w hw=> ?_⟩
      rcases Jg.mp hw with hw | hw
      ·exact λy=>nb1 (by rw[<-hw,<-y];exact hu)
      ·exact m3 u hu w (IX _ hw)
     ·rcases Ju.mp w with w | w
      ·exact .inr (JN _ w)
      ·rcases Jg.mp w with w | w
       ·exact .inl w
       ·exact .inr (Jx _ (IX _ w))
    | false=>
     rw[hf,if_neg Jw]at h;refine key (ns++ [f]) (as++ [b]) (ls++ [l]) (uT e6 hf) (by simp[e6]) ?_ ?_ (λa w=> ?_) (λa1 a2 a3=>LsR.app a1 a2 a3) h
     ·rw[Kd]
      refine⟨e7,by simp,λu hu w hw y=> ?_⟩
      rw[Jk.mp hw]at y
      have:ns.contains f=true:=by rw[List.contains_iff_mem,<-y];exact hu
      rw[hf]at this;cases this
     ·rw[Kd]
      exact⟨n4,by simp,λu hu w hw y=>hbas (by rw[<-Jk.mp hw,<-y];exact hu)⟩
     ·rcases Ju.mp w with w | w
      ·exact .inr w
      ·exact .inl (Jk.mp w)
   ·exact h.elim
 ·exact h.elim
end
theorem md {K:IU}{B:Ow}{M:Mn}{H:Hp}{N:List Str}{sls:List Sl}{vs:List V}(E:Ev K B M H sls (vs.map some))(hl:sls.length<=N.length):Ev K B M H (dX N.length sls) (start N vs):=by
 have hlen:sls.length=vs.length:=by rw[E.env.len,Jd]
 have low:∀(i:Nat) (z:Sl),(dX N.length sls)[i]? =some z->z= .em\/(sls[i]? =some z/\(start N vs)[i]? =(vs.map some)[i]?):=λi z e=>by
  unfold dX at e;unfold L2.start
  by_cases hi:i<sls.length
  ·rw[J2 hi]at e
   exact .inr ⟨e,J2 (by rw[Jd,<-hlen];exact hi)⟩
  ·rw[KI (by omega),JZ]at e
   split at e
   ·cases e;exact .inl rfl
   ·cases e
 refine⟨⟨by unfold dX L2.start;simp;omega,λi t e=> ?_,λi o e=> ?_,E.env.sub,E.env.dis,E.env.trk⟩,E.mine⟩
 ·rcases low i _ e with z | ⟨e1,e2⟩
  ·cases z
  ·rw[e2];exact E.env.val i t e1
 ·rcases low i _ e with z | ⟨e1,e2⟩
  ·cases z
  ·rw[e2];exact E.env.own i o e1
theorem Bk {j:Nat}{f:Fx}{p:T×OT}(h:n8 j f= .ok p):(∃Z,f= .nx Z/\p.1= .non/\Z[j]? =some (.ow p.2))\/∃Z,f= .rt p.1 Z/\Z[j]? =some (.ow p.2):=by
 cases f with
 | nx Z=>
  unfold n8 at h
  dsimp only at h
  split at h
  ·rename_i o e;cases h;exact .inl ⟨Z,rfl,rfl,e⟩
  ·cases h
 | rt t Z=>
  unfold n8 at h
  dsimp only at h
  split at h
  ·rename_i o e;cases h;exact .inr ⟨Z,rfl,e⟩
  ·cases h
section
variable {P:JB}{w:JY}{K:IU}{mg:Str->Option IW}{base:Heap}
theorem He {x qual:Str}{st:Stmt}{f:Addr}{fd:J0}{N ps:List Str}{k n j:Nat}{F:En->Rs Fx}(Fn:L2.Fun K x qual st f fd)(S:aw N ps (ai st))(hn:ps.length=n)
  (hbody:∀(cdv:IW) (A:JK) (outer:List Env) (s:IY) (H:Hp) (E:XK),Room k (A.deeper (envOfC qual (ai st) s.heap.objs.size f cdv)) →
   Aa (fG CX0 P w K mg base N qual (ai st) f cdv A outer s H E).nox j (bJ st) F):nR P w K mg base CX0 (k+1) f fd ps (spE K n j (fR n j N.length F)):=by
 have hpl:ps.length<=N.length:=by have:=congrArg K9 S.pre;rw[Kx]at this;omega
 refine Fn.ok S (λvs H Q E h=> ?_) (λcdv A outer s H vs Q E hr h=> ?_)
 ·obtain⟨sls,B,m,v,Ea,hl,_⟩:=h
  rw[<-Jd (as:=vs) (f:=some),<-Ea.env.len,hl,hn]
 ·obtain⟨sls,B,m,v,Ea,hl,hv,h⟩:=h
  refine⟨_,hbody cdv A outer s H E hr,dX N.length sls,B,one j m,md Ea (by omega),?_⟩
  have hjs:(start N vs)[j]? =some (some v):=by
   unfold L2.start;rw[J2 (by rw[Jd];exact(Jh.mp hv).1),Jz,hv];rfl
  unfold fR at h;rw[if_pos hl]at h
  have fin:∀{p:T×OT} {Z':En} {σ':L2.St} {H':Hp} {M':Mn} {u:V},(∀u H' m',SameO m H H'->ORep K (BM B m') m' H' p.2 v->(∀a,m' a->m a\/Nw K H a)->Rep K (BM B m') H' p.1 u->Q u H')->Z'[j]? =some (.ow p.2) →
    SameO (one j m).u H H'->Ev K B M' H' Z' σ'->(∀a,M'.u a->(one j m).u a\/Nw K H a)->σ'[j]? =(start N vs)[j]?->Rep K (OO B M') H' p.1 u->Q u H':=λ{p Z' σ' H' M' u} h hj s' E' o' k r=>by
   obtain⟨v',e1,e2⟩:=E'.env.own j _ hj;rw[k,hjs]at e1;cases e1
   have sub:∀a,BM B (M' j) a->OO B M' a:=λa z=>z.imp_right λy=>⟨j,y⟩
   exact h u H' (M' j) (λb o e n=>s' b o e λz=>n (one_u.mp z)) (e2.move (P:=kB) (λ_ z=>z.elim) (λa z=> .inl (sub a z)) (λb u q _=>q) λ_ _ z=>z) (λa z=>(o' a ⟨j,z⟩).imp_left one_u.mp) (r.less sub)
  cases q:F (dX N.length sls)with
  | bad=>rw[q]at h;exact h.elim
  | err c=>rw[q]at h;exact h.elim
  | ok fl=>
   rw[q,ay]at h
   cases q2:n8 j fl with
   | bad=>rw[q2]at h;exact h.elim
   | err c=>rw[q2]at h;exact h.elim
   | ok p=>
    rw[q2]at h;rcases Bk q2 with⟨Z',rfl,e1,e2⟩ | ⟨Z',rfl,e2⟩
    ·exact λσ' H' M' s' E' o' k=>fin h e2 s' E' o' k (by rw[e1];exact Rep.Ir)
    ·exact λu σ' H' M' s' E' o' k r=>fin h e2 s' E' o' k r
theorem BJ {x qual:Str}{st:Stmt}{f:Addr}{fd:J0}{N ps:List Str}{k:Nat}(Fn:L2.Fun K x qual st f fd)(S:aw N ps (ai st)){A:JK}{outer:List Env}{s:IY}{H:Hp}{args:Args}{us:List IW}{vs:List V}{c:Str}{R:Pq->IY->Prop}
  (hr:Room (k+1) A) (e0:Env0 P w K mg base A outer s H) (hb:NC s fd args (ps.zip us)) (r:Vals vs us) (hlen:vs.length=ps.length) (hR:∀ev s',RzC P w mg outer H s c ev s'->R (.error ev) s')
  (hbody:∀cdv,Room k (A.deeper (envOfC qual (ai st) s.heap.objs.size f cdv))->∀xe,∃t,PSs ((fG CX0 P w K mg base N qual (ai st) f cdv A outer s H E0).FB xe) (bJ st) t ∧
   (XA ((fG CX0 P w K mg base N qual (ai st) f cdv A outer s H E0).FB xe) kB H c->t { nx:=λ_ _=>False,rt:=λ_ _=>False,bk:=λ_ _=>False,ct:=λ_ _=>False } (start N vs) H)) :
  codeAny (model P w) A (.call (.ref f) args) R s:=by
 obtain⟨oc,od,kV,doc,pm,an,cdv,ct,osl,rfl,lk,hcd⟩:=Fn.ex
 have KX:K.In s.heap:=e0.mod.kin.keeps λb o e=>(e0.bs b o e).1
 have lim:s.heap.NoLimit:=e0.mod.nolimit.keeps λb o e=>(e0.bs b o e).1
 have hkind:∀y∈ps.zip us,(ai st).names.lookup y.1=some .local\/((ai st).names.lookup y.1=some .cell/\((K5 (s.heap.objs.size+1) (ai st).names []).lookup y.1).isSome=true):=λ⟨n,v⟩ hy=>by
  rcases S.par n (LB hy).1 with q | q
  ·exact .inl q
  ·exact .inr ⟨q,Ld _ _ _ (.inl q)⟩
 refine L5 hr.depth (KX _ _ lk) rfl S.co S.gen rfl (Mx KX hcd) (hb _ _ _ _ ?_)
 refine Lk S.kind hkind λenv he s1 x=> ?_
 subst he;refine⟨lim.keeps x.toInCall.keep,OR ?_⟩
 let xe:IW->IY->Prop:=λev s'=>wpAny (model P w) (A.deeper (envOfC qual (ai st) s.heap.objs.size f cdv)) (leaving (envOfC qual (ai st) s.heap.objs.size f cdv) ev) (λ_ s''=>R (.error ev) s'') (λe' s''=>R (.error e') s'') s'
 obtain⟨t,ht,hgo⟩:=hbody cdv (hr.deeper _) xe
 have I:Inv ((fG CX0 P w K mg base N qual (ai st) f cdv A outer s H E0).FB xe) [] (start N vs) H s1:=(kN S hr.hd e0 hlen r x).FB _;refine KN (ht [] s1 (start N vs) H _ I (hgo ?_)) (λfl s' z=> ?_) λe s' hs=>hs
 rotate_left
 ·cases fl with
  | next=>obtain⟨_,_,_,z⟩:=z;exact z.elim
  | cont=>obtain⟨_,_,_,z⟩:=z;exact z.elim
  | brk=>obtain⟨_,_,_,z⟩:=z;exact z.elim
  | ret v=>obtain⟨_,_,_,_,_,z⟩:=z;exact z.elim
 intro pins ev s' w'
 show wpAny _ _ _ _ _ _
 obtain⟨e,T,C,σ',H',rfl,hm,I',sm,he,heo,fl,hT,_⟩:=w'
 have heo:=heo rfl
 have hT:∀t,T=some t->H' t=none/\s.heap.get? t=none:=λt z=>⟨(hT t z).1,(hT t z).2 rfl⟩
 refine yE (base:=base) (outer:=outer) (L:=s.heap.objs.size) I'.ok.frames I'.stack rfl fl λh' T' g=>hR _ _ ?_
 have hex:((fG CX0 P w K mg base N qual (ai st) f cdv A outer s H E0).FB xe).ex= []:=rfl
 have Tn:H' T'=none/\s.heap.get? T'=none:=by
  rcases g.new with z | z
  ·exact hT T' z
  ·exact⟨j4 I' z,fT I' hex z⟩
 have out:∀b o,s.heap.get? b=some o->b≠s.heap.objs.size:=λb o q z=>by
  have:=Jj q;rw[z]at this;exact absurd this (JF _)
 have mem:∀b,b∈ny ((envOfC qual (ai st) s.heap.objs.size f cdv)::outer)->b=s.heap.objs.size\/b∈ny outer:=λb z=>by
  have z':b∈s.heap.objs.size::ny outer:=z;exact Jg.mp z'
 have ne:∀b o,s.heap.get? b=some o->b≠e/\T≠some b:=λb o q=>⟨λz=>(by subst z;rw[show s.heap.get? b=none from heo]at q;cases q),λz=>(by rw[show s.heap.get? b=none from(hT b z).2]at q;cases q)⟩
 have keepH:∀b u,H' b≠none->s'.heap.get? b=some u->h'.get? b=some u:=λb u hb q=>by
  refine g.keep b u (λz=>hb (I'.HX b z)) (λz=>hb (by rw[z];exact he)) (λz=>hb (hT b z).1) q
 refine⟨e,T',C,H',rfl,hm,I'.os,I'.bare,⟨λb o q n hb hx=> ?_,λb o q n hb hx=> ?_,λb o q n hx=>I'.base.free b o q n hx,λb o q hx=> ?_,I'.base.tups,I'.base.frzs,I'.base.tbls⟩,λa o q=> ?_,λb o q=>sm b o q λz=>z,he,heo,g.flt,Tn.1,Tn.2⟩
 ·exact g.keep b o (λz=>(mem b z).elim (out b o q) hb) (ne b o q).1 (ne b o q).2 (I'.base.keep b o q n hb hx)
 ·obtain⟨sl,q1⟩:=I'.base.slot b o q n hb hx
  obtain⟨sl',q2⟩:=g.slot b _ (IX _ hb) q1;exact⟨sl',q2⟩
 ·obtain⟨o',q1⟩:=I'.base.there b o q hx
  by_cases z:b∈ny ((envOfC qual (ai st) s.heap.objs.size f cdv)::outer)
  ·obtain⟨sl,q2⟩:=g.slot b o' z q1
   exact⟨_,q2⟩
  ·exact⟨o',g.keep b o' z (ne b o q).1 (ne b o q).2 q1⟩
 ·refine(I'.hok a o q).Ia (λb u hb z=>keepH b u ?_ z) (λ_ z=>z) λ_ _ z=>z
  rcases hb with rfl | hb
  ·rw[q];simp
  ·rw[hb];simp
theorem xu {n j m:Nat}{F:En->Rs Fx}{sls:List Sl}{c:Str}(h:fR n j m F sls= .err c):F (dX m sls)= .err c:=by
 unfold fR at h
 split at h
 ·cases z:F (dX m sls)with
  | bad=>rw[z]at h;cases h
  | err c'=>rw[z]at h;cases h;rfl
  | ok f=>
   rw[z,ay]at h;cases f <;> unfold n8 at h <;> dsimp only at h <;> split at h <;> cases h
 ·cases h
theorem zk {x qual:Str}{st:Stmt}{f:Addr}{fd:J0}{N ps:List Str}{k n j:Nat}{F:En->Rs Fx}(Fn:L2.Fun K x qual st f fd)(S:aw N ps (ai st))(hn:ps.length=n)
  (hbody:∀(cdv:IW) (A:JK) (outer:List Env) (s:IY) (H:Hp) (E:XK),Room k (A.deeper (envOfC qual (ai st) s.heap.objs.size f cdv)) →
   ∀xe,Aa ((fG CX0 P w K mg base N qual (ai st) f cdv A outer s H E).FB xe) j (bJ st) F):CZ P w K mg base (k+1) f fd ps n j (fR n j N.length F):=
 ⟨He Fn S hn λcdv A outer s H E hr=>hbody cdv A outer s H E hr _,λA outer s H args us vs B m sls c R hr e0 hb r Ea hl hg hR=>by
  have hpl:ps.length<=N.length:=by have:=congrArg K9 S.pre;rw[Kx]at this;omega
  refine BJ Fn S hr e0 hb r ?_ hR λcdv hr' xe=>⟨_,hbody cdv A outer s H E0 hr' xe,λxa=>⟨dX N.length sls,B,one j m,md Ea (by omega),?_⟩⟩
  ·rw[<-Jd (as:=vs) (f:=some),<-Ea.env.len,hl,hn]
  ·rw[xu hg];exact xa⟩
end
section
variable {X:Cx}{pins:List (Addr×Obj)}{σ:L2.St}{H:Hp}{s:IY}{Q:VK}{us:List IW}{vs:List V}{ts:List T}{B O:Ow}{k n:Nat}{f:Addr}{fd:J0}{ps:List Str}{g:List Sl->Rs (T×OT)}{c:Str}
theorem wa (M:Mk X.K (bP X.K c) f)(F:CZ X.prog X.w X.K X.mg X.base k f fd ps n 0 g)(hr:Room (k+1) X.A)(hb:Binds X.K fd ps [])(hn:ts.length+1=n)(hps:ps.length=n)(I:Inv X pins σ H s)(r:Vals vs us)(rs:Reps X.K O H ts vs)(mt:∀a,O a->Mtb H a){o:OT}
  (hg:g (.ow (.ob c [] [])::ts.map Sl.va)= .ok (.non,o)) (h:∀p H' m,Same H H'->ORep X.K (BM O m) m H' o (.ref p)->(∀a,m a->Nw X.K H a)->Q (.ref p) H'):wpAny (model X.prog X.w) X.A (call (.ref (bP X.K c)) us) (EP X pins σ Q) X.xe s:=by
 have nk:∀q,s.heap.objs.size<=q->X.K.lookup q=none:=λq hq=>by
  cases z:X.K.lookup q with
  | none=>rfl
  | some o=>exact absurd (Jj (I.kIn _ o z)) (Nat.not_lt.mpr hq)
 generalize hp:s.heap.objs.size+1=p
 have np:Nw X.K H p:=⟨I.hok.fresh (by omega),nk p (by omega)⟩
 generalize hd:s.heap.objs.size=dx at hp
 have nd:Nw X.K H dx:=⟨I.hok.fresh (by omega),nk dx (by omega)⟩
 have ne:dx≠p:=by omega
 have sm0:Same H (upd (upd H dx (.own p)) p (.ins (bP X.K c) dx [])):=λb o e=>by
  rw[aE (λz=>by rw[z,np.1]at e;cases e),aE (λz=>by rw[z,nd.1]at e;cases e)];exact e
 have hm:∀a,(λa=>a=p\/a=dx:Ow) a->Nw X.K H a:=λa z=>z.elim (λy=>y▸np) λy=>y▸nd
 have subO:∀a,OO O (one 0 λa=>a=p\/a=dx) a->O a\/Nw X.K H a:=λa z=>(one_oo.mp z).imp_right (hm a)
 have hlen:=rs.length
 have Ea:Ev X.K O (one 0 λa=>a=p\/a=dx) (upd (upd H dx (.own p)) p (.ins (bP X.K c) dx [])) (.ow (.ob c [] [])::ts.map Sl.va) ((V.ref p::vs).map some):=by
  refine⟨⟨by simp[hlen],λi t e=> ?_,λi o' e=> ?_,λi a z=> .inr ⟨i,z⟩,λi k a z1 z2=> ?_,λa z=> ?_⟩,λa z y=> ?_⟩
  ·obtain⟨w,e1,e2⟩:=um (v0:=V.ref p) rs e
   exact⟨w,by rw[Jz,e1];rfl,(e2.more subO).same sm0⟩
  ·have hi:=uo e
   subst hi;cases e;refine⟨.ref p,rfl,p,dx,[],rfl,λb=> ?_,⟨by simp,by simp,ne,by simp⟩,aQ,?_,rfl,by simp,rfl⟩
   ·rw[show one 0 (λa=>a=p\/a=dx) 0=_ from Mn.Ib];simp
   ·rw[aE ne];exact aQ
  ·unfold one Mn.set at z1 z2
   by_cases h1:i=0
   ·by_cases h2:k=0
    ·rw[h1,h2]
    ·rw[if_neg h2]at z2;exact z2.elim
   ·rw[if_neg h1]at z1;exact z1.elim
  ·rcases one_oo.mp z with y | y | y
   ·exact(mt a y).same sm0
   ·rw[y];exact .inr (.inr ⟨_,aQ,rfl⟩)
   ·rw[y];exact .inr (.inr ⟨_,by rw[aE ne];exact aQ,rfl⟩)
  ·obtain⟨o,e⟩:=(mt a y).some
   rw[(hm a (one_u.mp z)).1]at e;cases e
 have hq:spE X.K n 0 g (.ref p::(vs++ [])) (upd (upd H dx (.own p)) p (.ins (bP X.K c) dx [])) (λv H2=>v= .non/\Q (.ref p) H2) E0:=by
  refine⟨_,O,_,.ref p,by rw[JA];exact Ea,by simp[hn],rfl,?_⟩
  rw[hg];intro u H' m' s' ro hm' rt;refine⟨Rep.GT.mp rt,h p H' m' (λb o e=>s' b o (sm0 _ _ e) λz=> ?_) ro λa z=> ?_⟩
  ·rw[(hm b z).1]at e;cases e
  ·rcases hm' a z with y | y
   ·exact hm a y
   ·exact j0 sm0 y
 have I2:=Inv.made (C:=bP X.K c) I;rw[hd,hp]at I2
 have r2:Vals (V.ref p::(vs++ [])) (JD p::(us++ [])):=.cons rfl (r.append .nil)
 have hl:(JD p::us++ []).length=ps.length:=by rw[JA,Jb,<-r.length,<-hlen,hps,hn]
 refine NJ (yA (f:=f) I.kIn M.makes M.init (beq_iff_eq.mp M.fn) ?_)
 rw[hd,hp]
 have hb2:=hb _ (JD p::us) I2.kIn hl;rw[O6]at hb2;refine Ly (F.h.run _ X.stack _ _ ⟨JD p::us,[]⟩ (JD p::(us++ [])) _ _ E0 (hr.make (bP X.K c) us []) (I2.Iq.make (bP X.K c) us []) hb2 r2 hq) λr s' hq'=> ?_
 cases r with
 | error e=>exact hq'.elim
 | ok fl=>
  cases fl with
  | ret u=>
   obtain⟨v,H',I3,rv,ev,q3⟩:=I2.after hq';subst ev
   exact⟨rv,⟨V.ref p,H',I3,rfl,q3⟩⟩
  | next=>exact KL hq'
  | brk=>exact KL hq'
  | cont=>exact KL hq'
theorem AO (i:Nat){e:Expr}{es:List Expr}{fs:En->Rs (List T)}{n0:Str}{p pos spos p3:Pos}(M:Mk X.K (bP X.K c) f)(F:CZ X.prog X.w X.K X.mg X.base k f fd ps n 0 g)(hr:Room (k+1) X.A)(hm:X.mg c=some (.ref (bP X.K c)))(hb:Binds X.K fd ps [])(hps:ps.length=n)
  (hl:∀Z ts,fs Z= .ok ts->ts.length+1=n) (hN:X.N.Nodup) (ha:nV X (e::es) fs) (hi:X.N[i]? =some n0:=by rfl) (hx:Loc X.env.scope n0:=by first | exact J8 rfl | exact JP rfl)
  (hs:JU (.Call (.Name c p) (e::es) [] pos) (some (.Name n0 p3)) spos.line X.env=pure false:=by rfl) (hf:X.fn n0=true\/X.env.scope.names.lookup n0=some .local:=by first | exact .inl rfl | exact .inr rfl | assumption)
  (hg:Gl X c:=by rfl) (hdb:fE c:=by decide) (he:Jo (e::es) X.env=(false,eval e X.env)::Jo es X.env:=by rfl) (hpl:(backTo pos (Jo es X.env)).any (·.1)=false:=by rfl) :
  lY X (.Assign [.Name n0 p3] (.Call (.Name c p) (e::es) [] pos) spos) (mx i c g fs):=by
 let te:TE:=λσ H Q=> ∃Z B M',Ev X.K B M' H Z σ/\(∀c,fs Z= .err c->XA X kB H c)/\fs Z≠ .bad/\(∀ts,fs Z= .ok ts->∃o,g (.ow (.ob c [] [])::ts.map Sl.va)= .ok (.non,o)/\∀q H1 H' m,Same H H1->Same H1 H'->ORep X.K (BM (OO B M') m) m H' o (.ref q)->(∀a,m a->Nw X.K H1 a)->Q (.ref q) H')
 have pe:PE X (.Call (.Name c p) (e::es) [] pos) te:=by
  intro pins s σ H Q I ⟨Z,B,M',E,h1,h2,h3⟩;refine Kk (gy I hg hm ?_ hdb)
  refine Le (h₀:=X.base) I.ok.mod.kin M.kp (bR (ha pos pins s σ H (λvs H2=> ∃ts,fs Z= .ok ts/\Same H H2/\Reps X.K (OO B M') H2 ts vs) I ⟨Z,OO B M',E.o,?_⟩) λus s1 ⟨vs,H1,I1,r,ts,q1,sm,rs⟩=>⟨I1.kIn,?_⟩) he hpl
  ·cases z:fs Z with
   | bad=>exact(h2 z).elim
   | err c=>exact h1 c z
   | ok ts=>exact λH' s' vs rs=>⟨ts,rfl,s',rs⟩
  ·obtain⟨o,hgo,hq⟩:=h3 ts q1
   exact wa M F hr hb (hl Z ts q1) hps I1 r rs (E.same sm).env.trk hgo λq H' m s' ro hm'=>hq q H1 H' m sm s' ro hm'
 refine PS.imp (pZ hN hi hx pe hs hf) λD σ H ⟨Z,B,M',E,h⟩=> ?_
 unfold mx at h;refine⟨Z,B,M',E,λc z=> ?_,λz=> ?_,λts z=> ?_⟩
 ·rw[z]at h;exact PostF.xa h
 ·rw[z]at h;exact h
 ·rw[z,ay]at h
  cases z2:g (.ow (.ob c [] [])::ts.map Sl.va)with
  | bad=>rw[z2]at h;exact h.elim
  | err c=>rw[z2]at h;exact h.elim
  | ok q=>
   rw[z2]at h
   replace h:PostF X B M'.u H (match q.1 with
    | .non=>if i<Z.length then .ok (.nx (Z.set i (.ow q.2)))else .bad
    | _=> .bad) D:=h
   obtain⟨t,o⟩:=q
   cases t with
   | non=>
    dsimp only at h
    refine⟨o,rfl,λq H1 H' m s1 s' ro hm'=> ?_⟩
    by_cases hl:i<Z.length
    ·rw[if_pos hl]at h
     obtain⟨E2,sub⟩:=(E.same s1).new (m:=m) (o:=o) (v:=.ref q) hl hm' s' (ro.move (P:=kB) (λ_ z=>z.elim) (λa z=> .inl (z.elim (λw=> .inl (.inl w)) λw=>(Mn.HU w).elim .inr λy=> .inl (.inr y))) (λb u q _=>q) λ_ _ z=>z)
     exact h _ _ _ (SameO.of (s1.trans s')) E2 λa z=>(sub a z).imp_right (j0 s1)
    ·rw[if_neg hl]at h;exact h.elim
   | _=>exact h.elim
end
section
variable {X:Cx}{j:Nat}
def zV (X:Cx)(suite:List Stmt)(CE:Addr)(h:Str->Rs T):Prop:=
 ∀(c:Str) (C:Addr) (t:T),X.mg c=some (.ref C)->h c= .ok t->∃bm,OX X.K C bm/\(JD C::bm).contains (.ref CE)=true/\∀(e:Addr) (oe:Obj),jB (CP X e oe) suite (aI (cn t))
theorem Ez {body suite:List Stmt}{b0:Stmt}{F:En->Rs Fx}{h:Str->Rs T}{ce:Str}{CE:Addr}{bmE:List IW}{np hpos pos:Pos}(hst:X.stack=X.env::X.outer)(hfe:X.env.frame=some X.env.locals)(hcl:∀x c,X.env.cells.lookup x≠some c)(hex:X.ex= [])
  (hm:X.mg ce=some (.ref CE)) (OE:OX X.K CE bmE)
  (hb:∀pn xe,Aa { X with pn:=pn,xe:=xe } j body F) (hs:zV X (b0::suite) CE h) (hg:Gl X ce:=by rfl) (hd:fE ce:=by decide) :
  Ck X j (.Try body [.ExceptHandler (some (.Name ce np)) none (b0::suite) hpos] [] [] pos) (si F h):=by
 intro pins s σ H D I ⟨Z,B,M,E,hq⟩;refine wpAny_Try_except ?_
 unfold si at hq
 cases q:F Z with
 | bad=>rw[q]at hq;exact hq.elim
 | ok fl=>
  rw[q]at hq;refine KN (hb X.pn (λ_ _=>False) pins s σ H D (I.FB _) ⟨Z,B,M,E,by rw[q];cases fl <;> exact hq⟩) (λf s1 r=> ?_) (λe s1 z=>z.elim)
  cases f with
  | next=>obtain⟨σ7,H7,I7,q7⟩:=r;exact LH ⟨σ7,H7,I7.FB _,q7⟩
  | ret u=>obtain⟨x7,σ7,H7,I7,r7,q7⟩:=r;exact⟨x7,σ7,H7,I7.FB _,r7,q7⟩
  | brk=>obtain⟨σ7,H7,I7,q7⟩:=r;exact⟨σ7,H7,I7.FB _,q7⟩
  | cont=>obtain⟨σ7,H7,I7,q7⟩:=r;exact⟨σ7,H7,I7.FB _,q7⟩
 | err c=>
  rw[q]at hq
  cases q2:h c with
  | bad=>simp only[q2]at hq;exact hq.elim
  | err c'=>simp only[q2]at hq;exact hq.elim
  | ok t=>
   simp only[q2]at hq
   have hq':∀v H',Same H H'->Rep X.K (OO B M) H' t v->D.rt v H':=λv H' s' r=>hq v σ H' M (SameO.of s') (E.same s') (λa z=> .inl z) rfl r
   refine KN (hb (X.pn++pins) _ [] s σ H { nx:=λ_ _=>False,rt:=λ_ _=>False,bk:=λ_ _=>False,ct:=λ_ _=>False } ((Tr.Inv.IE pins I).FB _) ⟨Z,B,M,E,?_⟩) (λfl s' z=> ?_) λ_ _ z=>z
   rotate_left
   ·cases fl with
    | next=>obtain⟨_,_,_,z⟩:=z;exact z.elim
    | cont=>obtain⟨_,_,_,z⟩:=z;exact z.elim
    | brk=>obtain⟨_,_,_,z⟩:=z;exact z.elim
    | ret v=>obtain⟨_,_,_,_,_,z⟩:=z;exact z.elim
   rw[q];intro pins1 ev s1 w;obtain⟨e,T,C,σ1,H1,rfl,hmc,I1,smn,he,heo,fl,hT,hpp⟩:=w
   have sm:Same H H1:=λb o z=>smn b o z λy=>y
   have I1:Inv X pins σ1 H1 s1:=Tr.Inv.IM (X:=X) I1
   have hpp:∀p∈X.pn++pins,p.1≠e/\T≠some p.1:=λp hp=>hpp p (JN _ hp)
   have heo:=heo hex
   have hT:∀t,T=some t->H1 t=none/\X.s₀.heap.get? t=none:=λt z=>⟨(hT t z).1,(hT t z).2 hex⟩
   show wpAny _ _ _ _ _ _
   have hfr:X.A.frames=some (X.env::X.outer):=by rw[<-hst];exact I1.ok.frames
   have hstk:s1.heap.FunFrames X.base (X.env::X.outer):=by rw[<-hst];exact I1.stack
   refine GF hfr hstk hfe fl λh' T' g=> ?_
   have I2:=Inv.gone I1 hst hfe hcl hex g he heo hT hpp
   have Tn:H1 T'=none/\X.s₀.heap.get? T'=none/\∀p∈X.pn++pins,p.1≠T':=by
    rcases g.new with z | z
    ·exact⟨(hT T' z).1,(hT T' z).2,λp hp y=>(hpp p hp).2 (by rw[z,y])⟩
    ·exact⟨j4 I1 z,fT I1 hex z,λp hp y=>by have:=(I1.pin p hp).1;rw[y,z]at this;cases this⟩
   obtain⟨bm,OC,hin,run⟩:=hs c C t hmc q2;obtain⟨hTe,oe,ev,hoe,hoc,hod,h1,oT,ts,hoT,hdT,h3⟩:=g.flt
   have nfr:∀b o vs,h'.get? b=some o->o.data= .fields vs->b∉(X.env::X.outer).filterMap (·.frame):=λb o vs hb hd z=>by
    have:=I2.stack;rw[hst]at this;obtain⟨_,o',ho',hnf⟩:=this.mem z;rw[show h'.get? b=some o' from ho']at hb
    cases hb;exact hnf vs hd
   have hel:e≠X.env.locals:=λz=>nfr e oe ev hoe hod (by rw[Ko,hfe];exact z▸Je)
   have hef:e∉X.fs:=λz=>nfr e oe ev hoe hod (by rw[Ko,hfe];exact IX _ z)
   have hcell:∀v,oe.data≠ .cell v:=λv z=>by rw[hod]at z;cases z
   have I3:Inv (CP X e oe) pins σ1 H1 { s1 with heap:=h' }:=vt I2 hoe he hel hef hcell
   refine wpAny_handleBy_cons (codeAny_handlers_test (gy (X:=CP X e oe) I3 hg hm ?_ hd)) (by intro z;cases z)
   obtain⟨nm,qq,N,bs,hdct,sn,sub,ab,col,dd,k0,k1,k2,k3,k5,mN,hC,_⟩:=OC.at_ h' I3.kIn;obtain⟨nm',qq',N',bs',hdct',sn',sub',ab',col',dd',k0',k1',k2',k3',k5',mN',hD,_,_,TD⟩:=OE.at_ h' I3.kIn;refine wA hC hD hoe hoc (TD.tail.hasType (by decide)) hin (codeAny_handlers_suite ?_)
   refine wpAny_setFlight_none hoe hod h1 hoT hdT (Kl.mp h3).1 ?_
   generalize hU:h'.update T' (N8 (·.setIfInBounds 3 JI))=h2
   have kp:∀b,b≠T'->h2.get? b=h'.get? b:=λb hb=>by rw[<-hU];exact LP _ _ (Ls hb)
   have hT2:h2.get? T'=some (N8 (·.setIfInBounds 3 JI) oT):=by rw[<-hU];exact Nl _ hoT (Nm (LD hdT _))
   have hoe2:h2.get? e=some oe:=(kp e (Ls hTe)).trans hoe
   have g2:Co ((X.env::X.outer).filterMap (·.frame)) C e (some T') h' h2 T':=⟨⟨hTe,oe,ev,hoe2,hoc,hod,h1,_,_,hT2,LD hdT _,by simp[(Kl.mp h3).1]⟩,.inl rfl,λb o _ _ n3 q=>(kp b λz=>n3 (by rw[z])).trans q,λb o m q=>⟨o.slots,(kp b λz=>nfr T' oT ts hoT hdT (z▸m)).trans q⟩⟩
   have I4:Inv X pins σ1 H1 { s1 with heap:=h2 }:=Inv.gone (s:={ s1 with heap:=h' }) I2 hst hfe hcl hex g2 he heo (λt z=>by cases z;exact⟨Tn.1,Tn.2.1⟩) λp hp=>⟨(hpp p hp).1,λz=>Tn.2.2 p hp (JJ z).symm⟩
   have I5:Inv (CP X e oe) pins σ1 H1 { s1 with heap:=h2 }:=vt I4 hoe2 he hel hef hcell
   have Eb:=(E.same sm).blank;obtain⟨Zb,hρb⟩:∃Zb:En,Zb=Js σ1.length Sl.em:=⟨_,rfl⟩
   have E1:Ev X.K (OO B M) noM H1 Zb σ1:=by
    subst hρb;exact⟨⟨by simp,λi t e=>(by rw[JZ]at e;split at e <;> cases e),λi o e=>(by rw[JZ]at e;split at e <;> cases e),λ_ _ z=>z.elim,λ_ _ _ z=>z.elim,Eb.env.trk⟩,λa ⟨_,z⟩=>z.elim⟩
   refine KN (run e oe pins _ σ1 H1 { nx:=λ_ _=>False,rt:=λv H'=>Same H1 H'/\Rep X.K (OO B M) H' t v } I5 ⟨Zb,OO B M,noM,E1,λv H' s' r=>⟨λb o z=>s' b o z λ⟨_,y⟩=>y,r⟩⟩) (λf s4 r=> ?_) λ_ _ z=>z.elim
   cases f with
   | next=>obtain⟨_,_,_,z⟩:=r;exact z.elim
   | brk=>obtain⟨_,_,_,z⟩:=r;exact z.elim
   | cont=>obtain⟨_,_,_,z⟩:=r;exact z.elim
   | ret u=>
    obtain⟨v,σ',H',I7,rv,s',rt⟩:=r;exact⟨v,_,H',BF I.ok I7,rv,hq' v H' (λb o y=>s' b o (sm b o y)) rt⟩
end
structure QE (X:Cx)(e:Expr)(f:En->Rs T):Prop where
 h:cj X e f
structure QA (X:Cx)(e:List Expr)(f:En->Rs (List T)):Prop where
 h:nV X e f
structure QT (X:Cx)(e:Expr)(f:En->Rs Bool):Prop where
 h:sZ X e f
structure QW (X:Cx)(e:Expr)(f:En->Rs Bool):Prop where
 h:CW X e f
structure QS (X:Cx)(e:Stmt)(f:En->Rs Fl):Prop where
 h:lY X e f
structure uF (X:Cx)(e:List Stmt)(f:En->Rs Fl):Prop where
 h:jB X e f
structure QG (X:Cx)(e:Expr)(f:T->En->Rs En):Prop where
 h:CY X e f
structure HM (X:Cx)(e:List Expr)(f:List T->En->Rs En):Prop where
 h:zX X e f
structure QI (X:Cx)(t e:Expr)(f:En->Rs (List T)):Prop where
 h:Ab X t e f
structure QO (X:Cx)(e:Option Expr)(f:En->Rs (Option Int)):Prop where
 h:Hv X e f
structure QIf (X:Cx)(e:List Expr)(f:En->Rs Bool):Prop where
 h:Ac X e (z0 X f)
theorem af {X:Cx}(i:Nat){x:Str}{pos:Pos}(hN:(Cx.N X)[i]? =some x:=by rfl)(hv:qW (Lg (Cx.env X)) x:=by first | exact J8 rfl | exact JP (J8 rfl) | exact JP (JP rfl))(hd:fE x:=by decide)(hcd:(x == Jr "__classdict__")=false:=by decide):QE X (JR x pos) (vr i):=
 ⟨F8 (i:=i) (hN:=hN) (hv:=hv) (hd:=hd) (hcd:=hcd)⟩
theorem ak {X:Cx}{i:Int}{j:Nat}{pos:Pos}:QE X (MW (Const.int i) j pos) (cn (T.int i)):=
 ⟨Gi ⟩
theorem fH {X:Cx}{i:Bool}{j:Nat}{pos:Pos}:QE X (MW (Const.bool i) j pos) (cn (T.bl i)):=
 ⟨q_bl ⟩
theorem df {X:Cx}{j:Nat}{pos:Pos}:QE X (MW Const.none j pos) (cn T.non):=
 ⟨Ge ⟩
theorem xn {X:Cx}{i:Str}{j:Nat}{pos:Pos}:QE X (MW (Const.str i) j pos) (cn (T.str i)):=
 ⟨Ga ⟩
theorem An {X:Cx}{x:Str}{i:Int}{u:IW}{pos:Pos}(hm:Cx.mg X x=some u)(r:L2.RelV (V.int i) u)(hg:Gl X x:=by rfl)(hd:fE x:=by decide):QE X (JR x pos) (cn (T.int i)):=
 ⟨DQ (hm:=hm) (r:=r) (hg:=hg) (hd:=hd)⟩
theorem ag {X:Cx}:QA X [] aj:=
 ⟨DP ⟩
theorem ah {X:Cx}{e:Expr}{es:List Expr}{f:En->Rs T}{g:En->Rs (List T)}(he:QE X e f)(hr:QA X es g)(hn:bx e=true:=by rfl):QA X (e::es) (ae f g):=
 ⟨qa_c (he:=he.h) (hr:=hr.h) (hn:=hn)⟩
theorem bB {X:Cx}{es:List Expr}{x1:Nat}{pos:Pos}{f:En->Rs (List T)}(h:QA X es f):QE X (Expr.Tuple es x1 pos) (bA f):=
 ⟨F9 (h:=h.h)⟩
theorem kh {X:Cx}{es:List Expr}{pos:Pos}{f:En->Rs (List T)}(h:QA X es f):QE X (Expr.List es pos) (gW f):=
 ⟨Gg (h:=h.h)⟩
theorem ax {X:Cx}{a b:Expr}{fa fb:En->Rs T}{pos:Pos}{op:Operator}{g:T->T->Rs T}(ho:OpT X (Kw op) g)(ha:QE X a fa)(hb:QE X b fb):QE X (Expr.BinOp a op b pos) (o2 g fa fb):=
 ⟨Gn (ho:=ho) (ha:=ha.h) (hb:=hb.h)⟩
theorem dW {X:Cx}{a b:Expr}{fa fb:En->Rs T}{pos:Pos}{op:Pw}{g:T->T->Rs T}(ho:OpT X (J3 op) g)(ha:QE X a fa)(hb:QE X b fb)(hm:LK op b=false:=by rfl):QE X (ON a [op] [b] pos) (o2 g fa fb):=
 ⟨Gm (ho:=ho) (ha:=ha.h) (hb:=hb.h) (hm:=hm)⟩
theorem kg {X:Cx}{a:Expr}{fa:En->Rs T}{pos:Pos}(ha:QE X a fa):QE X (OP UnaryOp.USub a pos) (o1 kI fa):=
 ⟨Gf (ha:=ha.h)⟩
theorem rh {X:Cx}{a b c:Expr}{fa fb fc:En->Rs T}{pos:Pos}{op op':Pw}{g g':T->T->Rs T}(ho:OpT X (J3 op) g)(ho':OpT X (J3 op') g')(ha:QE X a fa)(hb:QE X b fb)(hc:QE X c fc)(hm:lastMarks [op,op'] [b,c] =false:=by with_unfolding_all rfl):QE X (ON a [op,op'] [b,c] pos) (ch g g' fa fb fc):=
 ⟨A2 (ho:=ho) (ho':=ho') (ha:=ha.h) (hb:=hb.h) (hc:=hc.h) (hm:=hm)⟩
theorem bW {X:Cx}{e:Expr}{f:En->Rs T}(h:QE X e f)(he:∀(whole:Sem IW),PySem.isTrue e (Cx.env X) whole=(do let v <-whole;standAt (Expr.pos e);holding [v] (truthy v)):=by intro _;rfl):QT X e (tb f):=
 ⟨Dv (h:=h.h) (he:=he)⟩
theorem cX {X:Cx}{a b:Expr}{fa fb:En->Rs T}{pos:Pos}{op:Pw}{g:T->T->Rs T}(ho:OpT X (J3 op) g)(ha:QE X a fa)(hb:QE X b fb)(hm:LK op b=false:=by rfl):QT X (ON a [op] [b] pos) (tb (o2 g fa fb)):=
 ⟨Dx (ho:=ho) (ha:=ha.h) (hb:=hb.h) (hm:=hm)⟩
theorem xk {X:Cx}{a:Expr}{pos:Pos}{f:En->Rs Bool}(ha:QT X a f):QW X (KU NI [a] pos) f:=
 ⟨AL (ha:=ha.h)⟩
theorem jD {X:Cx}{a:Expr}{pos:Pos}{f:En->Rs Bool}(ha:QT X a f):QW X (KU N9 [a] pos) f:=
 ⟨Dt (ha:=ha.h)⟩
theorem Ah {X:Cx}{a b:Expr}{pos:Pos}{f g:En->Rs Bool}{bN:List Expr}(ha:QT X a f)(hb:QW X (KU NI (b::bN) pos) g):QW X (KU NI (a::b::bN) pos) (sY f g):=
 ⟨Du (ha:=ha.h) (hb:=hb.h)⟩
theorem lZ {X:Cx}{a b:Expr}{pos:Pos}{f g:En->Rs Bool}{bN:List Expr}(ha:QT X a f)(hb:QW X (KU N9 (b::bN) pos) g):QW X (KU N9 (a::b::bN) pos) (mG f g):=
 ⟨F3 (ha:=ha.h) (hb:=hb.h)⟩
theorem oH {X:Cx}{f:En->Rs Bool}{e:Expr}(h:QW X e f):QT X e f:=
 ⟨qt_w (h:=h.h)⟩
theorem cW {X:Cx}{a:Expr}{pos:Pos}{f:En->Rs Bool}(ha:QT X a f):QT X (OP UnaryOp.Not a pos) (cK f):=
 ⟨Dw (ha:=ha.h)⟩
theorem dG {X:Cx}{a:Expr}{fa:En->Rs T}{pos:Pos}{op:BoolOp}(h:QE X a fa):QE X (KU op [a] pos) fa:=
 ⟨Gb (h:=h.h)⟩
theorem dg {X:Cx}{a b:Expr}{fa fb:En->Rs T}{pos:Pos}{bN:List Expr}(ha:QE X a fa)(hb:QE X (KU NI (b::bN) pos) fb):QE X (KU NI (a::b::bN) pos) (bZ fa fb):=
 ⟨Gp (ha:=ha.h) (hb:=hb.h)⟩
theorem Cr {X:Cx}{a b:Expr}{fa fb:En->Rs T}{pos:Pos}{bN:List Expr}(ha:QE X a fa)(hb:QE X (KU N9 (b::bN) pos) fb):QE X (KU N9 (a::b::bN) pos) (z5 fa fb):=
 ⟨q_or (ha:=ha.h) (hb:=hb.h)⟩
theorem C5 {X:Cx}{a:Expr}{fa:En->Rs T}{pos:Pos}(ha:QE X a fa):QE X (OP UnaryOp.Not a pos) (o1 Bs fa):=
 ⟨Gd (ha:=ha.h)⟩
theorem Ct {X:Cx}{a b c:Expr}{fa fb:En->Rs T}{pos:Pos}{f:En->Rs Bool}(hc:QT X c f)(ha:QE X a fa)(hb:QE X b fb):QE X (Expr.IfExp c a b pos) (CK f fa fb):=
 ⟨q_if (hc:=hc.h) (ha:=ha.h) (hb:=hb.h)⟩
theorem aG {X:Cx}{a b:Expr}{fa fb:En->Rs T}{pos:Pos}(ha:QE X a fa)(hb:QE X b fb)(hs:vU b:=by intro _ _;rfl):QE X (LX a b pos) (o2 aY fa fb):=
 ⟨q_ix (ha:=ha.h) (hb:=hb.h) (hs:=hs)⟩
theorem l5 {X:Cx}:QO X none pN:=
 ⟨AU ⟩
theorem l4 {X:Cx}{a:Expr}{fa:En->Rs T}(ha:QE X a fa):QO X (some a) (pS fa):=
 ⟨AS (ha:=ha.h)⟩
theorem l6 {X:Cx}{a:Expr}{fa:En->Rs T}{pos:Pos}{lo hi:Option Expr}{p2:Pos}{fl fu:En->Rs (Option Int)}(ha:QE X a fa)(hl:QO X lo fl)(hu:QO X hi fu):QE X (LX a (Expr.Slice lo hi none p2) pos) (sl fa fl fu):=
 ⟨A0 (ha:=ha.h) (hl:=hl.h) (hu:=hu.h)⟩
theorem cM {X:Cx}{e:Expr}{es:List Expr}{fs:En->Rs (List T)}{pos p:Pos}{x:Str}{id:String}{g:List T->Rs T}(hc:CallT X (Value.builtin id) g)(hm:Cx.mg X x=none)(hv:JT x=some (Value.builtin id))(ha:QA X (e::es) fs)(hn:bz (e::es)=true:=by rfl)(hg:Gl X x:=by rfl)(h1:x≠Jr "__name__":=by decide)(h2:fE x:=by decide):QE X (K4 (JR x p) (e::es) [] pos) (cl g fs):=
 ⟨q_cB (hc:=hc) (hm:=hm) (hv:=hv) (ha:=ha.h) (hn:=hn) (hg:=hg) (h1:=h1) (h2:=h2)⟩
theorem uK {X:Cx}{e:Expr}{es:List Expr}{fs:En->Rs (List T)}{pos p:Pos}{x:Str}{Ty:String}{g:List T->Rs T}(hc:CallT X (Md Ty) g)(hm:Cx.mg X x=none)(hv:JT x=some (Md Ty))(ha:QA X (e::es) fs)(hn:bz (e::es)=true:=by rfl)(hg:Gl X x:=by rfl)(h1:x≠Jr "__name__":=by decide)(h2:fE x:=by decide):QE X (K4 (JR x p) (e::es) [] pos) (cl g fs):=
 ⟨q_cT (hc:=hc) (hm:=hm) (hv:=hv) (ha:=ha.h) (hn:=hn) (hg:=hg) (h1:=h1) (h2:=h2)⟩
theorem zq_c {X:Cx}{e:Expr}{es:List Expr}{fs:En->Rs (List T)}{pos p:Pos}{x:Str}{n k:Nat}{f:Addr}{fd:J0}{ps:List Str}{g:List T->Rs T}(F:Ad (Cx.prog X) (Cx.w X) (Cx.K X) (Cx.mg X) (Cx.base X) k f fd ps n g)(hr:Room k (Cx.A X))(hm:Cx.mg X x=some (JD f))(hk:W.keepIn (Cx.K X) (JD f)=true)(hb:L2.Binds (Cx.K X) fd ps [])(hl:∀(Z:En) (ts:List T),fs Z=Rs.ok ts->K9 ts=n)(ha:QA X (e::es) fs)(hps:K9 ps=n:=by rfl)(hn:bz (e::es)=true:=by rfl)(hg:Gl X x:=by rfl)(h2:fE x:=by decide):QE X (K4 (JR x p) (e::es) [] pos) (cl g fs):=
 ⟨q_c (F:=F) (hr:=hr) (hm:=hm) (hk:=hk) (hb:=hb) (hl:=hl) (ha:=ha.h) (hps:=hps) (hn:=hn) (hg:=hg) (h2:=h2)⟩
theorem xo {X:Cx}{a:Expr}{fa:En->Rs T}{pos p p2:Pos}{tn:Str}{Ty:String}(hm:Cx.mg X (Jr "isinstance")=none)(hmt:Cx.mg X tn=none)(hv:JT tn=some (Md Ty))(ha:QE X a fa)(hn:bx a=true:=by rfl)(hg:Gl X (Jr "isinstance"):=by rfl)(hgt:Gl X tn:=by rfl)(h1:tn≠Jr "__name__":=by decide)(h2:fE tn:=by decide):QE X (K4 (JR (Jr "isinstance") p) [a,JR tn p2] [] pos) (o1 (BE Ty) fa):=
 ⟨q_is (hm:=hm) (hmt:=hmt) (hv:=hv) (ha:=ha.h) (hn:=hn) (hg:=hg) (hgt:=hgt) (h1:=h1) (h2:=h2)⟩
theorem aq {X:Cx}{pos:Pos}{x:Str}(i:Nat)(hN:KC (Cx.N X))(hi:(Cx.N X)[i]? =some x:=by rfl)(hx:L2.Loc (Lg (Cx.env X)) x:=by first | exact J8 rfl | exact JP rfl)(hf:Cx.fn X x=true\/Kp x (NW (Lg (Cx.env X)))=some NameKind.local:=by first | exact .inl rfl | exact .inr rfl | assumption):QG X (JR x pos) (gN i):=
 ⟨AY (i:=i) (hN:=hN) (hi:=hi) (hx:=hx) (hf:=hf)⟩
theorem jH {X:Cx}:HM X [] z7:=
 ⟨AX ⟩
theorem dw {X:Cx}{e:Expr}{es:List Expr}{g:T->En->Rs En}{gs:List T->En->Rs En}(h1:QG X e g)(h2:HM X es gs)(hs:List.map (λx=>Prod.snd x) (Kr (e::es) (Cx.env X))=assign e (Cx.env X)::List.map (λx=>Prod.snd x) (Kr es (Cx.env X)):=by rfl):HM X (e::es) (sC g gs):=
 ⟨xQ (h1:=h1.h) (h2:=h2.h) (hs:=hs)⟩
theorem lN {X:Cx}{es:List Expr}{pos:Pos}{k n:Nat}{gs:List T->En->Rs En}(hc:Cx.calm X=true)(h:HM X es gs)(hn:K9 (Kr es (Cx.env X))=n:=by rfl)(hst:List.findIdx? (λx=>Prod.fst x) (Kr es (Cx.env X))=none:=by rfl):QG X (Expr.Tuple es k pos) (gT n gs):=
 ⟨DO (hc:=hc) (h:=h.h) (hn:=hn) (hst:=hst)⟩
theorem cz {X:Cx}{a:Expr}{fs:En->Rs (List T)}{pos p:Pos}{tg:Expr}(hm:Cx.mg X (Jr "range")=none)(ha:QA X [a] fs)(hg:Gl X (Jr "range"):=by rfl)(hs:Jo [a] (Cx.env X)= [(false,eval a (Cx.env X))]:=by rfl):QI X tg (K4 (JR (Jr "range") p) [a] [] pos) (iR fs):=
 ⟨wb (hm:=hm) (ha:=ha.h) (hg:=hg) (hs:=hs)⟩
theorem dh {X:Cx}:QIf X [] bT:=
 ⟨AV ⟩
theorem jI {X:Cx}{pos:Pos}{elt tg iter:Expr}{ifs:List Expr}{scope:L8}{N':List Str}{src:List (Option Nat)}{fi:En->Rs (List T)}{tgt:T->En->Rs En}{fc:En->Rs Bool}{fe:En->Rs T}(hc:Cx.calm X=true)(S:LcScope X scope N' src)(hi:QI X tg iter fi)(block:∀(cl:List (Str×Addr)) (C:Addr) (s₀:IY) (H₀:Hp) (fp:List Addr),QG (cq X scope cl N' C s₀ H₀ fp) tg tgt/\QIf (cq X scope cl N' C s₀ H₀ fp) ifs fc/\QE (cq X scope cl N' C s₀ H₀ fp) elt fe)(hs:∀(x:IW),J5 iter (Cx.env X) x=pure x:=by intro _;rfl):QE X (Oa elt [{ target:=tg,iter:=iter,ifs:=ifs,is_async:=0 }] scope pos) (iO fi src tgt fc fe):=
 ⟨q_lc (hc:=hc) (S:=S) (hi:=hi.h) (block:=λa1 a2 a3 a4 a5=>⟨(block a1 a2 a3 a4 a5).1.h,(block a1 a2 a3 a4 a5).2.1.h,(block a1 a2 a3 a4 a5).2.2.h⟩) (hs:=hs)⟩
theorem bF {X:Cx}:uF X [] sN:=
 ⟨DB ⟩
theorem ao {X:Cx}{st:Stmt}{bN:List Stmt}{F G:En->Rs Fl}(h1:QS X st F)(h2:uF X bN G):uF X (st::bN) (aA F G):=
 ⟨AR (h1:=h1.h) (h2:=h2.h)⟩
theorem ar {X:Cx}{st:Stmt}{F:En->Rs Fl}(h:QS X st F):uF X [st] F:=
 ⟨DA (h:=h.h)⟩
theorem aB {X:Cx}{a:Expr}{fa:En->Rs T}{pos:Pos}(ha:QE X a fa):QS X (Stmt.Return (some a) pos) (aI fa):=
 ⟨Dy (ha:=ha.h)⟩
theorem cp {X:Cx}{c:Expr}{pos:Pos}{f:En->Rs Bool}{A B:List Stmt}{F G:En->Rs Fl}(hc:QT X c f)(ha:uF X A F)(hb:uF X B G):QS X (Stmt.If c A B pos) (eO f F G):=
 ⟨F6 (hc:=hc.h) (ha:=ha.h) (hb:=hb.h)⟩
theorem C3 {X:Cx}{pos:Pos}{elt tg iter:Expr}{ifs:List Expr}{scope:L8}{spos py:Pos}{N':List Str}{src:List (Option Nat)}{fi:En->Rs (List T)}{tgt:T->En->Rs En}{fc:En->Rs Bool}{fe:En->Rs T}(i:Nat){y:Str}(hc:Cx.calm X=true)(S:LcScope X scope N' src)(hi:QI X tg iter fi)(block:∀(cl:List (Str×Addr)) (C:Addr) (s₀:IY) (H₀:Hp) (fp:List Addr),QG (cq X scope cl N' C s₀ H₀ fp) tg tgt/\QIf (cq X scope cl N' C s₀ H₀ fp) ifs fc/\QE (cq X scope cl N' C s₀ H₀ fp) elt fe)(hN:KC (Cx.N X))(hiy:(Cx.N X)[i]? =some y:=by rfl)(hy:L2.Loc (Lg (Cx.env X)) y:=by first | exact J8 rfl | exact JP rfl)(hsw:JU (Oa elt [{ target:=tg,iter:=iter,ifs:=ifs,is_async:=0 }] scope pos) (some (JR y py)) (LG spos) (Cx.env X)=pure true:=by rfl)(hf:Cx.fn X y=true\/Kp y (NW (Lg (Cx.env X)))=some NameKind.local:=by first | exact .inl rfl | exact .inr rfl | assumption)(hs:∀(x:IW),J5 iter (Cx.env X) x=pure x:=by intro _;rfl):QS X (MX [JR y py] (Oa elt [{ target:=tg,iter:=iter,ifs:=ifs,is_async:=0 }] scope pos) spos) (cJ (iO fi src tgt fc fe) (gN i)):=
 ⟨F5 (i:=i) (hc:=hc) (S:=S) (hi:=hi.h) (block:=λa1 a2 a3 a4 a5=>⟨(block a1 a2 a3 a4 a5).1.h,(block a1 a2 a3 a4 a5).2.1.h,(block a1 a2 a3 a4 a5).2.2.h⟩) (hN:=hN) (hiy:=hiy) (hy:=hy) (hsw:=hsw) (hf:=hf) (hs:=hs)⟩
theorem aM {X:Cx}{a:Expr}{fa:En->Rs T}{pos:Pos}{tg:Expr}{g:T->En->Rs En}(ha:QE X a fa)(hg:QG X tg g)(hs:Oe [tg] a (LG pos) (Cx.env X)=pure false:=by rfl)(hw:Of [tg] a (Cx.env X)=pure none:=by rfl)(h1:List.map (λx=>Prod.snd x) (Kr [tg] (Cx.env X))= [assign tg (Cx.env X)]:=by rfl):QS X (MX [tg] a pos) (cJ fa g):=
 ⟨DH (ha:=ha.h) (hg:=hg.h) (hs:=hs) (hw:=hw) (h1:=h1)⟩
theorem f9 {X:Cx}{a:Expr}{fa:En->Rs T}{pos:Pos}(ha:QE X a fa)(hs:JU a none (LG pos) (Cx.env X)=pure false:=by rfl):QS X (Stmt.Expr a pos) (v9 fa):=
 ⟨AQ (ha:=ha.h) (hs:=hs)⟩
theorem dF {X:Cx}{pos:Pos}{tg iter:Expr}{body:List Stmt}{fi:En->Rs (List T)}{g:T->En->Rs En}{F:En->Rs Fl}(hc:Cx.calm X=true)(hi:QI X tg iter fi)(hg:QG (Cx.nox X) tg g)(hb:uF (Cx.nox X) body F)(hs:∀(x:IW),J5 iter (Cx.env X) x=pure x:=by intro _;rfl):QS X (Stmt.For tg iter body [] pos) (gU fi g F):=
 ⟨DD (hc:=hc) (hi:=hi.h) (hg:=hg.h) (hb:=hb.h) (hs:=hs)⟩
theorem vW {X:Cx}{pos:Pos}{c:Expr}{body:List Stmt}{fc:En->Rs Bool}{F:En->Rs Fl}(n:Nat)(hc:QT (Cx.nox X) c fc)(hb:uF (Cx.nox X) body F):QS X (Stmt.While c body [] pos) (bK fc F n):=
 ⟨xN (n:=n) (hc:=hc.h) (hb:=hb.h)⟩
theorem gq {X:Cx}{a:Expr}{fa:En->Rs T}{tg:Expr}(ha:QE X a fa):QI X tg a (iS fa):=
 ⟨DM (ha:=ha.h)⟩
theorem jG {X:Cx}{a:Expr}{fs:En->Rs (List T)}{p pos:Pos}{elts:List Expr}{kk:Nat}{tpos:Pos}(hm:Cx.mg X (Jr "enumerate")=none)(ha:QA X [a] fs)(hg:Gl X (Jr "enumerate"):=by rfl)(hs:Jo [a] (Cx.env X)= [(false,eval a (Cx.env X))]:=by rfl):QI X (Expr.Tuple elts kk tpos) (K4 (JR (Jr "enumerate") p) [a] [] pos) (iE fs):=
 ⟨AW (hm:=hm) (ha:=ha.h) (hg:=hg) (hs:=hs)⟩
theorem jE {X:Cx}{es:List Expr}{pos p2 p3:Pos}{x:Str}(i:Nat){f:En->Rs (List T)}(hN:KC (Cx.N X))(ha:QA X es f)(hi:(Cx.N X)[i]? =some x:=by rfl)(hx:L2.Loc (Lg (Cx.env X)) x:=by first | exact J8 rfl | exact JP rfl)(hs:JU (Expr.List es p2) (some (JR x p3)) (LG pos) (Cx.env X)=pure false:=by rfl)(hf:Cx.fn X x=true\/Kp x (NW (Lg (Cx.env X)))=some NameKind.local:=by first | exact .inl rfl | exact .inr rfl | assumption):QS X (MX [JR x p3] (Expr.List es p2) pos) (je i f):=
 ⟨AM (i:=i) (hN:=hN) (ha:=ha.h) (hi:=hi) (hx:=hx) (hs:=hs) (hf:=hf)⟩
theorem pC {X:Cx}{a:Expr}{fa:En->Rs T}{pos p2:Pos}{x:Str}(i:Nat){apos cpos:Pos}(ha:QE X a fa)(hN:(Cx.N X)[i]? =some x:=by rfl)(hv:qW (Lg (Cx.env X)) x:=by first | exact J8 rfl | exact JP (J8 rfl) | exact JP (JP rfl))(hn:bx a=true:=by rfl)(hbase:JM (JR x p2) (Jr "append") (Cx.env X) (eval (JR x p2) (Cx.env X))=eval (JR x p2) (Cx.env X):=by rfl)(hline:(NX apos == LG cpos)=true:=by rfl)(hd:fE x:=by decide)(hcd:(x == Jr "__classdict__")=false:=by decide)(hsw:JU (K4 (Lo (JR x p2) (Jr "append") apos) [a] [] cpos) none (LG pos) (Cx.env X)=pure false:=by rfl):QS X (Stmt.Expr (K4 (Lo (JR x p2) (Jr "append") apos) [a] [] cpos) pos) (n6 i fa):=
 ⟨DJ (i:=i) (ha:=ha.h) (hN:=hN) (hv:=hv) (hn:=hn) (hbase:=hbase) (hline:=hline) (hd:=hd) (hcd:=hcd) (hsw:=hsw)⟩
theorem pB {X:Cx}{a:Expr}{fa:En->Rs T}{pos p2:Pos}{x:Str}(i:Nat){apos cpos:Pos}(ha:QE X a fa)(hN:(Cx.N X)[i]? =some x:=by rfl)(hv:qW (Lg (Cx.env X)) x:=by first | exact J8 rfl | exact JP (J8 rfl) | exact JP (JP rfl))(hn:bx a=true:=by rfl)(hbase:JM (JR x p2) (Jr "extend") (Cx.env X) (eval (JR x p2) (Cx.env X))=eval (JR x p2) (Cx.env X):=by rfl)(hline:(NX apos == LG cpos)=true:=by rfl)(hd:fE x:=by decide)(hcd:(x == Jr "__classdict__")=false:=by decide)(hsw:JU (K4 (Lo (JR x p2) (Jr "extend") apos) [a] [] cpos) none (LG pos) (Cx.env X)=pure false:=by rfl):QS X (Stmt.Expr (K4 (Lo (JR x p2) (Jr "extend") apos) [a] [] cpos) pos) (my i fa):=
 ⟨DE (i:=i) (ha:=ha.h) (hN:=hN) (hv:=hv) (hn:=hn) (hbase:=hbase) (hline:=hline) (hd:=hd) (hcd:=hcd) (hsw:=hsw)⟩
theorem jF {X:Cx}(i:Nat){st:Stmt}{F:En->Rs Fl}(h:QS X st F):QS X st (pU i F):=
 ⟨DG (i:=i) (h:=h.h)⟩
theorem eZ {X:Cx}(i:Nat){e:Expr}{f:En->Rs T}(h:QE X e f):QE X e (ln i f):=
 ⟨q_ln (i:=i) (h:=h.h)⟩
theorem C2 {X:Cx}(i:Nat){e:Expr}{f:En->Rs Bool}(h:QT X e f):QT X e (EC i f):=
 ⟨F4 (i:=i) (h:=h.h)⟩
theorem C4 {X:Cx}{pos:Pos}:QS X (Stmt.Continue pos) Cv:=
 ⟨F7 ⟩
theorem iD {X:Cx}{c:Str}{msg:Str}{C:Addr}{bm:List IW}{np p1 cpos pos:Pos}{j:Nat}(O:OX X.K C bm)(hm:X.mg c=some (.ref C))(hc:X.calm=true:=by rfl)(hg:Gl X c:=by rfl)(hd:fE c:=by decide) :
  QS X (.Raise (some (.Call (.Name c np) [.Constant (.str msg) j p1] [] cpos)) none pos) (tO c):=⟨xO O.own hc hm hg hd⟩
theorem pF {P:JB}{w:JY}{K:IU}{mg:Str->Option IW}{base:Heap}{x qual:Str}{st:Stmt}{f:Addr}{fd:J0}{N ps:List Str}{k n:Nat}{F:En->Rs Fl}(Fn:L2.Fun K x qual st f fd)(S:aw N ps (ai st))(hn:ps.length=n)
  (hbody:∀(cdv:IW) (A:JK) (outer:List Env) (s:IY) (H:Hp) (E:XK),Room k (A.deeper (envOfC qual (ai st) s.heap.objs.size f cdv)) →
   ∀xe,uF ((fG CX0 P w K mg base N qual (ai st) f cdv A outer s H E).FB xe) (bJ st) F):Ad P w K mg base (k+1) f fd ps n (val n N.length F):=EZ Fn S hn λcdv A outer s H E hr xe=>(hbody cdv A outer s H E hr xe).h
theorem C6 {X:Cx}{a b:Expr}{fa fb:En->Rs T}{pos:Pos}(hu:MA (Cx.A X)+1<cLine)(ha:QE X a fa)(hb:QE X b fb)(hs:Cm b:=by intro _ _;rfl):QE X (LX a b pos) (o2 sS fa fb):=
 ⟨Gk (hu:=hu) (ha:=ha.h) (hb:=hb.h) (hs:=hs)⟩
theorem uJ {X:Cx}{a b:Expr}{fa fb:En->Rs T}{apos cpos:Pos}(hu:MA (Cx.A X)+1<cLine)(ha:QE X a fa)(hb:QE X b fb)(hn:bx b=true:=by rfl)(hbase:JM a (Jr "get") (Cx.env X) (eval a (Cx.env X))=eval a (Cx.env X):=by rfl)(hline:(NX apos == LG cpos)=true:=by rfl):QE X (K4 (Lo a (Jr "get") apos) [b] [] cpos) (oD gR fa fb):=
 ⟨DS (hu:=hu) (ha:=ha.h) (hb:=hb.h) (hn:=hn) (hbase:=hbase) (hline:=hline)⟩
theorem vX {X:Cx}{a b:Expr}{fa fb:En->Rs T}{apos cpos:Pos}(hu:MA (Cx.A X)+61<cLine)(ha:QE X a fa)(hb:QE X b fb)(hn:bx b=true:=by rfl)(hbase:JM a (Jr "index") (Cx.env X) (eval a (Cx.env X))=eval a (Cx.env X):=by rfl)(hline:(NX apos == LG cpos)=true:=by rfl):QE X (K4 (Lo a (Jr "index") apos) [b] [] cpos) (oL fM fa fb):=
 ⟨xR (hu:=hu) (ha:=ha.h) (hb:=hb.h) (hn:=hn) (hbase:=hbase) (hline:=hline)⟩
theorem xm {X:Cx}{e:Expr}{f:En->Rs T}{x:Str}{p pos p2 p3:Pos}(i:Nat)(hu:MA (Cx.A X)+8<cLine)(hc:Cx.calm X=true)(hm:Cx.mg X (Jr "dict")=none)(hN:KC (Cx.N X))(ha:QE X e f)(hst:bx e=true:=by rfl)(hg:Gl X (Jr "dict"):=by rfl)(hi:(Cx.N X)[i]? =some x:=by rfl)(hx:L2.Loc (Lg (Cx.env X)) x:=by first | exact J8 rfl | exact JP rfl)(hs:JU (K4 (JR (Jr "dict") p) [e] [] p2) (some (JR x p3)) (LG pos) (Cx.env X)=pure false:=by rfl)(hf:Cx.fn X x=true\/Kp x (NW (Lg (Cx.env X)))=some NameKind.local:=by first | exact .inl rfl | exact .inr rfl | assumption):QS X (MX [JR x p3] (K4 (JR (Jr "dict") p) [e] [] p2) pos) (oP i f):=
 ⟨AN (i:=i) (hu:=hu) (hc:=hc) (hm:=hm) (hN:=hN) (ha:=ha.h) (hst:=hst) (hg:=hg) (hi:=hi) (hx:=hx) (hs:=hs) (hf:=hf)⟩
theorem Ai {X:Cx}{b c:Expr}{fb fc:En->Rs T}{pos p2 p3:Pos}{x:Str}(i:Nat)(hu:MA (Cx.A X)+1<cLine)(hb:QE X b fb)(hc:QE X c fc)(hN:(Cx.N X)[i]? =some x:=by rfl)(hv:qW (Lg (Cx.env X)) x:=by first | exact J8 rfl | exact JP (J8 rfl) | exact JP (JP rfl))(hd:fE x:=by decide)(hcd:(x == Jr "__classdict__")=false:=by decide)(hs:JU c (some (LX (JR x p2) b p3)) (LG pos) (Cx.env X)=pure false:=by rfl):QS X (MX [LX (JR x p2) b p3] c pos) (v8 i fb fc):=
 ⟨Dz (i:=i) (hu:=hu) (hb:=hb.h) (hc:=hc.h) (hN:=hN) (hv:=hv) (hd:=hd) (hcd:=hcd) (hs:=hs)⟩
end Tr
namespace Tr
open PySem PySem.Spec PyProof.Rows L2 PySem.W
theorem zj (h:Heap):(sG h).In h:=by
 have key:∀(l:List Nat) (a:Addr) (o:Obj),(l.filterMap λa=>(h.get? a).map λo=>(a,o)).lookup a=some o->h.get? a=some o:=by
  intro l
  induction l with
  | nil=>intro a o e;cases e
  | cons b r ih=>
   intro a o e
   cases hb:h.get? b with
   | none=>rw[List.filterMap_cons_none (by rw[hb];rfl)]at e;exact ih a o e
   | some ob=>
    rw[List.filterMap_cons_some (b:=(b,ob)) (by rw[hb];rfl),JO]at e
    cases q:a == b with
    | true=>rw[q]at e;cases e;rw[eq_of_beq q];exact hb
    | false=>rw[q]at e;exact ih a o e
 exact λa o e=>key _ a o e
theorem CM {K:Frag}{n:Str}{st:Stmt}(e:obF K n=exF n st):∃f fd,nsIn K JG n=some (some (.ref f))/\L2.Fun K n n st f fd:=by
 unfold obF at e
 split at e
 ·rename_i f hf
  split at e
  ·rename_i oc od d sl hl
   cases d;unfold exF at e;simp only[ML,MU]at e;obtain⟨h1,h2,h3,h4,h5,h6,h7,h8,h9,h10,h11⟩:=e;subst h1 h2 h3 h4 h5 h6 h7 h8 h9;exact⟨f,_,hf,zi hl h10 h11⟩
  ·cases e
 ·cases e
theorem mR {K:Frag}{N:Addr}{n:Str}(e:GB K N n=true):nsIn K N n=some none:=by
 unfold GB at e
 split at e
 ·assumption
 ·cases e
theorem Ew {K:Frag}{n:Str}{i:Int}(e:HH K n=some i):∃t,nsIn K JG n=some (some (.int i t)):=by
 unfold HH at e
 split at e
 ·rename_i i' t h;cases e;exact⟨t,h⟩
 ·cases e
theorem l9:∀{l:List IW},uM l=true->l=tj:=by
 intro l e;unfold uM at e
 split at e
 ·simp only[IV,beq_iff_eq]at e
  obtain⟨⟨⟨h1,h2⟩,h3⟩,h4⟩:=e;subst h1 h2 h3 h4;rfl
 ·cases e
theorem hY {K:Frag}{D:Option Addr}{n:Str}{C:Addr}(e:Br K D n=some C):nsIn K JG n=some (some (.ref C)) ∧
  ∃nm q N bs bm hd sn su ab co dd k0 k1 k2 k3 k5,under D bm=true/\K.lookup C=some (Lu nm q C N bs bm hd sn su ab co dd k0 k1 k2 k3 k5 "ValueError.__new__")/\∀h:Heap,K.In h->∃mN,h.Ns N mN/\∀n∈calmNames,mN n=none:=by
 unfold Br at e
 split at e
 ·rename_i C' hC
  split at e
  ·rename_i t dd c k0 k1 k2 k3 b k5 hl
   split at e
   ·rename_i E m ob oe es ep oz hm hN
    split at e
    ·rename_i hq
     cases e;simp only[IV,beq_iff_eq,Ox]at hq;obtain⟨⟨⟨⟨⟨⟨h1,h2⟩,h3⟩,h4⟩,h5⟩,h6⟩,h7⟩:=hq
     have z:=JC.mp h5;refine⟨hC,c.name,c.qualname,c.ns,c.bases,m,c.hasDict,c.slotNames,c.subclasses,c.abstract,c.collection,dd,k0,k1,k2,k3,k5,h7,?_,GD hN h4 (mR (z _ (.head _))) (mR (z _ (.tail _ (.head _)))) (mR (z _ (.tail _ (.tail _ (.head _))))) (mR (z _ (.tail _ (.tail _ (.tail _ (.head _))))))⟩
     rw[hl];cases c;simp only at hm h3;subst h1 h2 hm h3 h6
     rfl
    ·cases e
   ·cases e
  ·cases e
 ·cases e
theorem ox0 {K:Frag}{C:Addr}{n:Str}(e:Br K none n=some C):OX K C tj:=by
 obtain⟨_,_,_,_,_,_,_,_,_,_,_,_,_,_,_,_,_,hu,hl,hn⟩:=hY e;cases l9 hu;exact Bi hl hn
theorem HE {K:Frag}{C D:Addr}{n m:Str}(e:Br K (some D) n=some C)(d:Br K none m=some D):OX K C (.ref D::tj):=by
 obtain⟨_,_,_,_,_,bm,_,_,_,_,_,_,_,_,_,_,_,hu,hl,hn⟩:=hY e;obtain⟨_,_,_,_,_,_,_,_,_,_,_,_,_,_,_,_,_,hu',hl',hn'⟩:=hY d;cases l9 hu';unfold under at hu;simp only at hu
 split at hu
 ·rw[IV]at hu
  cases eq_of_beq hu.1;cases l9 hu.2;exact yg hl hn hl' hn'
 ·cases hu
theorem iY {α:Type}{o:Option α}{r:List (Option α)}{l:List α}(e:uC (o::r)=some l):∃a l',o=some a/\l=a::l'/\uC r=some l':=by
 cases o with
 | none=>cases e
 | some a=>
  unfold uC at e
  split at e
  ·rename_i l' h;cases e;exact⟨a,l',rfl,rfl,h⟩
  ·cases e
theorem zT {α:Type}{l:List α}(e:uC ([]:List (Option α))=some l):l= []:=by cases e;rfl
theorem oU:∀{l:List Addr},qk l=true->l.Nodup
 | [],_=> .nil
 | a::r,h=>by
  unfold qk at h;rw[IV]at h;refine JH.mpr ⟨λhm=> ?_,oU h.2⟩
  have:=JC.mp h.1 a hm
  simp at this
theorem Eu {K:Frag}{m:Str}{es:List Str}(e:HF K (m::es)=true):∃D l,Br K none m=some D/\uC (es.map (Br K (some D)))=some l/\(l++ [D]).Nodup:=by
 rw[HF]at e
 split at e
 ·rename_i D hD
  split at e
  ·rename_i l hl;exact⟨D,l,hD,hl,oU e⟩
  ·cases e
 ·cases e
section
variable {S:zZ}{top:Nat->Stmt}{K:Frag}{h:Heap}{mg:Str->Option IW}
theorem jw {α β:Type}{f g:α->β}:∀{l:List α} (j:Nat) {a:α},l.map f=l.map g->l[j]? =some a->f a=g a
 | [],_,_,_,q=>by cases q
 | b::l,0,a,e,q=>by cases q;exact(List.cons.inj e).1
 | b::l,j+1,a,e,q=>jw (l:=l) j (List.cons.inj e).2 q
theorem cO (j:Nat){n:Str}{i:Nat}{ps:List Str}(X:K.In h)(G:h.Ns JG mg)(e:rW S K=rk S top)(q:S.tab[j]? =some (n,i))
  (hb:∀(kV doc pm:IW) (an:Option Addr) (cdv ct:IW) (us:List IW),us.length=ps.length->Pa (fnOf n n (eU (top i)) (bJ (top i)) (ai (top i)) .none kV doc pm an cdv ct) ⟨us,[]⟩=pure (ps.zip us)) :
  ∃f fd,Fn K mg n (top i) ps f fd:=by
 obtain⟨f,fd,h1,h2⟩:=CM (jw j (congrArg (·.1) e) q)
 exact⟨f,fd,h2,h2.binds hb,mg_of X G h1⟩
theorem GX (j:Nat){n:Str}{i:Nat}{x:Str}{fa:Addr}(X:K.In h)(G:h.Ns JG mg)(e:rW S K=rk S top)(q:S.tab[j]? =some (n,i))(hfa:mg n=some (.ref fa))
  (hb:∀(kV doc pm:IW) (an:Option Addr) (cdv ct u:IW),Pa (fnOf n n (eU (top i)) (bJ (top i)) (ai (top i)) .none kV doc pm an cdv ct) ⟨[u],[]⟩=pure [(x,u)]) :
  ∃fd,Fn K mg n (top i) [x] fa fd/\∀(s:IY) (u:IW),NC s fd ⟨[u],[]⟩ [(x,u)]:=by
 obtain⟨f,fd,h1,h2⟩:=CM (jw j (congrArg (·.1) e) q)
 have z:=hfa.symm.trans (mg_of X G h1);cases z
 have hh:=h2;obtain⟨oc,od,kV,doc,pm,an,cdv,ct,osl,rfl,lk,hcd⟩:=hh.ex;exact⟨_,⟨h2,.all λus hl=>match us,hl with | [u],_=>hb kV doc pm an cdv ct u,mg_of X G h1⟩,λs u=> .of_eq (hb kV doc pm an cdv ct u)⟩
theorem fU (j:Nat){n:Str}(X:K.In h)(G:h.Ns JG mg)(e:rW S K=rk S top)(q:S.zs[j]? =some n):mg n=none:=
 mg_none_of X G (mR (JC.mp (congrArg (·.2.1) e:S.zs.all (GB K JG)=true) n (Ky q)))
theorem o6 (j:Nat){n:Str}{i:Int}(X:K.In h)(G:h.Ns JG mg)(e:rW S K=rk S top)(q:S.cs[j]? =some (n,i)):∃t,mg n=some (.int i t):=by
 obtain⟨t,ht⟩:=Ew (jw (f:=λc=>HH K c.1) (g:=λc=>some c.2) j (congrArg (·.2.2.1) e) q)
 exact⟨t,mg_of X G ht⟩
theorem G1 (e:rW S K=rk S top):HF K S.es=true:=congrArg (·.2.2.2) e
end
theorem left_of {p q:JB}{loose:List Str}{Xt:IY->Bool}{α:Type}{Yf:IY->α}{Ya:JY->α}{N:Nat}{g0:Bool}
  (e:opening p=plainProg p.main.scope.names) (hN:Nat.ble 600 N=true) (f:∀s,fenceModules? p s=some s)
  (h:∀(w:JY) (os:MF),(topFrom Od p w N ⟨boot_heap w.params,⟨[]⟩,boot_drawn,boot_toks,os⟩).map (λs=>(openSeen q loose (Nz p.main.body) Xt g0 s,Yf s))=some (openGood q loose,Ya w)) :
  LeftO p q loose Xt Yf Ya N g0:=λw=>by
 obtain⟨⟨h0,gs,d,k,os⟩,e1,e2⟩:=Na.mp (boot_open e hN f w);simp only[MU]at e2;obtain⟨rfl,rfl,rfl,rfl⟩:=e2;unfold openEnds;rw[e1];exact h w os
structure Cl (P:JB)(w:JY)(K:Frag)(mg:Str->Option IW)(base:Heap)(k:Nat)(x:Str)(n:Nat)(m:List T->Rs T):Prop where
 ex:∃f fd ps,mg x=some (.ref f)/\keepIn K (.ref f)=true/\Binds K fd ps []/\ps.length=n/\Ad P w K mg base k f fd ps n m
abbrev gS (K:Frag)(mg:Str->Option IW)(x:Str)(st:Stmt)(ps:List Str):Prop:=∃f fd,Fn K mg x st ps f fd
section
variable {P:JB}{w:JY}{K:Frag}{mg:Str->Option IW}{base:Heap}{x:Str}{st:Stmt}{N ps:List Str}{k n:Nat}{F:En->Rs Fl}
theorem bM (H:gS K mg x st ps)(S:aw N ps (ai st))(hn:ps.length=n)
  (hbody:∀(f:Addr) (cdv:IW) (A:JK) (outer:List Env) (s:IY) (H:Hp) (E:XK),Room k (A.deeper (envOfC x (ai st) s.heap.objs.size f cdv)) →
   ∀xe,uF ((fG CX0 P w K mg base N x (ai st) f cdv A outer s H E).FB xe) (bJ st) F):Cl P w K mg base (k+1) x n (val n N.length F):=by
 obtain⟨f,fd,h⟩:=H;exact⟨f,fd,ps,h.mg,h.fn.kp,h.bd,hn,pF h.fn S hn (hbody f)⟩
end
section
variable {X:Cx}{e:Expr}{es:List Expr}{fs:En->Rs (List T)}{pos p:Pos}{x:Str}{n k k':Nat}{g:List T->Rs T}
theorem aW (c:Cl X.prog X.w X.K X.mg X.base k x n g)(hr:Room k' X.A)(ha:QA X (e::es) fs)(hk:k<=k':=by decide)(hl:∀(Z:En) (ts:List T),fs Z= .ok ts->ts.length=n:=by repeat first | exact vS | refine vR ?_)
  (hn:bz (e::es)=true:=by rfl) (hg:Gl X x:=by rfl) (h2:fE x:=by decide):QE X (.Call (.Name x p) (e::es) [] pos) (cl g fs):=by
 obtain⟨f,fd,ps,h1,h3,h4,h5,h6⟩:=c.ex;exact zq_c h6 (hr.mono hk) h1 h3 h4 hl ha h5 hn hg h2
theorem rg {i:Int}(h:∃t,X.mg x=some (.int i t))(hg:Gl X x:=by rfl)(hd:fE x:=by decide):QE X (.Name x pos) (cn (.int i)):=by
 obtain⟨t,h⟩:=h;exact An h ⟨_,rfl⟩ hg hd
end
theorem Bu {K:Frag}{C:Addr}{m q:Str}{st:Stmt}(e:GC K C m q=Hj m q st):∃f fd,uH K C m f/\L2.Fun K m q st f fd:=by
 unfold GC at e
 split at e
 ·rename_i f hf
  split at e
  ·rename_i oc od d sl hl
   cases d;unfold Hj at e;simp only[ML,MU]at e;obtain⟨h1,h2,h3,h4,h5,h6,h7,h8,h9,h10,h11,h12⟩:=e;subst h1 h2 h3 h4 h5 h6 h7 h8 h9;exact⟨f,_,⟨hf,h12,h11⟩,zi hl h10 h11⟩
  ·cases e
 ·cases e
theorem Bt {K:Frag}{C:Addr}{f:Str}(e:Ex K C f=true):NoAttr K C f:=by
 unfold Ex at e
 split at e
 ·assumption
 ·cases e
theorem AG {K:Frag}{C:Addr}(e:Dm K C=true):findIn K (.ref C) "__setattr__" =some (some (.builtin "object.__setattr__")):=by
 unfold Dm at e
 split at e
 ·rename_i b h;rw[h,eq_of_beq e]
 ·cases e
structure q0 (K:Frag)(mg:Str->Option IW)(c:Str):Prop where
 cl:Cls K (bP K c)
 mg:mg c=some (.ref (bP K c))
 mks:makesIn K (bP K c)=true
 kp:keepIn K (.ref (bP K c))=true
abbrev kf (K:Frag)(c m q:Str)(st:Stmt)(ps:List Str):Prop:=∃f fd,uH K (bP K c) m f/\L2.Fun K m q st f fd/\Binds K fd ps []
section
variable {K:Frag}{h:Heap}{mg:Str->Option IW}{top:Nat->Stmt}{A:Cq}
theorem CJ (X:K.In h)(G:h.Ns JG mg)(e:HG K A=HK top A):q0 K mg A.c/\(∀f∈A.as,NoAttr K (bP K A.c) f)/\A.ms.map (λ(m:Str×Str×Nat)=>GC K (bP K A.c) m.1 m.2.1)=A.ms.map (λ(m:Str×Str×Nat)=>Hj m.1 m.2.1 (bX (top A.i) m.2.2)):=by
 unfold HG at e
 split at e
 ·rename_i C hC
  unfold HK at e;simp only[ML,MU]at e;obtain⟨e1,e2⟩:=e
  have hc:bP K A.c=C:=by unfold bP;rw[hC]
  unfold CS at e1;simp only[IV]at e1;obtain⟨⟨⟨⟨⟨⟨h1,h2⟩,h3⟩,h4⟩,h5⟩,h6⟩,h7⟩:=e1;rw[hc];exact⟨⟨by rw[hc];exact⟨h1,h2,h3,AG h4⟩,by rw[hc];exact mg_of X G hC,by rw[hc];exact h5,by rw[hc];exact h6⟩,λf hf=>Bt (JC.mp h7 f hf),e2⟩
 ·cases e
theorem fz (j:Nat){m q:Str}{i:Nat}{ps:List Str}(e:A.ms.map (λ(m:Str×Str×Nat)=>GC K (bP K A.c) m.1 m.2.1)=A.ms.map (λ(m:Str×Str×Nat)=>Hj m.1 m.2.1 (bX (top A.i) m.2.2)))(z:A.ms[j]? =some (m,q,i))
  (hb:∀(kV doc pm:IW) (an:Option Addr) (cdv ct:IW) (us:List IW),us.length=ps.length->Pa (fnOf m q (eU (bX (top A.i) i)) (bJ (bX (top A.i) i)) (ai (bX (top A.i) i)) .none kV doc pm an cdv ct) ⟨us,[]⟩=pure (ps.zip us)) :
  kf K A.c m q (bX (top A.i) i) ps:=by
 obtain⟨f,fd,h1,h2⟩:=Bu (jw j e z);exact⟨f,fd,h1,h2,h2.binds hb⟩
end
def hookC (S:ti)(top:Nat->Stmt):Hook:=
 ⟨_,λs=>yo S (sG s.heap),λ_=>xv S top,λ_ h=> ∃K:Frag,K.In h/\yo S K=xv S top,λ_ s e=>⟨_,zj s.heap,e⟩,λ_ _ _ ⟨K,a,b⟩ k=>⟨K,a.keeps k,b⟩⟩
theorem walk_c {l:OpenLaw}{n k:Nat}{q:JB}{loose:List Str}{XP:(Str->Option IW)->Heap->Prop}{d:DefRec}{S:ti}{top:Nat->Stmt}{CX:Ae}{sp:Frag->Sp}{x:Str}
  (hn:l.most=some n) (hn2:n<=sizeLine) (hdf:d.params.defaults= []) (hr:Room k callerA)
  (F:∀(w:JY) (K:Frag) (mg:Str->Option IW) (fa:Addr) (h:Heap),K.In h->yo S K=xv S top->h.Ns JG mg->mg d.name=some (.ref fa) →
   ∃fd:J0,(∀(s:IY) (u:IW),NC s fd ⟨[u],[]⟩ [(x,u)])/\∀base:Heap,K.In base->base.Ns JG mg->nR l.prog w K mg base CX k fa fd [x] (sp K))
  (hsp:∀(K:Frag) (H:Hp) (a:Addr) (ns:List Int),ns.length<=n->Fs H->SqL K H a (ns.map V.int)->sp K [.ref a] H (λv _=>v= .bl true) λ_ _ _=>False)
  (hCX:∀(H:Hp) (s:IY) (e:IW) (s':IY),CX [] H s (λ_ _ _=>False) e s'->False) :
  WalkO q loose XP (hookC S top).says l.row.toRowW d [] (λf vs=>PySem.call f vs):=by
 refine Att.attach_call hn hdf λw s₀ s₁ mg mb fa o pm cd doc a vs ns G Y ho hd hcd hmg hobj hints hlen hg=> ?_
 obtain⟨K,KX,e⟩:=Y;obtain⟨fd,hb,hF⟩:=F w K mg fa _ KX e G.T.g hmg;exact yI KX G.T.g G.T.b G.T.builtins G.T.nolimit hg hobj hints (JV hlen hn2) hr hF hb (λH hO hS=>hsp K H a ns hlen hO hS) λH e s'=>hCX H s₁ e s'
structure Ml (P:JB)(w:JY)(K:Frag)(mg:Str->Option IW)(base:Heap)(k:Nat)(c m:Str)(g:List T->Rs T):Prop where
 ex:∃f fd ps,uH K (bP K c) m f/\Binds K fd ps []/\ps.length=1/\Ad P w K mg base k f fd ps 1 g
structure Mm (P:JB)(w:JY)(K:Frag)(mg:Str->Option IW)(base:Heap)(k:Nat)(c m:Str)(n:Nat)(g:List Sl->Rs (T×OT)):Prop where
 ex:∃f fd ps,uH K (bP K c) m f/\Binds K fd ps []/\ps.length=n/\CZ P w K mg base k f fd ps n 0 g
structure Ce (P:JB)(w:JY)(K:Frag)(mg:Str->Option IW)(base:Heap)(k:Nat)(x:Str)(n j:Nat)(g:List Sl->Rs (T×OT)):Prop where
 ex:∃f fd ps,mg x=some (.ref f)/\keepIn K (.ref f)=true/\Binds K fd ps []/\ps.length=n/\CZ P w K mg base k f fd ps n j g
structure QX (X:Cx)(e:Expr)(f:En->Rs (T×En)):Prop where
 h:z9 X e f
structure Fz (X:Cx)(e:Expr)(f:En->Rs (Bool×En)):Prop where
 h:Fq X e f
structure HL (X:Cx)(e:Expr)(f:En->Rs (Bool×En)):Prop where
 h:Hu X e f
structure QM (X:Cx)(j:Nat)(e:Stmt)(f:En->Rs Fx):Prop where
 h:Ck X j e f
structure Cj (X:Cx)(j:Nat)(e:List Stmt)(f:En->Rs Fx):Prop where
 h:Aa X j e f
section
variable {P:JB}{w:JY}{K:Frag}{mg:Str->Option IW}{base:Heap}{x c m q:Str}{st:Stmt}{N ps:List Str}{k n j:Nat}
theorem vc {F:En->Rs Fl}(H:kf K c m q st ps)(S:aw N ps (ai st))(hn:ps.length=1)
  (hbody:∀(f:Addr) (cdv:IW) (A:JK) (outer:List Env) (s:IY) (H:Hp) (E:XK),Room k (A.deeper (envOfC q (ai st) s.heap.objs.size f cdv)) →
   ∀xe,uF ((fG CX0 P w K mg base N q (ai st) f cdv A outer s H E).FB xe) (bJ st) F):Ml P w K mg base (k+1) c m (val 1 N.length F):=by
 obtain⟨f,fd,h1,h2,h3⟩:=H;exact⟨f,fd,ps,h1,h3,hn,pF h2 S hn (hbody f)⟩
theorem m4 {F:En->Rs Fx}(H:kf K c m q st ps)(S:aw N ps (ai st))(hn:ps.length=n)
  (hbody:∀(f:Addr) (cdv:IW) (A:JK) (outer:List Env) (s:IY) (H:Hp) (E:XK),Room k (A.deeper (envOfC q (ai st) s.heap.objs.size f cdv)) →
   ∀xe,Cj ((fG CX0 P w K mg base N q (ai st) f cdv A outer s H E).FB xe) 0 (bJ st) F):Mm P w K mg base (k+1) c m n (fR n 0 N.length F):=by
 obtain⟨f,fd,h1,h2,h3⟩:=H;exact⟨f,fd,ps,h1,h3,hn,zk h2 S hn λcdv A outer s H E hr xe=>(hbody f cdv A outer s H E hr xe).h⟩
theorem Hs {F:En->Rs Fx}(H:gS K mg x st ps)(S:aw N ps (ai st))(hn:ps.length=n)
  (hbody:∀(f:Addr) (cdv:IW) (A:JK) (outer:List Env) (s:IY) (H:Hp) (E:XK),Room k (A.deeper (envOfC x (ai st) s.heap.objs.size f cdv)) →
   ∀xe,Cj ((fG CX0 P w K mg base N x (ai st) f cdv A outer s H E).FB xe) j (bJ st) F):Ce P w K mg base (k+1) x n j (fR n j N.length F):=by
 obtain⟨f,fd,h⟩:=H;exact⟨f,fd,ps,h.mg,h.fn.kp,h.bd,hn,zk h.fn S hn λcdv A outer s H E hr xe=>(hbody f cdv A outer s H E hr xe).h⟩
end
section
variable {X:Cx}{a b e c o:Expr}{es bN:List Expr}{fa fb fo:En->Rs T}{fs:En->Rs (List T)}{pos p p2 p3 p4 apos cpos spos:Pos}{x y n cn' f m:Str}{k k' l j:Nat}{g:List T->Rs T}{ge:List Sl->Rs (T×OT)}{ex ey:En->Rs (T×En)}{tx ty:En->Rs (Bool×En)}
theorem jC (h:QE X a fa):QX X a (xP fa):=⟨Dg h.h⟩
theorem l7 (C:q0 X.K X.mg m)(hn:NoAttr X.K (bP X.K m) f)(ha:QE X a fa)(hb:JM a f X.env (eval a X.env)=eval a X.env:=by rfl):QE X (.Attribute a f pos) (o1 (nA m f) fa):=⟨Gj C.cl hn ha.h hb⟩
theorem cL {pl:Sem Bool}(C:q0 X.K X.mg n)(M:Ml X.prog X.w X.K X.mg X.base k n m g)(hr:Room k' X.A)(ho:QE X o fo)(hk:k<=k':=by decide)
  (ht:eval (.Call (.Attribute o m apos) [] [] pos) X.env=(do
   let ov <-eval o X.env
   standAt apos.atName
   let (f,first) <-holding [ov] (NB ov m pl)
   callWith pos f first (backTo pos (Jo [] X.env)) (NL pos (LV [] X.env))):=by rfl):QE X (.Call (.Attribute o m apos) [] [] pos) (iJ n m g fo aj):=by
 obtain⟨f,fd,ps,h1,h2,h3,h4⟩:=M.ex;exact⟨A1 (pl:=pl) C.cl h1 h4 (hr.mono hk) h2 h3 ho.h ht⟩
theorem xj (i:Nat)(C:q0 X.K X.mg m)(hn:NoAttr X.K (bP X.K m) f)(ha:QE X a fa)(hN:X.N[i]? =some x:=by rfl)(hv:qW X.env.scope x:=by first | exact J8 rfl | exact JP (J8 rfl) | exact JP (JP rfl))(hs:bx a=true:=by rfl)
  (hb1:JM (.Name x p2) f X.env (eval (.Name x p2) X.env)=eval (.Name x p2) X.env:=by rfl)
  (hbase:JM (.Attribute (.Name x p2) f p3) "append" X.env (eval (.Attribute (.Name x p2) f p3) X.env)=eval (.Attribute (.Name x p2) f p3) X.env:=by rfl) (hline:(apos.endLine == cpos.line)=true:=by rfl)
  (hd:fE x:=by decide) (hcd:(x == ("__classdict__" : Str))=false:=by decide):QX X (.Call (.Attribute (.Attribute (.Name x p2) f p3) "append" apos) [a] [] cpos) (tw i m f fa):=⟨FG i C.cl hn ha.h hN hv hs hb1 hbase hline hd hcd⟩
theorem ED {fs:En->Rs (List T)}{l:Nat}(h:∀(Z:En) (ts:List T),fs Z= .ok ts->ts.length=l)(Z:En)(ts:List T)(z:fs Z= .ok ts):ts.length+1=l+1:=congrArg (· +1) (h Z ts z)
theorem iC {pl:Sem Bool}(i:Nat)(C:q0 X.K X.mg n)(M:Mm X.prog X.w X.K X.mg X.base k n m (l+1) ge)(hr:Room k' X.A)(ha:QA X (e::es) fs)(hk:k<=k':=by decide)(hl:∀(Z:En) (ts:List T),fs Z= .ok ts->ts.length=l:=by repeat first | exact vS | refine vR ?_)
  (hN:X.N[i]? =some x:=by rfl) (hv:qW X.env.scope x:=by first | exact J8 rfl | exact JP (J8 rfl) | exact JP (JP rfl)) (hd:fE x:=by decide) (hcd:(x == ("__classdict__" : Str))=false:=by decide)
  (hns:bz (e::es)=true:=by rfl)
  (ht:eval (.Call (.Attribute (.Name x p2) m apos) (e::es) [] pos) X.env=(do
   let ov <-eval (.Name x p2) X.env
   standAt apos.atName
   let (f,first) <-holding [ov] (NB ov m pl)
   callWith pos f first (backTo pos (Jo (e::es) X.env)) (NL pos (LV [] X.env))):=by rfl):QX X (.Call (.Attribute (.Name x p2) m apos) (e::es) [] pos) (ee i n m ge fs):=by
 obtain⟨f,fd,ps,h1,h2,h3,h4⟩:=M.ex
 have hn2:bx e=true/\bz es=true:=J6.mp hns;exact⟨Dh (pl:=pl) i C.cl h1 h4 (hr.mono hk) h2 h3 (ED hl) ha.h hN hv hd hcd (bu hn2.1) (ef hn2.2) ht⟩
theorem C1 (i:Nat)(M:Ce X.prog X.w X.K X.mg X.base k y (l+1) 0 ge)(hr:Room k' X.A)(ha:QA X es fs)(hk:k<=k':=by decide)(hl:∀(Z:En) (ts:List T),fs Z= .ok ts->ts.length=l:=by repeat first | exact vS | refine vR ?_)
  (hN:X.N[i]? =some x:=by rfl) (hv:qW X.env.scope x:=by first | exact J8 rfl | exact JP (J8 rfl) | exact JP (JP rfl)) (hd:fE x:=by decide) (hcd:(x == ("__classdict__" : Str))=false:=by decide)
  (hg:Gl X y:=by rfl) (hdb:fE y:=by decide) (hns:bz es=true:=by rfl):QX X (.Call (.Name y p) (.Name x p2::es) [] pos) (tq i ge fs):=by
 obtain⟨f,fd,ps,h1,h0,h2,h3,h4⟩:=M.ex;exact⟨FF i h4 (hr.mono hk) h1 h0 h2 h3 (ED hl) ha.h hN hv hd hcd hg hdb rfl (ef hns)⟩
theorem xi {t:En->Rs Bool}(h:QT X a t):Fz X a (De t):=⟨Ap h.h⟩
theorem Ag {op:Pw}{r:T->T->Rs T}(ho:OpT X (J3 op) r)(ha:QX X a ex)(hb:QE X b fb)(hm:LK op b=false:=by rfl):Fz X (.Compare a [op] [b] pos) (Df (Aq r ex fb)):=⟨Dd ho ha.h hb.h hm⟩
theorem Af (ha:Fz X a tx):HL X (.BoolOp .Or [a] pos) tx:=⟨Dc ha.h⟩
theorem C0 (ha:Fz X a tx)(hb:HL X (.BoolOp .Or (b::bN) pos) ty):HL X (.BoolOp .Or (a::b::bN) pos) (tp tx ty):=⟨FD ha.h hb.h⟩
theorem FA (h:HL X e tx):Fz X e tx:=⟨xt_w h.h⟩
theorem Aj {A C:List Stmt}{F G:En->Rs Fl}(hc:Fz X c tx)(ha:uF X A F)(hb:uF X C G):QS X (.If c A C pos) (tN tx F G):=⟨DC hc.h ha.h hb.h⟩
theorem Ak (ha:QX X a ex)(hs:JU a none pos.line X.env=pure false:=by rfl):QS X (.Expr a pos) (rJ ex):=⟨DF ha.h hs⟩
theorem Al (i:Nat)(hN:X.N.Nodup)(ha:QX X a ex)(hi:X.N[i]? =some n:=by rfl)(hx:Loc X.env.scope n:=by first | exact J8 rfl | exact JP rfl)(hs:JU a (some (.Name n p3)) pos.line X.env=pure false:=by rfl)
  (hf:X.fn n=true\/X.env.scope.names.lookup n=some .local:=by first | exact .inl rfl | exact .inr rfl | assumption):QS X (.Assign [.Name n p3] a pos) (tQ i ex):=⟨DI i hN ha.h hi hx hs hf⟩
theorem rf (i:Nat)(hN:X.N.Nodup)(C:q0 X.K X.mg m)(M:Mm X.prog X.w X.K X.mg X.base k m "__init__" (l+1) ge)(hr:Room k' X.A)(ha:QA X (e::es) fs)(hk:k+1<=k':=by decide)(hl:∀(Z:En) (ts:List T),fs Z= .ok ts->ts.length=l:=by repeat first | exact vS | refine vR ?_)
  (hi:X.N[i]? =some n:=by rfl) (hx:Loc X.env.scope n:=by first | exact J8 rfl | exact JP rfl) (hs:JU (.Call (.Name m p) (e::es) [] pos) (some (.Name n p3)) spos.line X.env=pure false:=by rfl) (hf:X.fn n=true\/X.env.scope.names.lookup n=some .local:=by first | exact .inl rfl | exact .inr rfl | assumption)
  (hg:Gl X m:=by rfl) (hdb:fE m:=by decide) (hns:bz (e::es)=true:=by rfl):QS X (.Assign [.Name n p3] (.Call (.Name m p) (e::es) [] pos) spos) (mx i m ge fs):=by
 obtain⟨f,fd,ps,h1,h2,h3,h4⟩:=M.ex
 have hn2:bx e=true/\bz es=true:=J6.mp hns;exact⟨AO i ⟨C.mks,h1.at_,h1.fn,C.kp⟩ h4 (hr.mono hk) C.mg h2 h3 (ED hl) hN ha.h hi hx hs hf hg hdb (bu hn2.1) (ef hn2.2)⟩
theorem C7:Cj X j [] mN:=⟨GJ⟩
theorem fQ {s:Stmt}{F:En->Rs Fx}(h:QM X j s F):Cj X j [s] F:=⟨GI h.h⟩
theorem fI {s:Stmt}{ss:List Stmt}{F G:En->Rs Fx}(h1:QM X j s F)(h2:Cj X j ss G):Cj X j (s::ss) (jx F G):=⟨EA h1.h h2.h⟩
theorem oI (ha:QX X a ex)(hs:JU a none pos.line X.env=pure false:=by rfl):QM X j (.Expr a pos) (wB ex):=⟨m_ex ha.h hs⟩
theorem l8 (ha:QX X a ex):QM X j (.Return (some a) pos) (m5 ex):=⟨GH ha.h⟩
theorem FC {t:En->Rs Bool}{A C:List Stmt}{F G:En->Rs Fx}(hc:QT X c t)(ha:Cj X j A F)(hb:Cj X j C G):QM X j (.If c A C pos) (Fu t F G):=⟨m_if hc.h ha.h hb.h⟩
theorem C9 {s:Stmt}{d:Str}(h:QS X s (tO d)):QM X j s (EB d):=⟨GL h.h⟩
theorem pD (i:Nat)(C:q0 X.K X.mg m)(hn:NoAttr X.K (bP X.K m) f)(ha:QA X es fs)(hN:X.N[i]? =some n:=by rfl)(hv:qW X.env.scope n:=by first | exact J8 rfl | exact JP (J8 rfl) | exact JP (JP rfl))
  (hd:fE n:=by decide) (hcd:(n == ("__classdict__" : Str))=false:=by decide) (hs:JU (.List es p4) (some (.Attribute (.Name n p2) f p3)) pos.line X.env=pure false:=by rfl) :
  QM X j (.Assign [.Attribute (.Name n p2) f p3] (.List es p4) pos) (qA i m f fs):=⟨GK i C.cl hn ha.h hN hv hd hcd hs⟩
theorem v3 {suite:List Stmt}{c:Str}{C:Addr}{bm:List IW}{t:T}(hm:X.mg c=some (.ref C))(O:OX X.K C bm)(h:∀e oe,uF (CP X e oe) suite (aI (cn t))):zV X suite C (zc c t):=λd D u hd hu=>by
 unfold zc at hu
 split at hu
 ·rename_i z
  cases hu;subst z;cases hm.symm.trans hd;exact⟨bm,O,by simp,λe oe=>(h e oe).h⟩
 ·cases hu
theorem Ao {body suite:List Stmt}{b0:Stmt}{F:En->Rs Fx}{ce:Str}{CE:Addr}{bmE:List IW}{t:T}{np hpos:Pos}(hm:X.mg ce=some (.ref CE))(OE:OX X.K CE bmE)
  (hb:∀pn xe,Cj { X with pn:=pn,xe:=xe } j body F) (hs:∀e oe,uF (CP X e oe) (b0::suite) (aI (Tr.cn t))) (hst:X.stack=X.env::X.outer:=by rfl) (hfe:X.env.frame=some X.env.locals:=by rfl) (hcl:∀x c,X.env.cells.lookup x≠some c) (hex:X.ex= []:=by rfl)
  (hg:Gl X ce:=by rfl) (hd:fE ce:=by decide) :
  QM X j (.Try body [.ExceptHandler (some (.Name ce np)) none (b0::suite) hpos] [] [] pos) (si F (zc ce t)):=⟨Ez hst hfe hcl hex hm OE (λpn xe=>(hb pn xe).h) (v3 hm OE hs) hg hd⟩
end
end Tr
namespace L2
open PySem PySem.Spec PyProof.Rows
def Itv (K:IU)(a:Addr)(n:Nat):It:=
 ⟨λi H=>i<n/\∃xs,SqL K H a xs/\xs.length=n,λi H x H'=>H'=H/\∀xs,SqL K H a xs->xs[n - 1 - i]? =some x,λi H=>n<=i⟩
theorem xA {P:JB}{w:JY}{K:IU}{tg:Expr}(a it:Addr)(n:Nat):xb P w K tg (Itv K a n) [it] it (λi h=>i<=n/\h.IsRevIter it a ((n:Int) - 1 - (i:Int))) where
 mem:=by simp
 obj:=λi h st b hb=>by
  have e:b=it:=by simpa using hb
  subst e;obtain⟨_,o,e,c,d⟩:=st;exact⟨o,e,λv z=>by rw[d]at z;cases z⟩
 keep:=λi h h' st k=>⟨st.1,st.2.at λo e=>k it (by simp) o e⟩
 item:=by
  intro X hP hw hK hc i pins s σ H E I hf st hg;subst hP hw hK;obtain⟨hlt,xs,hq,hn⟩:=hg;obtain⟨its,rv,p,hz⟩:=I.list hq
  have hx:xs[n - 1 - i]? =some xs[n - 1 - i]:=Jt (by omega)
  obtain⟨u,hu,ru⟩:=rv.get hx;obtain⟨f0,f1,f2,f3,f4,f5⟩:=hf it (by simp)
  have e1:(n:Int) - 1 - (i:Int)=((n - 1 - i:Nat):Int):=by omega
  have st:=st.2;rw[e1]at st;refine wpAny_pyNext_rev_item st p.isList (x:=u) (by simpa using hu) λh' st' sb=> ?_
  have I1:Inv X pins σ H { s with heap:=h' }:=I.turned (t':=s.toks) (λb o hb e=>(sb.2 b hb).trans e) f0 f1 f3 f4 f5
  have e2:((n - 1 - i:Nat):Int) - 1=(n:Int) - 1 - ((i+1:Nat):Int):=by omega
  rw[e2]at st';obtain⟨o,e,c,d⟩:=id st';exact⟨u,rfl,vA (s:={ s with heap:=h' }) e c d (by decide) ⟨_,H,I1,ru,⟨rfl,λys hy=>by rw[I.HZ hy hq];exact hx⟩,⟨hlt,st'⟩,λb hb=>(hf b hb).1⟩⟩
 done:=by
  intro X hP hw hK hc i pins s σ H E I hf st hg;subst hP hw hK
  have hg:n<=i:=hg;obtain⟨hle,st⟩:=st
  have hin:i=n:=Nat.le_antisymm hle hg;subst hin;obtain⟨f0,f1,f2,f3,f4,f5⟩:=hf it (by simp)
  have e1:(i:Int) - 1 - (i:Int)= -1:=by omega
  rw[e1]at st;exact wpAny_pyNext_rev_end (I.ok.hd hc) st λh' eb=>⟨rfl,I.turned (t':=s.toks) (λb o hb e=>eb b o hb e) f0 f1 f3 f4 f5⟩
 self:=λ_ _ _ _ _ st h=>NP st.2 h
end L2
namespace Tr
open PySem PySem.Spec PyProof.Rows L2
section
variable {X:Cx}{a:Expr}{fs:En->Rs (List T)}{p pos:Pos}
theorem oE:JT "reversed" =some (.type "reversed"):=by decide+kernel
theorem DN {tg:Expr}(hm:X.mg "reversed" =none)(ha:nV X [a] fs)(hg:Gl X "reversed":=by rfl)(hs:Jo [a] X.env= [(false,eval a X.env)]:=by rfl):Ab X tg (.Call (.Name "reversed" p) [a] [] pos) (y9 fs):=by
 intro pins s σ H R I ⟨Z,O,E,h⟩
 have h1:=e9 E h;refine Call_ (ij I hg hm oE (Kg (bR (ha pos pins s σ H _ I h1) λus s1 ⟨vs,H1,I1,r1,ts,rs,s',E',q1⟩=> ?_) hs rfl))
 split at q1
 ·rename_i l
  obtain⟨v,rfl,r⟩:=rs.one;obtain⟨b,ws,rfl,n,q,z⟩:=Rep.Do.mp r;obtain⟨u,rfl,ru⟩:=kU r1;cases ru;obtain⟨its,rv,pl,hz⟩:=I1.list (SqL.of q);refine call_reversed_list pl.isList ?_
  have hl1:its.length=ws.length:=rv.length.symm
  have hl2:l.length=ws.length:=z.length
  have hit:(s1.heap.push (revObj b ((its.toArray.size:Int) - 1))).IsRevIter s1.heap.objs.size b ((ws.length:Int) - 1 - ((0:Nat):Int)):=by
   refine⟨_,Jq _ rfl,rfl,?_⟩
   show Pf #[.ref b,rawInt ((its.toArray.size:Int) - 1)] =_
   rw[Jn,hl1];simp
  refine NP (s:={ s1 with heap:=s1.heap.push (revObj b ((its.toArray.size:Int) - 1)) }) hit ?_
  refine⟨s1.heap.objs.size,[s1.heap.objs.size],_,_,H1,rfl,I1.kept (t':=s1.toks) λb o e=>Jf _ e,xA b _ ws.length,⟨KS _,hit⟩,λc hb=> ?_,?_⟩
  ·have e:c=s1.heap.objs.size:=by simpa using hb
   subst e;exact I1.Il (Ji _) (I1.hok.fresh (Ji _))
  ·refine q1 H1 (Same.refl H1) _ λP O' hP hO i Hc hs ht=> ?_
   have hnP:¬ P b:=λw=>(hP b w).elim n λw=>by rw[w.1]at q;cases q
   have hc:=hs _ _ q hnP;refine⟨λhi=> ?_,λt ht'=> ?_⟩
   ·rw[List.length_reverse,hl2]at hi
    exact hi
   ·have hi:i<l.length:=by have:=(Jh.mp ht').1;simpa using this
    rw[List.getElem?_reverse hi,show l.length - 1 - i=ws.length - 1 - i by omega]at ht'
    obtain⟨v,e1,e2⟩:=z.get ht';refine⟨⟨by omega,ws,SqL.of hc,rfl⟩,λx Hc' y=> ?_⟩
    obtain⟨e,y⟩:=y;subst e
    have:=y ws (SqL.of hc);rw[e1]at this;cases this;exact⟨Same.refl _,e2.move hP hO hs⟩
 ·exact q1.elim
theorem Am {tg:Expr}(hm:X.mg "reversed" =none)(ha:QA X [a] fs)(hn:bx a=true:=by rfl)(hg:Gl X "reversed":=by rfl):QI X tg (.Call (.Name "reversed" p) [a] [] pos) (y9 fs):=⟨DN hm ha.h hg (bu hn)⟩
end
theorem eX {N P:List Str}{sc:L8}(h1:sc.kind= .function:=by rfl)(h2:sc.isCoroutine=false:=by rfl)(h3:sc.isGenerator=false:=by rfl)(h4:N.Nodup:=by decide+kernel)(h5:N.take P.length=P:=by rfl)
  (h6:∀x∈P,sc.names.lookup x=some .local\/sc.names.lookup x=some .cell:=by decide+kernel) (h7:∀y∈sc.names,y.2≠ .free:=by decide+kernel):aw N P sc:=⟨h1,h2,h3,h4,h5,h6,h7⟩
end Tr
namespace G
open PySem PySem.Spec PyProof.Rows L2 Tr
structure Bl (mg:Str->Option IW):Prop where
 b_all:mg "all" =none
 b_bool:mg "bool" =none
 b_dict:mg "dict" =none
 b_enumerate:mg "enumerate" =none
 b_int:mg "int" =none
 b_isinstance:mg "isinstance" =none
 b_len:mg "len" =none
 b_range:mg "range" =none
 b_reversed:mg "reversed" =none
 b_tuple:mg "tuple" =none
structure Cs (mg:Str->Option IW):Prop where
 MOST_CLOCKS:∃t,mg "MOST_CLOCKS" =some (.int 4 t)
 MOST_LETTERS:∃t,mg "MOST_LETTERS" =some (.int 8 t)
 MOST_READINGS:∃t,mg "MOST_READINGS" =some (.int 4 t)
 LAST_READING:∃t,mg "LAST_READING" =some (.int 99 t)
 SLOWEST:∃t,mg "SLOWEST" =some (.int 9 t)
 LONGEST:∃t,mg "LONGEST" =some (.int 999 t)
structure de (K:IU)(mg:Str->Option IW):Prop where
 k:q0 K mg "Sketch"
 a_past:NoAttr K (bP K "Sketch") "past"
 a_ahead:NoAttr K (bP K "Sketch") "ahead"
structure gC (K:IU)(mg:Str->Option IW):Prop where
 k:q0 K mg "Desk"
 a_kept:NoAttr K (bP K "Desk") "kept"
theorem qS:JT "bool" =some (.type "bool"):=by decide+kernel
theorem lq:JT "int" =some (.type "int"):=by decide+kernel
theorem d9:JT "tuple" =some (.type "tuple"):=by decide+kernel
structure Xs (K:IU)(mg:Str->Option IW)(C_NoRecord C_NoNumber C_NoWorld C_Barred C_ClockError:Addr):Prop where
 m_NoRecord:mg "NoRecord" =some (.ref C_NoRecord)
 m_NoNumber:mg "NoNumber" =some (.ref C_NoNumber)
 m_NoWorld:mg "NoWorld" =some (.ref C_NoWorld)
 m_Barred:mg "Barred" =some (.ref C_Barred)
 m_ClockError:mg "ClockError" =some (.ref C_ClockError)
 o_NoRecord:OX K C_NoRecord (.ref C_ClockError::tj)
 o_NoNumber:OX K C_NoNumber (.ref C_ClockError::tj)
 o_NoWorld:OX K C_NoWorld (.ref C_ClockError::tj)
 o_Barred:OX K C_Barred (.ref C_ClockError::tj)
 o_ClockError:OX K C_ClockError tj
 d:[C_NoRecord,C_NoNumber,C_NoWorld,C_Barred,C_ClockError].Nodup
end G
namespace G
open PySem Tr
def pz:En->Rs Fl:=
 (aI (bZ (o1 (BE "tuple") (vr 0)) (ch GN GN (vr 1) (cl cv (ae (vr 0) aj)) (vr 2))))
def aL:List T->Rs T:=val 3 3 pz
def uI:En->Rs Fl:=
 (aI (bZ (o1 (BE "int") (vr 0)) (o1 Bs (o1 (BE "bool") (vr 0)))))
def gx:List T->Rs T:=val 1 1 uI
def iz:En->Rs Fl:=
 (aI (bZ (cl gx (ae (vr 0) aj)) (ch GN GN (vr 1) (vr 0) (vr 2))))
def aP:List T->Rs T:=val 3 3 iz
def kS:En->Rs Fl:=
 (aI (bZ (cl aP (ae (vr 0) (ae (cn (.int 1)) (ae (cn (.int 9)) aj)))) (cl aP (ae (vr 1) (ae (vr 0) (ae (cn (.int 9)) aj))))))
def eV:List T->Rs T:=val 2 2 kS
def vV:En->Rs Fl:=
 (aI (cl oF (ae (iO (iR (ae (o2 fF (cl cv (ae (vr 0) aj)) (cn (.int 1))) aj)) [none,some 0] (gN 0) bT (o2 Fv (o2 aY (vr 1) (vr 0)) (o2 aY (vr 1) (o2 aU (vr 0) (cn (.int 1)))))) aj)))
def iN:List T->Rs T:=val 1 1 vV
def dP:En->Rs Fl:=
 (aA (eO (cK (tb (cl aL (ae (vr 0) (ae (cn (.int 1)) (ae (cn (.int 4)) aj)))))) (aI (cn (.bl false))) sN) (aI (bZ (cl oF (ae (iO (iS (vr 0)) [none] (gN 0) bT (cl aP (ae (vr 0) (ae (cn (.int 0)) (ae (cn (.int 99)) aj))))) aj)) (cl iN (ae (vr 0) aj)))))
def bL:List T->Rs T:=val 1 1 dP
def gG:En->Rs Fl:=
 (aI (bZ (cl aL (ae (vr 0) (ae (cn (.int 3)) (ae (cn (.int 3)) aj)))) (bZ (cl eV (ae (o2 aY (vr 0) (cn (.int 0))) (ae (o2 aY (vr 0) (cn (.int 1))) aj))) (cl bL (ae (o2 aY (vr 0) (cn (.int 2))) aj)))))
def cR:List T->Rs T:=val 1 1 gG
def gH:En->Rs Fl:=
 (aI (bZ (cl aL (ae (vr 0) (ae (cn (.int 1)) (ae (cn (.int 4)) aj)))) (cl oF (ae (iO (iS (vr 0)) [none] (gN 0) bT (cl cR (ae (vr 0) aj))) aj))))
def c6:List T->Rs T:=val 1 1 gH
def gE:En->Rs Fl:=
 (aA (eO (mG (cK (tb (cl aL (ae (vr 1) (ae (cn (.int 2)) (ae (cn (.int 2)) aj)))))) (cK (tb (cl aP (ae (o2 aY (vr 1) (cn (.int 0))) (ae (cn (.int 0)) (ae (o2 fF (cl cv (ae (vr 0) aj)) (cn (.int 1))) aj))))))) (aI (cn (.bl false))) sN) (aI (cl aP (ae (o2 aY (vr 1) (cn (.int 1))) (ae (cn (.int 0)) (ae (o2 fF (cl cv (ae (o2 aY (o2 aY (vr 0) (o2 aY (vr 1) (cn (.int 0)))) (cn (.int 2))) aj)) (cn (.int 1))) aj))))))
def cQ:List T->Rs T:=val 2 2 gE
def gF:En->Rs Fl:=
 (aI (bZ (cl aP (ae (vr 0) (ae (cn (.int 0)) (ae (cn (.int 999)) aj)))) (z5 (o2 i6 (vr 1) (cn .non)) (cl aP (ae (vr 1) (ae (vr 0) (ae (cn (.int 999)) aj)))))))
def dt:List T->Rs T:=val 2 2 gF
def dD:En->Rs Fl:=
 (aA (eO (mG (cK (tb (cl aL (ae (vr 1) (ae (cn (.int 4)) (ae (cn (.int 4)) aj)))))) (cK (tb (cl dt (ae (o2 aY (vr 1) (cn (.int 2))) (ae (o2 aY (vr 1) (cn (.int 3))) aj)))))) (aI (cn (.bl false))) sN) (aI (bZ (cl cQ (ae (vr 0) (ae (o2 aY (vr 1) (cn (.int 0))) aj))) (bZ (cl cQ (ae (vr 0) (ae (o2 aY (vr 1) (cn (.int 1))) aj))) (o2 lR (o2 aY (vr 1) (cn (.int 0))) (o2 aY (vr 1) (cn (.int 1))))))))
def bO:List T->Rs T:=val 2 2 dD
def fY:En->Rs Fl:=
 (aI (bZ (cl aL (ae (vr 1) (ae (cn (.int 0)) (ae (cn (.int 8)) aj)))) (cl oF (ae (iO (iS (vr 1)) [none,some 0] (gN 0) bT (cl bO (ae (vr 1) (ae (vr 0) aj)))) aj))))
def cI:List T->Rs T:=val 2 2 fY
def fP:En->Rs Fl:=
 (aI (bZ (cl aL (ae (vr 0) (ae (cn (.int 2)) (ae (cn (.int 2)) aj)))) (bZ (cl c6 (ae (o2 aY (vr 0) (cn (.int 0))) aj)) (cl cI (ae (o2 aY (vr 0) (cn (.int 0))) (ae (o2 aY (vr 0) (cn (.int 1))) aj))))))
def cP:List T->Rs T:=val 1 1 fP
def dk:En->Rs Fl:=
 (eO (cK (tb (cl cP (ae (vr 0) aj)))) (tO "NoRecord") sN)
def aN:List T->Rs T:=val 1 1 dk
def dQ:En->Rs Fx:=
 (jx (wB (xP (cl aN (ae (vr 1) aj)))) (jx (qA 0 "Sketch" "past" (ae (bA (ae (cn .non) (ae (vr 1) aj))) aj)) (qA 0 "Sketch" "ahead" aj)))
def cN:List Sl->Rs (T×OT):=fR 2 0 2 dQ
def nS:En->Rs Fl:=
 (aA (v9 (cl aN (ae (vr 0) aj))) (aA (je 1 aj) (aA (gU (iE (ae (o2 aY (vr 0) (cn (.int 0))) aj)) (gT 2 (sC (gN 2) (sC (gN 3) z7))) (my 1 (iO (iR (ae (cl cv (ae (o2 aY (vr 3) (cn (.int 2))) aj)) aj)) [none,some 2] (gN 0) bT (bA (ae (vr 1) (ae (vr 0) aj)))))) (pU 1 (aI (vr 1))))))
def ft:List T->Rs T:=val 1 4 nS
def iA:En->Rs Fl:=
 (aA (cJ (oD gR (vr 0) (o2 aY (vr 1) (cn (.int 1)))) (gN 3)) (aI (z5 (o2 i6 (vr 3) (cn .non)) (o2 Fv (o2 aU (o2 aY (vr 2) (cn (.int 0))) (o2 aY (vr 1) (cn (.int 2)))) (o2 aY (vr 3) (cn (.int 0)))))))
def cS:List T->Rs T:=val 3 4 iA
def iy:En->Rs Fl:=
 (aA (oP 2 (iO (iS (vr 1)) [none] (gN 0) bT (bA (ae (vr 0) (ae (bA (ae (cn (.int 0)) (ae (gW aj) aj))) aj))))) (aA (cJ (cn (.bl true)) (gN 3)) (aA (bK (tb (vr 3)) (aA (cJ (cn (.bl false)) (gN 3)) (gU (iE (ae (vr 0) aj)) (gT 2 (sC (gN 4) (sC (gN 5) z7))) (aA (cJ (ln 2 (oD gR (vr 2) (o2 aY (vr 5) (cn (.int 0))))) (gN 6)) (aA (eO (mG (tb (o2 i6 (vr 6) (cn .non))) (cK (EC 2 (tb (cl cS (ae (vr 2) (ae (vr 5) (ae (vr 6) aj)))))))) Cv sN) (aA (cJ (o2 aU (o2 aY (vr 6) (cn (.int 1))) (gW (ae (vr 4) aj))) (gN 7)) (aA (cJ (iO (iS (vr 7)) [none,some 0] (gN 0) bT (o2 aY (o2 aY (vr 1) (vr 0)) (cn (.int 0)))) (gN 8)) (aA (eO (tb (o2 Fy (o2 aY (vr 5) (cn (.int 1))) (vr 8))) (aI (bA (ae (cn .non) (ae (sl (vr 7) (pS (oL fM (vr 8) (o2 aY (vr 5) (cn (.int 1))))) pN) aj)))) sN) (aA (v8 2 (o2 aY (vr 5) (cn (.int 1))) (bA (ae (o2 aU (o2 aY (vr 6) (cn (.int 0))) (o2 aY (vr 5) (cn (.int 2)))) (ae (vr 7) aj)))) (cJ (cn (.bl true)) (gN 3)))))))))) FU) (pU 2 (aI (bA (ae (vr 2) (ae (cn .non) aj))))))))
def eg:List T->Rs T:=val 2 9 iy
def d6:En->Rs Fl:=
 (aA (cJ (cl ft (ae (vr 0) aj)) (gN 2)) (aA (cJ (o2 aY (cl eg (ae (vr 1) (ae (vr 2) aj))) (cn (.int 0))) (gN 3)) (aA (eO (tb (o2 i6 (vr 3) (cn .non))) (aI (cn .non)) sN) (aI (cl jl (ae (iO (iS (vr 2)) [none,some 3] (gN 0) bT (o2 aY (o2 sS (vr 1) (vr 0)) (cn (.int 0)))) aj))))))
def cZ:List T->Rs T:=val 2 4 d6
def dO:En->Rs Fl:=
 (aA (cJ (o2 aY (vr 1) (cn (.int 2))) (gN 2)) (aA (je 3 aj) (aA (gU (iR (ae (o2 fF (cl cv (ae (vr 2) aj)) (cn (.int 1))) aj)) (gN 4) (aA (cJ (bA (ae (vr 0) (ae (vr 4) aj))) (gN 5)) (aA (cJ (bA (ae (vr 0) (ae (o2 aU (vr 4) (cn (.int 1))) aj))) (gN 6)) (aA (cJ (o2 fF (o2 aY (vr 2) (o2 aU (vr 4) (cn (.int 1)))) (o2 aY (vr 2) (vr 4))) (gN 7)) (aA (n6 3 (bA (ae (vr 5) (ae (vr 6) (ae (o2 bY (vr 7) (o2 aY (vr 1) (cn (.int 1)))) aj))))) (n6 3 (bA (ae (vr 6) (ae (vr 5) (ae (o2 bY (o1 kI (vr 7)) (o2 aY (vr 1) (cn (.int 0)))) aj)))))))))) (pU 3 (aI (vr 3))))))
def b8:List T->Rs T:=val 2 8 dO
def dv:En->Rs Fl:=
 (aA (je 1 (ae (bA (ae (o2 aY (vr 0) (cn (.int 1))) (ae (o2 aY (vr 0) (cn (.int 0))) (ae (o1 kI (o2 aY (vr 0) (cn (.int 2)))) aj)))) aj)) (aA (eO (tb (o2 k8 (o2 aY (vr 0) (cn (.int 3))) (cn .non))) (n6 1 (bA (ae (o2 aY (vr 0) (cn (.int 0))) (ae (o2 aY (vr 0) (cn (.int 1))) (ae (o2 aY (vr 0) (cn (.int 3))) aj))))) sN) (pU 1 (aI (vr 1)))))
def bU:List T->Rs T:=val 1 2 dv
def nT:En->Rs Fl:=
 (aA (v9 (cl aN (ae (vr 0) aj))) (aA (je 1 aj) (aA (gU (iE (ae (o2 aY (vr 0) (cn (.int 0))) aj)) (gT 2 (sC (gN 2) (sC (gN 3) z7))) (my 1 (cl b8 (ae (vr 2) (ae (vr 3) aj))))) (aA (gU (iS (o2 aY (vr 0) (cn (.int 1)))) (gN 4) (my 1 (cl bU (ae (vr 4) aj)))) (pU 1 (aI (vr 1)))))))
def fw:List T->Rs T:=val 1 5 nT
def Cp:En->Rs Fl:=
 (aI (cl cZ (ae (vr 0) (ae (cl fw (ae (vr 0) aj)) aj))))
def iM:List T->Rs T:=val 1 1 Cp
def tf:En->Rs Fl:=
 (aI (o2 k8 (cl iM (ae (vr 0) aj)) (cn .non)))
def aH:List T->Rs T:=val 1 1 tf
def gD:En->Rs Fl:=
 (eO (cK (tb (cl aH (ae (vr 0) aj)))) (tO "NoWorld") sN)
def dJ:List T->Rs T:=val 1 1 gD
def eK:En->Rs Fx:=
 (jx (wB (xP (cl dJ (ae (vr 1) aj)))) (qA 0 "Desk" "kept" (ae (vr 1) aj)))
def dn:List Sl->Rs (T×OT):=fR 2 0 2 eK
def iB:En->Rs Fl:=
 (aA (eO (tb (o2 lX (vr 0) (gW aj))) (aI (o2 bY (cn (.int 7)) (vr 1))) sN) (aI (o2 aU (o2 aY (vr 0) (o2 j7 (vr 1) (cl cv (ae (vr 0) aj)))) (o2 bY (cn (.int 6553)) (o2 j9 (vr 1) (cl cv (ae (vr 0) aj)))))))
def eh:List T->Rs T:=val 2 2 iB
def gI:En->Rs Fl:=
 (aA (cJ (o2 j7 (o2 aU (o2 bY (o2 j7 (cl eh (ae (vr 0) (ae (vr 1) aj))) (cn (.int 2147483563))) (cn (.int 69069))) (o2 bY (cn (.int 104723)) (o2 aU (vr 1) (cn (.int 1))))) (cn (.int 2147483563))) (gN 3)) (aA (cJ (o2 j7 (o2 aU (o2 bY (vr 3) (vr 3)) (o2 j9 (vr 3) (cn (.int 3)))) (cn (.int 2147483399))) (gN 3)) (aI (o2 j7 (o2 j9 (o2 j7 (o2 aU (o2 bY (vr 3) (vr 3)) (o2 j9 (vr 3) (cn (.int 7)))) (cn (.int 2147483647))) (cn (.int 11))) (vr 2)))))
def az:List T->Rs T:=val 3 4 gI
def jj:En->Rs Fl:=
 (aA (cJ (gW aj) (gN 1)) (aA (gU (iE (ae (vr 0) aj)) (gT 2 (sC (gN 2) (sC (gN 3) z7))) (cJ (o2 aU (vr 1) (iO (iR (ae (cl cv (ae (o2 aY (vr 3) (cn (.int 2))) aj)) aj)) [none,some 2] (gN 0) bT (bA (ae (vr 1) (ae (vr 0) aj))))) (gN 1))) (aI (vr 1))))
def di:List T->Rs T:=val 1 4 jj
def dm:En->Rs Fl:=
 (aA (cJ (cl di (ae (vr 2) aj)) (gN 3)) (aA (eO (tb (o2 Fv (cl cv (ae (vr 3) aj)) (cn (.int 2)))) (aI (cn .non)) sN) (aA (cJ (cl az (ae (vr 0) (ae (vr 1) (ae (cl cv (ae (vr 3) aj)) aj)))) (gN 4)) (aA (cJ (o2 j7 (o2 aU (o2 aU (vr 4) (cn (.int 1))) (cl az (ae (vr 0) (ae (o2 aU (vr 1) (cn (.int 1))) (ae (o2 fF (cl cv (ae (vr 3) aj)) (cn (.int 1))) aj))))) (cl cv (ae (vr 3) aj))) (gN 5)) (aA (cJ (cl az (ae (vr 0) (ae (o2 aU (vr 1) (cn (.int 2))) (ae (cn (.int 8)) aj)))) (gN 6)) (aA (cJ (CK (tb (o2 lX (cl az (ae (vr 0) (ae (o2 aU (vr 1) (cn (.int 3))) (ae (cn (.int 3)) aj)))) (cn (.int 0)))) (cn .non) (o2 aU (vr 6) (cl az (ae (vr 0) (ae (o2 aU (vr 1) (cn (.int 4))) (ae (cn (.int 9)) aj)))))) (gN 7)) (aI (bA (ae (o2 aY (vr 3) (vr 4)) (ae (o2 aY (vr 3) (vr 5)) (ae (vr 6) (ae (vr 7) aj))))))))))))
def bq:List T->Rs T:=val 3 8 dm
def gJ:En->Rs Fl:=
 (aA (cJ (o2 aU (cn (.int 1)) (cl az (ae (vr 0) (ae (vr 1) (ae (cn (.int 3)) aj))))) (gN 2)) (aA (cJ (bA (ae (cl az (ae (vr 0) (ae (o2 aU (vr 1) (cn (.int 2))) (ae (cn (.int 6)) aj)))) aj)) (gN 3)) (aA (gU (iR (ae (cl az (ae (vr 0) (ae (o2 aU (vr 1) (cn (.int 1))) (ae (cn (.int 3)) aj)))) aj)) (gN 4) (cJ (o2 aU (vr 3) (bA (ae (o2 aU (o2 aU (o2 aY (vr 3) (o1 kI (cn (.int 1)))) (cn (.int 1))) (cl az (ae (vr 0) (ae (o2 aU (o2 aU (vr 1) (cn (.int 3))) (vr 4)) (ae (cn (.int 5)) aj))))) aj))) (gN 3))) (aI (bA (ae (vr 2) (ae (o2 aU (vr 2) (cl az (ae (vr 0) (ae (o2 aU (vr 1) (cn (.int 6))) (ae (cn (.int 3)) aj))))) (ae (vr 3) aj))))))))
def b9:List T->Rs T:=val 2 5 gJ
def fZ:En->Rs Fl:=
 (aA (cJ (cl jl (ae (iO (iR (ae (o2 aU (cn (.int 1)) (cl az (ae (vr 0) (ae (vr 1) (ae (cn (.int 3)) aj))))) aj)) [none,some 0,some 1] (gN 0) bT (cl b9 (ae (vr 1) (ae (o2 aU (o2 aU (vr 2) (cn (.int 1))) (o2 bY (cn (.int 8)) (vr 0))) aj)))) aj)) (gN 3)) (aA (cJ (gW aj) (gN 4)) (aA (gU (iR (ae (cl az (ae (vr 0) (ae (o2 aU (vr 1) (cn (.int 30))) (ae (o2 aU (vr 2) (cn (.int 1))) aj)))) aj)) (gN 5) (aA (cJ (cl bq (ae (vr 0) (ae (o2 aU (o2 aU (vr 1) (cn (.int 31))) (o2 bY (cn (.int 6)) (vr 5))) (ae (vr 3) aj)))) (gN 6)) (cJ (o2 aU (vr 4) (o2 bY (gW (ae (vr 6) aj)) (cl y6 (ae (o2 k8 (vr 6) (cn .non)) aj)))) (gN 4)))) (aI (bA (ae (vr 3) (ae (cl jl (ae (vr 4) aj)) aj)))))))
def d8:List T->Rs T:=val 3 7 fZ
def fD:En->Rs Fx:=
 (jx (wB (tw 0 "Sketch" "past" (bA (ae (vr 1) (ae (vr 2) aj))))) (jx (qA 0 "Sketch" "ahead" aj) (m5 (xP (cl aH (ae (vr 2) aj))))))
def bV:List Sl->Rs (T×OT):=fR 3 0 3 fD
def eF:En->Rs Fl:=
 (aA (v9 (cl aN (ae (vr 0) aj))) (aI (vr 0)))
def dz:List T->Rs T:=val 1 1 eF
def fW:En->Rs Fl:=
 (aA (v9 (cl aN (ae (vr 0) aj))) (aI (cl dz (ae (bA (ae (o2 aY (vr 0) (cn (.int 0))) (ae (o2 aU (o2 aY (vr 0) (cn (.int 1))) (bA (ae (vr 1) aj))) aj))) aj))))
def bf:List T->Rs T:=val 2 2 fW
def lK:En->Rs Fl:=
 (aI (o2 aY (o2 aY (o1 (nA "Sketch" "past") (vr 0)) (o1 kI (cn (.int 1)))) (cn (.int 1))))
def aC:List T->Rs T:=val 1 1 lK
def nU:En->Rs Fx:=
 (m5 (ee 0 "Sketch" "go_on" bV (ae (cn (.str "write")) (ae (cl bf (ae (ln 0 (iJ "Sketch" "record" aC (vr 0) aj)) (ae (vr 1) aj))) aj))))
def cT:List Sl->Rs (T×OT):=fR 2 0 2 nU
def fX:En->Rs Fl:=
 (eO (cK (tb (cl aP (ae (vr 1) (ae (cn (.int 0)) (ae (o2 fF (vr 0) (cn (.int 1))) aj)))))) (tO "NoNumber") sN)
def d7:List T->Rs T:=val 2 2 fX
def dZ:En->Rs Fl:=
 (aA (v9 (cl aN (ae (vr 0) aj))) (aA (cJ (o2 aY (vr 0) (cn (.int 1))) (gN 2)) (aA (v9 (cl d7 (ae (cl cv (ae (vr 2) aj)) (ae (vr 1) aj)))) (aI (bA (ae (o2 aY (vr 0) (cn (.int 0))) (ae (o2 aU (sl (vr 2) pN (pS (vr 1))) (sl (vr 2) (pS (o2 aU (vr 1) (cn (.int 1)))) pN)) aj)))))))
def bD:List T->Rs T:=val 2 3 dZ
def qZ:En->Rs Fx:=
 (m5 (ee 0 "Sketch" "go_on" bV (ae (cn (.str "cut")) (ae (cl bD (ae (ln 0 (iJ "Sketch" "record" aC (vr 0) aj)) (ae (vr 1) aj))) aj))))
def c8:List Sl->Rs (T×OT):=fR 2 0 2 qZ
def f7:En->Rs Fl:=
 (aA (gU (y9 (ae (o1 (nA "Sketch" "past") (vr 0)) aj)) (gN 1) (eO (tb (cl aH (ae (o2 aY (vr 1) (cn (.int 1))) aj))) (aI (o2 aY (vr 1) (cn (.int 1)))) sN)) (aI (cn .non)))
def bh:List T->Rs T:=val 1 2 f7
def lL:En->Rs Fl:=
 (aI (bA (ae (o2 fF (cl cv (ae (o1 (nA "Sketch" "past") (vr 0)) aj)) (cn (.int 1))) (ae (cl cv (ae (o1 (nA "Sketch" "ahead") (vr 0)) aj)) aj))))
def b7:List T->Rs T:=val 1 1 lL
def xf:En->Rs Fl:=
 (aI (o2 aY (cl eg (ae (cl fw (ae (vr 0) aj)) (ae (cl ft (ae (vr 0) aj)) aj))) (cn (.int 1))))
def dY:List T->Rs T:=val 1 1 xf
def eI:En->Rs Fx:=
 (jx (Fu (cK (tb (cl aH (ae (vr 1) aj)))) (EB "Barred") mN) (wB (tw 0 "Desk" "kept" (vr 1))))
def et:List Sl->Rs (T×OT):=fR 2 0 2 eI
def oG:En->Rs Fl:=
 (aI (o2 aY (o1 (nA "Desk" "kept") (vr 0)) (o1 kI (cn (.int 1)))))
def bH:List T->Rs T:=val 1 1 oG
def eG:En->Rs Fx:=
 (jx (wB (ee 0 "Desk" "keep" et (ae (cl bf (ae (ln 0 (iJ "Desk" "record" bH (vr 0) aj)) (ae (vr 1) aj))) aj))) (m5 (xP (o2 fF (cl cv (ae (o2 aY (ln 0 (iJ "Desk" "record" bH (vr 0) aj)) (cn (.int 1))) aj)) (cn (.int 1))))))
def ej:List Sl->Rs (T×OT):=fR 2 0 2 eG
def qY:En->Rs Fx:=
 (si (jx (wB (ee 0 "Desk" "take" ej (ae (vr 1) aj))) (m5 (xP (cn (.bl true))))) (zc "Barred" (.bl false)))
def c7:List Sl->Rs (T×OT):=fR 2 0 2 qY
def zY:En->Rs Fl:=
 (aA (cJ (cl d8 (ae (vr 0) (ae (cn (.int 0)) (ae (cn (.int 1)) aj)))) (gN 1)) (aA (eO (cK (tb (cl aH (ae (vr 1) aj)))) (cJ (bA (ae (o2 aY (vr 1) (cn (.int 0))) (ae (bA aj) aj))) (gN 1)) sN) (aA (mx 2 "Sketch" cN (ae (vr 1) aj)) (aA (mx 3 "Desk" dn (ae (vr 1) aj)) (aA (cJ (vr 1) (gN 4)) (aA (cJ (cn (.bl true)) (gN 5)) (aA (gU (iR (ae (o2 aU (cn (.int 1)) (cl az (ae (vr 0) (ae (cn (.int 70)) (ae (cn (.int 7)) aj))))) aj)) (gN 6) (aA (cJ (cl bq (ae (vr 0) (ae (o2 aU (cn (.int 80)) (o2 bY (cn (.int 8)) (vr 6))) (ae (o2 aY (vr 1) (cn (.int 0))) aj)))) (gN 7)) (aA (eO (tb (o2 i6 (vr 7) (cn .non))) (aI (o2 lX (ln 2 (iJ "Sketch" "good" bh (vr 2) aj)) (vr 1))) sN) (aA (tQ 8 (ee 2 "Sketch" "write" cT (ae (vr 7) aj))) (aA (cJ (ln 2 (iJ "Sketch" "record" aC (vr 2) aj)) (gN 9)) (aA (eO (mG (tb (o2 lR (vr 8) (cl aH (ae (vr 9) aj)))) (tb (o2 lR (vr 8) (o2 i6 (cl dY (ae (vr 9) aj)) (cn .non))))) (aI (cn (.bl false))) sN) (aA (eO (tb (o2 lR (o2 aY (o2 aY (vr 9) (cn (.int 1))) (o1 kI (cn (.int 1)))) (vr 7))) (aI (cn (.bl false))) sN) (aA (eO (sY (cK (tb (vr 5))) (tb (vr 8))) (aI (cn (.bl false))) sN) (aA (cJ (CK (tb (vr 8)) (vr 9) (vr 4)) (gN 4)) (aA (eO (mG (tb (o2 lR (ln 2 (iJ "Sketch" "good" bh (vr 2) aj)) (vr 4))) (cK (tb (cl aH (ae (ln 2 (iJ "Sketch" "good" bh (vr 2) aj)) aj))))) (aI (cn (.bl false))) sN) (aA (eO (tb (vr 5)) (tN (tp (Df (Aq lR (tq 3 c7 (ae (vr 7) aj)) (vr 8))) (De (tb (o2 lR (o2 lX (ln 3 (iJ "Desk" "record" bH (vr 3) aj)) (vr 9)) (vr 8))))) (aI (cn (.bl false))) sN) sN) (cJ (vr 8) (gN 5))))))))))))) (aA (cJ (o2 fF (cl cv (ae (o2 aY (ln 2 (iJ "Sketch" "record" aC (vr 2) aj)) (cn (.int 1))) aj)) (cl cv (ae (o2 aY (vr 1) (cn (.int 1))) aj))) (gN 10)) (aA (gU (iR (ae (vr 10) aj)) (gN 11) (rJ (ee 2 "Sketch" "cut" c8 (ae (o2 fF (cl cv (ae (o2 aY (ln 2 (iJ "Sketch" "record" aC (vr 2) aj)) (cn (.int 1))) aj)) (cn (.int 1))) aj)))) (aI (bZ (o2 lX (ln 2 (iJ "Sketch" "record" aC (vr 2) aj)) (vr 1)) (bZ (o2 lX (ln 2 (iJ "Sketch" "good" bh (vr 2) aj)) (vr 1)) (o2 lX (ln 2 (iJ "Sketch" "counts" b7 (vr 2) aj)) (bA (ae (o2 bY (cn (.int 2)) (vr 10)) (ae (cn (.int 0)) aj))))))))))))))))
def m_law:List T->Rs T:=val 1 12 zY
end G
namespace G
open PySem PySem.Spec PyProof.Rows L2 Tr
section
variable (P:JB)(w:JY){K:IU}{mg:Str->Option IW}(base:Heap)
abbrev mi:Stmt:=top 16
abbrev ub:List Str:=["thing","least","most"]
theorem tL:aw ub ["thing","least","most"] (ai mi):=eX
theorem tY (F:gS K mg "is_long" mi ["thing","least","most"])(B:Bl mg):Cl P w K mg base 1 "is_long" 3 aL:=
 bM F tL rfl λf c A o s H E hr x=>(ar (aB (dg (xo B.b_isinstance B.b_tuple d9 (af 0)) (dG (rh u6 u6 (af 1) (cM cu B.b_len KB (ah (af 0) ag)) (af 2))))))
abbrev kW:Stmt:=top 14
abbrev r6:List Str:=["thing"]
theorem rE:aw r6 ["thing"] (ai kW):=eX
theorem rQ (F:gS K mg "is_whole" kW ["thing"])(B:Bl mg):Cl P w K mg base 1 "is_whole" 1 gx:=
 bM F rE rfl λf c A o s H E hr x=>(ar (aB (dg (xo B.b_isinstance B.b_int lq (af 0)) (dG (C5 (xo B.b_isinstance B.b_bool qS (af 0)))))))
abbrev jM:Stmt:=top 15
abbrev ql:List Str:=["thing","least","most"]
theorem pK:aw ql ["thing","least","most"] (ai jM):=eX
theorem p9 (F:gS K mg "is_within" jM ["thing","least","most"])(aaG:Cl P w K mg base 1 "is_whole" 1 gx):Cl P w K mg base 2 "is_within" 3 aP:=
 bM F pK rfl λf c A o s H E hr x=>(ar (aB (dg (aW aaG hr (ah (af 0) ag)) (dG (rh u6 u6 (af 1) (af 0) (af 2))))))
abbrev mh:Stmt:=top 19
abbrev ua:List Str:=["slow","fast"]
theorem tK:aw ua ["slow","fast"] (ai mh):=eX
theorem tW (F:gS K mg "is_pace" mh ["slow","fast"])(aa2:Cl P w K mg base 2 "is_within" 3 aP)(C:Cs mg):Cl P w K mg base 3 "is_pace" 2 eV:=
 bM F tK rfl λf c A o s H E hr x=>(ar (aB (dg (aW aa2 hr (ah (af 0) (ah ak (ah (rg C.SLOWEST) ag)))) (dG (aW aa2 hr (ah (af 1) (ah (af 0) (ah (rg C.SLOWEST) ag))))))))
abbrev mf:Stmt:=top 17
abbrev rZ:List Str:=["numbers"]
theorem xJ:aw rZ ["numbers"] (ai mf):=eX
theorem yn (F:gS K mg "rises" mf ["numbers"])(B:Bl mg):Cl P w K mg base 1 "rises" 1 iN:=
 bM F xJ rfl λf c A o s H E hr x=>(ar (aB (cM (qP rfl) B.b_all boot_all (ah (jI (N':=["k","numbers"]) (src:=[none,some 0]) rfl (LcScope.by (N:=rZ) (names:=(ai mf).names) rfl rfl rfl (by decide+kernel)) (cz B.b_range (ah (ax fq (cM cu B.b_len KB (ah (af 0) ag)) ak) ag)) (λ_ _ _ _ _=>⟨(aq 0 (show KC (["k","numbers"]:List Str)by decide+kernel)),dh,(dW yi (aG (af 1) (af 0)) (aG (af 1) (ax aO (af 0) ak)))⟩)) ag))))
abbrev eJ:Stmt:=top 18
abbrev gO:List Str:=["thing"]
theorem lr:aw gO ["thing"] (ai eJ):=eX
theorem lz (F:gS K mg "are_readings" eJ ["thing"])(aa3:Cl P w K mg base 1 "is_long" 3 aL)(aaM:Cl P w K mg base 1 "rises" 1 iN)(aa2:Cl P w K mg base 2 "is_within" 3 aP)(B:Bl mg)(C:Cs mg):Cl P w K mg base 3 "are_readings" 1 bL:=
 bM F lr rfl λf c A o s H E hr x=>(ao (cp (cW (bW (aW aa3 hr (ah (af 0) (ah ak (ah (rg C.MOST_READINGS) ag)))))) (ar (aB fH)) bF) (ar (aB (dg (cM (qP rfl) B.b_all boot_all (ah (jI (N':=["part"]) (src:=[none]) rfl (LcScope.by (N:=gO) (names:=(ai eJ).names) rfl rfl rfl (by decide+kernel)) (gq (af 0)) (λ_ _ _ _ _=>⟨(aq 0 (show KC (["part"]:List Str)by decide+kernel)),dh,(aW aa2 hr (ah (af 0) (ah ak (ah (rg C.LAST_READING) ag))))⟩)) ag)) (dG (aW aaM hr (ah (af 0) ag)))))))
abbrev kZ:Stmt:=top 20
abbrev sd:List Str:=["thing"]
theorem rH:aw sd ["thing"] (ai kZ):=eX
theorem rV (F:gS K mg "is_clock" kZ ["thing"])(aa3:Cl P w K mg base 1 "is_long" 3 aL)(aaJ:Cl P w K mg base 3 "is_pace" 2 eV)(aak:Cl P w K mg base 3 "are_readings" 1 bL):Cl P w K mg base 4 "is_clock" 1 cR:=
 bM F rH rfl λf c A o s H E hr x=>(ar (aB (dg (aW aa3 hr (ah (af 0) (ah ak (ah ak ag)))) (dg (aW aaJ hr (ah (aG (af 0) ak) (ah (aG (af 0) ak) ag))) (dG (aW aak hr (ah (aG (af 0) ak) ag)))))))
abbrev fS:Stmt:=top 21
abbrev jf:List Str:=["thing"]
theorem nY:aw jf ["thing"] (ai fS):=eX
theorem oa (F:gS K mg "are_clocks" fS ["thing"])(aa3:Cl P w K mg base 1 "is_long" 3 aL)(aaH:Cl P w K mg base 4 "is_clock" 1 cR)(B:Bl mg)(C:Cs mg):Cl P w K mg base 5 "are_clocks" 1 c6:=
 bM F nY rfl λf c A o s H E hr x=>(ar (aB (dg (aW aa3 hr (ah (af 0) (ah ak (ah (rg C.MOST_CLOCKS) ag)))) (dG (cM (qP rfl) B.b_all boot_all (ah (jI (N':=["part"]) (src:=[none]) rfl (LcScope.by (N:=jf) (names:=(ai fS).names) rfl rfl rfl (by decide+kernel)) (gq (af 0)) (λ_ _ _ _ _=>⟨(aq 0 (show KC (["part"]:List Str)by decide+kernel)),dh,(aW aaH hr (ah (af 0) ag))⟩)) ag))))))
abbrev kX:Stmt:=top 22
abbrev r8:List Str:=["clocks","thing"]
theorem rF:aw r8 ["clocks","thing"] (ai kX):=eX
theorem rR (F:gS K mg "is_event" kX ["clocks","thing"])(aa2:Cl P w K mg base 2 "is_within" 3 aP)(aa3:Cl P w K mg base 1 "is_long" 3 aL)(B:Bl mg):Cl P w K mg base 3 "is_event" 2 cQ:=
 bM F rF rfl λf c A o s H E hr x=>(ao (cp (oH (lZ (cW (bW (aW aa3 hr (ah (af 1) (ah ak (ah ak ag)))))) (jD (cW (bW (aW aa2 hr (ah (aG (af 1) ak) (ah ak (ah (ax fq (cM cu B.b_len KB (ah (af 0) ag)) ak) ag))))))))) (ar (aB fH)) bF) (ar (aB (aW aa2 hr (ah (aG (af 1) ak) (ah ak (ah (ax fq (cM cu B.b_len KB (ah (aG (aG (af 0) (aG (af 1) ak)) ak) ag)) ak) ag)))))))
abbrev kY:Stmt:=top 23
abbrev r9:List Str:=["least","most"]
theorem rG:aw r9 ["least","most"] (ai kY):=eX
theorem rS (F:gS K mg "is_delay" kY ["least","most"])(aa2:Cl P w K mg base 2 "is_within" 3 aP)(C:Cs mg):Cl P w K mg base 3 "is_delay" 2 dt:=
 bM F rG rfl λf c A o s H E hr x=>(ar (aB (dg (aW aa2 hr (ah (af 0) (ah ak (ah (rg C.LONGEST) ag)))) (dG (Cr (dW oS (af 1) df) (dG (aW aa2 hr (ah (af 1) (ah (af 0) (ah (rg C.LONGEST) ag))))))))))
abbrev jO:Stmt:=top 24
abbrev qo:List Str:=["clocks","thing"]
theorem pM:aw qo ["clocks","thing"] (ai jO):=eX
theorem qc (F:gS K mg "is_letter" jO ["clocks","thing"])(aav:Cl P w K mg base 3 "is_event" 2 cQ)(aa3:Cl P w K mg base 1 "is_long" 3 aL)(aaI:Cl P w K mg base 3 "is_delay" 2 dt):Cl P w K mg base 4 "is_letter" 2 bO:=
 bM F pM rfl λf c A o s H E hr x=>(ao (cp (oH (lZ (cW (bW (aW aa3 hr (ah (af 1) (ah ak (ah ak ag)))))) (jD (cW (bW (aW aaI hr (ah (aG (af 1) ak) (ah (aG (af 1) ak) ag)))))))) (ar (aB fH)) bF) (ar (aB (dg (aW aav hr (ah (af 0) (ah (aG (af 1) ak) ag))) (dg (aW aav hr (ah (af 0) (ah (aG (af 1) ak) ag))) (dG (dW (mC (j8 hr)) (aG (af 1) ak) (aG (af 1) ak))))))))
abbrev fg:Stmt:=top 25
abbrev ia:List Str:=["clocks","thing"]
theorem mr:aw ia ["clocks","thing"] (ai fg):=eX
theorem mK (F:gS K mg "are_letters" fg ["clocks","thing"])(aa3:Cl P w K mg base 1 "is_long" 3 aL)(aaB:Cl P w K mg base 4 "is_letter" 2 bO)(B:Bl mg)(C:Cs mg):Cl P w K mg base 5 "are_letters" 2 cI:=
 bM F mr rfl λf c A o s H E hr x=>(ar (aB (dg (aW aa3 hr (ah (af 1) (ah ak (ah (rg C.MOST_LETTERS) ag)))) (dG (cM (qP rfl) B.b_all boot_all (ah (jI (N':=["part","clocks"]) (src:=[none,some 0]) rfl (LcScope.by (N:=ia) (names:=(ai fg).names) rfl rfl rfl (by decide+kernel)) (gq (af 1)) (λ_ _ _ _ _=>⟨(aq 0 (show KC (["part","clocks"]:List Str)by decide+kernel)),dh,(aW aaB hr (ah (af 1) (ah (af 0) ag)))⟩)) ag))))))
abbrev jN:Stmt:=top 26
abbrev qm:List Str:=["thing"]
theorem pL:aw qm ["thing"] (ai jN):=eX
theorem qb (F:gS K mg "is_record" jN ["thing"])(aa3:Cl P w K mg base 1 "is_long" 3 aL)(aaw:Cl P w K mg base 5 "are_clocks" 1 c6)(aap:Cl P w K mg base 5 "are_letters" 2 cI):Cl P w K mg base 6 "is_record" 1 cP:=
 bM F pL rfl λf c A o s H E hr x=>(ar (aB (dg (aW aa3 hr (ah (af 0) (ah ak (ah ak ag)))) (dg (aW aaw hr (ah (aG (af 0) ak) ag)) (dG (aW aap hr (ah (aG (af 0) ak) (ah (aG (af 0) ak) ag))))))))
abbrev gZ:Stmt:=top 27
abbrev mU:List Str:=["thing"]
theorem mn:aw mU ["thing"] (ai gZ):=eX
theorem mI (F:gS K mg "need_record" gZ ["thing"])(aaC:Cl P w K mg base 6 "is_record" 1 cP){C_NoRecord C_NoNumber C_NoWorld C_Barred C_ClockError:Addr}(S:Xs K mg C_NoRecord C_NoNumber C_NoWorld C_Barred C_ClockError):Cl P w K mg base 7 "need_record" 1 aN:=
 bM F mn rfl λf c A o s H E hr x=>(ar (cp (cW (bW (aW aaC hr (ah (af 0) ag)))) (ar (iD S.o_NoRecord S.m_NoRecord)) bF))
abbrev fm:Stmt:=bX (top 50) 0
abbrev ju:List Str:=["self","record"]
theorem jm:aw ju ["self","record"] (ai fm):=eX
theorem jr (F:kf K "Sketch" "__init__" "Sketch.__init__" fm ["self","record"])(aa1:Cl P w K mg base 7 "need_record" 1 aN)(K_Sketch:de K mg):Mm P w K mg base 8 "Sketch" "__init__" 2 cN:=
 m4 F jm rfl λf c A o s H E hr x=>(fI (oI (jC (aW aa1 hr (ah (af 1) ag)))) (fI (pD 0 K_Sketch.k K_Sketch.a_past (ah (bB (ah df (ah (af 1) ag))) ag)) (fQ (pD 0 K_Sketch.k K_Sketch.a_ahead ag))))
abbrev ki:Stmt:=top 29
abbrev oV:List Str:=["record","told","number","clock"]
theorem aaA:aw oV ["record"] (ai ki):=eX
theorem wm (F:gS K mg "events" ki ["record"])(aa1:Cl P w K mg base 7 "need_record" 1 aN)(B:Bl mg):Cl P w K mg base 8 "events" 1 ft:=
 bM F aaA rfl λf c A o s H E hr x=>(by(apply ao;exact(f9 (aW aa1 hr (ah (af 0) ag)));apply ao;exact(jE 1 aaA.nd ag);apply ao;exact(dF rfl (jG B.b_enumerate (ah (aG (af 0) ak) ag)) (lN rfl (dw (aq 2 aaA.nd) (dw (aq 3 aaA.nd) jH))) (ar (pB 1 (jI (N':=["k","number"]) (src:=[none,some 2]) rfl (LcScope.by (N:=oV) (names:=(ai ki).names) rfl rfl rfl (by decide+kernel)) (cz B.b_range (ah (cM cu B.b_len KB (ah (aG (af 3) ak) ag)) ag)) (λ_ _ _ _ _=>⟨(aq 0 (show KC (["k","number"]:List Str)by decide+kernel)),dh,(bB (ah (af 1) (ah (af 0) ag)))⟩)))));exact ar (jF 1 (aB (af 1)))))
abbrev jP:Stmt:=top 42
abbrev qr:List Str:=["best","bound","ahead","known"]
theorem aaK:aw qr ["best","bound","ahead"] (ai jP):=eX
theorem qd (F:gS K mg "is_better" jP ["best","bound","ahead"]):Cl P w K mg base 1 "is_better" 3 cS:=
 bM F aaK rfl λf c A o s H E hr x=>(ao (aM (uJ (HI hr) (af 0) (aG (af 1) ak)) (aq 3 aaK.nd)) (ar (aB (Cr (dW oS (af 3) df) (dG (dW yi (ax aO (aG (af 2) ak) (aG (af 1) ak)) (aG (af 3) ak)))))))
abbrev iF:Stmt:=top 41
abbrev kD:List Str:=["limits","starts","best","moved","number","bound","ahead","walk","passed"]
theorem aa6:aw kD ["limits","starts"] (ai iF):=eX
theorem wj (F:gS K mg "settle" iF ["limits","starts"])(aaD:Cl P w K mg base 1 "is_better" 3 cS)(B:Bl mg):Cl P w K mg base 2 "settle" 2 eg:=
 bM F aa6 rfl λf c A o s H E hr x=>(by(apply ao;exact(xm 2 (hu8 hr) rfl B.b_dict aa6.nd (jI (N':=["event"]) (src:=[none]) rfl (LcScope.by (N:=kD) (names:=(ai iF).names) rfl rfl rfl (by decide+kernel)) (gq (af 1)) (λ_ _ _ _ _=>⟨(aq 0 (show KC (["event"]:List Str)by decide+kernel)),dh,(bB (ah (af 0) (ah (bB (ah ak (ah (kh ag) ag))) ag)))⟩)));apply ao;exact(aM fH (aq 3 aa6.nd));apply ao;exact(vW FU (bW (af 3)) (ao (aM fH (aq 3 aa6.nd)) (ar (dF rfl (jG B.b_enumerate (ah (af 0) ag)) (lN rfl (dw (aq 4 aa6.nd) (dw (aq 5 aa6.nd) jH))) (by(apply ao;exact(aM (eZ 2 (uJ (HI hr) (af 2) (aG (af 5) ak))) (aq 6 aa6.nd));apply ao;exact(cp (oH (lZ (cX oS (af 6) df) (jD (cW (C2 2 (bW (aW aaD hr (ah (af 2) (ah (af 5) (ah (af 6) ag)))))))))) (ar C4) bF);apply ao;exact(aM (ax aO (aG (af 6) ak) (kh (ah (af 4) ag))) (aq 7 aa6.nd));apply ao;exact(C3 8 (N':=["step","limits"]) (src:=[none,some 0]) rfl (LcScope.by (N:=kD) (names:=(ai iF).names) rfl rfl rfl (by decide+kernel)) (gq (af 7)) (λ_ _ _ _ _=>⟨(aq 0 (show KC (["step","limits"]:List Str)by decide+kernel)),dh,(aG (aG (af 1) (af 0)) ak)⟩) aa6.nd);apply ao;exact(cp (cX (Gw (G8 hr)) (aG (af 5) ak) (af 8)) (ar (aB (bB (ah df (ah (l6 (af 7) (l4 (vX (G8 hr) (af 8) (aG (af 5) ak))) l5) ag))))) bF);apply ao;exact(Ai 2 (HI hr) (aG (af 5) ak) (bB (ah (ax aO (aG (af 6) ak) (aG (af 5) ak)) (ah (af 7) ag))));exact ar (aM fH (aq 3 aa6.nd))))))));exact ar (jF 2 (aB (bB (ah (af 2) (ah df ag)))))))
abbrev dH:Stmt:=top 44
abbrev fL:List Str:=["record","limits","places","best"]
theorem aaf:aw fL ["record","limits"] (ai dH):=eX
theorem jZ (F:gS K mg "greatest_world" dH ["record","limits"])(aal:Cl P w K mg base 8 "events" 1 ft)(aam:Cl P w K mg base 2 "settle" 2 eg)(B:Bl mg):Cl P w K mg base 9 "greatest_world" 2 cZ:=
 bM F aaf rfl λf c A o s H E hr x=>(by(apply ao;exact(aM (aW aal hr (ah (af 0) ag)) (aq 2 aaf.nd));apply ao;exact(aM (aG (aW aam hr (ah (af 1) (ah (af 2) ag))) ak) (aq 3 aaf.nd));apply ao;exact(cp (cX oS (af 3) df) (ar (aB df)) bF);exact ar (aB (uK nH B.b_tuple d9 (ah (jI (N':=["event","best"]) (src:=[none,some 3]) rfl (LcScope.by (N:=fL) (names:=(ai dH).names) rfl rfl rfl (by decide+kernel)) (gq (af 2)) (λ_ _ _ _ _=>⟨(aq 0 (show KC (["event","best"]:List Str)by decide+kernel)),dh,(aG (C6 (HI hr) (af 1) (af 0)) ak)⟩)) ag)))))
abbrev ff:Stmt:=top 37
abbrev jt:List Str:=["number","clock","readings","told","k","first","second","steps"]
theorem aa5:aw jt ["number","clock"] (ai ff):=eX
theorem jq (F:gS K mg "bounds_of_clock" ff ["number","clock"])(B:Bl mg):Cl P w K mg base 1 "bounds_of_clock" 2 b8:=
 bM F aa5 rfl λf c A o s H E hr x=>(by(apply ao;exact(aM (aG (af 1) ak) (aq 2 aa5.nd));apply ao;exact(jE 3 aa5.nd ag);apply ao;exact(dF rfl (cz B.b_range (ah (ax fq (cM cu B.b_len KB (ah (af 2) ag)) ak) ag)) (aq 4 aa5.nd) (by(apply ao;exact(aM (bB (ah (af 0) (ah (af 4) ag))) (aq 5 aa5.nd));apply ao;exact(aM (bB (ah (af 0) (ah (ax aO (af 4) ak) ag))) (aq 6 aa5.nd));apply ao;exact(aM (ax fq (aG (af 2) (ax aO (af 4) ak)) (aG (af 2) (af 4))) (aq 7 aa5.nd));apply ao;exact(pC 3 (bB (ah (af 5) (ah (af 6) (ah (ax cY (af 7) (aG (af 1) ak)) ag)))));exact ar (pC 3 (bB (ah (af 6) (ah (af 5) (ah (ax cY (kg (af 7)) (aG (af 1) ak)) ag))))))));exact ar (jF 3 (aB (af 3)))))
abbrev eM:Stmt:=top 38
abbrev i5:List Str:=["letter","told"]
theorem aaj:aw i5 ["letter"] (ai eM):=eX
theorem iZ (F:gS K mg "bounds_of_letter" eM ["letter"]):Cl P w K mg base 1 "bounds_of_letter" 1 bU:=
 bM F aaj rfl λf c A o s H E hr x=>(by(apply ao;exact(jE 1 aaj.nd (ah (bB (ah (aG (af 0) ak) (ah (aG (af 0) ak) (ah (kg (aG (af 0) ak)) ag)))) ag));apply ao;exact(cp (cX mE (aG (af 0) ak) df) (ar (pC 1 (bB (ah (aG (af 0) ak) (ah (aG (af 0) ak) (ah (aG (af 0) ak) ag)))))) bF);exact ar (jF 1 (aB (af 1)))))
abbrev oN:Stmt:=top 39
abbrev wt:List Str:=["record","told","number","clock","letter"]
theorem aao:aw wt ["record"] (ai oN):=eX
theorem wo (F:gS K mg "bounds" oN ["record"])(aa1:Cl P w K mg base 7 "need_record" 1 aN)(aag:Cl P w K mg base 1 "bounds_of_clock" 2 b8)(aae:Cl P w K mg base 1 "bounds_of_letter" 1 bU)(B:Bl mg):Cl P w K mg base 8 "bounds" 1 fw:=
 bM F aao rfl λf c A o s H E hr x=>(by(apply ao;exact(f9 (aW aa1 hr (ah (af 0) ag)));apply ao;exact(jE 1 aao.nd ag);apply ao;exact(dF rfl (jG B.b_enumerate (ah (aG (af 0) ak) ag)) (lN rfl (dw (aq 2 aao.nd) (dw (aq 3 aao.nd) jH))) (ar (pB 1 (aW aag hr (ah (af 2) (ah (af 3) ag))))));apply ao;exact(dF rfl (gq (aG (af 0) ak)) (aq 4 aao.nd) (ar (pB 1 (aW aae hr (ah (af 4) ag)))));exact ar (jF 1 (aB (af 1)))))
abbrev rz:Stmt:=top 45
abbrev yr:List Str:=["record"]
theorem xI:aw yr ["record"] (ai rz):=eX
theorem yk (F:gS K mg "world" rz ["record"])(aah:Cl P w K mg base 9 "greatest_world" 2 cZ)(aan:Cl P w K mg base 8 "bounds" 1 fw):Cl P w K mg base 10 "world" 1 iM:=
 bM F xI rfl λf c A o s H E hr x=>(ar (aB (aW aah hr (ah (af 0) (ah (aW aan hr (ah (af 0) ag)) ag)))))
abbrev jR:Stmt:=top 46
abbrev qu:List Str:=["record"]
theorem pP:aw qu ["record"] (ai jR):=eX
theorem qf (F:gS K mg "has_world" jR ["record"])(aaN:Cl P w K mg base 10 "world" 1 iM):Cl P w K mg base 11 "has_world" 1 aH:=
 bM F pP rfl λf c A o s H E hr x=>(ar (aB (dW mE (aW aaN hr (ah (af 0) ag)) df)))
abbrev i9:Stmt:=top 47
abbrev oo:List Str:=["record"]
theorem nX:aw oo ["record"] (ai i9):=eX
theorem n9 (F:gS K mg "need_world" i9 ["record"])(aa4:Cl P w K mg base 11 "has_world" 1 aH){C_NoRecord C_NoNumber C_NoWorld C_Barred C_ClockError:Addr}(S:Xs K mg C_NoRecord C_NoNumber C_NoWorld C_Barred C_ClockError):Cl P w K mg base 12 "need_world" 1 dJ:=
 bM F nX rfl λf c A o s H E hr x=>(ar (cp (cW (bW (aW aa4 hr (ah (af 0) ag)))) (ar (iD S.o_NoWorld S.m_NoWorld)) bF))
abbrev gd:Stmt:=bX (top 52) 0
abbrev kG:List Str:=["self","record"]
theorem km:aw kG ["self","record"] (ai gd):=eX
theorem kx (F:kf K "Desk" "__init__" "Desk.__init__" gd ["self","record"])(aax:Cl P w K mg base 12 "need_world" 1 dJ)(K_Desk:gC K mg):Mm P w K mg base 13 "Desk" "__init__" 2 dn:=
 m4 F km rfl λf c A o s H E hr x=>(fI (oI (jC (aW aax hr (ah (af 1) ag)))) (fQ (pD 0 K_Desk.k K_Desk.a_kept (ah (af 1) ag))))
abbrev jS:Stmt:=top 54
abbrev qv:List Str:=["_law_script","_law_k"]
theorem pQ:aw qv ["_law_script","_law_k"] (ai jS):=eX
theorem qg (F:gS K mg "_law_cell" jS ["_law_script","_law_k"])(B:Bl mg):Cl P w K mg base 1 "_law_cell" 2 eh:=
 bM F pQ rfl λf c A o s H E hr x=>(ao (cp (cX (mF (j8 hr)) (af 0) (kh ag)) (ar (aB (ax cY ak (af 1)))) bF) (ar (aB (ax aO (aG (af 0) (ax jo (af 1) (cM cu B.b_len KB (ah (af 0) ag)))) (ax cY ak (ax lQ (af 1) (cM cu B.b_len KB (ah (af 0) ag))))))))
abbrev jb:Stmt:=top 55
abbrev ou:List Str:=["_law_script","_law_k","_law_many","_law_cell_here"]
theorem aaq:aw ou ["_law_script","_law_k","_law_many"] (ai jb):=eX
theorem oh (F:gS K mg "_law_drawn" jb ["_law_script","_law_k","_law_many"])(aaE:Cl P w K mg base 1 "_law_cell" 2 eh):Cl P w K mg base 2 "_law_drawn" 3 az:=
 bM F aaq rfl λf c A o s H E hr x=>(by(apply ao;exact(aM (ax jo (ax aO (ax cY (ax jo (aW aaE hr (ah (af 0) (ah (af 1) ag))) ak) ak) (ax cY ak (ax aO (af 1) ak))) ak) (aq 3 aaq.nd));apply ao;exact(aM (ax jo (ax aO (ax cY (af 3) (af 3)) (ax lQ (af 3) ak)) ak) (aq 3 aaq.nd));exact ar (aB (ax jo (ax lQ (ax jo (ax aO (ax cY (af 3) (af 3)) (ax lQ (af 3) ak)) ak) ak) (af 2)))))
abbrev fj:Stmt:=top 58
abbrev ie:List Str:=["_law_clocks","_law_found","_law_number","_law_clock_here"]
theorem aac:aw ie ["_law_clocks"] (ai fj):=eX
theorem mO (F:gS K mg "_law_events" fj ["_law_clocks"])(B:Bl mg):Cl P w K mg base 1 "_law_events" 1 di:=
 bM F aac rfl λf c A o s H E hr x=>(by(apply ao;exact(aM (kh ag) (aq 1 aac.nd));apply ao;exact(dF rfl (jG B.b_enumerate (ah (af 0) ag)) (lN rfl (dw (aq 2 aac.nd) (dw (aq 3 aac.nd) jH))) (ar (aM (ax aO (af 1) (jI (N':=["_law_place","_law_number"]) (src:=[none,some 2]) rfl (LcScope.by (N:=ie) (names:=(ai fj).names) rfl rfl rfl (by decide+kernel)) (cz B.b_range (ah (cM cu B.b_len KB (ah (aG (af 3) ak) ag)) ag)) (λ_ _ _ _ _=>⟨(aq 0 (show KC (["_law_place","_law_number"]:List Str)by decide+kernel)),dh,(bB (ah (af 1) (ah (af 0) ag)))⟩))) (aq 1 aac.nd))));exact ar (aB (af 1))))
abbrev g8:Stmt:=top 57
abbrev mW:List Str:=["_law_script","_law_at","_law_clocks","_law_row","_law_place","_law_other","_law_least","_law_most"]
theorem aa7:aw mW ["_law_script","_law_at","_law_clocks"] (ai g8):=eX
theorem mM (F:gS K mg "_law_letter" g8 ["_law_script","_law_at","_law_clocks"])(aar:Cl P w K mg base 1 "_law_events" 1 di)(aa0:Cl P w K mg base 2 "_law_drawn" 3 az)(B:Bl mg):Cl P w K mg base 3 "_law_letter" 3 bq:=
 bM F aa7 rfl λf c A o s H E hr x=>(by(apply ao;exact(aM (aW aar hr (ah (af 2) ag)) (aq 3 aa7.nd));apply ao;exact(cp (cX yi (cM cu B.b_len KB (ah (af 3) ag)) ak) (ar (aB df)) bF);apply ao;exact(aM (aW aa0 hr (ah (af 0) (ah (af 1) (ah (cM cu B.b_len KB (ah (af 3) ag)) ag)))) (aq 4 aa7.nd));apply ao;exact(aM (ax jo (ax aO (ax aO (af 4) ak) (aW aa0 hr (ah (af 0) (ah (ax aO (af 1) ak) (ah (ax fq (cM cu B.b_len KB (ah (af 3) ag)) ak) ag))))) (cM cu B.b_len KB (ah (af 3) ag))) (aq 5 aa7.nd));apply ao;exact(aM (aW aa0 hr (ah (af 0) (ah (ax aO (af 1) ak) (ah ak ag)))) (aq 6 aa7.nd));apply ao;exact(aM (Ct (cX (mF (j8 hr)) (aW aa0 hr (ah (af 0) (ah (ax aO (af 1) ak) (ah ak ag)))) ak) df (ax aO (af 6) (aW aa0 hr (ah (af 0) (ah (ax aO (af 1) ak) (ah ak ag)))))) (aq 7 aa7.nd));exact ar (aB (bB (ah (aG (af 3) (af 4)) (ah (aG (af 3) (af 5)) (ah (af 6) (ah (af 7) ag))))))))
abbrev jc:Stmt:=top 56
abbrev ox:List Str:=["_law_script","_law_at","_law_slow","_law_readings","_law_k"]
theorem aad:aw ox ["_law_script","_law_at"] (ai jc):=eX
theorem oj (F:gS K mg "_law_clock" jc ["_law_script","_law_at"])(aa0:Cl P w K mg base 2 "_law_drawn" 3 az)(B:Bl mg):Cl P w K mg base 3 "_law_clock" 2 b9:=
 bM F aad rfl λf c A o s H E hr x=>(by(apply ao;exact(aM (ax aO ak (aW aa0 hr (ah (af 0) (ah (af 1) (ah ak ag))))) (aq 2 aad.nd));apply ao;exact(aM (bB (ah (aW aa0 hr (ah (af 0) (ah (ax aO (af 1) ak) (ah ak ag)))) ag)) (aq 3 aad.nd));apply ao;exact(dF rfl (cz B.b_range (ah (aW aa0 hr (ah (af 0) (ah (ax aO (af 1) ak) (ah ak ag)))) ag)) (aq 4 aad.nd) (ar (aM (ax aO (af 3) (bB (ah (ax aO (ax aO (aG (af 3) (kg ak)) ak) (aW aa0 hr (ah (af 0) (ah (ax aO (ax aO (af 1) ak) (af 4)) (ah ak ag))))) ag))) (aq 3 aad.nd))));exact ar (aB (bB (ah (af 2) (ah (ax aO (af 2) (aW aa0 hr (ah (af 0) (ah (ax aO (af 1) ak) (ah ak ag))))) (ah (af 3) ag)))))))
abbrev fh:Stmt:=top 59
abbrev ib:List Str:=["_law_script","_law_at","_law_most","_law_clocks","_law_letters","_law_k","_law_letter_here"]
theorem aa8:aw ib ["_law_script","_law_at","_law_most"] (ai fh):=eX
theorem mL (F:gS K mg "_law_record" fh ["_law_script","_law_at","_law_most"])(aa0:Cl P w K mg base 2 "_law_drawn" 3 az)(aaa:Cl P w K mg base 3 "_law_letter" 3 bq)(aay:Cl P w K mg base 3 "_law_clock" 2 b9)(B:Bl mg):Cl P w K mg base 4 "_law_record" 3 d8:=
 bM F aa8 rfl λf c A o s H E hr x=>(by(apply ao;exact(aM (uK nH B.b_tuple d9 (ah (jI (N':=["_law_k","_law_script","_law_at"]) (src:=[none,some 0,some 1]) rfl (LcScope.by (N:=ib) (names:=(ai fh).names) rfl rfl rfl (by decide+kernel)) (cz B.b_range (ah (ax aO ak (aW aa0 hr (ah (af 0) (ah (af 1) (ah ak ag))))) ag)) (λ_ _ _ _ _=>⟨(aq 0 (show KC (["_law_k","_law_script","_law_at"]:List Str)by decide+kernel)),dh,(aW aay hr (ah (af 1) (ah (ax aO (ax aO (af 2) ak) (ax cY ak (af 0))) ag)))⟩)) ag)) (aq 3 aa8.nd));apply ao;exact(aM (kh ag) (aq 4 aa8.nd));apply ao;exact(dF rfl (cz B.b_range (ah (aW aa0 hr (ah (af 0) (ah (ax aO (af 1) ak) (ah (ax aO (af 2) ak) ag)))) ag)) (aq 5 aa8.nd) (ao (aM (aW aaa hr (ah (af 0) (ah (ax aO (ax aO (af 1) ak) (ax cY ak (af 5))) (ah (af 3) ag)))) (aq 6 aa8.nd)) (ar (aM (ax aO (af 4) (ax cY (kh (ah (af 6) ag)) (uK Fo B.b_int lq (ah (dW mE (af 6) df) ag)))) (aq 4 aa8.nd)))));exact ar (aB (bB (ah (af 3) (ah (uK nH B.b_tuple d9 (ah (af 4) ag)) ag))))))
abbrev gM:Stmt:=bX (top 50) 2
abbrev lE:List Str:=["self","word","record"]
theorem lx:aw lE ["self","word","record"] (ai gM):=eX
theorem lC (F:kf K "Sketch" "go_on" "Sketch.go_on" gM ["self","word","record"])(aa4:Cl P w K mg base 11 "has_world" 1 aH)(K_Sketch:de K mg):Mm P w K mg base 12 "Sketch" "go_on" 3 bV:=
 m4 F lx rfl λf c A o s H E hr x=>(fI (oI (xj 0 K_Sketch.k K_Sketch.a_past (bB (ah (af 1) (ah (af 2) ag))))) (fI (pD 0 K_Sketch.k K_Sketch.a_ahead ag) (fQ (l8 (jC (aW aa4 hr (ah (af 2) ag)))))))
abbrev jQ:Stmt:=top 31
abbrev qt:List Str:=["thing"]
theorem pO:aw qt ["thing"] (ai jQ):=eX
theorem qe (F:gS K mg "if_record" jQ ["thing"])(aa1:Cl P w K mg base 7 "need_record" 1 aN):Cl P w K mg base 8 "if_record" 1 dz:=
 bM F pO rfl λf c A o s H E hr x=>(ao (f9 (aW aa1 hr (ah (af 0) ag))) (ar (aB (af 0))))
abbrev gY:Stmt:=top 32
abbrev mT:List Str:=["record","letter"]
theorem mm:aw mT ["record","letter"] (ai gY):=eX
theorem mH (F:gS K mg "with_letter" gY ["record","letter"])(aa1:Cl P w K mg base 7 "need_record" 1 aN)(aaF:Cl P w K mg base 8 "if_record" 1 dz):Cl P w K mg base 9 "with_letter" 2 bf:=
 bM F mm rfl λf c A o s H E hr x=>(ao (f9 (aW aa1 hr (ah (af 0) ag))) (ar (aB (aW aaF hr (ah (bB (ah (aG (af 0) ak) (ah (ax aO (aG (af 0) ak) (bB (ah (af 1) ag))) ag))) ag)))))
abbrev gb:Stmt:=bX (top 50) 1
abbrev kE:List Str:=["self"]
theorem kj:aw kE ["self"] (ai gb):=eX
theorem kr (F:kf K "Sketch" "record" "Sketch.record" gb ["self"])(K_Sketch:de K mg):Ml P w K mg base 1 "Sketch" "record" aC:=
 vc F kj rfl λf c A o s H E hr x=>(ar (aB (aG (aG (l7 K_Sketch.k K_Sketch.a_past (af 0)) (kg ak)) ak)))
abbrev gL:Stmt:=bX (top 50) 3
abbrev lD:List Str:=["self","letter"]
theorem lu:aw lD ["self","letter"] (ai gL):=eX
theorem lA (F:kf K "Sketch" "write" "Sketch.write" gL ["self","letter"])(c_Sketch_go_on:Mm P w K mg base 12 "Sketch" "go_on" 3 bV)(aab:Cl P w K mg base 9 "with_letter" 2 bf)(c_Sketch_record:Ml P w K mg base 1 "Sketch" "record" aC)(K_Sketch:de K mg):Mm P w K mg base 13 "Sketch" "write" 2 cT:=
 m4 F lu rfl λf c A o s H E hr x=>(fQ (l8 (iC 0 K_Sketch.k c_Sketch_go_on hr (ah xn (ah (aW aab hr (ah (eZ 0 (cL K_Sketch.k c_Sketch_record hr (af 0))) (ah (af 1) ag))) ag)))))
abbrev g7:Stmt:=top 28
abbrev mV:List Str:=["many","thing"]
theorem mq:aw mV ["many","thing"] (ai g7):=eX
theorem mJ (F:gS K mg "need_number" g7 ["many","thing"])(aa2:Cl P w K mg base 2 "is_within" 3 aP){C_NoRecord C_NoNumber C_NoWorld C_Barred C_ClockError:Addr}(S:Xs K mg C_NoRecord C_NoNumber C_NoWorld C_Barred C_ClockError):Cl P w K mg base 3 "need_number" 2 d7:=
 bM F mq rfl λf c A o s H E hr x=>(ar (cp (cW (bW (aW aa2 hr (ah (af 1) (ah ak (ah (ax fq (af 0) ak) ag)))))) (ar (iD S.o_NoNumber S.m_NoNumber)) bF))
abbrev fJ:Stmt:=top 33
abbrev j5:List Str:=["record","number","letters"]
theorem aau:aw j5 ["record","number"] (ai fJ):=eX
theorem jY (F:gS K mg "without_letter" fJ ["record","number"])(aa1:Cl P w K mg base 7 "need_record" 1 aN)(aas:Cl P w K mg base 3 "need_number" 2 d7)(B:Bl mg):Cl P w K mg base 8 "without_letter" 2 bD:=
 bM F aau rfl λf c A o s H E hr x=>(by(apply ao;exact(f9 (aW aa1 hr (ah (af 0) ag)));apply ao;exact(aM (aG (af 0) ak) (aq 2 aau.nd));apply ao;exact(f9 (aW aas hr (ah (cM cu B.b_len KB (ah (af 2) ag)) (ah (af 1) ag))));exact ar (aB (bB (ah (aG (af 0) ak) (ah (ax aO (l6 (af 2) l5 (l4 (af 1))) (l6 (af 2) (l4 (ax aO (af 1) ak)) l5)) ag))))))
abbrev jd:Stmt:=bX (top 50) 5
abbrev oy:List Str:=["self","number"]
theorem n5:aw oy ["self","number"] (ai jd):=eX
theorem om (F:kf K "Sketch" "cut" "Sketch.cut" jd ["self","number"])(c_Sketch_go_on:Mm P w K mg base 12 "Sketch" "go_on" 3 bV)(aai:Cl P w K mg base 8 "without_letter" 2 bD)(c_Sketch_record:Ml P w K mg base 1 "Sketch" "record" aC)(K_Sketch:de K mg):Mm P w K mg base 13 "Sketch" "cut" 2 c8:=
 m4 F n5 rfl λf c A o s H E hr x=>(fQ (l8 (iC 0 K_Sketch.k c_Sketch_go_on hr (ah xn (ah (aW aai hr (ah (eZ 0 (cL K_Sketch.k c_Sketch_record hr (af 0))) (ah (af 1) ag))) ag)))))
abbrev g9:Stmt:=bX (top 50) 6
abbrev mX:List Str:=["self","step"]
theorem sc_Sketch_good:aw mX ["self"] (ai g9):=eX
theorem mP (F:kf K "Sketch" "good" "Sketch.good" g9 ["self"])(aa4:Cl P w K mg base 11 "has_world" 1 aH)(B:Bl mg)(K_Sketch:de K mg):Ml P w K mg base 12 "Sketch" "good" bh:=
 vc F sc_Sketch_good rfl λf c A o s H E hr x=>(ao (dF rfl (Am B.b_reversed (ah (l7 K_Sketch.k K_Sketch.a_past (af 0)) ag)) (aq 1 sc_Sketch_good.nd) (ar (cp (bW (aW aa4 hr (ah (aG (af 1) ak) ag))) (ar (aB (aG (af 1) ak))) bF))) (ar (aB df)))
abbrev gc:Stmt:=bX (top 50) 9
abbrev kF:List Str:=["self"]
theorem kl:aw kF ["self"] (ai gc):=eX
theorem ku (F:kf K "Sketch" "counts" "Sketch.counts" gc ["self"])(B:Bl mg)(K_Sketch:de K mg):Ml P w K mg base 1 "Sketch" "counts" b7:=
 vc F kl rfl λf c A o s H E hr x=>(ar (aB (bB (ah (ax fq (cM cu B.b_len KB (ah (l7 K_Sketch.k K_Sketch.a_past (af 0)) ag)) ak) (ah (cM cu B.b_len KB (ah (l7 K_Sketch.k K_Sketch.a_ahead (af 0)) ag)) ag)))))
abbrev mj:Stmt:=top 48
abbrev uc:List Str:=["record"]
theorem tM:aw uc ["record"] (ai mj):=eX
theorem tZ (F:gS K mg "barring" mj ["record"])(aam:Cl P w K mg base 2 "settle" 2 eg)(aan:Cl P w K mg base 8 "bounds" 1 fw)(aal:Cl P w K mg base 8 "events" 1 ft):Cl P w K mg base 9 "barring" 1 dY:=
 bM F tM rfl λf c A o s H E hr x=>(ar (aB (aG (aW aam hr (ah (aW aan hr (ah (af 0) ag)) (ah (aW aal hr (ah (af 0) ag)) ag))) ak)))
abbrev jU:Stmt:=bX (top 52) 2
abbrev qx:List Str:=["self","record"]
theorem pT:aw qx ["self","record"] (ai jU):=eX
theorem qi (F:kf K "Desk" "keep" "Desk.keep" jU ["self","record"])(aa4:Cl P w K mg base 11 "has_world" 1 aH)(K_Desk:gC K mg){C_NoRecord C_NoNumber C_NoWorld C_Barred C_ClockError:Addr}(S:Xs K mg C_NoRecord C_NoNumber C_NoWorld C_Barred C_ClockError):Mm P w K mg base 12 "Desk" "keep" 2 et:=
 m4 F pT rfl λf c A o s H E hr x=>(fI (FC (cW (bW (aW aa4 hr (ah (af 1) ag)))) (fQ (C9 (iD S.o_Barred S.m_Barred))) C7) (fQ (oI (xj 0 K_Desk.k K_Desk.a_kept (af 1)))))
abbrev hI:Stmt:=bX (top 52) 1
abbrev mY:List Str:=["self"]
theorem mw:aw mY ["self"] (ai hI):=eX
theorem mQ (F:kf K "Desk" "record" "Desk.record" hI ["self"])(K_Desk:gC K mg):Ml P w K mg base 1 "Desk" "record" bH:=
 vc F mw rfl λf c A o s H E hr x=>(ar (aB (aG (l7 K_Desk.k K_Desk.a_kept (af 0)) (kg ak))))
abbrev jT:Stmt:=bX (top 52) 3
abbrev qw:List Str:=["self","letter"]
theorem pR:aw qw ["self","letter"] (ai jT):=eX
theorem qh (F:kf K "Desk" "take" "Desk.take" jT ["self","letter"])(c_Desk_keep:Mm P w K mg base 12 "Desk" "keep" 2 et)(aab:Cl P w K mg base 9 "with_letter" 2 bf)(c_Desk_record:Ml P w K mg base 1 "Desk" "record" bH)(B:Bl mg)(K_Desk:gC K mg):Mm P w K mg base 13 "Desk" "take" 2 ej:=
 m4 F pR rfl λf c A o s H E hr x=>(fI (oI (iC 0 K_Desk.k c_Desk_keep hr (ah (aW aab hr (ah (eZ 0 (cL K_Desk.k c_Desk_record hr (af 0))) (ah (af 1) ag))) ag))) (fQ (l8 (jC (ax fq (cM cu B.b_len KB (ah (aG (eZ 0 (cL K_Desk.k c_Desk_record hr (af 0))) ak) ag)) ak)))))
abbrev ja:Stmt:=top 60
abbrev oq:List Str:=["_law_desk","_law_letter_here"]
theorem nZ:aw oq ["_law_desk","_law_letter_here"] (ai ja):=eX
theorem og (F:gS K mg "_law_takes" ja ["_law_desk","_law_letter_here"])(c_Desk_take:Mm P w K mg base 13 "Desk" "take" 2 ej)(K_Desk:gC K mg){C_NoRecord C_NoNumber C_NoWorld C_Barred C_ClockError:Addr}(S:Xs K mg C_NoRecord C_NoNumber C_NoWorld C_Barred C_ClockError):Ce P w K mg base 14 "_law_takes" 2 0 c7:=
 Hs F nZ rfl λf c A o s H E hr x=>(fQ (Ao S.m_Barred S.o_Barred (λ_ _=>(fI (oI (iC 0 K_Desk.k c_Desk_take hr (ah (af 1) ag))) (fQ (l8 (jC fH))))) (λ_ _=>(ar (aB fH))) (hcl:=λ_ _ z=>by cases z)))
abbrev xG:Stmt:=top 61
abbrev Ey:List Str:=["_law_script","_law_first","_law_sketch","_law_desk","_law_last","_law_well","_law_k","_law_letter_here","_law_told","_law_here","_law_many","_law_turn"]
theorem aa9:aw Ey ["_law_script"] (ai xG):=eX
theorem Et {f:Addr}{fd:J0}(aaO:Fn K mg "law" xG ["_law_script"] f fd)(c_Sketch___init__:Mm P w K mg base 8 "Sketch" "__init__" 2 cN)(c_Desk___init__:Mm P w K mg base 13 "Desk" "__init__" 2 dn)(aat:Cl P w K mg base 4 "_law_record" 3 d8)(c_Sketch_write:Mm P w K mg base 13 "Sketch" "write" 2 cT)(c_Sketch_record:Ml P w K mg base 1 "Sketch" "record" aC)(c_Sketch_cut:Mm P w K mg base 13 "Sketch" "cut" 2 c8)(aa4:Cl P w K mg base 11 "has_world" 1 aH)(aaa:Cl P w K mg base 3 "_law_letter" 3 bq)(c_Sketch_good:Ml P w K mg base 12 "Sketch" "good" bh)(c_Sketch_counts:Ml P w K mg base 1 "Sketch" "counts" b7)(aa0:Cl P w K mg base 2 "_law_drawn" 3 az)(aaL:Cl P w K mg base 9 "barring" 1 dY)(aaz:Ce P w K mg base 14 "_law_takes" 2 0 c7)(c_Desk_record:Ml P w K mg base 1 "Desk" "record" bH)(B:Bl mg)(K_Desk:gC K mg)(K_Sketch:de K mg):Ad P w K mg base 15 f fd ["_law_script"] 1 m_law:=
 pF aaO.fn aa9 rfl λc A o s H E hr x=>(by(apply ao;exact(aM (aW aat hr (ah (af 0) (ah ak (ah ak ag)))) (aq 1 aa9.nd));apply ao;exact(cp (cW (bW (aW aa4 hr (ah (af 1) ag)))) (ar (aM (bB (ah (aG (af 1) ak) (ah (bB ag) ag))) (aq 1 aa9.nd))) bF);apply ao;exact(rf 2 aa9.nd K_Sketch.k c_Sketch___init__ hr (ah (af 1) ag));apply ao;exact(rf 3 aa9.nd K_Desk.k c_Desk___init__ hr (ah (af 1) ag));apply ao;exact(aM (af 1) (aq 4 aa9.nd));apply ao;exact(aM fH (aq 5 aa9.nd));apply ao;exact(dF rfl (cz B.b_range (ah (ax aO ak (aW aa0 hr (ah (af 0) (ah ak (ah ak ag))))) ag)) (aq 6 aa9.nd) (by(apply ao;exact(aM (aW aaa hr (ah (af 0) (ah (ax aO ak (ax cY ak (af 6))) (ah (aG (af 1) ak) ag)))) (aq 7 aa9.nd));apply ao;exact(cp (cX oS (af 7) df) (ar (aB (dW (mF (j8 hr)) (eZ 2 (cL K_Sketch.k c_Sketch_good hr (af 2))) (af 1)))) bF);apply ao;exact(Al 8 aa9.nd (iC 2 K_Sketch.k c_Sketch_write hr (ah (af 7) ag)));apply ao;exact(aM (eZ 2 (cL K_Sketch.k c_Sketch_record hr (af 2))) (aq 9 aa9.nd));apply ao;exact(cp (oH (lZ (cX (mC (j8 hr)) (af 8) (aW aa4 hr (ah (af 9) ag))) (jD (cX (mC (j8 hr)) (af 8) (dW oS (aW aaL hr (ah (af 9) ag)) df))))) (ar (aB fH)) bF);apply ao;exact(cp (cX (mC (j8 hr)) (aG (aG (af 9) ak) (kg ak)) (af 7)) (ar (aB fH)) bF);apply ao;exact(cp (oH (Ah (cW (bW (af 5))) (xk (bW (af 8))))) (ar (aB fH)) bF);apply ao;exact(aM (Ct (bW (af 8)) (af 9) (af 4)) (aq 4 aa9.nd));apply ao;exact(cp (oH (lZ (cX (mC (j8 hr)) (eZ 2 (cL K_Sketch.k c_Sketch_good hr (af 2))) (af 4)) (jD (cW (bW (aW aa4 hr (ah (eZ 2 (cL K_Sketch.k c_Sketch_good hr (af 2))) ag))))))) (ar (aB fH)) bF);apply ao;exact(cp (bW (af 5)) (ar (Aj (FA (C0 (Ag (mC (j8 hr)) (C1 3 aaz hr (ah (af 7) ag)) (af 8)) (Af (xi (cX (mC (j8 hr)) (dW (mF (j8 hr)) (eZ 3 (cL K_Desk.k c_Desk_record hr (af 3))) (af 9)) (af 8)))))) (ar (aB fH)) bF)) bF);exact ar (aM (af 8) (aq 5 aa9.nd)))));apply ao;exact(aM (ax fq (cM cu B.b_len KB (ah (aG (eZ 2 (cL K_Sketch.k c_Sketch_record hr (af 2))) ak) ag)) (cM cu B.b_len KB (ah (aG (af 1) ak) ag))) (aq 10 aa9.nd));apply ao;exact(dF rfl (cz B.b_range (ah (af 10) ag)) (aq 11 aa9.nd) (ar (Ak (iC 2 K_Sketch.k c_Sketch_cut hr (ah (ax fq (cM cu B.b_len KB (ah (aG (eZ 2 (cL K_Sketch.k c_Sketch_record hr (af 2))) ak) ag)) ak) ag)))));exact ar (aB (dg (dW (mF (j8 hr)) (eZ 2 (cL K_Sketch.k c_Sketch_record hr (af 2))) (af 1)) (dg (dW (mF (j8 hr)) (eZ 2 (cL K_Sketch.k c_Sketch_good hr (af 2))) (af 1)) (dG (dW (mF (j8 hr)) (eZ 2 (cL K_Sketch.k c_Sketch_counts hr (af 2))) (bB (ah (ax cY ak (af 10)) (ah ak ag))))))))))
end
@[elab_as_elim] theorem dB {α:Type} {p:List α->Prop} (h:∀a0,p [a0]):∀us:List α,us.length=1->p us
 | [a0],_=>h a0
@[elab_as_elim] theorem dA {α:Type} {p:List α->Prop} (h:∀a0 a1,p [a0,a1]):∀us:List α,us.length=2->p us
 | [a0,a1],_=>h a0 a1
@[elab_as_elim] theorem nc {α:Type} {p:List α->Prop} (h:∀a0 a1 a2,p [a0,a1,a2]):∀us:List α,us.length=3->p us
 | [a0,a1,a2],_=>h a0 a1 a2
theorem all_ok {l:PySem.W.OpenLaw}{w:JY}{K:IU}{h:Heap}{mg:Str->Option IW}{fa:Addr}(X:K.In h)(e0:yo asks K=xv asks top)(G:h.Ns JG mg)(hfa:mg "law" =some (.ref fa)) :
  ∃fd:J0,(∀(s:IY) (v:IW),NC s fd ⟨[v],[]⟩ [("_law_script",v)])/\∀base:Heap,K.In base->base.Ns JG mg->nR l.prog w K mg base CX0 15 fa fd ["_law_script"] (spP K 1 m_law):=by
 have e:rW zR K=rk zR top:=congrArg (·.1) e0
 obtain⟨kc0,ka0,km0⟩:=CJ (A:=⟨"Sketch",50,["past","ahead"],[("__init__","Sketch.__init__",0),("go_on","Sketch.go_on",2),("record","Sketch.record",1),("write","Sketch.write",3),("cut","Sketch.cut",5),("good","Sketch.good",6),("counts","Sketch.counts",9)]⟩) X G (jw 0 (congrArg (·.2) e0) rfl)
 have K_Sketch:de K mg:=⟨kc0,ka0 _ (by decide),ka0 _ (by decide)⟩
 obtain⟨kc1,ka1,km1⟩:=CJ (A:=⟨"Desk",52,["kept"],[("__init__","Desk.__init__",0),("keep","Desk.keep",2),("record","Desk.record",1),("take","Desk.take",3)]⟩) X G (jw 1 (congrArg (·.2) e0) rfl)
 have K_Desk:gC K mg:=⟨kc1,ka1 _ (by decide)⟩
 have B:Bl mg:=⟨fU 0 X G e rfl,fU 1 X G e rfl,fU 2 X G e rfl,fU 3 X G e rfl,fU 4 X G e rfl,fU 5 X G e rfl,fU 6 X G e rfl,fU 7 X G e rfl,fU 8 X G e rfl,fU 9 X G e rfl⟩
 have C:Cs mg:=⟨o6 0 X G e rfl,o6 1 X G e rfl,o6 2 X G e rfl,o6 3 X G e rfl,o6 4 X G e rfl,o6 5 X G e rfl⟩;obtain⟨C_ClockError,ls,xD,xl,nd⟩:=Eu (G1 e);obtain⟨C_NoRecord,ls0,x_NoRecord,rfl,xl0⟩:=iY xl;obtain⟨C_NoNumber,ls1,x_NoNumber,rfl,xl1⟩:=iY xl0;obtain⟨C_NoWorld,ls2,x_NoWorld,rfl,xl2⟩:=iY xl1;obtain⟨C_Barred,ls3,x_Barred,rfl,xl3⟩:=iY xl2;cases zT xl3
 have S:Xs K mg C_NoRecord C_NoNumber C_NoWorld C_Barred C_ClockError:=⟨Ma X G (hY x_NoRecord).1,Ma X G (hY x_NoNumber).1,Ma X G (hY x_NoWorld).1,Ma X G (hY x_Barred).1,Ma X G (hY xD).1,HE x_NoRecord xD,HE x_NoNumber xD,HE x_NoWorld xD,HE x_Barred xD,ox0 xD,nd⟩;obtain⟨fd36,aaO,bnd⟩:=GX (n:="law") (i:=61) (x:="_law_script") 36 X G e rfl hfa λ_ _ _ _ _ _ _=>rfl
 refine⟨fd36,bnd,λbase _ _=> ?_⟩
 have aa3:=tY l.prog w base (cO 0 X G e rfl λ_ _ _ _ _ _ us hl=>nc (λ_ _ _=>rfl) us hl) B
 have aaG:=rQ l.prog w base (cO 1 X G e rfl λ_ _ _ _ _ _ us hl=>dB (λ_=>rfl) us hl) B
 have aa2:=p9 l.prog w base (cO 2 X G e rfl λ_ _ _ _ _ _ us hl=>nc (λ_ _ _=>rfl) us hl) aaG
 have aaJ:=tW l.prog w base (cO 3 X G e rfl λ_ _ _ _ _ _ us hl=>dA (λ_ _=>rfl) us hl) aa2 C
 have aaM:=yn l.prog w base (cO 4 X G e rfl λ_ _ _ _ _ _ us hl=>dB (λ_=>rfl) us hl) B
 have aak:=lz l.prog w base (cO 5 X G e rfl λ_ _ _ _ _ _ us hl=>dB (λ_=>rfl) us hl) aa3 aaM aa2 B C
 have aaH:=rV l.prog w base (cO 6 X G e rfl λ_ _ _ _ _ _ us hl=>dB (λ_=>rfl) us hl) aa3 aaJ aak
 have aaw:=oa l.prog w base (cO 7 X G e rfl λ_ _ _ _ _ _ us hl=>dB (λ_=>rfl) us hl) aa3 aaH B C
 have aav:=rR l.prog w base (cO 8 X G e rfl λ_ _ _ _ _ _ us hl=>dA (λ_ _=>rfl) us hl) aa2 aa3 B
 have aaI:=rS l.prog w base (cO 9 X G e rfl λ_ _ _ _ _ _ us hl=>dA (λ_ _=>rfl) us hl) aa2 C
 have aaB:=qc l.prog w base (cO 10 X G e rfl λ_ _ _ _ _ _ us hl=>dA (λ_ _=>rfl) us hl) aav aa3 aaI
 have aap:=mK l.prog w base (cO 11 X G e rfl λ_ _ _ _ _ _ us hl=>dA (λ_ _=>rfl) us hl) aa3 aaB B C
 have aaC:=qb l.prog w base (cO 12 X G e rfl λ_ _ _ _ _ _ us hl=>dB (λ_=>rfl) us hl) aa3 aaw aap
 have aa1:=mI l.prog w base (cO 13 X G e rfl λ_ _ _ _ _ _ us hl=>dB (λ_=>rfl) us hl) aaC S
 have c_Sketch___init__:=jr l.prog w base (fz 0 km0 rfl λ_ _ _ _ _ _ us hl=>dA (λ_ _=>rfl) us hl) aa1 K_Sketch
 have aal:=wm l.prog w base (cO 14 X G e rfl λ_ _ _ _ _ _ us hl=>dB (λ_=>rfl) us hl) aa1 B
 have aaD:=qd l.prog w base (cO 15 X G e rfl λ_ _ _ _ _ _ us hl=>nc (λ_ _ _=>rfl) us hl)
 have aam:=wj l.prog w base (cO 16 X G e rfl λ_ _ _ _ _ _ us hl=>dA (λ_ _=>rfl) us hl) aaD B
 have aah:=jZ l.prog w base (cO 17 X G e rfl λ_ _ _ _ _ _ us hl=>dA (λ_ _=>rfl) us hl) aal aam B
 have aag:=jq l.prog w base (cO 18 X G e rfl λ_ _ _ _ _ _ us hl=>dA (λ_ _=>rfl) us hl) B
 have aae:=iZ l.prog w base (cO 19 X G e rfl λ_ _ _ _ _ _ us hl=>dB (λ_=>rfl) us hl)
 have aan:=wo l.prog w base (cO 20 X G e rfl λ_ _ _ _ _ _ us hl=>dB (λ_=>rfl) us hl) aa1 aag aae B
 have aaN:=yk l.prog w base (cO 21 X G e rfl λ_ _ _ _ _ _ us hl=>dB (λ_=>rfl) us hl) aah aan
 have aa4:=qf l.prog w base (cO 22 X G e rfl λ_ _ _ _ _ _ us hl=>dB (λ_=>rfl) us hl) aaN
 have aax:=n9 l.prog w base (cO 23 X G e rfl λ_ _ _ _ _ _ us hl=>dB (λ_=>rfl) us hl) aa4 S
 have c_Desk___init__:=kx l.prog w base (fz 0 km1 rfl λ_ _ _ _ _ _ us hl=>dA (λ_ _=>rfl) us hl) aax K_Desk
 have aaE:=qg l.prog w base (cO 24 X G e rfl λ_ _ _ _ _ _ us hl=>dA (λ_ _=>rfl) us hl) B
 have aa0:=oh l.prog w base (cO 25 X G e rfl λ_ _ _ _ _ _ us hl=>nc (λ_ _ _=>rfl) us hl) aaE
 have aar:=mO l.prog w base (cO 26 X G e rfl λ_ _ _ _ _ _ us hl=>dB (λ_=>rfl) us hl) B
 have aaa:=mM l.prog w base (cO 27 X G e rfl λ_ _ _ _ _ _ us hl=>nc (λ_ _ _=>rfl) us hl) aar aa0 B
 have aay:=oj l.prog w base (cO 28 X G e rfl λ_ _ _ _ _ _ us hl=>dA (λ_ _=>rfl) us hl) aa0 B
 have aat:=mL l.prog w base (cO 29 X G e rfl λ_ _ _ _ _ _ us hl=>nc (λ_ _ _=>rfl) us hl) aa0 aaa aay B
 have c_Sketch_go_on:=lC l.prog w base (fz 1 km0 rfl λ_ _ _ _ _ _ us hl=>nc (λ_ _ _=>rfl) us hl) aa4 K_Sketch
 have aaF:=qe l.prog w base (cO 30 X G e rfl λ_ _ _ _ _ _ us hl=>dB (λ_=>rfl) us hl) aa1
 have aab:=mH l.prog w base (cO 31 X G e rfl λ_ _ _ _ _ _ us hl=>dA (λ_ _=>rfl) us hl) aa1 aaF
 have c_Sketch_record:=kr l.prog w base (fz 2 km0 rfl λ_ _ _ _ _ _ us hl=>dB (λ_=>rfl) us hl) K_Sketch
 have c_Sketch_write:=lA l.prog w base (fz 3 km0 rfl λ_ _ _ _ _ _ us hl=>dA (λ_ _=>rfl) us hl) c_Sketch_go_on aab c_Sketch_record K_Sketch
 have aas:=mJ l.prog w base (cO 32 X G e rfl λ_ _ _ _ _ _ us hl=>dA (λ_ _=>rfl) us hl) aa2 S
 have aai:=jY l.prog w base (cO 33 X G e rfl λ_ _ _ _ _ _ us hl=>dA (λ_ _=>rfl) us hl) aa1 aas B
 have c_Sketch_cut:=om l.prog w base (fz 4 km0 rfl λ_ _ _ _ _ _ us hl=>dA (λ_ _=>rfl) us hl) c_Sketch_go_on aai c_Sketch_record K_Sketch
 have c_Sketch_good:=mP l.prog w base (fz 5 km0 rfl λ_ _ _ _ _ _ us hl=>dB (λ_=>rfl) us hl) aa4 B K_Sketch
 have c_Sketch_counts:=ku l.prog w base (fz 6 km0 rfl λ_ _ _ _ _ _ us hl=>dB (λ_=>rfl) us hl) B K_Sketch
 have aaL:=tZ l.prog w base (cO 34 X G e rfl λ_ _ _ _ _ _ us hl=>dB (λ_=>rfl) us hl) aam aan aal
 have c_Desk_keep:=qi l.prog w base (fz 1 km1 rfl λ_ _ _ _ _ _ us hl=>dA (λ_ _=>rfl) us hl) aa4 K_Desk S
 have c_Desk_record:=mQ l.prog w base (fz 2 km1 rfl λ_ _ _ _ _ _ us hl=>dB (λ_=>rfl) us hl) K_Desk
 have c_Desk_take:=qh l.prog w base (fz 3 km1 rfl λ_ _ _ _ _ _ us hl=>dA (λ_ _=>rfl) us hl) c_Desk_keep aab c_Desk_record B K_Desk
 have aaz:=og l.prog w base (cO 35 X G e rfl λ_ _ _ _ _ _ us hl=>dA (λ_ _=>rfl) us hl) c_Desk_take K_Desk S
 exact(Et l.prog w base aaO c_Sketch___init__ c_Desk___init__ aat c_Sketch_write c_Sketch_record c_Sketch_cut aa4 aaa c_Sketch_good c_Sketch_counts aa0 aaL aaz c_Desk_record B K_Desk K_Sketch).h
end G
namespace Tr
open PySem
abbrev RR (cs ls:List T):T:=.tup [.tup cs,.tup ls]
mutual
def T.pl:T->Bool
 | .scr _=>false
 | .dct _ _=>false
 | .ob _ _ _=>false
 | .tup l=>plS l
 | .lst l=>plS l
 | _=>true
def plS:List T->Bool
 | [] =>true
 | t::l=>t.pl&&plS l
end
theorem gv:∀{l:List T} {t:T},plS l=true->t∈l->t.pl=true
 | [],_,_,h=>by cases h
 | u::l,t,h,m=>by
  unfold plS at h;rw[IV]at h;rcases Jg.mp m with rfl | m
  ·exact h.1
  ·exact gv h.2 m
mutual
theorem T.HY:∀(t:T),t.pl=true->t.nd=true
 | .non,_=>rfl
 | .bl _,_=>rfl
 | .int _,_=>rfl
 | .str _,_=>rfl
 | .scr _,h=>by cases h
 | .dct _ _,h=>by cases h
 | .ob _ _ _,h=>by cases h
 | .tup l,h=>by unfold T.pl at h;unfold T.nd;exact plS_nds l h
 | .lst l,h=>by unfold T.pl at h;unfold T.nd;exact plS_nds l h
theorem plS_nds:∀(l:List T),plS l=true->nds l=true
 | [],_=>rfl
 | t::l,h=>by
  unfold plS at h;rw[IV]at h;unfold nds;rw[T.HY t h.1,plS_nds l h.2];rfl
end
theorem ug {fe:En->Rs T}{h:T->T}:∀(ts:List T) (Z:En),0<Z.length->(∀t∈ts,fe (Z.set 0 (.va t))= .ok (h t))->dM (gN 0) bT fe ts Z= .ok (ts.map h)
 | [],_,_,_=>rfl
 | t::r,Z,hl,hf=>by
  unfold dM
  have e1:gN 0 t Z= .ok (Z.set 0 (.va t)):=by unfold gN;rw[if_pos hl]
  have ih:=ug r (Z.set 0 (.va t)) (by rw[Ki];exact hl) (λu hu=>by rw[List.set_set];exact hf u (IX _ hu))
  simp only[e1,ay,bT,if_true,hf t Je,ih,IZ]
theorem ph (p:T->Bool):∀l:List T,nL (l.map λt=>T.bl (p t))=some (l.map p)
 | [] =>rfl
 | t::l=>by rw[IZ,nL,ph p l];rfl
theorem all_map (p:T->Bool)(l:List T):oF [.lst (l.map λt=>T.bl (p t))] = .ok (.bl (l.all p)):=by
 simp only[oF,ph,List.all_map]
 rfl
theorem jA {α:Type}{l:List α}{k:Nat}{t:α}(h:l[k]? =some t):L2.atI l (k:Int)=some t:=by
 have hk:k<l.length:=(Jh.mp h).1
 unfold L2.atI L2.ixN;rw[if_pos (by omega),if_pos (by omega),Kc]
 exact h
theorem aF {n k:Nat}(h:n<=k)(hk:k<=1000:=by decide):n<=sizeLine:=by unfold sizeLine;omega
section
variable {f fa fb fc:En->Rs T}{fs:En->Rs (List T)}{b c:En->Rs Bool}{F G:En->Rs Fl}{Z Z' Z1 Z2:En}{t u r:T}{ts l m:List T}
theorem By {i:Nat}(h:Z[i]? =some (.va t)):vr i Z= .ok t:=by unfold vr;rw[h]
theorem aJ {g:T->T->Rs T}{x:Rs T}(ha:fa Z= .ok t)(hb:fb Z= .ok u)(hg:g t u=x):o2 g fa fb Z=x:=by unfold o2;rw[ha,hb];exact hg
theorem Bz {g:T->Rs T}{x:Rs T}(ha:fa Z= .ok t)(hg:g t=x):o1 g fa Z=x:=by unfold o1;rw[ha];exact hg
theorem GV {g:T->T->Rs T}{x:Rs T}{ks vs:List T}(ha:fa Z= .ok (.dct ks vs))(hb:fb Z= .ok u)(hg:g (.dct ks vs) u=x):oD g fa fb Z=x:=by unfold oD;rw[ha];show(fb Z >>= g (.dct ks vs))=_;rw[hb];exact hg
theorem k_oL {g:T->T->Rs T}{x:Rs T}{ks:List T}(ha:fa Z= .ok (.lst ks))(hb:fb Z= .ok u)(hg:g (.lst ks) u=x):oL g fa fb Z=x:=by unfold oL;rw[ha];show(fb Z >>= g (.lst ks))=_;rw[hb];exact hg
theorem au (h:f Z= .ok t)(hs:fs Z= .ok ts):ae f fs Z= .ok (t::ts):=by unfold ae;rw[h,hs];rfl
theorem br {g:List T->Rs T}{x:Rs T}(h:fs Z= .ok ts)(hg:g ts=x):cl g fs Z=x:=by unfold cl;rw[h];exact hg
theorem cF {k:Bool}(h:f Z= .ok (.bl k)):tb f Z= .ok k:=by unfold tb;rw[h];rfl
theorem gQ {k:Bool}(h:b Z= .ok k):cK b Z= .ok (!k):=by unfold cK;rw[h];rfl
theorem GU (h:b Z= .ok true):mG b c Z= .ok true:=by unfold mG;rw[h];rfl
theorem yR {x:Rs Bool}(h:b Z= .ok false)(h2:c Z=x):mG b c Z=x:=by unfold mG;rw[h];exact h2
theorem ES (h:b Z= .ok false):sY b c Z= .ok false:=by unfold sY;rw[h];rfl
theorem ER {x:Rs Bool}(h:b Z= .ok true)(h2:c Z=x):sY b c Z=x:=by unfold sY;rw[h];exact h2
theorem y0 (h:fa Z= .ok (.bl true)):bZ fa fb Z=fb Z:=by unfold bZ;rw[h];rfl
theorem EL (h:fa Z= .ok (.bl true)):z5 fa fb Z= .ok (.bl true):=by unfold z5;rw[h];rfl
theorem EM (h:fa Z= .ok (.bl false)):z5 fa fb Z=fb Z:=by unfold z5;rw[h];rfl
theorem CH {p:Bool}(h:b Z= .ok p):CK b fa fb Z=if p then fa Z else fb Z:=by unfold CK;rw[h];rfl
theorem cG {g:T->En->Rs En}(h:f Z= .ok t)(hg:g t Z= .ok Z'):cJ f g Z= .ok (.nx Z'):=by unfold cJ;rw[h];show(match g t Z with | .ok Z'=>Rs.ok (Fl.nx Z') | _=> .bad)=_;rw[hg]
theorem aD (h:F Z= .ok (.nx Z')):aA F G Z=G Z':=by unfold aA;rw[h];rfl
theorem ik (h:F Z= .ok (.rt t)):aA F G Z= .ok (.rt t):=by unfold aA;rw[h];rfl
theorem yQ (h:F Z= .ok (.ct Z')):aA F G Z= .ok (.ct Z'):=by unfold aA;rw[h];rfl
theorem EI {c:Str}(h:F Z= .err c):aA F G Z= .err c:=by unfold aA;rw[h];rfl
theorem gj (h:b Z= .ok true):eO b F G Z=F Z:=by unfold eO;rw[h];rfl
theorem eC (h:b Z= .ok false):eO b F G Z=G Z:=by unfold eO;rw[h];rfl
theorem cV (h:f Z= .ok t):aI f Z= .ok (.rt t):=by unfold aI;rw[h];rfl
theorem EJ {c:Str}(h:f Z= .err c):aI f Z= .err c:=by unfold aI;rw[h];rfl
theorem wL (h:f Z= .ok t):v9 f Z= .ok (.nx Z):=by unfold v9;rw[h];rfl
theorem G0 {c:Str}(h:f Z= .err c):v9 f Z= .err c:=by unfold v9;rw[h];rfl
theorem gk {fi:En->Rs (List T)}{g:T->En->Rs En}{x:Fl}(h:fi Z= .ok ts)(h2:bp g F ts Z= .ok x):gU fi g F Z= .ok x:=by unfold gU;rw[h];show(match bp g F ts Z with | .ok f=>Rs.ok f | _=> .bad)=_;rw[h2]
theorem fA {g:T->En->Rs En}(h:g t Z= .ok Z1)(h2:F Z1= .ok (.nx Z2)):bp g F (t::ts) Z=bp g F ts Z2:=by rw[bp,h];show(F Z1 >>= _)=_;rw[h2];rfl
theorem BB {g:T->En->Rs En}(h:g t Z= .ok Z1)(h2:F Z1= .ok (.ct Z2)):bp g F (t::ts) Z=bp g F ts Z2:=by rw[bp,h];show(F Z1 >>= _)=_;rw[h2];rfl
theorem qH {g:T->En->Rs En}(h:g t Z= .ok Z1)(h2:F Z1= .ok (.rt r)):bp g F (t::ts) Z= .ok (.rt r):=by rw[bp,h];show(F Z1 >>= _)=_;rw[h2];rfl
theorem yP {n:Nat}(h:c Z= .ok false):bK c F (n+1) Z= .ok (.nx Z):=by unfold bK;rw[h]
theorem sr {n:Nat}(h:c Z= .ok true)(h2:F Z= .ok (.nx Z')):bK c F (n+1) Z=bK c F n Z':=by rw[bK,h];simp only[h2]
theorem yO {n:Nat}(h:c Z= .ok true)(h2:F Z= .ok (.rt t)):bK c F (n+1) Z= .ok (.rt t):=by rw[bK,h];simp only[h2]
theorem cf {n m:Nat}(hl:ts.length=n)(h:F (aK m ts)= .ok (.rt t)):val n m F ts= .ok t:=by unfold val;rw[if_pos hl];unfold bw;rw[h];rfl
theorem ui {n m:Nat}{c:Str}(hl:ts.length=n)(h:F (aK m ts)= .err c):val n m F ts= .err c:=by unfold val;rw[if_pos hl];unfold bw;rw[h];rfl
theorem uh {n m:Nat}(hl:ts.length=n)(h:F (aK m ts)= .ok (.nx Z)):val n m F ts= .ok .non:=by unfold val;rw[if_pos hl];unfold bw;rw[h];rfl
theorem wK {fi:En->Rs (List T)}{src:List (Option Nat)}{fe:En->Rs T}{h:T->T}(hi:fi Z= .ok ts)(hs:ts.length<=sizeLine)(hn:0<src.length)(hf:∀t∈ts,fe ((dj src Z).set 0 (.va t))= .ok (h t)) :
  iO fi src (gN 0) bT fe Z= .ok (.lst (ts.map h)):=by
 have e:=ug (fe:=fe) (h:=h) ts (dj src Z) (by unfold dj;rw[Jd];exact hn) hf
 unfold iO;rw[hi,ay,if_pos hs,e]
theorem cx (h:fs Z= .ok ts)(hl:ts.length<=sizeLine):bA fs Z= .ok (.tup ts):=by unfold bA;rw[h];show jg ts=_;unfold jg;rw[if_pos hl]
theorem sv (h:fs Z= .ok ts)(hl:ts.length<=sizeLine):gW fs Z= .ok (.lst ts):=by unfold gW;rw[h];show jh ts=_;unfold jh;rw[if_pos hl]
theorem yS {f:En->Rs (List T)}{i:Nat}(h:f Z= .ok l)(hi:i<Z.length)(hl:l.length<=1000):je i f Z= .ok (.nx (Z.set i (.ow (.lst l)))):=by
 unfold je;rw[h,ay,if_pos ⟨hi,aF hl (by omega)⟩]
theorem yT {i:Nat}(hi:i<Z.length):je i aj Z= .ok (.nx (Z.set i (.ow (.lst [])))):=yS rfl hi (KS _)
theorem yZ {i:Nat}(h:f Z= .ok t)(hi:Z[i]? =some (.ow (.lst l)))(hl:l.length<=1000):n6 i f Z= .ok (.nx (Z.set i (.ow (.lst (l++ [t]))))):=by
 unfold n6;rw[hi];simp only[h,ay];rw[if_pos (by unfold sizeLine;omega)]
theorem yY {i:Nat}(h:f Z= .ok (.lst m))(hi:Z[i]? =some (.ow (.lst l)))(hl:l.length+m.length<=1000):my i f Z= .ok (.nx (Z.set i (.ow (.lst (l++m))))):=by
 unfold my;rw[hi];simp only[h,ay,E5];rw[if_pos (by unfold sizeLine;omega)]
theorem yX (h:f Z= .ok (.lst l)):iS f Z= .ok l:=by unfold iS;rw[h];rfl
theorem GZ (h:fs Z= .ok [.lst l]):iE fs Z= .ok (cH 0 l):=by unfold iE;rw[h];rfl
theorem CG {n:Nat}(e:l[n]? =some t):aY (.tup l) (.int (n:Int))= .ok t:=by show(match L2.atI l _ with | some t=>Rs.ok t | none=> .bad)=_;rw[jA e]
theorem EO {n:Nat}(e:l[n]? =some t):aY (.lst l) (.int (n:Int))= .ok t:=by show(match L2.atI l _ with | some t=>Rs.ok t | none=> .bad)=_;rw[jA e]
theorem oA {n:Nat}(h:fa Z= .ok (.tup l))(h2:fb Z= .ok (.int (n:Int)))(e:l[n]? =some t):o2 aY fa fb Z= .ok t:=aJ h h2 (CG e)
theorem GY {n:Nat}(h:fa Z= .ok (.lst l))(h2:fb Z= .ok (.int (n:Int)))(e:l[n]? =some t):o2 aY fa fb Z= .ok t:=aJ h h2 (EO e)
theorem GS {fe:En->Rs T}{fl fu:En->Rs (Option Int)}{lo hi:Option Int}(h:fe Z= .ok (.tup l))(h1:fl Z= .ok lo)(h2:fu Z= .ok hi):sl fe fl fu Z= .ok (.tup (lI l lo hi)):=by
 unfold sl;rw[h,h1,h2];rfl
theorem GQ {fe:En->Rs T}{fl fu:En->Rs (Option Int)}{lo hi:Option Int}(h:fe Z= .ok (.lst l))(h1:fl Z= .ok lo)(h2:fu Z= .ok hi):sl fe fl fu Z= .ok (.lst (lI l lo hi)):=by
 unfold sl;rw[h,h1,h2];rfl
theorem EK {i:Int}(h:f Z= .ok (.int i)):pS f Z= .ok (some i):=by unfold pS;rw[h];rfl
theorem zK (l:List T)(n:Nat):lI l none (some (n:Int))=l.take n:=by
 unfold lI;rw[HT.sIx_none,HT.sIx_nat,List.drop_zero,Nq,List.take_eq_take_iff];omega
theorem sV (l:List T)(n:Nat):lI l (some (n:Int)) none=l.drop n:=by
 unfold lI;rw[HT.sIx_none,HT.sIx_nat]
 by_cases h:n<=l.length
 ·rw[Nat.min_eq_left h]
  exact List.take_of_length_le (by rw[Lp];omega)
 ·rw[Nat.min_eq_right (by omega),LQ (Ji _),LQ (by omega),List.take_nil]
theorem yW {i:Nat}{o:OT}(hi:Z[i]? =some (.ow o))(h:f (disown i Z)= .ok t)(hk:t.nk o.isD=true):ln i f Z= .ok t:=by
 unfold ln;rw[hi];simp only[h,ay,hk,if_true]
theorem GW {i:Nat}{k:Bool}(h:b (disown i Z)= .ok k):EC i b Z= .ok k:=h
theorem G3 {i:Nat}{x:Rs Fl}(h:F (disown i Z)=x):pU i F Z=x:=h
end
theorem mk2 (a b:T):jg [a,b] = .ok (.tup [a,b]):=by unfold jg;rw[if_pos (aF (k:=1000) (by simp only[Jb,Pl];omega))]
theorem iG (n:Nat):(rng 0 n).length=n:=by unfold rng;rw[Jd,Lh];omega
section
variable {Z Z':En}{f fa fo:En->Rs T}{fs:En->Rs (List T)}{t u:T}{ts l:List T}{x:En->Rs (T×En)}{c m n a:Str}{ns:List Str}{ls:List (List T)}{i j:Nat}{F G:En->Rs Fx}{o:OT}{g:List Sl->Rs (T×OT)}{d:Str}
theorem vn {gm:List T->Rs T}{r:Rs T}(h:fo Z= .ok (.ob c ns ts))(hm:ns.contains m=false)(hs:fs Z= .ok l)(hg:gm (.ob c ns ts::l)=r):iJ c m gm fo fs Z=r:=by
 unfold iJ;rw[h];show(if _ then _ else _)=_;rw[if_pos ⟨rfl,hm⟩,hs];exact hg
theorem sy (h:fa Z= .ok (.ob c ns ts))(hg:ir a ns ts=some t):o1 (nA c a) fa Z= .ok t:=Bz h (by show(if _ then _ else _)=_;rw[if_pos rfl,hg])
theorem yL (h:f Z= .ok t):xP f Z= .ok (t,Z):=by unfold xP;rw[h];rfl
theorem yN (hi:Z[i]? =some (.ow (.ob c ns ls)))(hf:ir a ns ls=some l)(h:fa Z= .ok t)(hl:l.length<=1000):tw i c a fa Z= .ok (.non,Z.set i (.ow (.ob c ns (gV a (l++ [t]) ns ls)))):=by
 unfold tw;rw[hi];show(if _ then _ else _)=_;rw[if_pos rfl,hf];show(fa Z >>= _)=_;rw[h];show(if _ then _ else _)=_;rw[if_pos (by unfold sizeLine;omega)]
theorem yK {r:Rs (T×OT)}(h:r= .ok (t,o)):xq i Z r= .ok (t,Z.set i (.ow o)):=by rw[h];rfl
theorem iP (hi:Z[i]? =some (.ow (.ob c ns ls)))(hm:ns.contains m=false)(hs:fs Z= .ok ts)(h:g (.ow (.ob c ns ls)::ts.map Sl.va)= .ok (t,o)):ee i c m g fs Z= .ok (t,Z.set i (.ow o)):=by
 unfold ee;rw[hi];show(if _ then _ else _)=_;rw[if_pos ⟨rfl,hm⟩,hs];exact yK h
theorem sk (hi:Z[i]? =some (.ow (.ob c ns ls)))(hm:ns.contains m=false)(hs:fs Z= .ok ts)(h:g (.ow (.ob c ns ls)::ts.map Sl.va)= .err d):ee i c m g fs Z= .err d:=by
 unfold ee;rw[hi];show(if _ then _ else _)=_;rw[if_pos ⟨rfl,hm⟩,hs];show xq i Z _=_;rw[h];rfl
theorem yM (hi:Z[i]? =some (.ow o))(hs:fs Z= .ok ts){o':OT}(h:g (.ow o::ts.map Sl.va)= .ok (t,o')):tq i g fs Z= .ok (t,Z.set i (.ow o')):=by
 unfold tq;rw[hi];show(fs Z >>= _)=_;rw[hs];exact yK h
theorem il {k:Fx}(h:F Z= .ok (.nx Z'))(h2:G Z'= .ok k):jx F G Z= .ok k:=by unfold jx;rw[h];show xh (G Z')=_;rw[h2];rfl
theorem qF (h:F Z= .err d):jx F G Z= .err d:=by unfold jx;rw[h]
theorem o5 (h:x Z= .ok (t,Z')):wB x Z= .ok (.nx Z'):=by unfold wB;rw[h];rfl
theorem yV (h:x Z= .err d):wB x Z= .err d:=by unfold wB;rw[h];rfl
theorem nt (h:x Z= .ok (t,Z')):m5 x Z= .ok (.rt t Z'):=by unfold m5;rw[h];rfl
theorem CF {b:En->Rs Bool}{k:Bool}(h:b Z= .ok k):Fu b F G Z=if k then F Z else G Z:=by unfold Fu;rw[h];rfl
theorem qG (hi:Z[i]? =some (.ow (.ob c ns ls)))(hs:fs Z= .ok l)(hl:l.length<=1000)(hn:ns.length<1000):qA i c a fs Z= .ok (.nx (Z.set i (.ow (if ns.contains a then .ob c ns (gV a l ns ls)else .ob c (ns++ [a]) (ls++ [l]))))):=by
 unfold qA;rw[hi];show(fs Z >>= _)=_;rw[hs];show(if _ then _ else _)=_;rw[if_pos ⟨rfl,by unfold sizeLine;omega,hn⟩]
theorem EN {h:Str->Rs T}{k:Fx}(e:F Z= .ok k):si F h Z= .ok k:=by unfold si;rw[e]
theorem BA {h:Str->Rs T}(e:F Z= .err d)(e2:h d= .ok t):si F h Z= .ok (.rt t Z):=by unfold si;rw[e];simp only[e2]
theorem kM {sls:List Sl}{N M:Nat}(hl:sls.length=N)(h:F (dX M sls)= .ok (.rt t Z))(hj:Z[j]? =some (.ow o)):fR N j M F sls= .ok (t,o):=by unfold fR;rw[if_pos hl,h];show n8 j (.rt t Z)=_;unfold n8;simp only[hj]
theorem qE {sls:List Sl}{N M:Nat}(hl:sls.length=N)(h:F (dX M sls)= .ok (.nx Z))(hj:Z[j]? =some (.ow o)):fR N j M F sls= .ok (.non,o):=by unfold fR;rw[if_pos hl,h];show n8 j (.nx Z)=_;unfold n8;simp only[hj]
theorem vm {sls:List Sl}{N M:Nat}(hl:sls.length=N)(h:F (dX M sls)= .err d):fR N j M F sls= .err d:=by unfold fR;rw[if_pos hl,h];rfl
theorem G2 (h:x Z= .ok (t,Z')):rJ x Z= .ok (.nx Z'):=by unfold rJ;rw[h];rfl
theorem G5 (h:x Z= .ok (t,Z'))(hl:i<Z'.length):tQ i x Z= .ok (.nx (Z'.set i (.va t))):=by unfold tQ;rw[h];show(if _ then _ else _)=_;rw[if_pos hl]
theorem yU (hs:fs Z= .ok ts)(h:g (.ow (.ob c [] [])::ts.map Sl.va)= .ok (.non,o))(hl:i<Z.length):mx i c g fs Z= .ok (.nx (Z.set i (.ow o))):=by
 unfold mx;rw[hs];show(xh (g _) >>= _)=_;rw[h];show(if _ then _ else _)=_;rw[if_pos hl]
theorem CD {r:T->T->Rs T}{v:T}(h:x Z= .ok (t,Z'))(h2:f Z'= .ok u)(hr:r t u= .ok v):Aq r x f Z= .ok (v,Z'):=by unfold Aq;rw[h];show(xh (f Z' >>= _) >>= _)=_;rw[h2];show(xh (r t u) >>= _)=_;rw[hr];rfl
theorem CC {b:Bool}(h:x Z= .ok (.bl b,Z')):Df x Z= .ok (b,Z'):=by unfold Df;rw[h];rfl
theorem CB {b:En->Rs Bool}{k:Bool}(h:b Z= .ok k):De b Z= .ok (k,Z):=by unfold De;rw[h];rfl
theorem vk {y z:En->Rs (Bool×En)}{p:Bool×En}(h:y Z= .ok (false,Z'))(h2:z Z'= .ok p):tp y z Z= .ok p:=by unfold tp;rw[h];show xh (z Z')=_;rw[h2];rfl
theorem CI {y:En->Rs (Bool×En)}{A B:En->Rs Fl}{b:Bool}(h:y Z= .ok (b,Z')):tN y A B Z=if b then A Z' else B Z':=by unfold tN;rw[h];rfl
end
end Tr
namespace Gr
variable {ν:Type}[DecidableEq ν]
abbrev cD (ν:Type):=List (ν×ν×Int)
inductive Wk (L:cD ν):ν->ν->Int->Prop
 | nil (a:ν):Wk L a a 0
 | step {a b c:ν} {m s:Int}:(a,b,m)∈L->Wk L b c s->Wk L a c (m+s)
theorem Wk.one {L:cD ν}{a b:ν}{m:Int}(h:(a,b,m)∈L):Wk L a b m:=by
 have:=Wk.step h (Wk.nil (L:=L) b)
 rwa [Int.add_zero]at this
theorem Wk.app {L:cD ν}{a b c:ν}{s t:Int}(h:Wk L a b s)(k:Wk L b c t):Wk L a c (s+t):=by
 induction h with
 | nil a=>rwa [Int.zero_add]
 | step e _ ih=>rw[Int.add_assoc];exact .step e (ih k)
theorem Wk.mono {L M:cD ν}(h:∀x∈L,x∈M){a b:ν}{s:Int}(w:Wk L a b s):Wk M a b s:=by
 induction w with
 | nil a=>exact .nil a
 | step e _ ih=>exact .step (h _ e) ih
def Holds (L:cD ν)(t:ν->Int):Prop:=∀a b m,(a,b,m)∈L->t b - t a<=m
theorem Holds.walk {L:cD ν}{t:ν->Int}(h:Holds L t){a b:ν}{s:Int}(w:Wk L a b s):t b - t a<=s:=by
 induction w with
 | nil a=>omega
 | step e _ ih=>have:=h _ _ _ e;omega
def NoNeg (L:cD ν):Prop:=∀a s,Wk L a a s->0<=s
theorem Holds.Iu {L:cD ν}{t:ν->Int}(h:Holds L t):NoNeg L:=λa s w=>by have:=h.walk w;omega
theorem NoNeg.mono {L M:cD ν}(h:∀x∈L,x∈M)(n:NoNeg M):NoNeg L:=λa s w=>n a s (w.mono h)
def Ch (L:cD ν):ν->List Nat->ν->Prop
 | a,[],b=>a=b
 | a,k::r,b=> ∃c m,L[k]? =some (a,c,m)/\Ch L c r b
def most (L:cD ν)(k:Nat):Int:=match L[k]? with
 | some x=>x.2.2
 | none=>0
def dU (L:cD ν):List Nat->Int
 | [] =>0
 | k::r=>most L k+dU L r
theorem kc (L:cD ν):∀(p q:List Nat),dU L (p++q)=dU L p+dU L q
 | [],q=>by simp[dU]
 | k::p,q=>by rw[O6,dU,dU,kc L p q];omega
theorem Ch.wk {L:cD ν}:∀{ks:List Nat} {a b:ν},Ch L a ks b->Wk L a b (dU L ks)
 | [],a,b,h=>by cases h;exact .nil a
 | k::r,a,b,⟨c,m,e,h⟩=>by
  have:dU L (k::r)=m+dU L r:=by rw[dU,most,e]
  rw[this];exact .step (Ky e) h.wk
theorem Ch.app {L:cD ν}:∀{p q:List Nat} {a b c:ν},Ch L a p b->Ch L b q c->Ch L a (p++q) c
 | [],q,a,b,c,h,k=>by cases h;exact k
 | x::p,q,a,b,c,⟨d,m,e,h⟩,k=>⟨d,m,e,Ch.app h k⟩
theorem Ch.lt {L:cD ν}:∀{ks:List Nat} {a b:ν},Ch L a ks b->∀k∈ks,k<L.length
 | [],_,_,_,k,hk=>by simp at hk
 | x::r,a,b,⟨c,m,e,h⟩,k,hk=>by
  rcases Jg.mp hk with rfl | hk
  ·exact(Jh.mp e).1
  ·exact h.lt k hk
theorem Ch.snoc {L:cD ν}{p:List Nat}{k:Nat}{a b c:ν}{m:Int}(h:Ch L a p b)(e:L[k]? =some (b,c,m)):Ch L a (p++ [k]) c:=h.app ⟨c,m,e,rfl⟩
def src (L:cD ν)(k:Nat):Option ν:=(L[k]?).map (·.1)
abbrev b6 (ν:Type):=ν->Option (Int×List Nat)
def put (b:b6 ν)(v:ν)(x:Int×List Nat):b6 ν:=λu=>if u=v then some x else b u
theorem dI {b:b6 ν}{v:ν}{x:Int×List Nat}:put b v x v=some x:=by unfold put;rw[if_pos rfl]
theorem jn {b:b6 ν}{u v:ν}{x:Int×List Nat}(h:u≠v):put b v x u=b u:=by unfold put;rw[if_neg h]
def dR (L:cD ν)(ks:List Nat):List ν:=ks.filterMap (src L)
def dN (b:b6 ν)(v:ν)(d:Int):Bool:=match b v with
 | none=>true
 | some x=>decide (d<x.1)
def gh (L:cD ν)(b:b6 ν)(k:Nat)(x:ν×ν×Int):Sum (Option (b6 ν)) (List Nat):=match b x.1 with
 | none=> .inl none
 | some (d,w)=>if dN b x.2.1 (d+x.2.2)=true then
   if x.2.1∈dR L (w++ [k])then .inr ((w++ [k]).drop ((dR L (w++ [k])).idxOf x.2.1))else .inl (some (put b x.2.1 (d+x.2.2,w++ [k])))
  else .inl none
def gK (L:cD ν):Nat->cD ν->b6 ν->Bool->Sum (b6 ν×Bool) (List Nat)
 | _,[],b,mv=> .inl (b,mv)
 | k,x::r,b,mv=>match gh L b k x with
  | .inr q=> .inr q
  | .inl none=>gK L (k+1) r b mv
  | .inl (some b')=>gK L (k+1) r b' true
def settle (L:cD ν):Nat->b6 ν->Option (Sum (b6 ν) (List Nat))
 | 0,_=>none
 | n+1,b=>match gK L 0 L b false with
  | .inr q=>some (.inr q)
  | .inl (b',true)=>settle L n b'
  | .inl (b',false)=>some (.inl b')
theorem p7 (L:cD ν)(p q:List Nat):dR L (p++q)=dR L p++dR L q:=by unfold dR;rw[List.filterMap_append]
theorem p6 {L:cD ν}{k:Nat}{x:ν×ν×Int}(e:L[k]? =some x):dR L [k] = [x.1]:=by unfold dR src;simp[e]
theorem Ch.HW {L:cD ν}{k:Nat}{r:List Nat}{a b:ν}(h:Ch L a (k::r) b):dR L (k::r)=a::dR L r:=by
 obtain⟨c,m,e,_⟩:=h;rw[show k::r= [k] ++r from rfl,p7,p6 e];rfl
theorem Ch.cut {L:cD ν}{v:ν}:∀{ks:List Nat} {a b:ν},Ch L a ks b->v∈dR L ks->Ch L a (ks.take ((dR L ks).idxOf v)) v/\Ch L v (ks.drop ((dR L ks).idxOf v)) b/\(dR L ks).idxOf v<ks.length
 | [],a,b,_,hv=>by simp[dR]at hv
 | k::r,a,b,h,hv=>by
  rw[h.HW]at hv ⊢
  have h0:=h;obtain⟨c,m,e,h⟩:=h
  by_cases z:a=v
  ·subst z
   rw[List.idxOf_cons_self];exact⟨rfl,h0,by simp⟩
  ·have hv':v∈dR L r:=by
    rcases Jg.mp hv with q | q
    ·exact absurd q.symm z
    ·exact q
   obtain⟨h1,h2,h3⟩:=h.cut hv'
   have ei:(a::dR L r).idxOf v=(dR L r).idxOf v+1:=by
    rw[Pn]
    have:(a == v)=false:=by rw[beq_eq_false_iff_ne];exact z
    rw[this];rfl
   rw[ei];exact⟨⟨c,m,e,h1⟩,h2,by simpa using h3⟩
structure Kept (L:cD ν)(S:List ν)(b:b6 ν):Prop where
 walk:∀v d w,b v=some (d,w)->∃s∈S,Ch L s w v/\dU L w=d/\v∉dR L w/\(dR L w).Nodup/\∀p q u,w=p++q->Ch L s p u->∃d' w',b u=some (d',w')/\d'<=dU L p
 start:∀s∈S,∃d w,b s=some (d,w)/\d<=0
theorem Kept.put {L:cD ν}{S:List ν}{b:b6 ν}(K:Kept L S b){k:Nat}{a c:ν}{m d:Int}{w:List Nat}(e:L[k]? =some (a,c,m))(ha:b a=some (d,w))(hb:dN b c (d+m)=true)(hn:c∉dR L (w++ [k])) :
  Kept L S (put b c (d+m,w++ [k])):=by
 have low:∀u d' w',b u=some (d',w')->∃d'' w'',Gr.put b c (d+m,w++ [k]) u=some (d'',w'')/\d''<=d':=λu d' w' h=>by
  by_cases z:u=c
  ·subst z
   refine⟨_,_,dI,?_⟩
   unfold dN at hb;rw[h]at hb
   have:=of_decide_eq_true hb;omega
  ·exact⟨d',w',by rw[jn z];exact h,Po _⟩
 obtain⟨s,hs,h1,h2,h3,h4,h5⟩:=K.walk a d w ha
 have hch:Ch L s (w++ [k]) c:=h1.snoc e
 have hcost:dU L (w++ [k])=d+m:=by rw[kc,h2,dU,dU,most,e];simp
 refine⟨λv d' w' h=> ?_,λs' hs'=> ?_⟩
 ·by_cases z:v=c
  ·subst z
   rw[dI]at h;cases h;refine⟨s,hs,hch,hcost,hn,?_,λp q u hpq hp=> ?_⟩
   ·rw[p7,p6 e]
    exact Kd.mpr ⟨h4,by simp,λx hx y hy=>by simp at hy;subst hy;exact λz=>h3 (z▸hx)⟩
   ·by_cases hq:q= []
    ·subst hq
     rw[JA]at hpq;subst hpq
     have:u=v:=by
      clear low hb hn h5
      have aux:∀{ks:List Nat} {x y z:ν},Ch L x ks y->Ch L x ks z->y=z:=by
       intro ks
       induction ks with
       | nil=>intro x y z h1 h2;cases h1;cases h2;rfl
       | cons k r ih=>
        rintro x y z ⟨c1,m1,e1,r1⟩ ⟨c2,m2,e2,r2⟩
        rw[e1]at e2;cases e2;exact ih r1 r2
      exact aux hp hch
     subst this;exact⟨_,_,dI,by rw[hcost];exact Po _⟩
    ·have hw:∃q',w=p++q':=by
      refine⟨q.dropLast,?_⟩
      have:=congrArg List.dropLast hpq;rw[List.dropLast_concat,List.dropLast_append_of_ne_nil hq]at this;exact this
     obtain⟨q',hw⟩:=hw;obtain⟨d1,w1,e1,l1⟩:=h5 p q' u hw hp;obtain⟨d2,w2,e2,l2⟩:=low u d1 w1 e1;exact⟨d2,w2,e2,by omega⟩
  ·rw[jn z]at h
   obtain⟨s',hs',g1,g2,g3,g4,g5⟩:=K.walk v d' w' h;refine⟨s',hs',g1,g2,g3,g4,λp q u hpq hp=> ?_⟩
   obtain⟨d1,w1,e1,l1⟩:=g5 p q u hpq hp;obtain⟨d2,w2,e2,l2⟩:=low u d1 w1 e1;exact⟨d2,w2,e2,by omega⟩
 ·obtain⟨d1,w1,e1,l1⟩:=K.start s' hs'
  obtain⟨d2,w2,e2,l2⟩:=low s' d1 w1 e1;exact⟨d2,w2,e2,by omega⟩
def Bar (L:cD ν)(q:List Nat):Prop:=q≠ []/\(∃a,Ch L a q a)/\dU L q<0/\(dR L q).Nodup
theorem Ch.Ij {L:cD ν}:∀{ks:List Nat} {a b:ν} (i:Nat),Ch L a ks b->dR L (ks.drop i)=(dR L ks).drop i
 | [],_,_,i,_=>by simp[dR]
 | k::r,a,b,0,_=>rfl
 | k::r,a,b,i+1,h=>by
  have:=h;obtain⟨c,m,e,h'⟩:=this;rw[h.HW,NY,NY,h'.Ij i]
theorem Kept.round {L:cD ν}{S:List ν}{b:b6 ν}(K:Kept L S b){k:Nat}{a c:ν}{m d:Int}{w:List Nat}(e:L[k]? =some (a,c,m))(ha:b a=some (d,w))(hb:dN b c (d+m)=true)(hn:c∈dR L (w++ [k])) :
  Bar L ((w++ [k]).drop ((dR L (w++ [k])).idxOf c)):=by
 obtain⟨s,hs,h1,h2,h3,h4,h5⟩:=K.walk a d w ha
 have hch:Ch L s (w++ [k]) c:=h1.snoc e
 have hcost:dU L (w++ [k])=d+m:=by rw[kc,h2,dU,dU,most,e];simp
 obtain⟨c1,c2,c3⟩:=hch.cut hn
 generalize hi:(dR L (w++ [k])).idxOf c=i at c1 c2 c3
 refine⟨λz=> ?_,⟨c,c2⟩,?_,?_⟩
 ·have:=congrArg K9 z
  rw[Lp]at this
  simp at this c3
  omega
 ·have hsum:dU L ((w++ [k]).take i)+dU L ((w++ [k]).drop i)=d+m:=by rw[<-kc,Nt,hcost]
  have hiw:i<=w.length:=by simp at c3;omega
  have ht:(w++ [k]).take i=w.take i:=by rw[List.take_append_of_le_length hiw]
  rw[ht]at c1 hsum;obtain⟨d1,w1,e1,l1⟩:=h5 (w.take i) (w.drop i) c (Nt i w).symm c1;unfold dN at hb;rw[e1]at hb
  have:=of_decide_eq_true hb;simp only at this;omega
 ·rw[hch.Ij,p7,p6 e]
  refine(List.drop_sublist _ _).nodup (Kd.mpr ⟨h4,by simp,λx hx y hy=> ?_⟩)
  rw[Jk.mp hy];exact λz=>h3 (by have z:x=a:=z;rw[<-z];exact hx)
def size (L:cD ν):Nat:=(L.map λx=>x.2.2.natAbs).sum
theorem i8 {f:Nat->Nat}:∀{ks rs:List Nat},ks.Nodup->(∀k∈ks,k∈rs)->(ks.map f).sum<=(rs.map f).sum
 | [],rs,_,_=>by simp
 | k::ks,rs,hn,hs=>by
  have hk:k∈rs:=hs k Je;rw[JH]at hn
  have hp:=List.perm_cons_erase hk
  have e:(rs.map f).sum=f k+((rs.erase k).map f).sum:=by
   have:=(hp.map f).sum_nat
   rwa [IZ,Kz]at this
  rw[e,IZ,Kz]
  have:=i8 (f:=f) hn.2 (rs:=rs.erase k) λj hj=>by
   have h1:=hs j (IX _ hj);exact(NO (λ(z:j=k)=>hn.1 (z▸hj))).mpr h1
  omega
theorem tG (L:cD ν):size L=((J1 L.length).map λk=>(most L k).natAbs).sum:=by
 unfold size
 congr 1
 apply List.ext_getElem
 ·simp
 ·intro i h1 h2
  simp only[M7,List.getElem_range];unfold most;rw[Jt (by simpa using h1)]
theorem vK (L:cD ν):∀(ks:List Nat),(dU L ks).natAbs<=(ks.map λk=>(most L k).natAbs).sum
 | [] =>by simp[dU]
 | k::r=>by
  have:=vK L r;rw[dU,IZ,Kz];omega
theorem Ch.nodup {L:cD ν}:∀{ks:List Nat} {a b:ν},Ch L a ks b->(dR L ks).Nodup->ks.Nodup
 | [],_,_,_,_=>LW
 | k::r,a,b,h,hn=>by
  have h0:=h;rw[h.HW,JH]at hn;obtain⟨c,m,e,h⟩:=h;rw[JH];refine⟨λhk=>hn.1 ?_,h.nodup hn.2⟩
  unfold dR src;exact Mz.mpr ⟨k,hk,by rw[e];rfl⟩
theorem Ch.small {L:cD ν}{ks:List Nat}{a b:ν}(h:Ch L a ks b)(hn:(dR L ks).Nodup):(dU L ks).natAbs<=size L:=by
 rw[tG];exact JV (vK L ks) (i8 (h.nodup hn) λk hk=>Kf.mpr (h.lt k hk))
def val (M:Nat)(b:b6 ν)(v:ν):Nat:=match b v with
 | none=>2*M+1
 | some x=>(x.1+M).toNat
def left (M:Nat)(b:b6 ν)(L:cD ν):Nat:=(L.map λx=>val M b x.2.1).sum
theorem vf {M:Nat}{b b':b6 ν}:∀{L:cD ν},(∀x∈L,val M b' x.2.1<=val M b x.2.1)->left M b' L<=left M b L
 | [],_=>by simp[left]
 | x::L,h=>by
  have h1:=h x Je
  have h2:=vf (L:=L) λy hy=>h y (IX _ hy)
  unfold left at h2 ⊢;rw[IZ,Kz,IZ,Kz];omega
theorem ve {M:Nat}{b b':b6 ν}{x:ν×ν×Int}:∀{L:cD ν},x∈L->(∀x∈L,val M b' x.2.1<=val M b x.2.1)->val M b' x.2.1<val M b x.2.1->left M b' L<left M b L
 | [],hx,_,_=>by simp at hx
 | y::L,hx,h,hl=>by
  have h1:=h y Je
  have h2:=vf (L:=L) λy hy=>h y (IX _ hy)
  unfold left at h2 ⊢;rw[IZ,Kz,IZ,Kz];rcases Jg.mp hx with rfl | hx
  ·omega
  ·have h3:=ve (L:=L) hx (λy hy=>h y (IX _ hy)) hl
   unfold left at h3;omega
theorem yC {L:cD ν}{S:List ν}{b:b6 ν}(K:Kept L S b){k:Nat}{a c:ν}{m d:Int}{w:List Nat}(e:L[k]? =some (a,c,m))(ha:b a=some (d,w))(hb:dN b c (d+m)=true)(hn:c∉dR L (w++ [k])) :
  left (size L) (put b c (d+m,w++ [k])) L<left (size L) b L:=by
 have K':=K.put e ha hb hn;obtain⟨s,hs,h1,h2,h3,h4,h5⟩:=K'.walk c (d+m) (w++ [k]) dI
 have sm:=h1.small h4;rw[h2]at sm
 have lt:val (size L) (put b c (d+m,w++ [k])) c<val (size L) b c:=by
  unfold val dN at*;rw[dI]
  cases z:b c with
  | none=>simp only;omega
  | some y=>
   rw[z]at hb
   have hb:=of_decide_eq_true hb;simp only;omega
 refine ve (x:=(a,c,m)) (Ky e) (λy _=> ?_) lt
 by_cases z:y.2.1=c
 ·rw[z];exact Lx lt
 ·unfold val;rw[jn z];exact Ji _
def zW (b:b6 ν)(x:ν×ν×Int):Prop:=∀d w,b x.1=some (d,w)->∃d' w',b x.2.1=some (d',w')/\d'<=d+x.2.2
theorem xF {b:b6 ν}{x:ν×ν×Int}(h:∀d w,b x.1=some (d,w)->dN b x.2.1 (d+x.2.2)=false):zW b x:=λd w e=>by
 have:=h d w e;unfold dN at this
 cases z:b x.2.1 with
 | none=>rw[z]at this;cases this
 | some y=>
  rw[z]at this
  have:=of_decide_eq_false this;exact⟨y.1,y.2,rfl,by omega⟩
theorem gX {L:cD ν}{S:List ν}:∀(r:cD ν) (k:Nat) (b:b6 ν) (mv:Bool),L.drop k=r->Kept L S b->match gK L k r b mv with
  | .inr q=>Bar L q
  | .inl (b',mv')=>Kept L S b'/\(mv'=false->mv=false/\b'=b/\∀x∈r,zW b x)/\left (size L) b' L<=left (size L) b L/\(mv'=true->mv=true\/left (size L) b' L<left (size L) b L)
 | [],k,b,mv,_,K=>⟨K,λh=>⟨h,rfl,λx hx=>by simp at hx⟩,Ji _,λh=> .inl h⟩
 | x::r,k,b,mv,hr,K=>by
  have e:L[k]? =some x:=by
   have:=congrArg (·[0]?) hr
   simpa using this
  have hr':L.drop (k+1)=r:=by
   have:=congrArg (List.drop 1) hr
   simpa [List.drop_drop,OK]using this
  rw[gK];obtain⟨a,c,m⟩:=x;unfold gh
  cases z:b a with
  | none=>
   simp only[z]
   have ih:=gX r (k+1) b mv hr' K
   revert ih
   generalize gK L (k+1) r b mv=R
   cases R with
   | inr q=>exact id
   | inl p=>
    obtain⟨b',mv'⟩:=p
    rintro ⟨i1,i2,i3,i4⟩
    refine⟨i1,λh=> ?_,i3,i4⟩
    obtain⟨j1,j2,j3⟩:=i2 h;refine⟨j1,j2,λx hx=> ?_⟩
    rcases Jg.mp hx with rfl | hx
    ·intro d w q;rw[z]at q;cases q
    ·exact j3 x hx
  | some y=>
   obtain⟨d,w⟩:=y;simp only[z]
   by_cases hb:dN b c (d+m)=true
   ·rw[if_pos hb]
    by_cases hn:c∈dR L (w++ [k])
    ·rw[if_pos hn]
     exact K.round e z hb hn
    ·rw[if_neg hn]
     have K':=K.put e z hb hn
     have lt:=yC K e z hb hn
     have ih:=gX r (k+1) (put b c (d+m,w++ [k])) true hr' K'
     revert ih
     simp only
     generalize gK L (k+1) r (put b c (d+m,w++ [k])) true=R
     cases R with
     | inr q=>exact id
     | inl p=>
      obtain⟨b',mv'⟩:=p
      rintro ⟨i1,i2,i3,i4⟩
      refine⟨i1,λh=> ?_,by omega,λ_=> .inr (by omega)⟩
      obtain⟨j1,_⟩:=i2 h;cases j1
   ·rw[if_neg hb]
    have ih:=gX r (k+1) b mv hr' K
    revert ih
    simp only
    generalize gK L (k+1) r b mv=R
    cases R with
    | inr q=>exact id
    | inl p=>
     obtain⟨b',mv'⟩:=p
     rintro ⟨i1,i2,i3,i4⟩
     refine⟨i1,λh=> ?_,i3,i4⟩
     obtain⟨j1,j2,j3⟩:=i2 h;refine⟨j1,j2,λx hx=> ?_⟩
     rcases Jg.mp hx with rfl | hx
     ·refine xF λd' w' q=> ?_
      simp only at q;rw[z]at q;cases q
      simpa using hb
     ·exact j3 x hx
structure Settled (L:cD ν)(S:List ν)(b:b6 ν):Prop where
 walk:∀v d w,b v=some (d,w)->∃s∈S,Ch L s w v/\dU L w=d/\v∉dR L w/\(dR L w).Nodup
 least:∀s∈S,∀v t,Wk L s v t->∃d w,b v=some (d,w)/\d<=t
theorem tH {L:cD ν}{S:List ν}{b:b6 ν}(K:Kept L S b)(h:∀x∈L,zW b x):Settled L S b where
 walk:=λv d w e=>by
  obtain⟨s,h1,h2,h3,h4,h5,_⟩:=K.walk v d w e;exact⟨s,h1,h2,h3,h4,h5⟩
 least:=by
  have go:∀{u v:ν} {t:Int},Wk L u v t->∀d w,b u=some (d,w)->∃d' w',b v=some (d',w')/\d'<=d+t:=by
   intro u v t hw
   induction hw with
   | nil a=>exact λd w e=>⟨d,w,e,by omega⟩
   | step e _ ih=>
    intro d w q;obtain⟨d1,w1,e1,l1⟩:=h _ e d w q;obtain⟨d2,w2,e2,l2⟩:=ih d1 w1 e1;exact⟨d2,w2,e2,by simp only at l1;omega⟩
  intro s hs v t hw;obtain⟨d,w,e,l⟩:=K.start s hs;obtain⟨d2,w2,e2,l2⟩:=go hw d w e;exact⟨d2,w2,e2,by omega⟩
theorem oO {L:cD ν}{S:List ν}:∀(n:Nat) (b:b6 ν),Kept L S b->left (size L) b L<n->∃r,settle L n b=some r/\match r with
  | .inr q=>Bar L q
  | .inl b'=>Settled L S b'
 | 0,b,K,h=>by omega
 | n+1,b,K,h=>by
  have s:=gX (S:=S) L 0 b false rfl K;rw[settle]
  revert s
  generalize gK L 0 L b false=R
  cases R with
  | inr q=>exact λs=>⟨_,rfl,s⟩
  | inl p=>
   obtain⟨b',mv'⟩:=p
   rintro ⟨i1,i2,i3,i4⟩
   cases mv' with
   | false=>
    obtain⟨_,j2,j3⟩:=i2 rfl;subst j2
    exact⟨_,rfl,tH i1 j3⟩
   | true=>
    rcases i4 rfl with z | z
    ·cases z
    ·exact oO n b' i1 (by omega)
def start (S:List ν):b6 ν:=λv=>if v∈S then some (0,[])else none
theorem nr (L:cD ν)(S:List ν):Kept L S (start S) where
 walk:=λv d w e=>by
  unfold start at e
  split at e
  ·rename_i h
   cases e;refine⟨v,h,rfl,rfl,by simp[dR],by simp[dR],λp q u hpq hp=> ?_⟩
   obtain⟨rfl,rfl⟩:=List.append_eq_nil_iff.mp hpq.symm;cases hp;exact⟨0,[],by unfold start;rw[if_pos h],by simp[dU]⟩
  ·cases e
 start:=λs hs=>⟨0,[],by unfold start;rw[if_pos hs],Po _⟩
theorem yD (L:cD ν)(S:List ν):left (size L) (start S) L<=L.length*(2*size L+1):=by
 unfold left
 have:∀M:cD ν,(M.map λx=>val (size L) (start S) x.2.1).sum<=M.length*(2*size L+1):=by
  intro M
  induction M with
  | nil=>simp
  | cons x M ih=>
   rw[IZ,Kz,Jb,Nat.succ_mul]
   have:val (size L) (start S) x.2.1<=2*size L+1:=by
    unfold val start;split
    ·exact Ji _
    ·rename_i h
     split at h
     ·cases h;simp;omega
     ·cases h
   omega
 exact this L
theorem tI (L:cD ν)(S:List ν){n:Nat}(h:L.length*(2*size L+1)<n):∃r,settle L n (start S)=some r/\match r with
  | .inr q=>Bar L q
  | .inl b'=>Settled L S b':=oO n (start S) (nr L S) (Ob (yD L S) h)
theorem Bar.neg {L:cD ν}{q:List Nat}(h:Bar L q):¬ NoNeg L:=λn=>by
 obtain⟨_,⟨a,ha⟩,hc,_⟩:=h
 have:=n a _ ha.wk;omega
theorem Settled.holds {L:cD ν}{S:List ν}{b:b6 ν}(h:Settled L S b)(hS:∀x∈L,x.1∈S/\x.2.1∈S){t:ν->Int}(ht:∀v∈S,∃w,b v=some (t v,w)):Holds L t:=λa c m hx=>by
 obtain⟨ha,hc⟩:=hS _ hx;obtain⟨w,e⟩:=ht a ha;obtain⟨s,hs,h1,h2,_⟩:=h.walk a _ _ e;obtain⟨d,w',e',l⟩:=h.least s hs c _ (h1.wk.app (.one hx));obtain⟨w2,e2⟩:=ht c hc;rw[e2]at e';cases e';omega
abbrev uE (ν:Type):=ν->ν->Option Int
def Hb (f:uE ν)(a b:ν)(x:Int):uE ν:=λu v=>if u=a/\v=b then some x else f u v
def Hi (f:uE ν)(a b:ν)(x:Int):uE ν:=match f a b with
 | none=>Hb f a b x
 | some y=>if x<y then Hb f a b x else f
def Ha (mid one other:ν)(f:uE ν):uE ν:=match f one mid,f mid other with
 | some x,some y=>Hi f one other (x+y)
 | _,_=>f
def tab0 (P:List ν):uE ν:=λu v=>if u∈P/\u=v then some 0 else none
def tab1 (P:List ν)(L:cD ν):uE ν:=L.foldl (λf x=>Hi f x.1 x.2.1 x.2.2) (tab0 P)
def BI (mid one:ν)(P:List ν)(f:uE ν):uE ν:=P.foldl (λf other=>Ha mid one other f) f
def Hd (mid:ν)(Q P:List ν)(f:uE ν):uE ν:=Q.foldl (λf one=>BI mid one P f) f
def Hh (M P:List ν)(f:uE ν):uE ν:=M.foldl (λf mid=>Hd mid P P f) f
def table (P:List ν)(L:cD ν):uE ν:=Hh P P (tab1 P L)
end Gr
namespace G
open PySem Tr
def isI:T->Bool
 | .int _=>true
 | _=>false
theorem BO (t:T)(h:t.pl=true):gx [t] = .ok (.bl (isI t)):=by
 cases t <;> first | rfl | (simp[T.pl]at h;done)
def aX (t:T)(a b:Int):Bool:=match t with
 | .int i=>decide (a<=i)&&decide (i<=b)
 | _=>false
theorem eE (t:T)(a b:Int)(h:t.pl=true):aP [t,.int a,.int b] = .ok (.bl (aX t a b)):=by
 have w:=BO t h
 cases t with
 | int i=>
  simp[aP,val,bw,iz,aK,aI,bZ,vr,ch,cl,ae,aj,uv,aX,w,isI]
  cases decide (a<=i) <;> rfl
 | scr _=>simp[T.pl]at h
 | dct _ _=>simp[T.pl]at h
 | ob _ _ _=>simp[T.pl]at h
 | _=>simp[aP,val,bw,iz,aK,aI,bZ,vr,ch,cl,ae,aj,aX,w,isI]
def du (t:T)(a b:Nat):Bool:=match t with
 | .tup l=>decide (a<=l.length)&&decide (l.length<=b)
 | _=>false
theorem jy (t:T)(a b:Nat)(h:t.pl=true):aL [t,.int a,.int b] = .ok (.bl (du t a b)):=by
 cases t with
 | tup l=>
  simp[aL,val,bw,pz,aK,aI,bZ,o1,vr,BE,T.ty,vq,ch,cl,ae,aj,cv,T.items,uv,du]
  cases decide (a<=l.length) <;> rfl
 | scr _=>simp[T.pl]at h
 | dct _ _=>simp[T.pl]at h
 | ob _ _ _=>simp[T.pl]at h
 | _=>rfl
def ly (x y:T):Bool:=aX x 1 9&&(match x with
 | .int i=>aX y i 9
 | _=>false)
theorem E8 (x y:T)(hx:x.pl=true)(hy:y.pl=true):eV [x,y] = .ok (.bl (ly x y)):=by
 have w:=eE x 1 9 hx;unfold ly
 cases q:aX x 1 9 with
 | false=>rw[q]at w;simp[eV,val,bw,kS,aK,aI,bZ,vr,cn,cl,ae,aj,w]
 | true=>
  rw[q]at w
  cases x with
  | int i=>simp[eV,val,bw,kS,aK,aI,bZ,vr,cn,cl,ae,aj,w,eE y i 9 hy]
  | _=>cases q
def lP:List Int->Bool
 | a::b::r=>decide (a<b)&&lP (b::r)
 | _=>true
theorem AH (a b:Int)(r:List Int):lP (a::b::r)=(decide (a<b)&&lP (b::r)):=rfl
theorem qU {fe:En->Rs T}{p:T->Bool}{l:List T}{fi:En->Rs (List T)}{src:List (Option Nat)}{Z:En}(hi:fi Z= .ok l)(hs:l.length<=sizeLine)(hn:0<src.length)(hf:∀t∈l,fe ((dj src Z).set 0 (.va t))= .ok (.bl (p t))) :
  cl oF (ae (iO fi src (gN 0) bT fe) aj) Z= .ok (.bl (l.all p)):=by
 have e:=ug (fe:=fe) (h:=λt=>T.bl (p t)) l (dj src Z) (by unfold dj;rw[Jd];exact hn) hf
 simp only[cl,ae,aj,iO,hi,ay,if_pos hs,e,all_map]
def kK (l:List T):T->Bool
 | .int k=>match L2.atI l k,L2.atI l (k+1)with
  | some (.int a),some (.int b)=>decide (a<b)
  | _,_=>false
 | _=>false
theorem pV {t:T}{j:Int}(h:t∈rng 0 j):∃k:Nat,t= .int k/\(k:Int)<j:=by
 unfold rng at h;obtain⟨k,hk,e⟩:=JQ.mp h;rw[Kf]at hk;exact⟨k,by rw[<-e];simp,by omega⟩
theorem Dp:(l:List Int)->l.length<=4->(rng 0 ((l.length:Int) - 1)).all (kK (l.map .int))=lP l
 | [],_=>rfl
 | [a],_=>rfl
 | [a,b],_=>by simp[rng,Nu,kK,L2.atI,L2.ixN,lP]
 | [a,b,c],_=>by simp[rng,Nu,kK,L2.atI,L2.ixN,lP]
 | [a,b,c,d],_=>by simp[rng,Nu,kK,L2.atI,L2.ixN,lP,Bool.and_assoc]
 | a::b::c::d::e::r,h=>absurd h (by simp only[Jb];omega)
theorem BQ (l:List Int)(h:l.length<=4):iN [.tup (l.map .int)] = .ok (.bl (lP l)):=by
 have hr:iR (ae (o2 fF (cl cv (ae (vr 0) aj)) (cn (.int 1))) aj) [.va (.tup (l.map .int))] = .ok (rng 0 ((l.length:Int) - 1)):=by
  have:z6 ((l.length:Int) - 1)=true:=by unfold z6;rw[IV];exact⟨decide_eq_true (by omega),decide_eq_true (by omega)⟩
  simp[iR,ae,aj,o2,cl,vr,cn,cv,T.items,fF,this]
 have hs:(rng 0 ((l.length:Int) - 1)).length<=sizeLine:=by
  unfold rng sizeLine;rw[Jd,Lh];omega
 have e:=qU (fe:=o2 Fv (o2 aY (vr 1) (vr 0)) (o2 aY (vr 1) (o2 aU (vr 0) (cn (.int 1))))) (p:=kK (l.map .int)) (src:=[none,some 0]) hr hs (by decide) (λt ht=>by
  obtain⟨k,rfl,hk⟩:=pV ht
  have h1:(l.map T.int)[k]? =some (.int (l[k]'(by omega))):=by simp
  have h2:(l.map T.int)[k+1]? =some (.int (l[k+1]'(by omega))):=by rw[Jz,Jt (by omega)];rfl
  have g1:=jA h1
  have g2:L2.atI (l.map T.int) ((k:Int)+1)=some (.int (l[k+1]'(by omega))):=jA h2
  simp[o2,vr,dj,cn,aU,aY,T.items,g1,g2,uv,kK])
 rw[Dp l h]at e;simp only[iN,val,Ku,if_true,vV,bw,aI,aK]
 show(do let f <-(do let t <-cl oF _ [.va (.tup (l.map .int))];Rs.ok (Fl.rt t));_)=_
 rw[e]
 rfl
def i0:List T->Option (List Int)
 | [] =>some []
 | .int i::l=>match i0 l with
  | some m=>some (i::m)
  | none=>none
 | _::_=>none
def cg (t:T):Bool:=du t 1 4&&(match t with
 | .tup l=>l.all (λu=>aX u 0 99)&&(match i0 l with | some m=>lP m | none=>false)
 | _=>false)
theorem mS:∀{l:List T} {m:List Int},i0 l=some m->l=m.map .int
 | [],m,h=>by cases h;rfl
 | t::l,m,h=>by
  cases t with
  | int i=>
   unfold i0 at h
   cases q:i0 l with
   | none=>rw[q]at h;cases h
   | some m'=>rw[q]at h;cases h;rw[IZ,<-mS q]
  | _=>cases h
theorem qj:∀{l:List T} {a b:Int},(l.all λu=>aX u a b)=true->∃m,i0 l=some m
 | [],_,_,_=>⟨[],rfl⟩
 | t::l,a,b,h=>by
  rw[List.all_cons,IV]at h
  cases t with
  | int i=>
   obtain⟨m,e⟩:=qj h.2
   exact⟨i::m,by unfold i0;rw[e]⟩
  | _=>exact absurd h.1 (by simp[aX])
theorem cU {t:T}{a b:Nat}(h:du t a b=true):∃l,t= .tup l/\a<=l.length/\l.length<=b:=by
 cases t with
 | tup l=>unfold du at h;rw[IV]at h;exact⟨l,rfl,of_decide_eq_true h.1,of_decide_eq_true h.2⟩
 | _=>cases h
theorem small {n k:Nat}(h:n<=k)(hk:k<=1000:=by decide):n<=sizeLine:=by unfold sizeLine;omega
theorem ur (t:T)(h:t.pl=true):bL [t] = .ok (.bl (cg t)):=by
 have w:aL [t,.int 1,.int 4] = .ok (.bl (du t 1 4)):=jy t 1 4 h;unfold cg
 cases q:du t 1 4 with
 | false=>rw[q]at w;simp[bL,val,bw,dP,aK,aA,eO,cK,tb,sN,aI,cl,vr,cn,ae,aj,w]
 | true=>
  rw[q]at w;obtain⟨l,rfl,h1,h2⟩:=cU q
  have hp:∀u∈l,u.pl=true:=λu hu=>gv (by unfold T.pl at h;exact h) hu
  have e:=qU (fe:=cl aP (ae (vr 0) (ae (cn (.int 0)) (ae (cn (.int 99)) aj)))) (p:=λu=>aX u 0 99) (src:=[none]) (fi:=iS (vr 0)) (Z:=[.va (.tup l)]) rfl (small h2) (by decide) (λu hu=>by
   simp[cl,ae,aj,vr,cn,dj,eE u 0 99 (hp u hu)])
  have w':cl aL (ae (vr 0) (ae (cn (.int 1)) (ae (cn (.int 4)) aj))) [.va (.tup l)] = .ok (.bl true):=w
  show bL _= .ok (.bl (true&&(l.all (λu=>aX u 0 99)&&(match i0 l with | some m=>lP m | none=>false))))
  cases qa:l.all λu=>aX u 0 99 with
  | false=>
   rw[qa]at e
   simp[bL,val,bw,dP,aK,aA,eO,cK,tb,sN,aI,bZ,e,w']
  | true=>
   rw[qa]at e;obtain⟨m,em⟩:=qj qa
   have el:=mS em
   have er:=BQ m (by rw[el,Jd]at h2;exact h2)
   rw[<-el]at er
   have er':cl iN (ae (vr 0) aj) [.va (.tup l)] = .ok (.bl (lP m)):=er;simp[bL,val,bw,dP,aK,aA,eO,cK,tb,sN,aI,bZ,e,w',er',em]
def at_ (t:T)(k:Nat):T:=match t.items with
 | some l=>l.getD k .non
 | none=> .non
def bo (t:T):Bool:=du t 3 3&&(match t with
 | .tup [x,y,r] =>ly x y&&cg r
 | _=>false)
theorem BW (t:T)(h:t.pl=true):cR [t] = .ok (.bl (bo t)):=by
 have w:aL [t,.int 3,.int 3] = .ok (.bl (du t 3 3)):=jy t 3 3 h;unfold bo
 cases q:du t 3 3 with
 | false=>rw[q]at w;simp[cR,val,bw,gG,aK,aI,bZ,cl,vr,cn,ae,aj,w]
 | true=>
  rw[q]at w;obtain⟨l,rfl,h1,h2⟩:=cU q
  match l,h1,h2 with
  | [x,y,r],_,_=>
   simp[T.pl,plS]at h;obtain⟨px,py,pr⟩:=h
   have g0:aY (.tup [x,y,r]) (.int 0)= .ok x:=rfl
   have g1:aY (.tup [x,y,r]) (.int 1)= .ok y:=rfl
   have g2:aY (.tup [x,y,r]) (.int 2)= .ok r:=rfl
   have ep:=E8 x y px py
   have er:=ur r pr
   cases qp:ly x y with
   | false=>rw[qp]at ep;simp[cR,val,bw,gG,aK,aI,bZ,cl,vr,cn,ae,aj,o2,w,g0,g1,ep,qp]
   | true=>rw[qp]at ep;simp[cR,val,bw,gG,aK,aI,bZ,cl,vr,cn,ae,aj,o2,w,g0,g1,g2,ep,er,qp]
def aT (t:T):Bool:=du t 1 4&&(match t with
 | .tup l=>l.all bo
 | _=>false)
theorem zB (t:T)(h:t.pl=true):c6 [t] = .ok (.bl (aT t)):=by
 have w:aL [t,.int 1,.int 4] = .ok (.bl (du t 1 4)):=jy t 1 4 h;unfold aT
 cases q:du t 1 4 with
 | false=>rw[q]at w;simp[c6,val,bw,gH,aK,aI,bZ,cl,vr,cn,ae,aj,w]
 | true=>
  rw[q]at w;obtain⟨l,rfl,h1,h2⟩:=cU q
  have hp:∀u∈l,u.pl=true:=λu hu=>gv (by unfold T.pl at h;exact h) hu
  have e:=qU (fe:=cl cR (ae (vr 0) aj)) (p:=bo) (src:=[none]) (fi:=iS (vr 0)) (Z:=[.va (.tup l)]) rfl (small h2) (by decide) (λu hu=>by
   simp[cl,ae,aj,vr,cn,dj,BW u (hp u hu)])
  have w':cl aL (ae (vr 0) (ae (cn (.int 1)) (ae (cn (.int 4)) aj))) [.va (.tup l)] = .ok (.bl true):=w;simp[c6,val,bw,gH,aK,aI,bZ,e,w']
def c9 (x y:T):Bool:=aX x 0 999&&(match x,y with
 | _,.non=>true
 | .int i,_=>aX y i 999
 | _,_=>false)
theorem BV (x y:T)(hx:x.pl=true)(hy:y.pl=true):dt [x,y] = .ok (.bl (c9 x y)):=by
 have w:=eE x 0 999 hx;unfold c9
 cases q:aX x 0 999 with
 | false=>rw[q]at w;simp[dt,val,bw,gF,aK,aI,bZ,vr,cn,cl,ae,aj,w]
 | true=>
  rw[q]at w
  cases x with
  | int i=>
   have e:=eE y i 999 hy
   cases y with
   | non=>simp[dt,val,bw,gF,aK,aI,bZ,z5,vr,cn,cl,ae,aj,o2,i6,T.isN,w]
   | _=>simp[dt,val,bw,gF,aK,aI,bZ,z5,vr,cn,cl,ae,aj,o2,i6,T.isN,w,e]
  | _=>cases q
def reads (cs:List T)(c:Int):Nat:=if 0<=c then(match cs[c.toNat]? with
 | some (.tup [_,_,.tup r])=>r.length
 | _=>0)else 0
def bc (cs:List T)(t:T):Bool:=match t with
 | .tup [.int c,.int k] =>decide (0<=c)&&decide (c<cs.length)&&(decide (0<=k)&&decide (k<reads cs c))
 | _=>false
theorem lp {t:T}(h:bo t=true):∃x y r,t= .tup [x,y,.tup r]:=by
 unfold bo at h;rw[IV]at h;obtain⟨h1,h2⟩:=h;obtain⟨l,rfl,h3,h4⟩:=cU h1
 match l,h3,h4,h2 with
 | [x,y,r],_,_,h2=>
  simp only[IV]at h2;obtain⟨_,h5⟩:=h2;unfold cg at h5;rw[IV]at h5;obtain⟨m,rfl,_⟩:=cU h5.1;exact⟨x,y,m,rfl⟩
theorem bQ {t:T}{a b:Int}(h:aX t a b=true):∃i,t= .int i/\a<=i/\i<=b:=by
 cases t with
 | int i=>unfold aX at h;rw[IV]at h;exact⟨i,rfl,of_decide_eq_true h.1,of_decide_eq_true h.2⟩
 | _=>cases h
theorem vF (cs:List T)(t:T)(hc:aT (.tup cs)=true)(h:t.pl=true):cQ [.tup cs,t] = .ok (.bl (bc cs t)):=by
 have w:aL [t,.int 2,.int 2] = .ok (.bl (du t 2 2)):=jy t 2 2 h
 cases q:du t 2 2 with
 | false=>
  rw[q]at w
  have:bc cs t=false:=by
   unfold bc;split
   ·cases q
   ·rfl
  simp[cQ,val,bw,gE,aK,aA,eO,mG,cK,tb,sN,aI,cl,vr,cn,ae,aj,w,this]
 | true=>
  rw[q]at w;obtain⟨l,rfl,h1,h2⟩:=cU q
  match l,h1,h2 with
  | [x,y],_,_=>
   simp[T.pl,plS]at h;obtain⟨px,py⟩:=h
   have g0:aY (.tup [x,y]) (.int 0)= .ok x:=rfl
   have g1:aY (.tup [x,y]) (.int 1)= .ok y:=rfl
   have gl:cv [.tup cs] = .ok (.int cs.length):=rfl
   have e1:=eE x 0 ((cs.length:Int) - 1) px
   cases q1:aX x 0 ((cs.length:Int) - 1)with
   | false=>
    rw[q1]at e1
    have:bc cs (.tup [x,y])=false:=by
     cases x with
     | int c=>
      cases y with
      | int k=>
       simp only[aX,Nv,decide_eq_false_iff_not]at q1;simp only[bc,Nv,decide_eq_false_iff_not]
       omega
      | _=>rfl
     | _=>rfl
    simp[cQ,val,bw,gE,aK,aA,eO,mG,cK,tb,sN,aI,cl,vr,cn,ae,aj,o2,fF,w,g0,gl,e1,this]
   | true=>
    rw[q1]at e1;obtain⟨c,rfl,c1,c2⟩:=bQ q1;obtain⟨n,rfl⟩:=JS c1
    have hn:n<cs.length:=by omega
    have hcl:bo cs[n] =true:=by
     unfold aT at hc;rw[IV]at hc;exact JC.mp hc.2 _ (KM hn)
    obtain⟨a,b,r,er⟩:=lp hcl
    have g2:aY (.tup cs) (.int (n:Int))= .ok (.tup [a,b,.tup r]):=by
     simp only[aY,T.items];rw[jA (Jt hn),er]
    have g3:aY (.tup [a,b,.tup r]) (.int 2)= .ok (.tup r):=rfl
    have gr:cv [.tup r] = .ok (.int r.length):=rfl
    have e2:=eE y 0 ((r.length:Int) - 1) py
    have:bc cs (.tup [.int n,y])=aX y 0 ((r.length:Int) - 1):=by
     have er2:reads cs (n:Int)=r.length:=by
      unfold reads;rw[if_pos c1,Kc,Jt hn,er]
     cases y with
     | int k=>
      simp only[bc,aX,er2];rw[decide_eq_true c1,decide_eq_true (show(n:Int)<cs.length by omega)]
      simp only[MY]
      congr 1
      exact decide_eq_decide.mpr (by omega)
     | _=>rfl
    simp[cQ,val,bw,gE,aK,aA,eO,mG,cK,tb,sN,aI,cl,vr,cn,ae,aj,o2,fF,w,g0,g1,g2,g3,gl,gr,e1,e2,this]
def ba (cs:List T)(t:T):Bool:=match t with
 | .tup [a,b,x,y] =>c9 x y&&(bc cs a&&(bc cs b&& !aV a b))
 | _=>false
theorem cy {cs:List T}{t:T}(h:bc cs t=true):∃c k:Int,t= .tup [.int c,.int k]:=by
 unfold bc at h
 split at h
 ·exact⟨_,_,rfl⟩
 ·cases h
theorem zu (cs:List T)(t:T)(hc:aT (.tup cs)=true)(h:t.pl=true):bO [.tup cs,t] = .ok (.bl (ba cs t)):=by
 have w:aL [t,.int 4,.int 4] = .ok (.bl (du t 4 4)):=jy t 4 4 h
 cases q:du t 4 4 with
 | false=>
  rw[q]at w
  have:ba cs t=false:=by
   unfold ba;split
   ·cases q
   ·rfl
  simp[bO,val,bw,dD,aK,aA,eO,mG,cK,tb,sN,aI,cl,vr,cn,ae,aj,w,this]
 | true=>
  rw[q]at w;obtain⟨l,rfl,h1,h2⟩:=cU q
  match l,h1,h2 with
  | [a,b,x,y],_,_=>
   simp[T.pl,plS]at h;obtain⟨pa,pb,px,py⟩:=h
   have g0:aY (.tup [a,b,x,y]) (.int 0)= .ok a:=rfl
   have g1:aY (.tup [a,b,x,y]) (.int 1)= .ok b:=rfl
   have g2:aY (.tup [a,b,x,y]) (.int 2)= .ok x:=rfl
   have g3:aY (.tup [a,b,x,y]) (.int 3)= .ok y:=rfl
   have e1:=BV x y px py
   have e2:=vF cs a hc pa
   have e3:=vF cs b hc pb
   show _=Rs.ok (T.bl (c9 x y&&(bc cs a&&(bc cs b&& !aV a b))))
   cases q1:c9 x y with
   | false=>
    rw[q1]at e1
    simp[bO,val,bw,dD,aK,aA,eO,mG,cK,tb,sN,aI,cl,vr,cn,ae,aj,o2,w,g2,g3,e1]
   | true=>
    rw[q1]at e1
    cases q2:bc cs a with
    | false=>
     rw[q2]at e2
     simp[bO,val,bw,dD,aK,aA,eO,mG,cK,tb,sN,aI,bZ,cl,vr,cn,ae,aj,o2,w,g0,g2,g3,e1,e2]
    | true=>
     rw[q2]at e2
     cases q3:bc cs b with
     | false=>
      rw[q3]at e3
      simp[bO,val,bw,dD,aK,aA,eO,mG,cK,tb,sN,aI,bZ,cl,vr,cn,ae,aj,o2,w,g0,g1,g2,g3,e1,e2,e3]
     | true=>
      rw[q3]at e3;obtain⟨c,k,rfl⟩:=cy q2
      have f:gA (.tup [.int c,.int k]) b=true:=gn (by simp[T.dep,deps]) rfl (T.HY _ pb)
      have g4:lR (.tup [.int c,.int k]) b= .ok (.bl (!aV (.tup [.int c,.int k]) b)):=by unfold lR;rw[if_pos f]
      simp[bO,val,bw,dD,aK,aA,eO,mG,cK,tb,sN,aI,bZ,cl,vr,cn,ae,aj,o2,w,g0,g1,g2,g3,g4,e1,e2,e3]
def iQ (cs:List T)(t:T):Bool:=du t 0 8&&(match t with
 | .tup l=>l.all (ba cs)
 | _=>false)
theorem wU (cs:List T)(t:T)(hc:aT (.tup cs)=true)(h:t.pl=true):cI [.tup cs,t] = .ok (.bl (iQ cs t)):=by
 have w:aL [t,.int 0,.int 8] = .ok (.bl (du t 0 8)):=jy t 0 8 h;unfold iQ
 cases q:du t 0 8 with
 | false=>rw[q]at w;simp[cI,val,bw,fY,aK,aI,bZ,cl,vr,cn,ae,aj,w]
 | true=>
  rw[q]at w;obtain⟨l,rfl,h1,h2⟩:=cU q
  have hp:∀u∈l,u.pl=true:=λu hu=>gv (by unfold T.pl at h;exact h) hu
  have e:=qU (fe:=cl bO (ae (vr 1) (ae (vr 0) aj))) (p:=ba cs) (src:=[none,some 0]) (fi:=iS (vr 1)) (Z:=[.va (.tup cs),.va (.tup l)]) rfl (small h2) (by decide) (λu hu=>by
   simp[cl,ae,aj,vr,cn,dj,zu cs u hc (hp u hu)])
  have w':cl aL (ae (vr 1) (ae (cn (.int 0)) (ae (cn (.int 8)) aj))) [.va (.tup cs),.va (.tup l)] = .ok (.bl true):=w;simp[cI,val,bw,fY,aK,aI,bZ,e,w']
def dC (t:T):Bool:=match t with
 | .tup [.tup cs,ls] =>aT (.tup cs)&&iQ cs ls
 | _=>false
theorem sO (t:T)(h:t.pl=true):cP [t] = .ok (.bl (dC t)):=by
 have w:aL [t,.int 2,.int 2] = .ok (.bl (du t 2 2)):=jy t 2 2 h
 cases q:du t 2 2 with
 | false=>
  rw[q]at w
  have:dC t=false:=by
   unfold dC;split
   ·cases q
   ·rfl
  simp[cP,val,bw,fP,aK,aI,bZ,cl,vr,cn,ae,aj,w,this]
 | true=>
  rw[q]at w;obtain⟨l,rfl,h1,h2⟩:=cU q
  match l,h1,h2 with
  | [x,y],_,_=>
   simp[T.pl,plS]at h;obtain⟨px,py⟩:=h
   have g0:aY (.tup [x,y]) (.int 0)= .ok x:=rfl
   have g1:aY (.tup [x,y]) (.int 1)= .ok y:=rfl
   have e1:=zB x px
   cases q1:aT x with
   | false=>
    rw[q1]at e1
    have:dC (.tup [x,y])=false:=by
     cases x with
     | tup cs=>show(aT (.tup cs)&&_)=false;rw[q1];rfl
     | _=>rfl
    simp[cP,val,bw,fP,aK,aI,bZ,cl,vr,cn,ae,aj,o2,w,g0,e1,this]
   | true=>
    rw[q1]at e1
    cases x with
    | tup cs=>
     have e2:=wU cs y q1 py
     have:dC (.tup [.tup cs,y])=iQ cs y:=by show(aT (.tup cs)&&_)=_;rw[q1];rfl
     simp[cP,val,bw,fP,aK,aI,bZ,cl,vr,cn,ae,aj,o2,w,g0,g1,e1,e2,this]
    | _=>cases q1
theorem eY:∀m:List Int,deps (m.map .int)=0
 | [] =>rfl
 | a::m=>by rw[IZ,deps,eY m];rfl
def lH (i n:Nat):List T:=(rng 0 n).map λt=>T.tup [.int i,t]
def Dr:T->Nat
 | .tup [_,_,.tup r] =>r.length
 | _=>0
def dS:Nat->List T->List T
 | _,[] => []
 | i,c::r=>lH i (Dr c)++dS (i+1) r
theorem fO {t:T}(h:bo t=true):∃x y r,t= .tup [x,y,.tup r]/\1<=r.length/\r.length<=4:=by
 obtain⟨x,y,r,rfl⟩:=lp h
 have:cg (.tup r)=true:=by
  have h':(ly x y&&cg (.tup r))=true:=h;rw[IV]at h';exact h'.2
 unfold cg at this;rw[IV]at this;obtain⟨l,e,h1,h2⟩:=cU this.1;cases e;exact⟨x,y,r,rfl,h1,h2⟩
theorem iu (i n:Nat):(lH i n).length=n:=by unfold lH;rw[Jd,iG]
abbrev evF:En->Rs Fl:=cJ (o2 aU (vr 1) (iO (iR (ae (cl cv (ae (o2 aY (vr 3) (cn (.int 2))) aj)) aj)) [none,some 2] (gN 0) bT (bA (ae (vr 1) (ae (vr 0) aj))))) (gN 1)
abbrev evG:T->En->Rs En:=gT 2 (sC (gN 2) (sC (gN 3) z7))
theorem CL {f:En->Rs (List T)}{Z:En}{j:Int}(h:f Z= .ok [.int j])(h0:0<=j)(h1:j<=100000):iR f Z= .ok (rng 0 j):=by
 have e:z6 j=true:=by unfold z6;rw[IV];exact⟨decide_eq_true (by omega),decide_eq_true (by omega)⟩
 unfold iR;rw[h]
 show(if z6 j=true then _ else _)=_
 rw[e];rfl
theorem vQ (l m:List T)(h:(l++m).length<=1000):aU (.lst l) (.lst m)= .ok (.lst (l++m)):=by
 show jh (l++m)=_
 unfold jh;rw[if_pos (aF h)]
theorem qV (l m:List T)(h:(l++m).length<=1000):aU (.tup l) (.tup m)= .ok (.tup (l++m)):=by
 show jg (l++m)=_
 unfold jg;rw[if_pos (aF h)]
theorem Hk (c0 acc x y:T)(r:List T)(i:Nat)(h:r.length<=4) :
  iO (iR (ae (cl cv (ae (o2 aY (vr 3) (cn (.int 2))) aj)) aj)) [none,some 2] (gN 0) bT (bA (ae (vr 1) (ae (vr 0) aj))) [.va c0,.va acc,.va (.int i),.va (.tup [x,y,.tup r])] = .ok (.lst (lH i r.length)):=
 wK (CL (j:=(r.length:Int)) rfl (by omega) (by omega)) (aF (k:=4) (by rw[iG];exact h)) (by simp) λt _=>mk2 _ _
theorem BL (c0 x y:T)(acc r:List T)(i:Nat)(h:r.length<=4)(ha:acc.length<=100):evF [.va c0,.va (.lst acc),.va (.int i),.va (.tup [x,y,.tup r])] = .ok (.nx [.va c0,.va (.lst (acc++lH i r.length)),.va (.int i),.va (.tup [x,y,.tup r])]):=
 cG (aJ (t:=.lst acc) rfl (Hk c0 (.lst acc) x y r i h) (vQ _ _ (by rw[Jc,iu];omega))) rfl
theorem vD:∀(cs:List T) (c0:T) (acc:List T) (i:Nat) (s2 s3:Sl),(∀c∈cs,bo c=true)->acc.length+4*cs.length<=100 →
  ∃y2 y3,bp evG evF (cH i cs) [.va c0,.va (.lst acc),s2,s3] = .ok (.nx [.va c0,.va (.lst (acc++dS i cs)),y2,y3])
 | [],c0,acc,i,s2,s3,_,_=>⟨s2,s3,by simp[cH,bp,dS]⟩
 | c::cs,c0,acc,i,s2,s3,hc,hl=>by
  obtain⟨x,y,r,rfl,r1,r2⟩:=fO (hc c Je);rw[Jb]at hl;obtain⟨z2,z3,ih⟩:=vD cs c0 (acc++lH i r.length) (i+1) (.va (.int i)) (.va (.tup [x,y,.tup r])) (λc h=>hc c (IX _ h)) (by rw[Jc,iu];omega)
  refine⟨z2,z3,?_⟩
  rw[cH,fA (Z1:=[.va c0,.va (.lst acc),.va (.int i),.va (.tup [x,y,.tup r])]) rfl (BL c0 x y acc r i r2 (by omega)),ih,dS,JE]
  rfl
theorem ck {cs:List T}(hc:aT (.tup cs)=true):(∀c∈cs,bo c=true)/\1<=cs.length/\cs.length<=4:=by
 unfold aT at hc;rw[IV]at hc;obtain⟨l,e,h1,h2⟩:=cU hc.1;cases e;exact⟨λc h=>JC.mp hc.2 c h,h1,h2⟩
theorem zx (cs:List T)(hc:aT (.tup cs)=true):di [.tup cs] = .ok (.lst (dS 0 cs)):=by
 obtain⟨ha,h1,h2⟩:=ck hc;obtain⟨y2,y3,e⟩:=vD cs (.tup cs) [] 0 .em .em ha (by simp;omega)
 rw[LC]at e;refine cf rfl ?_
 unfold jj;rw[aD (Z':=[.va (.tup cs),.va (.lst []),.em,.em]) rfl,aD ((gk (ts:=cH 0 cs) rfl e))]
 rfl
theorem Bv {n k:Nat}(h:k<n):T.int (k:Int)∈rng 0 (n:Int):=by
 unfold rng;exact JQ.mpr ⟨k,Kf.mpr (by omega),by simp⟩
theorem oQ (cs:List T)(c:Nat):reads cs (c:Int)=Dr (cs.getD c .non):=by
 unfold reads;rw[if_pos (by omega),Kc,List.getD_eq_getElem?_getD]
 cases cs[c]? with
 | none=>rfl
 | some t=>
  cases t with
  | tup l=>
   match l with
   | [] =>rfl
   | [_] =>rfl
   | [_,_] =>rfl
   | [_,_,z] =>cases z <;> rfl
   | _::_::z::_::_=>cases z <;> rfl
  | _=>rfl
mutual
def sm (n:Nat):T->Bool
 | .dct _ _=>false
 | .ob _ _ _=>false
 | .scr _=>false
 | .tup l=>decide (l.length<=n)&&sms n l
 | .lst l=>decide (l.length<=n)&&sms n l
 | _=>true
def sms (n:Nat):List T->Bool
 | [] =>true
 | t::l=>sm n t&&sms n l
end
mutual
theorem uP {n:Nat}:∀(t:T),sm n t=true->t.pl=true
 | .scr _,h=>by simp[sm]at h
 | .dct _ _,h=>by simp[sm]at h
 | .ob _ _ _,h=>by simp[sm]at h
 | .tup l,h=>by rw[sm,IV]at h;rw[T.pl];exact sms_pl l h.2
 | .lst l,h=>by rw[sm,IV]at h;rw[T.pl];exact sms_pl l h.2
 | .non,_=>by simp[T.pl]
 | .bl _,_=>by simp[T.pl]
 | .int _,_=>by simp[T.pl]
 | .str _,_=>by simp[T.pl]
theorem sms_pl {n:Nat}:∀(l:List T),sms n l=true->plS l=true
 | [],_=>by simp[plS]
 | t::l,h=>by rw[sms,IV]at h;rw[plS,uP t h.1,sms_pl l h.2];rfl
end
theorem uO {n:Nat}:∀{l:List T},sms n l=true↔ ∀t∈l,sm n t=true
 | [] =>by simp[sms]
 | t::l=>by rw[sms,IV,uO (l:=l)];simp
theorem sm_tup {n:Nat}{l:List T}:sm n (.tup l)=true↔l.length<=n/\∀t∈l,sm n t=true:=by rw[sm,IV,uO,decide_eq_true_iff]
theorem jv {i j:Int}(h:0<j):j7 (.int i) (.int j)= .ok (.int (i % j)):=by show(if _ then _ else _)=_;rw[if_pos h]
theorem lW {i j:Int}(h:0<j)(h2:j<1073741824):j9 (.int i) (.int j)= .ok (.int (i / j)):=by show(if _ then _ else _)=_;rw[if_pos ⟨h,h2⟩]
theorem j6 {i j:Int}(h : -18446744073709551616<i)(h2:i<18446744073709551616):bY (.int i) (.int j)= .ok (.int (i*j)):=by
 show ud (.int i) (.int j)=_
 show(if _ then _ else _)=_
 rw[if_pos (.inl ⟨by omega,by omega⟩)]
theorem yx {i j:Int}(h : -18446744073709551616<j)(h2:j<18446744073709551616):bY (.int i) (.int j)= .ok (.int (i*j)):=by
 show ud (.int i) (.int j)=_
 show(if _ then _ else _)=_
 rw[if_pos (.inr ⟨by omega,by omega⟩)]
theorem Fe (ns:List Int)(k:Nat)(hn:ns.length<=63):∃c,eh [.scr ns,.int k] = .ok (.int c):=by
 have e0:o2 lX (vr 0) (gW aj) [.va (.scr ns),.va (.int k)] = .ok (.bl (ji ns [])):=by
  refine aJ (t:=.scr ns) (u:=.lst []) rfl (sv (ts:=[]) rfl (aF (k:=0) (Ji _))) ?_
  unfold lX;rw[if_pos (gn (by simp[T.dep]) rfl rfl)]
  rfl
 cases ns with
 | nil=>
  refine⟨7*k,cf rfl ?_⟩
  unfold iB
  refine ik ((gj (cF e0)).trans (cV (aJ (t:=.int 7) (u:=.int k) rfl rfl (j6 (by omega) (by omega)))))
 | cons a r=>
  have hl:(0:Int)<((a::r).length:Nat):=by simp only[Jb];omega
  have hl2:(((a::r).length:Nat):Int)<1073741824:=by simp only[Jb]at hn ⊢;omega
  have hi:k % (a::r).length<(a::r).length:=Nat.mod_lt _ (by simp)
  have g0:o2 j7 (vr 1) (cl cv (ae (vr 0) aj)) [.va (.scr (a::r)),.va (.int k)] = .ok (.int ((k % (a::r).length:Nat):Int)):=by
   refine aJ (t:=.int k) (u:=.int ((a::r).length:Nat)) rfl ?_ (by rw[jv hl];rfl)
   refine br (ts:=[.scr (a::r)]) rfl ?_
   show Rs.ok (T.int (((a::r).map T.int).length:Nat))=_
   rw[Jd]
  have g1:aY (.scr (a::r)) (.int ((k % (a::r).length:Nat):Int))= .ok (.int (a::r)[k % (a::r).length]):=by
   have e:((a::r).map T.int)[k % (a::r).length]? =some (.int (a::r)[k % (a::r).length]):=by rw[Jz,Jt hi];rfl
   show(match L2.atI ((a::r).map T.int) ((k % (a::r).length:Nat):Int)with | some t=>Rs.ok t | none=> .bad)=_
   rw[jA e]
  have g2:o2 j9 (vr 1) (cl cv (ae (vr 0) aj)) [.va (.scr (a::r)),.va (.int k)] = .ok (.int ((k:Int) / ((a::r).length:Nat))):=by
   refine aJ (t:=.int k) (u:=.int ((a::r).length:Nat)) rfl ?_ (lW hl hl2)
   refine br (ts:=[.scr (a::r)]) rfl ?_
   show Rs.ok (T.int (((a::r).map T.int).length:Nat))=_
   rw[Jd]
  refine⟨(a::r)[k % (a::r).length] +6553*((k:Int) / ((a::r).length:Nat)),cf rfl ?_⟩
  unfold iB
  show aA _ _ [.va (.scr (a::r)),.va (.int k)] =_
  refine(aD (Z':=[.va (.scr (a::r)),.va (.int k)]) ((eC (cF e0)).trans rfl)).trans ?_
  exact cV (aJ (aJ (t:=.scr (a::r)) rfl g0 g1) (aJ (t:=.int 6553) rfl g2 (j6 (by omega) (by omega))) rfl)
theorem da (ns:List Int)(k:Nat)(m:Int)(hn:ns.length<=63)(hm:0<m):∃r,az [.scr ns,.int k,.int m] = .ok (.int r)/\0<=r/\r<m:=by
 obtain⟨c,hc⟩:=Fe ns k hn
 have b1:∀x:Int,0<=x % 2147483563/\x % 2147483563<2147483563:=λx=>⟨Nx _ (by omega),MB _ (by omega)⟩
 have b2:∀x:Int,0<=x % 2147483399/\x % 2147483399<2147483399:=λx=>⟨Nx _ (by omega),MB _ (by omega)⟩
 generalize hx:(c % 2147483563*69069+104723*((k:Int)+1)) % 2147483563=x
 have hx':=b1 (c % 2147483563*69069+104723*((k:Int)+1));rw[hx]at hx'
 generalize hy:(x*x+x / 3) % 2147483399=y
 have hy':=b2 (x*x+x / 3);rw[hy]at hy';refine⟨(y*y+y / 7) % 2147483647 / 11 % m,cf rfl ?_,Nx _ (by omega),MB _ hm⟩
 show gI [.va (.scr ns),.va (.int k),.va (.int m),.em] =_
 unfold gI
 have s1:cJ (o2 j7 (o2 aU (o2 bY (o2 j7 (cl eh (ae (vr 0) (ae (vr 1) aj))) (cn (.int 2147483563))) (cn (.int 69069))) (o2 bY (cn (.int 104723)) (o2 aU (vr 1) (cn (.int 1))))) (cn (.int 2147483563))) (gN 3) [.va (.scr ns),.va (.int k),.va (.int m),.em] = .ok (.nx [.va (.scr ns),.va (.int k),.va (.int m),.va (.int x)]):=by
  refine cG (t:=.int x) (aJ (u:=.int 2147483563) (aJ (aJ (u:=.int 69069) (aJ (u:=.int 2147483563) (br (ts:=[.scr ns,.int k]) rfl hc) rfl (jv (by omega))) rfl (yx (by omega) (by omega))) (aJ (t:=.int 104723) (u:=.int ((k:Int)+1)) rfl rfl (j6 (by omega) (by omega))) rfl) rfl ?_) rfl
  rw[jv (by omega),hx]
 have s2:cJ (o2 j7 (o2 aU (o2 bY (vr 3) (vr 3)) (o2 j9 (vr 3) (cn (.int 3)))) (cn (.int 2147483399))) (gN 3) [.va (.scr ns),.va (.int k),.va (.int m),.va (.int x)] = .ok (.nx [.va (.scr ns),.va (.int k),.va (.int m),.va (.int y)]):=by
  refine cG (t:=.int y) (aJ (u:=.int 2147483399) (aJ (aJ (t:=.int x) (u:=.int x) rfl rfl (j6 (by omega) (by omega))) (aJ (t:=.int x) (u:=.int 3) rfl rfl (lW (by omega) (by omega))) rfl) rfl ?_) rfl
  rw[jv (by omega),hy]
 rw[aD s1,aD s2];exact cV (aJ (u:=.int m) (aJ (u:=.int 11) (aJ (u:=.int 2147483647) (aJ (aJ (t:=.int y) (u:=.int y) rfl rfl (j6 (by omega) (by omega))) (aJ (t:=.int y) (u:=.int 7) rfl rfl (lW (by omega) (by omega))) rfl) rfl (jv (by omega))) rfl (lW (by omega) (by omega))) rfl (jv hm))
theorem dq {ns:List Int}{k:Nat}{m r:Int}{f g h:En->Rs T}{Z:En}(e:az [.scr ns,.int k,.int m] = .ok (.int r))(h1:f Z= .ok (.scr ns))(h2:g Z= .ok (.int k))(h3:h Z= .ok (.int m)) :
  cl az (ae f (ae g (ae h aj))) Z= .ok (.int r):=br (au h1 (au h2 (au h3 rfl))) e
theorem rL:∀(l:List Int) (z y:Int),lP (l++ [z])=true->z<y->lP (l++ [z] ++ [y])=true
 | [],z,y,_,h=>by simp[lP,h]
 | [a],z,y,h,hy=>by
  simp[lP]at h ⊢
  omega
 | a::b::l,z,y,h,hy=>by
  have h':lP (a::b::(l++ [z]))=true:=h;rw[AH,IV]at h'
  have ih:=rL (b::l) z y h'.2 hy
  show lP (a::b::(l++ [z] ++ [y]))=true
  rw[AH,h'.1];exact ih
theorem hZ:∀l:List Int,i0 (l.map .int)=some l
 | [] =>rfl
 | a::l=>by rw[IZ,i0,hZ l]
def RdOk (l:List Int):Prop:=∃(l':List Int) (z:Int),l=l'++ [z]/\lP l=true/\(∀x∈l,0<=x/\x<=5*l.length)/\z<=5*l.length
abbrev clF:En->Rs Fl:=cJ (o2 aU (vr 3) (bA (ae (o2 aU (o2 aU (o2 aY (vr 3) (o1 kI (cn (.int 1)))) (cn (.int 1))) (cl az (ae (vr 0) (ae (o2 aU (o2 aU (vr 1) (cn (.int 3))) (vr 4)) (ae (cn (.int 5)) aj))))) aj))) (gN 3)
theorem qJ (l:List T)(z:T):aY (.tup (l++ [z])) (.int (-1))= .ok z:=by
 have e:L2.atI (l++ [z]) (-1)=some z:=by
  unfold L2.atI L2.ixN;simp;rw[if_pos (by omega)]
  have q:(-1+((l.length:Int)+1)).toNat=l.length:=by omega
  show(l++ [z])[(-1+((l.length:Int)+1)).toNat]? =some z
  rw[q];simp
 show(match L2.atI (l++ [z]) (-1)with | some t=>Rs.ok t | none=> .bad)=_
 rw[e]
theorem BZ (ns:List Int)(hn:ns.length<=63)(a j:Nat)(s:T)(l:List Int)(h:RdOk l)(hl:l.length<=3):∃l2,clF [.va (.scr ns),.va (.int a),.va s,.va (.tup (l.map .int)),.va (.int j)] = .ok (.nx [.va (.scr ns),.va (.int a),.va s,.va (.tup (l2.map .int)),.va (.int j)])/\RdOk l2/\l2.length=l.length+1:=by
 obtain⟨l',z,rfl,h1,h2,h3⟩:=h;obtain⟨d,ed,d0,d1⟩:=da ns (a+3+j) 5 hn (by omega)
 refine⟨l'++ [z] ++ [z+1+d],?_,⟨l'++ [z],z+1+d,rfl,rL l' z _ h1 (by omega),?_,?_⟩,by simp⟩
 ·refine cG (t:=.tup ((l'++ [z] ++ [z+1+d]).map .int)) (aJ (t:=.tup ((l'++ [z]).map .int)) (u:=.tup [.int (z+1+d)]) rfl (cx (ts:=[.int (z+1+d)]) (au (aJ (t:=.int (z+1)) (u:=.int d) (aJ (t:=.int z) (u:=.int 1) (aJ (t:=.tup ((l'++ [z]).map .int)) (u:=.int (-1)) rfl rfl ?_) rfl rfl) (dq (k:=a+3+j) ed rfl ?_ rfl) rfl) rfl) (aF (k:=1) (by simp))) ?_) rfl
  ·rw[KH];exact qJ _ _
  ·refine aJ (t:=.int ((a:Int)+3)) (u:=.int j) (aJ (t:=.int a) (u:=.int 3) rfl rfl rfl) rfl ?_
   show Rs.ok (T.int ((a:Int)+3+j))=_
   congr 2
  ·rw[KH (l₁:=l'++ [z])]
   exact qV _ _ (by rw[Jc,Jd];simp at hl ⊢;omega)
 ·intro x hx
  rcases Ju.mp hx with hx | hx
  ·have:=h2 x hx
   simp only[Jc,Ku]at this ⊢;omega
  ·rw[Jk]at hx
   subst hx
   have hz:=h2 z (by simp)
   simp only[Jc,Ku]at h3 ⊢;omega
 ·simp only[Jc,Ku]at h3 ⊢
  omega
theorem vM (ns:List Int)(hn:ns.length<=63)(a:Nat)(s:T):∀(js:List Nat) (l:List Int) (s4:Sl),RdOk l->l.length+js.length<=4->∃l2 s5,bp (gN 4) clF (js.map λ(j:Nat)=>T.int j) [.va (.scr ns),.va (.int a),.va s,.va (.tup (l.map .int)),s4] = .ok (.nx [.va (.scr ns),.va (.int a),.va s,.va (.tup (l2.map .int)),s5])/\RdOk l2/\l2.length=l.length+js.length
 | [],l,s4,h,_=>⟨l,s4,rfl,h,rfl⟩
 | j::js,l,s4,h,hl=>by
  rw[Jb]at hl;obtain⟨l2,e2,h2,n2⟩:=BZ ns hn a j s l h (by omega)
  obtain⟨l3,s5,e3,h3,n3⟩:=vM ns hn a s js l2 (.va (.int j)) h2 (by omega)
  refine⟨l3,s5,?_,h3,by rw[n3,n2,Jb];omega⟩
  rw[IZ,fA (Z1:=[.va (.scr ns),.va (.int a),.va s,.va (.tup (l.map .int)),.va (.int j)]) rfl e2];exact e3
theorem lO (n:Nat):rng 0 (n:Int)=(J1 n).map λ(j:Nat)=>T.int j:=by
 unfold rng;simp
theorem RdOk.reads {l:List Int}(h:RdOk l)(hl:l.length<=4):cg (.tup (l.map .int))=true:=by
 obtain⟨l',z,rfl,h1,h2,h3⟩:=h;unfold cg;rw[IV];refine⟨?_,?_⟩
 ·simp[du];simp at hl;omega
 ·show(((l'++ [z]).map T.int).all (λu=>aX u 0 99)&&(match i0 ((l'++ [z]).map T.int)with | some m=>lP m | none=>false))=true
  rw[hZ]
  show(_&&lP (l'++ [z]))=true
  rw[h1,Oc,JC];intro t ht;obtain⟨x,hx,rfl⟩:=JQ.mp ht
  have:=h2 x hx;simp only[aX,IV,decide_eq_true_eq];omega
theorem AA (n:Nat)(l:List Int)(h:l.length<=n):sm n (.tup (l.map .int))=true:=sm_tup.mpr ⟨by rw[Jd];exact h,λt ht=>by obtain⟨x,_,rfl⟩:=JQ.mp ht;simp[sm]⟩
theorem zy (ns:List Int)(hn:ns.length<=63)(a:Nat):∃c,b9 [.scr ns,.int a] = .ok c/\bo c=true/\sm 8 c=true:=by
 obtain⟨d1,e1,p1,q1⟩:=da ns a 3 hn (by omega)
 obtain⟨d2,e2,p2,q2⟩:=da ns (a+2) 6 hn (by omega)
 obtain⟨d3,e3,p3,q3⟩:=da ns (a+1) 3 hn (by omega)
 obtain⟨d4,e4,p4,q4⟩:=da ns (a+6) 3 hn (by omega)
 obtain⟨n3,rfl⟩:=JS p3;obtain⟨l,s5,el,hl,nl⟩:=vM ns hn a (.int (1+d1)) (J1 n3) [d2] .em ⟨[],d2,rfl,rfl,λx hx=>by rw[Jk]at hx;subst hx;simp;omega,by simp;omega⟩ (by simp;omega)
 have nl':l.length<=4:=by rw[nl];simp;omega
 have hr:=hl.reads nl';refine⟨.tup [.int (1+d1),.int (1+d1+d4),.tup (l.map .int)],cf rfl ?_,?_,?_⟩
 ·show gJ [.va (.scr ns),.va (.int a),.em,.em,.em] =_
  unfold gJ;rw[aD (Z':=[.va (.scr ns),.va (.int a),.va (.int (1+d1)),.em,.em]) (cG (t:=.int (1+d1)) (aJ (t:=.int 1) rfl (dq e1 rfl rfl rfl) rfl) rfl)];rw[aD (Z':=[.va (.scr ns),.va (.int a),.va (.int (1+d1)),.va (.tup ([d2].map .int)),.em]) (cG (t:=.tup [.int d2]) (cx (ts:=[.int d2]) (au (dq (k:=a+2) e2 rfl rfl rfl) rfl) (aF (k:=1) (by simp))) rfl)]
  rw[aD ((gk (CL (au (dq (k:=a+1) e3 rfl rfl rfl) rfl) (by omega) (by omega)) (by rw[lO];exact el)))]
  exact cV (cx (au (t:=.int (1+d1)) rfl (au (aJ (t:=.int (1+d1)) rfl (dq (k:=a+6) e4 rfl rfl rfl) rfl) (au (t:=.tup (l.map .int)) rfl rfl))) (aF (k:=3) (by simp)))
 ·show(true&&(ly (.int (1+d1)) (.int (1+d1+d4))&&cg _))=true
  rw[hr];simp only[ly,aX,MY,Oc,IV,decide_eq_true_eq];omega
 ·refine sm_tup.mpr ⟨by simp,λt ht=> ?_⟩
  rcases Jg.mp ht with rfl | ht
  ·simp[sm]
  ·rcases Jg.mp ht with rfl | ht
   ·simp[sm]
   ·rw[Jk]at ht;subst ht;exact AA 8 l (by omega)
theorem lS {y:T}:∀(cs:List T) (i:Nat),y∈dS i cs->∃c k:Nat,y= .tup [.int c,.int k]/\i<=c/\c<i+cs.length/\k<Dr (cs.getD (c - i) .non)
 | [],i,h=>by cases h
 | x::cs,i,h=>by
  rw[dS]at h;rcases Ju.mp h with h | h
  ·unfold lH at h
   obtain⟨t,ht,rfl⟩:=JQ.mp h;obtain⟨j,rfl,hj⟩:=pV ht;refine⟨i,j,rfl,Ji _,by rw[Jb];omega,?_⟩
   rw[Np]
   show j<Dr x
   omega
  ·obtain⟨c,k,e,h1,h2,h3⟩:=lS cs (i+1) h
   refine⟨c,k,e,by omega,by rw[Jb];omega,?_⟩
   have:c - i=(c - (i+1))+1:=by omega
   rw[this];exact h3
theorem CN {cs:List T}{y:T}(h:y∈dS 0 cs):bc cs y=true:=by
 obtain⟨c,k,rfl,_,h2,h3⟩:=lS cs 0 h
 show(decide ((0:Int)<=(c:Int))&&decide ((c:Int)<(cs.length:Int))&&(decide ((0:Int)<=(k:Int))&&decide ((k:Int)<(reads cs (c:Int):Int))))=true
 rw[Nq]at h3;rw[oQ];simp only[IV,decide_eq_true_eq];omega
theorem kA:∀(cs:List T) (i:Nat),(dS i cs).Nodup
 | [],i=>LW
 | x::cs,i=>by
  rw[dS,Kd];refine⟨?_,kA cs (i+1),?_⟩
  ·unfold lH rng
   rw[Nr];rw[Mv,List.pairwise_map];refine List.nodup_range.imp ?_
   intro a b hab e
   simp at e
   exact hab (by omega)
  ·intro a ha b hb e
   subst e;unfold lH at ha;obtain⟨t,ht,rfl⟩:=JQ.mp ha;obtain⟨c,k,e,h1,_,_⟩:=lS cs (i+1) hb
   simp at e
   omega
theorem yq {l:List T}(h:l.Nodup){i j:Nat}(hi:i<l.length)(hj:j<l.length)(hij:i≠j):l[i] ≠l[j]:=by
 rw[Mv,List.pairwise_iff_getElem]at h;rcases OQ i j with q | q
 ·exact h i j hi hj q
 ·exact λe=>h j i hj hi (by omega) e.symm
theorem qN:∀(cs:List T) (i:Nat),(∀c∈cs,bo c=true)->(dS i cs).length<=4*cs.length
 | [],i,_=>Ji _
 | x::cs,i,h=>by
  obtain⟨a,b,r,rfl,_,h2⟩:=fO (h x Je)
  have:=qN cs (i+1) λc hc=>h c (IX _ hc)
  rw[dS,Jc,iu,Jb]
  show r.length+_<=_
  omega
theorem zm {cs:List T}{a b:T}(ha:bc cs a=true)(hb:bc cs b=true)(h:a≠b):aV a b=false:=by
 obtain⟨c,k,rfl⟩:=cy ha;obtain⟨c',k',rfl⟩:=cy hb;rw[Bool.eq_false_iff];intro e;simp[aV,beqTs]at e;exact h (by rw[e.1,e.2])
theorem rA {cs:List T}{a:T}(ha:bc cs a=true):sm 8 a=true:=by
 obtain⟨c,k,rfl⟩:=cy ha;simp[sm,sms]
theorem y1 {l:List T}{i:Nat}(h:i<l.length):aY (.lst l) (.int (i:Int))= .ok l[i]:=by
 show(match L2.atI l (i:Int)with | some t=>Rs.ok t | none=> .bad)=_
 rw[jA (Jt h)]
theorem E6 (a b:Int):lX (.int a) (.int b)= .ok (.bl (a == b)):=by
 unfold lX;rw[if_pos (gn (by simp[T.dep]) rfl rfl)]
 rfl
theorem nC (ns:List Int)(hn:ns.length<=63)(a:Nat)(cs:List T)(hc:aT (.tup cs)=true):∃r,bq [.scr ns,.int a,.tup cs] = .ok r/\((r= .non/\(dS 0 cs).length<2)\/(ba cs r=true/\sm 8 r=true)):=by
 obtain⟨ha,h1,h4⟩:=ck hc
 have hlen:=qN cs 0 ha
 have er:=zx cs hc
 have gl:∀s4 s5 s6 s7:Sl,cl cv (ae (vr 3) aj) [.va (.scr ns),.va (.int a),.va (.tup cs),.va (.lst (dS 0 cs)),s4,s5,s6,s7] = .ok (.int ((dS 0 cs).length:Nat)):=λ_ _ _ _=>rfl
 have s1:cJ (cl di (ae (vr 2) aj)) (gN 3) [.va (.scr ns),.va (.int a),.va (.tup cs),.em,.em,.em,.em,.em] = .ok (.nx [.va (.scr ns),.va (.int a),.va (.tup cs),.va (.lst (dS 0 cs)),.em,.em,.em,.em]):=cG (br (ts:=[.tup cs]) rfl er) rfl
 have lt:o2 Fv (cl cv (ae (vr 3) aj)) (cn (.int 2)) [.va (.scr ns),.va (.int a),.va (.tup cs),.va (.lst (dS 0 cs)),.em,.em,.em,.em] = .ok (.bl (decide (((dS 0 cs).length:Int)<2))):=aJ (t:=.int ((dS 0 cs).length:Nat)) (u:=.int 2) (gl _ _ _ _) rfl rfl
 by_cases hs:(dS 0 cs).length<2
 ·refine⟨.non,cf rfl ?_,.inl ⟨rfl,hs⟩⟩
  show dm [.va (.scr ns),.va (.int a),.va (.tup cs),.em,.em,.em,.em,.em] =_
  unfold dm;rw[aD s1];rw[decide_eq_true (by omega)]at lt
  exact ik ((gj (cF lt)).trans rfl)
 ·rw[decide_eq_false (by omega)]at lt
  generalize hN:(dS 0 cs).length=n at*
  obtain⟨d1,e1,p1,q1⟩:=da ns a (n:Int) hn (by omega)
  obtain⟨d2,e2,p2,q2⟩:=da ns (a+1) ((n:Int) - 1) hn (by omega)
  obtain⟨d3,e3,p3,q3⟩:=da ns (a+2) 8 hn (by omega)
  obtain⟨d4,e4,p4,q4⟩:=da ns (a+3) 3 hn (by omega)
  obtain⟨d5,e5,p5,q5⟩:=da ns (a+4) 9 hn (by omega)
  obtain⟨i,rfl⟩:=JS p1;obtain⟨d2,rfl⟩:=JS p2
  have hi:i<(dS 0 cs).length:=by omega
  have hj:(i+1+d2) % n<(dS 0 cs).length:=by rw[hN];exact Nat.mod_lt _ (by omega)
  have hij:i≠(i+1+d2) % n:=by
   rcases OQ (i+1+d2) n with q | q
   ·rw[O7 q];omega
   ·have:(i+1+d2) % n=i+1+d2 - n:=by
     rw[Nat.mod_eq_sub_mod q,O7 (by omega)]
    rw[this];omega
  have eA:=CN (KM hi)
  have eB:=CN (KM hj)
  have eN:(dS 0 cs)[i] ≠(dS 0 cs)[(i+1+d2) % n]:=yq (kA cs 0) hi hj hij
  generalize hA:(dS 0 cs)[i] =A at*
  generalize hB:(dS 0 cs)[(i+1+d2) % n] =B at*
  let y:T:=if d4 == 0 then .non else .int (d3+d5)
  refine⟨.tup [A,B,.int d3,y],cf rfl ?_,.inr ⟨?_,?_⟩⟩
  ·show dm [.va (.scr ns),.va (.int a),.va (.tup cs),.em,.em,.em,.em,.em] =_
   unfold dm;rw[aD s1];rw[aD (Z':=[.va (.scr ns),.va (.int a),.va (.tup cs),.va (.lst (dS 0 cs)),.em,.em,.em,.em]) ((eC (cF lt)).trans rfl)];rw[aD (Z':=[.va (.scr ns),.va (.int a),.va (.tup cs),.va (.lst (dS 0 cs)),.va (.int (i:Nat)),.em,.em,.em]) (cG (dq e1 rfl rfl (gl _ _ _ _)) rfl)];rw[aD (Z':=[.va (.scr ns),.va (.int a),.va (.tup cs),.va (.lst (dS 0 cs)),.va (.int (i:Nat)),.va (.int ((i+1+d2) % n:Nat)),.em,.em]) (cG (t:=.int ((i+1+d2) % n:Nat)) (aJ (t:=.int ((i:Int)+1+d2)) (u:=.int n) (aJ (t:=.int ((i:Int)+1)) (u:=.int d2) rfl (dq (k:=a+1) e2 rfl rfl (aJ (t:=.int n) (u:=.int 1) (gl _ _ _ _) rfl rfl)) rfl) (gl _ _ _ _) (jv (by omega))) rfl)]
   rw[aD (Z':=[.va (.scr ns),.va (.int a),.va (.tup cs),.va (.lst (dS 0 cs)),.va (.int (i:Nat)),.va (.int ((i+1+d2) % n:Nat)),.va (.int d3),.em]) (cG (dq (k:=a+2) e3 rfl rfl rfl) rfl)]
   have ey:CK (tb (o2 lX (cl az (ae (vr 0) (ae (o2 aU (vr 1) (cn (.int 3))) (ae (cn (.int 3)) aj)))) (cn (.int 0)))) (cn .non) (o2 aU (vr 6) (cl az (ae (vr 0) (ae (o2 aU (vr 1) (cn (.int 4))) (ae (cn (.int 9)) aj))))) [.va (.scr ns),.va (.int a),.va (.tup cs),.va (.lst (dS 0 cs)),.va (.int (i:Nat)),.va (.int ((i+1+d2) % n:Nat)),.va (.int d3),.em] = .ok y:=by
    rw[CH (cF (aJ (u:=.int 0) (dq (k:=a+3) e4 rfl rfl rfl) rfl (E6 _ _)))]
    show _=Rs.ok (if d4 == 0 then T.non else .int (d3+d5))
    cases d4 == 0 with
    | true=>rfl
    | false=>exact aJ (t:=.int d3) rfl (dq (k:=a+4) e5 rfl rfl rfl) rfl
   rw[aD (Z':=[.va (.scr ns),.va (.int a),.va (.tup cs),.va (.lst (dS 0 cs)),.va (.int (i:Nat)),.va (.int ((i+1+d2) % n:Nat)),.va (.int d3),.va y]) (cG ey rfl)];refine cV (cx (au (t:=A) (aJ (t:=.lst (dS 0 cs)) (u:=.int (i:Nat)) rfl rfl ?_) (au (t:=B) (aJ (t:=.lst (dS 0 cs)) (u:=.int ((i+1+d2) % n:Nat)) rfl rfl ?_) (au (t:=.int d3) rfl (au (t:=y) rfl rfl)))) (aF (k:=4) (by simp)))
   ·rw[<-hA];exact y1 hi
   ·rw[<-hB];exact y1 hj
  ·show(c9 (.int d3) y&&(bc cs A&&(bc cs B&& !aV A B)))=true
   rw[eA,eB,zm eA eB eN]
   have:c9 (.int d3) y=true:=by
    show(aX (.int d3) 0 999&&(match(T.int d3),(if d4 == 0 then T.non else .int (d3+d5))with | _,.non=>true | .int i,_=>aX (if d4 == 0 then T.non else .int (d3+d5)) i 999 | _,_=>false))=true
    cases d4 == 0 with
    | true=>simp[aX];omega
    | false=>simp[aX];omega
   rw[this];rfl
  ·refine sm_tup.mpr ⟨by simp,λt ht=> ?_⟩
   have hy:sm 8 y=true:=by show sm 8 (if d4 == 0 then T.non else .int (d3+d5))=true;cases d4 == 0 <;> simp[sm]
   simp only[Jg,J9,or_false]at ht;rcases ht with rfl | rfl | rfl | rfl
   ·exact rA eA
   ·exact rA eB
   ·simp[sm]
   ·exact hy
theorem wV (ns:List Int)(hn:ns.length<=63)(a:Nat)(cs:List T)(hc:aT (.tup cs)=true):∃r,bq [.scr ns,.int a,.tup cs] = .ok r/\(r= .non\/(ba cs r=true/\sm 8 r=true)):=by
 obtain⟨r,e,h⟩:=nC ns hn a cs hc;exact⟨r,e,h.imp_left (·.1)⟩
def okv:Rs T->T
 | .ok t=>t
 | _=> .non
theorem u9 (l:List T)(k:Int)(h : -(2 ^ 63)<=k/\k<2 ^ 63/\l.length*k.toNat<=sizeLine):bY (.lst l) (.int k)= .ok (.lst (Js k.toNat l).flatten):=by
 show ud (.lst l) (.int k)=_
 unfold ud;exact if_pos h
theorem mul_one (x:T)(b:Bool):bY (.lst [x]) (.int (if b then 1 else 0))= .ok (.lst (if b then [x]else [])):=by
 cases b with
 | true=>exact u9 [x] 1 ⟨by decide,by decide,aF (k:=1) (by simp)⟩
 | false=>exact u9 [x] 0 ⟨by decide,by decide,aF (k:=1) (by simp)⟩
abbrev leF:En->Rs Fl:=aA (cJ (cl bq (ae (vr 0) (ae (o2 aU (o2 aU (vr 1) (cn (.int 31))) (o2 bY (cn (.int 6)) (vr 5))) (ae (vr 3) aj)))) (gN 6)) (cJ (o2 aU (vr 4) (o2 bY (gW (ae (vr 6) aj)) (cl y6 (ae (o2 k8 (vr 6) (cn .non)) aj)))) (gN 4))
def xc (cs ls:List T):Prop:=∀t∈ls,ba cs t=true/\sm 8 t=true
theorem Bx (ns:List Int)(hn:ns.length<=63)(a j:Nat)(m:T)(cs ls:List T)(hc:aT (.tup cs)=true)(h:xc cs ls)(hl:ls.length<=100)(s6:Sl) :
  ∃ls2 s7,leF [.va (.scr ns),.va (.int a),.va m,.va (.tup cs),.va (.lst ls),.va (.int j),s6] = .ok (.nx [.va (.scr ns),.va (.int a),.va m,.va (.tup cs),.va (.lst ls2),.va (.int j),s7])/\xc cs ls2/\ls2.length<=ls.length+1:=by
 obtain⟨r,er,hr⟩:=wV ns hn (a+31+6*j) cs hc
 have e1:∀G,aA (cJ (cl bq (ae (vr 0) (ae (o2 aU (o2 aU (vr 1) (cn (.int 31))) (o2 bY (cn (.int 6)) (vr 5))) (ae (vr 3) aj)))) (gN 6)) G [.va (.scr ns),.va (.int a),.va m,.va (.tup cs),.va (.lst ls),.va (.int j),s6] =G [.va (.scr ns),.va (.int a),.va m,.va (.tup cs),.va (.lst ls),.va (.int j),.va r]:=λG=>by
  refine aD (cG (t:=r) (br (ts:=[.scr ns,.int (a+31+6*j:Nat),.tup cs]) (au (t:=.scr ns) rfl (au (t:=.int (a+31+6*j:Nat)) (aJ (t:=.int ((a:Int)+31)) (u:=.int (6*(j:Int))) rfl (aJ (t:=.int 6) (u:=.int j) rfl rfl (j6 (by omega) (by omega))) rfl) (au (t:=.tup cs) rfl rfl))) er) rfl)
 have e2:cl y6 (ae (o2 k8 (vr 6) (cn .non)) aj) [.va (.scr ns),.va (.int a),.va m,.va (.tup cs),.va (.lst ls),.va (.int j),.va r] = .ok (.int (if !r.isN then 1 else 0)):=br (ts:=[.bl (!r.isN)]) rfl rfl
 refine⟨ls++(if !r.isN then [r]else []),.va r,?_,?_,?_⟩
 ·refine(e1 _).trans (cG (aJ (t:=.lst ls) (u:=.lst (if !r.isN then [r]else [])) rfl (aJ (t:=.lst [r]) (sv (ts:=[r]) rfl (aF (k:=1) (by simp))) e2 (mul_one _ _)) (vQ _ _ ?_)) rfl)
  rw[Jc];cases r.isN <;> simp <;> omega
 ·intro t ht
  rcases Ju.mp ht with ht | ht
  ·exact h t ht
  ·rcases hr with rfl | hr
   ·cases ht
   ·cases q:r.isN with
    | true=>rw[q]at ht;cases ht
    | false=>
     rw[q]at ht;rw[show t=r by simpa using ht]
     exact hr
 ·rw[Jc]
  cases r.isN <;> simp
theorem vg (ns:List Int)(hn:ns.length<=63)(a:Nat)(m:T)(cs:List T)(hc:aT (.tup cs)=true):∀(js:List Nat) (ls:List T) (s5 s6:Sl),xc cs ls->ls.length+js.length<=100 →
  ∃ls2 t5 t6,bp (gN 5) leF (js.map λ(j:Nat)=>T.int j) [.va (.scr ns),.va (.int a),.va m,.va (.tup cs),.va (.lst ls),s5,s6] = .ok (.nx [.va (.scr ns),.va (.int a),.va m,.va (.tup cs),.va (.lst ls2),t5,t6])/\xc cs ls2/\ls2.length<=ls.length+js.length
 | [],ls,s5,s6,h,_=>⟨ls,s5,s6,rfl,h,Ji _⟩
 | j::js,ls,s5,s6,h,hl=>by
  rw[Jb]at hl;obtain⟨l2,s7,e2,h2,n2⟩:=Bx ns hn a j m cs ls hc h (by omega) s6
  obtain⟨l3,t5,t6,e3,h3,n3⟩:=vg ns hn a m cs hc js l2 (.va (.int j)) s7 h2 (by omega)
  refine⟨l3,t5,t6,?_,h3,by rw[Jb];omega⟩
  rw[IZ,fA (Z1:=[.va (.scr ns),.va (.int a),.va m,.va (.tup cs),.va (.lst ls),.va (.int j),s6]) rfl e2];exact e3
theorem Fd (ns:List Int)(hn:ns.length<=63)(a m:Nat)(hm:m<=8):∃cs ls,d8 [.scr ns,.int a,.int m] = .ok (RR cs ls)/\aT (.tup cs)=true/\cs.length<=3/\(∀c∈cs,sm 8 c=true)/\xc cs ls/\ls.length<=m:=by
 obtain⟨d1,e1,p1,q1⟩:=da ns a 3 hn (by omega)
 obtain⟨d2,e2,p2,q2⟩:=da ns (a+30) ((m:Int)+1) hn (by omega)
 obtain⟨d1,rfl⟩:=JS p1;obtain⟨d2,rfl⟩:=JS p2
 let hcl:T->T:=λt=>match t with
  | .int k=>okv (b9 [.scr ns,.int ((a:Int)+1+8*k)])
  | _=> .non
 have hh:∀t∈rng 0 ((1+d1:Nat):Int),∃k:Nat,t= .int k/\b9 [.scr ns,.int ((a+1+8*k:Nat):Int)] = .ok (hcl t)/\bo (hcl t)=true/\sm 8 (hcl t)=true:=λt ht=>by
  obtain⟨k,rfl,_⟩:=pV ht;obtain⟨c,ec,h1,h2⟩:=zy ns hn (a+1+8*k)
  have e:hcl (.int k)=c:=by
   show okv (b9 [.scr ns,.int ((a+1+8*k:Nat):Int)])=c
   rw[ec];rfl
  exact⟨k,rfl,by rw[e];exact ec,by rw[e];exact h1,by rw[e];exact h2⟩
 generalize hcs:(rng 0 ((1+d1:Nat):Int)).map hcl=cs
 have lc:cs.length=1+d1:=by rw[<-hcs,Jd,iG]
 have hc:aT (.tup cs)=true:=by
  show(du (.tup cs) 1 4&&cs.all bo)=true
  rw[IV,JC];refine⟨by simp[du];omega,λc h=> ?_⟩
  rw[<-hcs]at h;obtain⟨t,ht,rfl⟩:=JQ.mp h;obtain⟨_,_,_,h1,_⟩:=hh t ht;exact h1
 have hsm:∀c∈cs,sm 8 c=true:=λc h=>by
  rw[<-hcs]at h;obtain⟨t,ht,rfl⟩:=JQ.mp h;obtain⟨_,_,_,_,h1⟩:=hh t ht;exact h1
 obtain⟨ls,t5,t6,el,hl,nl⟩:=vg ns hn a (.int m) cs hc (J1 d2) [] .em .em (λt h=>by cases h) (by simp;omega)
 refine⟨cs,ls,cf rfl ?_,hc,by omega,hsm,hl,by simp at nl;omega⟩
 show fZ [.va (.scr ns),.va (.int a),.va (.int m),.em,.em,.em,.em] =_
 unfold fZ
 have s1:cJ (cl jl (ae (iO (iR (ae (o2 aU (cn (.int 1)) (cl az (ae (vr 0) (ae (vr 1) (ae (cn (.int 3)) aj))))) aj)) [none,some 0,some 1] (gN 0) bT (cl b9 (ae (vr 1) (ae (o2 aU (o2 aU (vr 2) (cn (.int 1))) (o2 bY (cn (.int 8)) (vr 0))) aj)))) aj)) (gN 3) [.va (.scr ns),.va (.int a),.va (.int m),.em,.em,.em,.em] = .ok (.nx [.va (.scr ns),.va (.int a),.va (.int m),.va (.tup cs),.em,.em,.em]):=by
  refine cG (t:=.tup cs) (br (ts:=[.lst cs]) (au (t:=.lst cs) ?_ rfl) rfl) rfl
  rw[<-hcs];refine wK (ts:=rng 0 ((1+d1:Nat):Int)) (h:=hcl) (CL (au (t:=.int ((1+d1:Nat):Int)) (aJ (t:=.int 1) (u:=.int d1) rfl (dq e1 rfl rfl rfl) rfl) rfl) (by omega) (by omega)) (aF (k:=3) (by rw[iG];omega)) (by simp) λt ht=> ?_
  obtain⟨k,rfl,ek,_,_⟩:=hh t ht;refine br (ts:=[.scr ns,.int ((a+1+8*k:Nat):Int)]) (au (t:=.scr ns) rfl (au (aJ (t:=.int ((a:Int)+1)) (u:=.int (8*(k:Int))) rfl (aJ (t:=.int 8) (u:=.int k) rfl rfl (j6 (by omega) (by omega))) rfl) rfl)) ek
 rw[aD s1];rw[aD (Z':=[.va (.scr ns),.va (.int a),.va (.int m),.va (.tup cs),.va (.lst []),.em,.em]) (cG (sv (ts:=[]) rfl (aF (k:=0) (by simp))) rfl)]
 rw[aD ((gk (CL (au (dq (k:=a+30) e2 rfl rfl (aJ (t:=.int m) (u:=.int 1) rfl rfl rfl)) rfl) (by omega) (by omega)) (by rw[lO];exact el)))]
 exact cV (cx (au (t:=.tup cs) rfl (au (t:=.tup ls) rfl rfl)) (aF (k:=2) (by simp)))
theorem cA {cs:List T}{t:T}(h:ba cs t=true):∃a b x y,t= .tup [a,b,x,y]/\c9 x y=true/\bc cs a=true/\bc cs b=true/\aV a b=false:=by
 unfold ba at h
 split at h
 ·simp only[IV,Ox]at h
  exact⟨_,_,_,_,rfl,h.1,h.2.1,h.2.2.1,h.2.2.2⟩
 ·cases h
theorem Dq {cs ls:List T}(hc:aT (.tup cs)=true)(hs:∀c∈cs,sm 8 c=true)(hl:xc cs ls)(hn:ls.length<=8):dC (RR cs ls)=true/\sm 8 (RR cs ls)=true:=by
 refine⟨?_,?_⟩
 ·show(aT (.tup cs)&&(du (.tup ls) 0 8&&ls.all (ba cs)))=true
  rw[hc,MY,IV,JC];exact⟨by simp[du];exact hn,λt ht=>(hl t ht).1⟩
 ·refine sm_tup.mpr ⟨by simp,λt ht=> ?_⟩
  simp only[Jg,J9,or_false]at ht;rcases ht with rfl | rfl
  ·exact sm_tup.mpr ⟨by have:=(ck hc).2.2;omega,hs⟩
  ·exact sm_tup.mpr ⟨hn,λt ht=>(hl t ht).2⟩
end G
namespace Tr
open PySem
section
variable {f fa fb:En->Rs T}{fs:En->Rs (List T)}{b c:En->Rs Bool}{F G:En->Rs Fl}{Z Z' Z1 Z2:En}{t u r:T}{ts l m:List T}
mutual
theorem iX:∀(t:T),t.pl=true->aV t t=true
 | .non,_=>rfl
 | .bl a,_=>by simp[aV]
 | .int a,_=>by simp[aV]
 | .str a,_=>by simp[aV]
 | .tup l,h=>by rw[aV];exact beqTs_refl l (by unfold T.pl at h;exact h)
 | .lst l,h=>by rw[aV];exact beqTs_refl l (by unfold T.pl at h;exact h)
 | .scr _,h=>by simp[T.pl]at h
theorem beqTs_refl:∀(l:List T),plS l=true->beqTs l l=true
 | [],_=>rfl
 | t::l,h=>by
  unfold plS at h;rw[IV]at h;rw[beqTs,iX t h.1,beqTs_refl l h.2];rfl
end
theorem qy (hp:t.pl=true)(hd:t.dep<=60):lR t t= .ok (.bl false):=by
 unfold lR;rw[if_pos (gn hd (T.HY _ hp) (T.HY _ hp)),iX t hp];rfl
theorem vE (hp:t.pl=true)(hd:t.dep<=60):lX t t= .ok (.bl true):=by
 unfold lX;rw[if_pos (gn hd (T.HY _ hp) (T.HY _ hp)),iX t hp]
theorem vJ {n:Nat}:∀{l:List T},(∀t∈l,t.dep<=n)->deps l<=n
 | [],_=>by unfold deps;omega
 | t::l,h=>by
  unfold deps
  have:=vJ (l:=l) λu hu=>h u (IX _ hu)
  have:=h t Je;omega
theorem mz:∀{l:List T},(∀t∈l,t.pl=true)->plS l=true
 | [],_=>rfl
 | t::l,h=>by unfold plS;rw[h t Je,mz λu hu=>h u (IX _ hu)];rfl
end
end Tr
namespace G
open PySem Tr
def dr (r:List Int)(k:Nat):Int:=r.getD (k+1) 0 - r.getD k 0
def pr (n:Nat)(x y:Int)(r:List Int)(k:Nat):List T:=
 [.tup [.tup [.int n,.int k],.tup [.int n,.int ((k+1:Nat):Int)],.int (dr r k*y)],.tup [.tup [.int n,.int ((k+1:Nat):Int)],.tup [.int n,.int k],.int (-dr r k*x)]]
def cB (n:Nat)(x y:Int)(r:List Int):List T:=(J1 (r.length - 1)).flatMap (pr n x y r)
abbrev zP (n:Nat)(x y:Int)(r:List Int)(acc:List T)(s4 s5 s6 s7:Sl):En:=[.va (.int n),.va (.tup [.int x,.int y,.tup (r.map .int)]),.va (.tup (r.map .int)),.ow (.lst acc),s4,s5,s6,s7]
abbrev bcF:En->Rs Fl:=(aA (cJ (bA (ae (vr 0) (ae (vr 4) aj))) (gN 5)) (aA (cJ (bA (ae (vr 0) (ae (o2 aU (vr 4) (cn (.int 1))) aj))) (gN 6)) (aA (cJ (o2 fF (o2 aY (vr 2) (o2 aU (vr 4) (cn (.int 1)))) (o2 aY (vr 2) (vr 4))) (gN 7)) (aA (n6 3 (bA (ae (vr 5) (ae (vr 6) (ae (o2 bY (vr 7) (o2 aY (vr 1) (cn (.int 1)))) aj))))) (n6 3 (bA (ae (vr 6) (ae (vr 5) (ae (o2 bY (o1 kI (vr 7)) (o2 aY (vr 1) (cn (.int 0)))) aj)))))))))
theorem lV {r:List Int}{k:Nat}(h:k<r.length):(r.map T.int)[k]? =some (.int (r.getD k 0)):=by
 rw[Jz,Jt h]
 simp[h]
theorem Cc (n:Nat)(x y:Int)(r:List Int)(acc:List T)(k:Nat)(s5 s6 s7:Sl)(hk:k+1<r.length)(hx:0<=x/\x<=9)(hy:0<=y/\y<=9)(ha:acc.length<=100) :
  bcF (zP n x y r acc (.va (.int k)) s5 s6 s7)= .ok (.nx (zP n x y r (acc++pr n x y r k) (.va (.int k)) (.va (.tup [.int n,.int k])) (.va (.tup [.int n,.int ((k+1:Nat):Int)])) (.va (.int (dr r k))))):=by
 have h2:([T.int n,T.int k]:List T).length<=sizeLine:=aF (k:=2) (by simp)
 have ek:((k:Int)+1)=((k+1:Nat):Int):=by omega
 refine(aD (Z':=zP n x y r acc (.va (.int k)) (.va (.tup [.int n,.int k])) s6 s7) (cG (cx rfl (aF (k:=2) (by simp))) rfl)).trans ?_
 refine(aD (Z':=zP n x y r acc (.va (.int k)) (.va (.tup [.int n,.int k])) (.va (.tup [.int n,.int ((k+1:Nat):Int)])) s7) (cG (cx (au rfl (au (t:=.int ((k+1:Nat):Int)) (aJ (t:=.int k) (u:=.int 1) rfl rfl (congrArg (λz=>Rs.ok (T.int z)) ek)) rfl)) (aF (k:=2) (by simp))) rfl)).trans ?_
 refine(aD (Z':=zP n x y r acc (.va (.int k)) (.va (.tup [.int n,.int k])) (.va (.tup [.int n,.int ((k+1:Nat):Int)])) (.va (.int (dr r k)))) (cG (t:=.int (dr r k)) (aJ (t:=.int (r.getD (k+1) 0)) (u:=.int (r.getD k 0)) (oA (n:=k+1) rfl (aJ (t:=.int k) (u:=.int 1) rfl rfl (congrArg (λz=>Rs.ok (T.int z)) ek)) (lV hk)) (oA (n:=k) rfl rfl (lV (by omega))) rfl) rfl)).trans ?_
 refine(aD (Z':=zP n x y r (acc++ [.tup [.tup [.int n,.int k],.tup [.int n,.int ((k+1:Nat):Int)],.int (dr r k*y)]]) (.va (.int k)) (.va (.tup [.int n,.int k])) (.va (.tup [.int n,.int ((k+1:Nat):Int)])) (.va (.int (dr r k)))) (yZ (l:=acc) (cx (au rfl (au rfl (au (aJ (t:=.int (dr r k)) (u:=.int y) rfl rfl (yx (by omega) (by omega))) rfl))) (aF (k:=3) (by simp))) rfl (by omega))).trans ?_
 refine(yZ (l:=acc++ [.tup [.tup [.int n,.int k],.tup [.int n,.int ((k+1:Nat):Int)],.int (dr r k*y)]]) (cx (au rfl (au rfl (au (aJ (t:=.int (-dr r k)) (u:=.int x) rfl rfl (yx (by omega) (by omega))) rfl))) (aF (k:=3) (by simp))) rfl (by rw[Jc];simp;omega)).trans ?_
 rw[JE]
 rfl
theorem vP (n:Nat)(x y:Int)(r:List Int)(hx:0<=x/\x<=9)(hy:0<=y/\y<=9):∀(js:List Nat) (acc:List T) (s4 s5 s6 s7:Sl),(∀k∈js,k+1<r.length)->acc.length+2*js.length<=100 →
  ∃t4 t5 t6 t7,bp (gN 4) bcF (js.map λ(k:Nat)=>T.int k) (zP n x y r acc s4 s5 s6 s7)= .ok (.nx (zP n x y r (acc++js.flatMap (pr n x y r)) t4 t5 t6 t7))
 | [],acc,s4,s5,s6,s7,_,_=>⟨s4,s5,s6,s7,by simp[bp]⟩
 | k::js,acc,s4,s5,s6,s7,hk,hl=>by
  rw[Jb]at hl
  have e:=Cc n x y r acc k s5 s6 s7 (hk k Je) hx hy (by omega)
  obtain⟨t4,t5,t6,t7,ih⟩:=vP n x y r hx hy js (acc++pr n x y r k) (.va (.int k)) (.va (.tup [.int n,.int k])) (.va (.tup [.int n,.int ((k+1:Nat):Int)])) (.va (.int (dr r k))) (λj hj=>hk j (IX _ hj)) (by rw[Jc];simp[pr];omega)
  refine⟨t4,t5,t6,t7,?_⟩
  rw[IZ,fA (Z1:=zP n x y r acc (.va (.int k)) s5 s6 s7) rfl e,ih,MO,JE]
theorem zE (n:Nat)(x y:Int)(r:List Int)(hx:0<=x/\x<=9)(hy:0<=y/\y<=9)(h1:1<=r.length)(h4:r.length<=4):b8 [.int n,.tup [.int x,.int y,.tup (r.map .int)]] = .ok (.lst (cB n x y r)):=by
 refine cf rfl ?_
 show dO [.va (.int n),.va (.tup [.int x,.int y,.tup (r.map .int)]),.em,.em,.em,.em,.em,.em] =_
 unfold dO;rw[aD (Z':=[.va (.int n),.va (.tup [.int x,.int y,.tup (r.map .int)]),.va (.tup (r.map .int)),.em,.em,.em,.em,.em]) (cG (t:=.tup (r.map .int)) rfl rfl)];rw[aD (Z':=zP n x y r [] .em .em .em .em) rfl];obtain⟨t4,t5,t6,t7,e⟩:=vP n x y r hx hy (J1 (r.length - 1)) [] .em .em .em .em (λk hk=>by have:=Kf.mp hk;omega) (by simp;omega)
 have e1:iR (ae (o2 fF (cl cv (ae (vr 2) aj)) (cn (.int 1))) aj) (zP n x y r [] .em .em .em .em)= .ok (rng 0 ((r.length - 1:Nat):Int)):=by
  refine CL (j:=((r.length - 1:Nat):Int)) (au (aJ (t:=.int (r.length:Nat)) (u:=.int 1) (br (ts:=[.tup (r.map .int)]) rfl (by show Rs.ok (T.int ((r.map T.int).length:Nat))=_;rw[Jd])) rfl (congrArg (λz=>Rs.ok (T.int z)) (by omega))) rfl) (by omega) (by omega)
 rw[aD ((gk (ts:=(J1 (r.length - 1)).map λ(k:Nat)=>T.int k) (by rw[e1,lO]) e))]
 rfl
theorem fB {t:T}(h:bo t=true):∃(x y:Int) (r:List Int),t= .tup [.int x,.int y,.tup (r.map .int)]/\(0<=x/\x<=9)/\(0<=y/\y<=9)/\1<=r.length/\r.length<=4:=by
 obtain⟨x,y,r,rfl,h1,h4⟩:=fO h
 have h':(ly x y&&cg (.tup r))=true:=h;rw[IV]at h';obtain⟨hp,hr⟩:=h';unfold ly at hp;rw[IV]at hp;obtain⟨i,rfl,i1,i2⟩:=bQ hp.1;obtain⟨j,rfl,j1,j2⟩:=bQ (t:=y) (a:=i) (b:=9) hp.2;unfold cg at hr;rw[IV]at hr
 have hr2:((r.all λu=>aX u 0 99)&&(match i0 r with | some m=>lP m | none=>false))=true:=hr.2
 rw[IV]at hr2;obtain⟨m,em⟩:=qj hr2.1
 have e:=mS em;subst e;rw[Jd]at h1 h4;exact⟨i,j,m,rfl,⟨by omega,by omega⟩,⟨by omega,by omega⟩,h1,h4⟩
def xB (n:Nat)(t:T):List T:=match t with
 | .tup [.int x,.int y,.tup r] =>match i0 r with
  | some m=>cB n x y m
  | none=> []
 | _=> []
def bC:Nat->List T->List T
 | _,[] => []
 | i,c::r=>xB i c++bC (i+1) r
def lB (t:T):List T:=match t with
 | .tup [a,b,.int le,mo] => .tup [b,a,.int (-le)] ::(if mo.isN then []else [.tup [a,b,mo]])
 | _=> []
def zO (cs ls:List T):List T:=bC 0 cs++ls.flatMap lB
theorem ri (n:Nat)(x y:Int)(r:List Int):xB n (.tup [.int x,.int y,.tup (r.map .int)])=cB n x y r:=by
 unfold xB;simp only[hZ]
theorem Fp (n:Nat)(x y:Int)(r:List Int):(cB n x y r).length=2*(r.length - 1):=by
 unfold cB;rw[List.length_flatMap]
 have:∀l:List Nat,(l.map λk=>(pr n x y r k).length).sum=2*l.length:=by
  intro l
  induction l with
  | nil=>rfl
  | cons a l ih=>rw[IZ,Kz,ih,Jb];simp[pr];omega
 rw[this,Lh]
theorem xr {n:Nat}{t:T}(h:bo t=true):(xB n t).length<=6:=by
 obtain⟨x,y,r,rfl,_,_,h1,h4⟩:=fB h;rw[ri,Fp];omega
theorem uB:∀{cs:List T} {i:Nat},(∀c∈cs,bo c=true)->(bC i cs).length<=6*cs.length
 | [],i,_=>by simp[bC]
 | c::cs,i,h=>by
  rw[bC,Jc,Jb]
  have:=xr (n:=i) (h c Je)
  have:=uB (cs:=cs) (i:=i+1) λc hc=>h c (IX _ hc)
  omega
theorem yJ (t:T):(lB t).length<=2:=by
 unfold lB;split
 ·rename_i a b le mo
  cases mo.isN <;> simp
 ·simp
theorem vj:∀(ls:List T),(ls.flatMap lB).length<=2*ls.length
 | [] =>by simp
 | t::ls=>by
  rw[MO,Jc,Jb]
  have:=yJ t
  have:=vj ls;omega
theorem lb {cs:List T}{t:T}(h:ba cs t=true):∃(a b mo:T) (le:Int),t= .tup [a,b,.int le,mo]/\bc cs a=true/\bc cs b=true:=by
 obtain⟨a,b,x,y,rfl,hd,ha,hb,_⟩:=cA h;unfold c9 at hd;rw[IV]at hd;obtain⟨i,rfl,_⟩:=bQ hd.1;exact⟨a,b,y,i,rfl,ha,hb⟩
theorem wW {cs:List T}{t:T}(h:ba cs t=true):bU [t] = .ok (.lst (lB t)):=by
 obtain⟨a,b,mo,le,rfl,_,_⟩:=lb h;refine cf rfl ?_
 show dv [.va (.tup [a,b,.int le,mo]),.em] =_
 unfold dv;rw[aD (Z':=[.va (.tup [a,b,.int le,mo]),.ow (.lst [.tup [b,a,.int (-le)]])]) (yS (l:=[.tup [b,a,.int (-le)]]) (au (cx (au rfl (au rfl (au rfl rfl))) (aF (k:=3) (by simp))) rfl) (by simp) (by simp))]
 have e:∀(Z:En) l,Z= [.va (.tup [a,b,.int le,mo]),.ow (.lst l)]->o2 k8 (o2 aY (vr 0) (cn (.int 3))) (cn .non) Z= .ok (.bl (!mo.isN)):=λZ l z=>by subst z;rfl
 have e2:lB (.tup [a,b,.int le,mo])= .tup [b,a,.int (-le)] ::(if mo.isN then []else [.tup [a,b,mo]]):=rfl
 rw[e2]
 cases q:mo.isN with
 | true=>
  rw[aD (Z':=[.va (.tup [a,b,.int le,mo]),.ow (.lst [.tup [b,a,.int (-le)]])]) ((eC (cF (by rw[e _ _ rfl,q];rfl))).trans rfl)]
  rfl
 | false=>
  rw[aD (Z':=[.va (.tup [a,b,.int le,mo]),.ow (.lst ([.tup [b,a,.int (-le)]] ++ [.tup [a,b,mo]]))]) ((gj (cF (by rw[e _ _ rfl,q];rfl))).trans (yZ (l:=[.tup [b,a,.int (-le)]]) (cx (au rfl (au rfl (au rfl rfl))) (aF (k:=3) (by simp))) rfl (by simp)))]
  rfl
abbrev bdF:En->Rs Fl:=my 1 (cl b8 (ae (vr 2) (ae (vr 3) aj)))
abbrev bdG:T->En->Rs En:=gT 2 (sC (gN 2) (sC (gN 3) z7))
theorem vO (R:T)(s4:Sl):∀(cs:List T) (acc:List T) (i:Nat) (s2 s3:Sl),(∀c∈cs,bo c=true)->acc.length+6*cs.length<=100 →
  ∃y2 y3,bp bdG bdF (cH i cs) [.va R,.ow (.lst acc),s2,s3,s4] = .ok (.nx [.va R,.ow (.lst (acc++bC i cs)),y2,y3,s4])
 | [],acc,i,s2,s3,_,_=>⟨s2,s3,by simp[cH,bp,bC]⟩
 | c::cs,acc,i,s2,s3,hc,hl=>by
  have h0:=hc c Je
  have hx:=xr (n:=i) h0;obtain⟨x,y,r,rfl,a1,a2,a3,a4⟩:=fB h0;rw[Jb]at hl;rw[ri]at hx
  have st:bdF [.va R,.ow (.lst acc),.va (.int i),.va (.tup [.int x,.int y,.tup (r.map .int)]),s4] = .ok (.nx [.va R,.ow (.lst (acc++cB i x y r)),.va (.int i),.va (.tup [.int x,.int y,.tup (r.map .int)]),s4]):=
   yY (l:=acc) (br (ts:=[.int i,.tup [.int x,.int y,.tup (r.map .int)]]) rfl (zE i x y r a1 a2 a3 a4)) rfl (by omega)
  obtain⟨z2,z3,ih⟩:=vO R s4 cs (acc++cB i x y r) (i+1) (.va (.int i)) (.va (.tup [.int x,.int y,.tup (r.map .int)])) (λc h=>hc c (IX _ h)) (by rw[Jc];omega)
  refine⟨z2,z3,?_⟩
  rw[cH,fA (Z1:=[.va R,.ow (.lst acc),.va (.int i),.va (.tup [.int x,.int y,.tup (r.map .int)]),s4]) rfl st,ih,bC,ri,JE]
abbrev blF:En->Rs Fl:=my 1 (cl bU (ae (vr 4) aj))
theorem vN (R:T)(cs:List T)(s2 s3:Sl):∀(ls:List T) (acc:List T) (s4:Sl),(∀t∈ls,ba cs t=true)->acc.length+2*ls.length<=100 →
  ∃y4,bp (gN 4) blF ls [.va R,.ow (.lst acc),s2,s3,s4] = .ok (.nx [.va R,.ow (.lst (acc++ls.flatMap lB)),s2,s3,y4])
 | [],acc,s4,_,_=>⟨s4,by simp[bp]⟩
 | t::ls,acc,s4,hl,hn=>by
  rw[Jb]at hn
  have:=yJ t
  have st:blF [.va R,.ow (.lst acc),s2,s3,.va t] = .ok (.nx [.va R,.ow (.lst (acc++lB t)),s2,s3,.va t]):=yY (l:=acc) (br (ts:=[t]) rfl (wW (hl t Je))) rfl (by omega)
  obtain⟨y4,ih⟩:=vN R cs s2 s3 ls (acc++lB t) (.va t) (λu h=>hl u (IX _ h)) (by rw[Jc];omega)
  refine⟨y4,?_⟩
  rw[fA (Z1:=[.va R,.ow (.lst acc),s2,s3,.va t]) rfl st,ih,MO,JE]
theorem gi {R:T}(hp:R.pl=true)(h:dC R=true):aN [R] = .ok .non:=by
 refine uh (Z:=[.va R]) rfl ?_
 show dk [.va R] =_
 unfold dk;exact(eC ((gQ (k:=true) (cF (br (ts:=[R]) rfl (by rw[sO R hp,h])))))).trans rfl
theorem wy {R:T}(hp:R.pl=true)(h:dC R=false):aN [R] = .err "NoRecord":=by
 refine ui rfl ?_
 show dk [.va R] =_
 unfold dk;exact(gj ((gQ (k:=false) (cF (br (ts:=[R]) rfl (by rw[sO R hp,h])))))).trans rfl
structure Good (cs ls:List T):Prop where
 c:aT (.tup cs)=true
 l:∀t∈ls,ba cs t=true
 n:ls.length<=8
 p:(RR cs ls).pl=true
theorem Good.ok {cs ls:List T}(g:Good cs ls):dC (RR cs ls)=true:=by
 show(aT (.tup cs)&&(du (.tup ls) 0 8&&ls.all (ba cs)))=true
 rw[g.c,MY,IV,JC];exact⟨by simp[du];exact g.n,g.l⟩
theorem zC {cs ls:List T}(g:Good cs ls):fw [RR cs ls] = .ok (.lst (zO cs ls)):=by
 obtain⟨hc,c1,c4⟩:=ck g.c
 have hn:=g.n;refine cf rfl ?_
 show nT [.va (RR cs ls),.em,.em,.em,.em] =_
 unfold nT;rw[aD (wL (t:=.non) (br (ts:=[RR cs ls]) rfl (gi g.p g.ok)))];rw[aD (Z':=[.va (RR cs ls),.ow (.lst []),.em,.em,.em]) (yT (by simp))]
 obtain⟨y2,y3,e⟩:=vO (RR cs ls) .em cs [] 0 .em .em hc (by simp;omega)
 rw[aD ((gk (ts:=cH 0 cs) rfl e))]
 have:=uB (i:=0) hc;obtain⟨y4,e2⟩:=vN (RR cs ls) cs y2 y3 ls ([] ++bC 0 cs) .em g.l (by rw[LC];omega)
 rw[aD ((gk (ts:=ls) rfl e2))]
 rfl
theorem ko {l:List T}:(T.tup l).pl=plS l:=by unfold T.pl;rfl
theorem Good.parts {cs ls:List T}(g:Good cs ls):(T.tup cs).pl=true/\∀t∈ls,t.pl=true:=by
 have:=g.p;rw[ko]at this;unfold plS at this;rw[IV]at this
 have h2:=this.2;unfold plS at h2;rw[IV,ko]at h2;exact⟨this.1,λt ht=>gv h2.1 ht⟩
theorem Good.sub {cs ls ms:List T}(g:Good cs ls)(hm:∀t∈ms,t∈ls)(hn:ms.length<=8):Good cs ms:=⟨g.c,λt ht=>g.l t (hm t ht),hn,by
 obtain⟨h1,h2⟩:=g.parts;rw[ko];refine mz λt ht=> ?_
 simp only[Jg,J9,or_false]at ht;rcases ht with rfl | rfl
 ·exact h1
 ·rw[ko];exact mz λt ht=>h2 t (hm t ht)⟩
theorem CO {cs:List T}{y:T}(h:bc cs y=true):y.pl=true/\y.dep<=1:=by
 obtain⟨c,k,rfl⟩:=cy h;exact⟨rfl,by simp[T.dep,deps]⟩
theorem GG {cs:List T}{a b x y:T}(h:ba cs (.tup [a,b,x,y])=true):y.pl=true/\y.dep=0:=by
 obtain⟨a',b',x',y',e,hd,_⟩:=cA h;cases e;unfold c9 at hd;rw[IV]at hd;obtain⟨i,rfl,_⟩:=bQ hd.1
 cases y with
 | non=>exact⟨rfl,rfl⟩
 | int j=>exact⟨rfl,rfl⟩
 | bl j=>exact⟨rfl,rfl⟩
 | str j=>exact⟨rfl,rfl⟩
 | tup j=>cases hd.2
 | lst j=>cases hd.2
 | scr j=>cases hd.2
 | dct _ _=>cases hd.2
 | ob _ _ _=>cases hd.2
abbrev peF:En->Rs Fl:=my 1 (iO (iR (ae (cl cv (ae (o2 aY (vr 3) (cn (.int 2))) aj)) aj)) [none,some 2] (gN 0) bT (bA (ae (vr 1) (ae (vr 0) aj))))
theorem x9 (c0 s1:Sl)(x y:T)(r:List T)(i:Nat)(h:r.length<=4) :
  iO (iR (ae (cl cv (ae (o2 aY (vr 3) (cn (.int 2))) aj)) aj)) [none,some 2] (gN 0) bT (bA (ae (vr 1) (ae (vr 0) aj))) [c0,s1,.va (.int i),.va (.tup [x,y,.tup r])] = .ok (.lst (lH i r.length)):=
 wK (CL (j:=(r.length:Int)) rfl (by omega) (by omega)) (aF (k:=4) (by rw[iG];exact h)) (by simp) λt _=>mk2 _ _
theorem uY:∀(cs:List T) (c0:T) (acc:List T) (i:Nat) (s2 s3:Sl),(∀c∈cs,bo c=true)->acc.length+4*cs.length<=100 →
  ∃y2 y3,bp evG peF (cH i cs) [.va c0,.ow (.lst acc),s2,s3] = .ok (.nx [.va c0,.ow (.lst (acc++dS i cs)),y2,y3])
 | [],c0,acc,i,s2,s3,_,_=>⟨s2,s3,by simp[cH,bp,dS]⟩
 | c::cs,c0,acc,i,s2,s3,hc,hl=>by
  obtain⟨x,y,r,rfl,r1,r2⟩:=fO (hc c Je);rw[Jb]at hl
  have st:peF [.va c0,.ow (.lst acc),.va (.int i),.va (.tup [x,y,.tup r])] = .ok (.nx [.va c0,.ow (.lst (acc++lH i r.length)),.va (.int i),.va (.tup [x,y,.tup r])]):=yY (l:=acc) (x9 _ _ x y r i r2) rfl (by rw[iu];omega)
  obtain⟨z2,z3,ih⟩:=uY cs c0 (acc++lH i r.length) (i+1) (.va (.int i)) (.va (.tup [x,y,.tup r])) (λc h=>hc c (IX _ h)) (by rw[Jc,iu];omega)
  refine⟨z2,z3,?_⟩
  rw[cH,fA (Z1:=[.va c0,.ow (.lst acc),.va (.int i),.va (.tup [x,y,.tup r])]) rfl st,ih,dS,JE]
  rfl
theorem yf {cs ls:List T}(g:Good cs ls):ft [RR cs ls] = .ok (.lst (dS 0 cs)):=by
 obtain⟨hc,c1,c4⟩:=ck g.c;refine cf rfl ?_
 show nS [.va (RR cs ls),.em,.em,.em] =_
 unfold nS;rw[aD (wL (t:=.non) (br (ts:=[RR cs ls]) rfl (gi g.p g.ok)))];rw[aD (Z':=[.va (RR cs ls),.ow (.lst []),.em,.em]) (yT (by simp))]
 obtain⟨y2,y3,e⟩:=uY cs (RR cs ls) [] 0 .em .em hc (by simp;omega)
 rw[aD ((gk (ts:=cH 0 cs) rfl e))]
 rfl
theorem p2 {a b:En->Rs T}{t u:T}{Z:En}(ha:a Z= .ok t)(hb:b Z= .ok u):bA (ae a (ae b aj)) Z= .ok (.tup [t,u]):=cx (au ha (au hb rfl)) (aF (k:=2) (by simp))
theorem Cb {cs ls:List T}(g:Good cs ls):(zO cs ls).length<=60:=by
 unfold zO;rw[Jc];obtain⟨hc,c1,c4⟩:=ck g.c
 have:=uB (i:=0) hc
 have:=vj ls
 have:=g.n;omega
end G
namespace G
open PySem Tr Gr
structure N2 where
 c:Int
 k:Int
deriving DecidableEq
theorem N2.ext':∀{u v:N2},u.c=v.c->u.k=v.k->u=v
 | ⟨_,_⟩,⟨_,_⟩,rfl,rfl=>rfl
def en (v:N2):T:=.tup [.int v.c,.int v.k]
def eB (x:N2×N2×Int):T:=.tup [en x.1,en x.2.1,.int x.2.2]
def eN (ks:List Nat):List T:=ks.map λk=> .int (k:Nat)
def eW (x:Int×List Nat):T:=.tup [.int x.1,.lst (eN x.2)]
def ky (v:N2):List L2.Key:=[.inl v.c,.inl v.k]
theorem cE (v:N2):keyOf (en v)=some (ky v):=rfl
theorem qD {u v:N2}(h:some (ky u)=some (ky v)):u=v:=by
 injection h with h
 injection h with h1 h2
 injection h2 with h2 _
 injection h1 with h1
 injection h2 with h2
 exact N2.ext' h1 h2
theorem uq {u v:N2}(h:en u=en v):u=v:=qD (by rw[<-cE u,<-cE v,h])
theorem zN (u v:N2):aV (en u) (en v)=decide (u=v):=by
 unfold en aV beqTs aV beqTs beqTs
 by_cases h:u=v
 ·subst h;simp[aV]
 ·have:¬ (u.c=v.c/\u.k=v.k):=λz=>h (N2.ext' z.1 z.2)
  simp[h,aV];exact λz=>λy=>this ⟨z,y⟩
theorem vI (g:N2->T)(v:N2):∀(ns:List N2),oB (ns.map en) (ns.map g) (ky v)=if v∈ns then some (g v)else none
 | [] =>rfl
 | u::ns=>by
  rw[IZ,IZ,oB,cE]
  by_cases h:u=v
  ·subst h;rw[if_pos rfl,if_pos Je]
  ·rw[if_neg (λz=>h (qD z)),vI g v ns]
   have:(v∈u::ns)↔v∈ns:=by rw[Jg];exact⟨λz=>z.elim (λy=>absurd y.symm h) id,.inr⟩
   simp only[this]
theorem nF (x:T)(v:N2)(g:N2->T):∀(ns:List N2),v∉ns->gB (en v) x (ns.map en) (ns.map g)=(ns.map en++ [en v],ns.map g++ [x])
 | [],_=>rfl
 | u::ns,h=>by
  rw[Jg,not_or]at h;rw[IZ,IZ,gB,cE,cE,if_neg (λz=>h.1 (qD z).symm),nF x v g ns h.2]
  rfl
theorem vG (x:T)(v:N2)(g:N2->T):∀(ns:List N2),ns.Nodup->v∈ns->gB (en v) x (ns.map en) (ns.map g)=(ns.map en,ns.map λu=>if u=v then x else g u)
 | [],_,h=>by simp at h
 | u::ns,hn,h=>by
  rw[JH]at hn;rw[IZ,IZ,IZ,gB,cE,cE]
  by_cases z:u=v
  ·subst z
   rw[if_pos rfl,if_pos rfl]
   congr 2
   exact Lc λw hw=>by rw[if_neg (λ(y:w=u)=>hn.1 (y▸hw))]
  ·rw[if_neg (λy=>z (qD y)),if_neg z]
   have h':v∈ns:=(Jg.mp h).elim (λy=>absurd y.symm z) id
   rw[vG x v g ns hn.2 h']
theorem iI {α:Type}[DecidableEq α]:∀{l m:List α},l.Nodup->(∀x∈l,x∈m)->l.length<=m.length
 | [],_,_,_=>KS _
 | x::l,m,hn,h=>by
  rw[JH]at hn
  have hx:=h x Je
  have:=iI (m:=m.erase x) hn.2 λy hy=>(NO (λ(z:y=x)=>hn.1 (z▸hy))).mpr (h y (IX _ hy))
  rw[List.length_erase_of_mem hx]at this
  have:0<m.length:=List.length_pos_of_mem hx;rw[Jb];omega
def oW (o:Option (Int×List Nat)):T:=match o with
 | some x=>eW x
 | none=> .non
structure DR (P ns:List N2)(b:b6 N2):Prop where
 nd:ns.Nodup
 mem:∀v,v∈ns↔(b v).isSome=true
 sub:∀v∈ns,v∈P
def dV (ns:List N2)(b:b6 N2):List T:=ns.map λv=>oW (b v)
theorem DR.get {P ns:List N2}{b:b6 N2}(D:DR P ns b)(v:N2):oB (ns.map en) (dV ns b) (ky v)=(b v).map eW:=by
 unfold dV;rw[vI (λv=>oW (b v))]
 have:=D.mem v
 cases q:b v with
 | none=>rw[q]at this;rw[if_neg (λz=>by simpa using this.mp z)];rfl
 | some x=>rw[q]at this;rw[if_pos (this.mpr rfl)];rfl
theorem DR.put {P ns:List N2}{b:b6 N2}(D:DR P ns b){v:N2}(hv:v∈P)(y:Int×List Nat):∃ns',DR P ns' (Gr.put b v y)/\gB (en v) (eW y) (ns.map en) (dV ns b)=(ns'.map en,dV ns' (Gr.put b v y)):=by
 by_cases h:v∈ns
 ·refine⟨ns,⟨D.nd,λu=> ?_,D.sub⟩,?_⟩
  ·by_cases z:u=v
   ·subst z;rw[dI];exact⟨λ_=>rfl,λ_=>h⟩
   ·rw[jn z];exact D.mem u
  ·unfold dV
   rw[vG _ _ _ _ D.nd h]
   congr 1
   refine Lc λu _=> ?_
   by_cases z:u=v
   ·subst z;rw[if_pos rfl,dI];rfl
   ·rw[if_neg z,jn z]
 ·refine⟨ns++ [v],⟨?_,λu=> ?_,λu hu=> ?_⟩,?_⟩
  ·exact Kd.mpr ⟨D.nd,by simp,λx hx y hy=>by simp at hy;subst hy;exact λz=>h (z▸hx)⟩
  ·rw[Ju,Jk]
   by_cases z:u=v
   ·subst z;rw[dI];exact⟨λ_=>rfl,λ_=> .inr rfl⟩
   ·rw[jn z,<-D.mem u];exact⟨λw=>w.elim id λy=>absurd y z,.inl⟩
  ·rcases Ju.mp hu with w | w
   ·exact D.sub u w
   ·rw[Jk.mp w];exact hv
  ·unfold dV
   rw[nF _ _ _ _ h,KH,KH]
   congr 1
   congr 1
   ·refine Lc λu hu=> ?_
    rw[jn (λ(z:u=v)=>h (z▸hu))]
   ·simp[dI,oW]
theorem zD {P ns:List N2}{b:b6 N2}(D:DR P ns b)(x:N2×N2×Int)(d:Int)(w:List Nat) :
  cS [.dct (ns.map en) (dV ns b),eB x,eW (d,w)] = .ok (.bl (dN b x.2.1 (d+x.2.2))):=by
 refine cf rfl ?_
 show iA [.va (.dct (ns.map en) (dV ns b)),.va (eB x),.va (eW (d,w)),.em] =_
 unfold iA
 have g:oD gR (vr 0) (o2 aY (vr 1) (cn (.int 1))) [.va (.dct (ns.map en) (dV ns b)),.va (eB x),.va (eW (d,w)),.em] = .ok (oW (b x.2.1)):=by
  refine GV (ks:=ns.map en) (vs:=dV ns b) (u:=en x.2.1) rfl rfl ?_
  unfold gR;rw[cE];simp only[D.get];cases b x.2.1 <;> rfl
 rw[aD (cG (t:=oW (b x.2.1)) (Z':=[.va (.dct (ns.map en) (dV ns b)),.va (eB x),.va (eW (d,w)),.va (oW (b x.2.1))]) g rfl)];refine cV ?_
 unfold dN
 cases q:b x.2.1 with
 | none=>exact EL (aJ (t:=.non) (u:=.non) rfl rfl rfl)
 | some y=>exact(EM (aJ (t:=eW y) (u:=.non) rfl rfl rfl)).trans (aJ (t:=.int (d+x.2.2)) (u:=.int y.1) rfl rfl rfl)
abbrev z4:En->Rs Fl:=(aA (cJ (ln 2 (oD gR (vr 2) (o2 aY (vr 5) (cn (.int 0))))) (gN 6)) (aA (eO (mG (tb (o2 i6 (vr 6) (cn .non))) (cK (EC 2 (tb (cl cS (ae (vr 2) (ae (vr 5) (ae (vr 6) aj)))))))) Cv sN) (aA (cJ (o2 aU (o2 aY (vr 6) (cn (.int 1))) (gW (ae (vr 4) aj))) (gN 7)) (aA (cJ (iO (iS (vr 7)) [none,some 0] (gN 0) bT (o2 aY (o2 aY (vr 1) (vr 0)) (cn (.int 0)))) (gN 8)) (aA (eO (tb (o2 Fy (o2 aY (vr 5) (cn (.int 1))) (vr 8))) (aI (bA (ae (cn .non) (ae (sl (vr 7) (pS (oL fM (vr 8) (o2 aY (vr 5) (cn (.int 1))))) pN) aj)))) sN) (aA (v8 2 (o2 aY (vr 5) (cn (.int 1))) (bA (ae (o2 aU (o2 aY (vr 6) (cn (.int 0))) (o2 aY (vr 5) (cn (.int 2)))) (ae (vr 7) aj)))) (cJ (cn (.bl true)) (gN 3))))))))
abbrev HC:T->En->Rs En:=gT 2 (sC (gN 4) (sC (gN 5) z7))
def eL (L:cD N2):T:=.lst (L.map eB)
def xH (L:cD N2)(t:T):T:=match t with
 | .int j=>match L[j.toNat]? with
  | some x=>en x.1
  | none=> .non
 | _=> .non
theorem u5 {L:cD N2}:∀{ks:List Nat} {a b:N2},Ch L a ks b->(eN ks).map (xH L)=(dR L ks).map en
 | [],_,_,_=>rfl
 | k::r,a,b,h=>by
  rw[h.HW];obtain⟨c,m,e,h⟩:=h
  show xH L (.int k)::(eN r).map (xH L)=en a::(dR L r).map en
  rw[u5 h]
  congr 1
  unfold xH;simp only[Kc,e]
theorem zS (v:N2):∀(l:List N2),pw (en v) (l.map en)=decide (v∈l)
 | [] =>rfl
 | u::l=>by
  have ih:=zS v l;unfold pw at ih ⊢;rw[IZ,Lb,ih,zN]
  by_cases h:u=v
  ·subst h;simp
  ·have h':¬ v=u:=λz=>h z.symm
   simp[h,h']
theorem sI (v:N2):∀(l:List N2) (n:Nat),v∈l->iV (en v) (l.map en) n=some (n+l.idxOf v)
 | [],n,h=>by simp at h
 | u::l,n,h=>by
  rw[IZ,iV,zN,Pn]
  by_cases z:u=v
  ·subst z;simp
  ·have h':v∈l:=(Jg.mp h).elim (λy=>absurd y.symm z) id
   have zb:(u == v)=false:=by rw[beq_eq_false_iff_ne];exact z
   rw[zb,decide_eq_false z,if_neg Jw,sI v l (n+1) h'];simp only[cond_false]
   congr 1
   omega
theorem Cz (v:N2):(en v).nd=true:=rfl
theorem qz {α:Type}(f:α->T)(h:∀a,(f a).nd=true):∀l:List α,nds (l.map f)=true
 | [] =>rfl
 | a::l=>by rw[IZ,nds,h a,qz f h l];rfl
theorem zH (v:N2):(en v).dep<=60:=by show(T.tup [.int v.c,.int v.k]).dep<=60;simp[T.dep,deps]
theorem G6 (v:N2)(l:List N2):Fy (en v) (.lst (l.map en))= .ok (.bl (decide (v∈l))):=by
 show(if (_\/_)/\_/\(T.lst (l.map en)).nd=true then _ else _)=_
 rw[if_pos ⟨.inl (zH v),rfl,qz en Cz l⟩,zS]
theorem y8 (v:N2)(l:List N2)(h:v∈l):fM (.lst (l.map en)) (en v)= .ok (.int ((l.idxOf v:Nat):Int)):=by
 unfold fM;simp only;rw[if_pos ⟨.inl (zH v),rfl,qz en Cz l⟩,sI v l 0 h,Nat.zero_add]
theorem Ff (p q:List Nat):eN (p++q)=eN p++eN q:=by unfold eN;rw[KH]
theorem yv (D:Bool):∀ks:List Nat,nks D (eN ks)=true
 | [] =>rfl
 | k::r=>by show nks D (.int k::eN r)=true;unfold nks;rw[yv D r];rfl
theorem Ch.len {L:cD N2}{ks:List Nat}{a b:N2}(h:Ch L a ks b)(hn:(dR L ks).Nodup):ks.length<=L.length:=by
 have:=iI (h.nodup hn) (m:=J1 L.length) λk hk=>Kf.mpr (h.lt k hk)
 rwa [Lh]at this
abbrev sE (L:cD N2)(st:T)(o:OT)(b:Bool)(k:Nat)(x:N2×N2×Int)(s6 s7 s8:Sl):En:=[.va (eL L),.va st,.ow o,.va (.bl b),.va (.int k),.va (eB x),s6,s7,s8]
def CU (L:cD N2)(P ns:List N2)(b:b6 N2)(k:Nat)(x:N2×N2×Int)(st:T)(mv:Bool)(s6 s7 s8:Sl):Sum (Option (b6 N2)) (List Nat)->Prop
 | .inl none=> ∃s6' s7' s8',z4 (sE L st (.dct (ns.map en) (dV ns b)) mv k x s6 s7 s8)= .ok (.ct (sE L st (.dct (ns.map en) (dV ns b)) mv k x s6' s7' s8'))
 | .inl (some b')=> ∃ns' s6' s7' s8',DR P ns' b'/\z4 (sE L st (.dct (ns.map en) (dV ns b)) mv k x s6 s7 s8)= .ok (.nx (sE L st (.dct (ns'.map en) (dV ns' b')) true k x s6' s7' s8'))
 | .inr q=>z4 (sE L st (.dct (ns.map en) (dV ns b)) mv k x s6 s7 s8)= .ok (.rt (.tup [.non,.lst (eN q)]))
theorem AF {L:cD N2}{S P ns:List N2}{b:b6 N2}{k:Nat}{x:N2×N2×Int}(K:Kept L S b)(D:DR P ns b)(hL:L.length<=500)(hP:P.length<1000)(e:L[k]? =some x)(hx:x.2.1∈P)(st:T)(mv:Bool)(s6 s7 s8:Sl) :
  CU L P ns b k x st mv s6 s7 s8 (gh L b k x):=by
 obtain⟨a,c,m⟩:=x;unfold CU
 generalize hks:ns.map en=ks
 generalize hvs:dV ns b=vs
 have get:∀s7 s8,ln 2 (oD gR (vr 2) (o2 aY (vr 5) (cn (.int 0)))) (sE L st (.dct ks vs) mv k (a,c,m) s6 s7 s8)= .ok (oW (b a)):=λs7 s8=>by
  refine yW (o:=.dct ks vs) rfl (GV (ks:=ks) (vs:=vs) (u:=en a) rfl rfl ?_) ?_
  ·unfold gR
   rw[cE,<-hks,<-hvs];simp only[D.get];cases b a <;> rfl
  ·cases b a with
   | none=>rfl
   | some y=>show nks true [.int y.1,.lst (eN y.2)] =true;simp[nks,T.nk,yv]
 have s1:∀G,aA (cJ (ln 2 (oD gR (vr 2) (o2 aY (vr 5) (cn (.int 0))))) (gN 6)) G (sE L st (.dct ks vs) mv k (a,c,m) s6 s7 s8)=G (sE L st (.dct ks vs) mv k (a,c,m) (.va (oW (b a))) s7 s8):=λG=>
  aD (cG (t:=oW (b a)) (get s7 s8) rfl)
 cases qa:b a with
 | none=>
  rw[show gh L b k (a,c,m)= .inl none from by unfold gh;simp only[qa]]
  simp only;refine⟨.va .non,s7,s8,?_⟩
  unfold z4;rw[s1,qa]
  exact yQ (gj (F:=Cv) (GU (cF (aJ (t:=.non) (u:=.non) rfl rfl rfl))))
 | some y=>
  obtain⟨d,w⟩:=y
  have bt:∀s7 s8,EC 2 (tb (cl cS (ae (vr 2) (ae (vr 5) (ae (vr 6) aj))))) (sE L st (.dct ks vs) mv k (a,c,m) (.va (eW (d,w))) s7 s8)= .ok (dN b c (d+m)):=λs7 s8=>by
   refine GW (cF (br (ts:=[.dct ks vs,eB (a,c,m),eW (d,w)]) rfl ?_))
   rw[<-hks,<-hvs];exact zD D (a,c,m) d w
  have nn:tb (o2 i6 (vr 6) (cn .non)) (sE L st (.dct ks vs) mv k (a,c,m) (.va (eW (d,w))) s7 s8)= .ok false:=cF (aJ (t:=eW (d,w)) (u:=.non) rfl rfl rfl)
  have cond:=yR nn (gQ (bt s7 s8))
  have s1':∀G,aA (cJ (ln 2 (oD gR (vr 2) (o2 aY (vr 5) (cn (.int 0))))) (gN 6)) G (sE L st (.dct ks vs) mv k (a,c,m) s6 s7 s8)=G (sE L st (.dct ks vs) mv k (a,c,m) (.va (eW (d,w))) s7 s8):=λG=>by rw[s1 G,qa];rfl
  cases hb:dN b c (d+m)with
  | false=>
   rw[show gh L b k (a,c,m)= .inl none from by unfold gh;simp only[qa,hb];rfl]
   simp only;rw[hb]at cond;refine⟨.va (eW (d,w)),s7,s8,?_⟩
   unfold z4;rw[s1']
   exact yQ (gj (F:=Cv) cond)
  | true=>
   rw[hb]at cond;obtain⟨s,hs,h1,h2,h3,h4,h5⟩:=K.walk a d w qa
   have hch:Ch L s (w++ [k]) c:=h1.snoc e
   have hwl:w.length<=500:=JV (Ch.len h1 h4) hL
   have s2:∀G,aA (eO (mG (tb (o2 i6 (vr 6) (cn .non))) (cK (EC 2 (tb (cl cS (ae (vr 2) (ae (vr 5) (ae (vr 6) aj)))))))) Cv sN) G (sE L st (.dct ks vs) mv k (a,c,m) (.va (eW (d,w))) s7 s8)=G (sE L st (.dct ks vs) mv k (a,c,m) (.va (eW (d,w))) s7 s8):=λG=>
    aD (Z':=(sE L st (.dct ks vs) mv k (a,c,m) (.va (eW (d,w))) s7 s8)) ((eC (F:=Cv) (G:=sN) cond).trans rfl)
   have wk:o2 aU (o2 aY (vr 6) (cn (.int 1))) (gW (ae (vr 4) aj)) (sE L st (.dct ks vs) mv k (a,c,m) (.va (eW (d,w))) s7 s8)= .ok (.lst (eN (w++ [k]))):=by
    refine aJ (t:=.lst (eN w)) (u:=.lst (eN [k])) rfl (sv (ts:=[.int k]) rfl (aF (k:=1) (by simp))) ?_
    show jh (eN w++eN [k])=_
    rw[<-Ff];unfold jh;rw[if_pos (aF (k:=1000) (by unfold eN;rw[Jd,Jc];simp;omega))]
   have s3:∀G,aA (cJ (o2 aU (o2 aY (vr 6) (cn (.int 1))) (gW (ae (vr 4) aj))) (gN 7)) G (sE L st (.dct ks vs) mv k (a,c,m) (.va (eW (d,w))) s7 s8)=G (sE L st (.dct ks vs) mv k (a,c,m) (.va (eW (d,w))) (.va (.lst (eN (w++ [k])))) s8):=λG=>aD (cG wk rfl)
   have ps:iO (iS (vr 7)) [none,some 0] (gN 0) bT (o2 aY (o2 aY (vr 1) (vr 0)) (cn (.int 0))) (sE L st (.dct ks vs) mv k (a,c,m) (.va (eW (d,w))) (.va (.lst (eN (w++ [k])))) s8)= .ok (.lst ((dR L (w++ [k])).map en)):=by
    rw[<-u5 hch];refine wK (ts:=eN (w++ [k])) (yX rfl) (aF (k:=1000) (by unfold eN;rw[Jd,Jc];simp;omega)) (by simp) λt ht=> ?_
    unfold eN at ht;obtain⟨j,hj,rfl⟩:=JQ.mp ht
    have hjl:=hch.lt j hj;refine aJ (t:=eB L[j]) (u:=.int 0) (GY (l:=L.map eB) (n:=j) rfl rfl (by rw[Jz,Jt hjl];rfl)) rfl ?_
    unfold xH;simp only[Kc,Jt hjl]
    rfl
   have s4:∀G,aA (cJ (iO (iS (vr 7)) [none,some 0] (gN 0) bT (o2 aY (o2 aY (vr 1) (vr 0)) (cn (.int 0)))) (gN 8)) G (sE L st (.dct ks vs) mv k (a,c,m) (.va (eW (d,w))) (.va (.lst (eN (w++ [k])))) s8)=G (sE L st (.dct ks vs) mv k (a,c,m) (.va (eW (d,w))) (.va (.lst (eN (w++ [k])))) (.va (.lst ((dR L (w++ [k])).map en)))):=λG=>aD (cG ps rfl)
   have inn:tb (o2 Fy (o2 aY (vr 5) (cn (.int 1))) (vr 8)) (sE L st (.dct ks vs) mv k (a,c,m) (.va (eW (d,w))) (.va (.lst (eN (w++ [k])))) (.va (.lst ((dR L (w++ [k])).map en))))= .ok (decide (c∈dR L (w++ [k]))):=
    cF (aJ (t:=en c) (u:=.lst ((dR L (w++ [k])).map en)) rfl rfl (G6 c _))
   by_cases hn:c∈dR L (w++ [k])
   ·rw[show gh L b k (a,c,m)= .inr ((w++ [k]).drop ((dR L (w++ [k])).idxOf c))from by unfold gh;simp only[qa,hb,if_pos hn,if_true]]
    simp only;unfold z4;rw[s1',s2,s3,s4];rw[decide_eq_true hn]at inn;refine ik ((gj inn).trans (cV ?_))
    have sle:sl (vr 7) (pS (oL fM (vr 8) (o2 aY (vr 5) (cn (.int 1))))) pN (sE L st (.dct ks vs) mv k (a,c,m) (.va (eW (d,w))) (.va (.lst (eN (w++ [k])))) (.va (.lst ((dR L (w++ [k])).map en))))= .ok (.lst (eN ((w++ [k]).drop ((dR L (w++ [k])).idxOf c)))):=by
     rw[GQ (l:=eN (w++ [k])) (lo:=some (((dR L (w++ [k])).idxOf c:Nat):Int)) (hi:=none) rfl (EK (k_oL (ks:=(dR L (w++ [k])).map en) (u:=en c) rfl rfl (y8 c _ hn))) rfl,sV];unfold eN;rw[List.map_drop]
    exact(cx (ts:=[.non,.lst (eN ((w++ [k]).drop ((dR L (w++ [k])).idxOf c)))]) (au rfl (au sle rfl)) (aF (k:=2) (by simp)))
   ·rw[show gh L b k (a,c,m)= .inl (some (Gr.put b c (d+m,w++ [k])))from by unfold gh;simp only[qa,hb,if_neg hn,if_true]]
    simp only;rw[decide_eq_false hn]at inn;obtain⟨ns',D',hd⟩:=D.put hx (d+m,w++ [k]);refine⟨ns',.va (eW (d,w)),.va (.lst (eN (w++ [k]))),.va (.lst ((dR L (w++ [k])).map en)),D',?_⟩
    unfold z4;rw[s1',s2,s3,s4];rw[aD (Z':=(sE L st (.dct ks vs) mv k (a,c,m) (.va (eW (d,w))) (.va (.lst (eN (w++ [k])))) (.va (.lst ((dR L (w++ [k])).map en))))) ((eC (G:=sN) inn).trans rfl)]
    have pt:v8 2 (o2 aY (vr 5) (cn (.int 1))) (bA (ae (o2 aU (o2 aY (vr 6) (cn (.int 0))) (o2 aY (vr 5) (cn (.int 2)))) (ae (vr 7) aj))) (sE L st (.dct ks vs) mv k (a,c,m) (.va (eW (d,w))) (.va (.lst (eN (w++ [k])))) (.va (.lst ((dR L (w++ [k])).map en))))
      = .ok (.nx (sE L st (.dct (ns'.map en) (dV ns' (Gr.put b c (d+m,w++ [k])))) mv k (a,c,m) (.va (eW (d,w))) (.va (.lst (eN (w++ [k])))) (.va (.lst ((dR L (w++ [k])).map en))))):=by
     have ev:bA (ae (o2 aU (o2 aY (vr 6) (cn (.int 0))) (o2 aY (vr 5) (cn (.int 2)))) (ae (vr 7) aj)) (sE L st (.dct ks vs) mv k (a,c,m) (.va (eW (d,w))) (.va (.lst (eN (w++ [k])))) (.va (.lst ((dR L (w++ [k])).map en))))= .ok (eW (d+m,w++ [k])):=
      cx (ts:=[.int (d+m),.lst (eN (w++ [k]))]) rfl (aF (k:=2) (by simp))
     have ek:o2 aY (vr 5) (cn (.int 1)) (sE L st (.dct ks vs) mv k (a,c,m) (.va (eW (d,w))) (.va (.lst (eN (w++ [k])))) (.va (.lst ((dR L (w++ [k])).map en))))= .ok (en c):=rfl
     show(bA _ _ >>= λv=>o2 aY (vr 5) (cn (.int 1)) _ >>= λkk=>match keyOf kk with | some _=>if ks.length<1000 then Rs.ok (Fl.nx _)else .bad | none=> .bad)=_
     rw[ev,ay,ek,ay,cE]
     have hlen:ks.length<1000:=by rw[<-hks,Jd];exact Ob (iI D.nd D.sub) hP
     simp only[if_pos hlen]
     have hd1:gB (en c) (eW (d+m,w++ [k])) ks vs=(ns'.map en,dV ns' (Gr.put b c (d+m,w++ [k]))):=by rw[<-hks,<-hvs];exact hd
     rw[hd1]
     rfl
    rw[aD pt];exact cG (t:=.bl true) rfl rfl
def xg (L:cD N2)(st:T)(ns:List N2)(b:b6 N2)(mv:Bool)(s4 s5 s6 s7 s8:Sl):En:=[.va (eL L),.va st,.ow (.dct (ns.map en) (dV ns b)),.va (.bl mv),s4,s5,s6,s7,s8]
def zU (L:cD N2)(P:List N2)(st:T)(X:Rs Fl):Sum (b6 N2×Bool) (List Nat)->Prop
 | .inr q=>X= .ok (.rt (.tup [.non,.lst (eN q)]))
 | .inl (b',mv')=> ∃ns' s4 s5 s6 s7 s8,DR P ns' b'/\X= .ok (.nx (xg L st ns' b' mv' s4 s5 s6 s7 s8))
theorem pI {L:cD N2}{S P:List N2}(hL:L.length<=500)(hP:P.length<1000)(hx:∀x∈L,x.2.1∈P)(st:T):∀(r:cD N2) (k:Nat) (b:b6 N2) (mv:Bool) (ns:List N2) (s4 s5 s6 s7 s8:Sl),L.drop k=r->Kept L S b->DR P ns b →
  zU L P st (bp HC z4 (cH k (r.map eB)) (xg L st ns b mv s4 s5 s6 s7 s8)) (gK L k r b mv)
 | [],k,b,mv,ns,s4,s5,s6,s7,s8,_,K,D=>⟨ns,s4,s5,s6,s7,s8,D,rfl⟩
 | x::r,k,b,mv,ns,s4,s5,s6,s7,s8,hr,K,D=>by
  have e:L[k]? =some x:=by
   have:=congrArg (·[0]?) hr
   simpa using this
  have hr':L.drop (k+1)=r:=by
   have:=congrArg (List.drop 1) hr
   simpa [List.drop_drop,OK]using this
  have tg:HC (.tup [.int k,eB x]) (xg L st ns b mv s4 s5 s6 s7 s8)= .ok [.va (eL L),.va st,.ow (.dct (ns.map en) (dV ns b)),.va (.bl mv),.va (.int k),.va (eB x),s6,s7,s8]:=rfl
  have tn:=AF K D hL hP e (hx x (Ky e)) st mv s6 s7 s8;rw[gK,IZ,cH]
  cases q:gh L b k x with
  | inr w=>
   rw[q]at tn;simp only;unfold zU
   exact qH tg tn
  | inl o=>
   rw[q]at tn
   cases o with
   | none=>
    obtain⟨s6',s7',s8',tn⟩:=tn;simp only;rw[BB tg tn]
    exact pI hL hP hx st r (k+1) b mv ns _ _ _ _ _ hr' K D
   | some b'=>
    obtain⟨ns',s6',s7',s8',D',tn⟩:=tn;simp only;rw[fA tg tn];refine pI (S:=S) hL hP hx st r (k+1) b' true ns' _ _ _ _ _ hr' ?_ D'
    -- what is kept stays so
    obtain⟨a,c,m⟩:=x;unfold gh at q
    cases qa:b a with
    | none=>simp only[qa]at q;cases q
    | some y=>
     obtain⟨d,w⟩:=y;simp only[qa]at q
     split at q
     ·rename_i hb
      split at q
      ·cases q
      ·rename_i hn
       cases q;exact K.put e qa hb hn
     ·cases q
abbrev wF:En->Rs Fl:=aA (cJ (cn (.bl false)) (gN 3)) (gU (iE (ae (vr 0) aj)) HC z4)
def SetP (L:cD N2)(P:List N2)(st:T)(X:Rs Fl):Sum (b6 N2) (List Nat)->Prop
 | .inr q=>X= .ok (.rt (.tup [.non,.lst (eN q)]))
 | .inl b'=> ∃ns' s4 s5 s6 s7 s8,DR P ns' b'/\X= .ok (.nx (xg L st ns' b' false s4 s5 s6 s7 s8))
theorem rC {L:cD N2}{S P:List N2}(hL:L.length<=500)(hP:P.length<1000)(hx:∀x∈L,x.2.1∈P)(st:T):∀(n:Nat) (b:b6 N2) (ns:List N2) (s4 s5 s6 s7 s8:Sl) (r:Sum (b6 N2) (List Nat)),Kept L S b->DR P ns b->Gr.settle L n b=some r →
  SetP L P st (bK (tb (vr 3)) wF (n+1) (xg L st ns b true s4 s5 s6 s7 s8)) r
 | 0,_,_,_,_,_,_,_,_,_,_,h=>by cases h
 | n+1,b,ns,s4,s5,s6,s7,s8,r,K,D,h=>by
  have sw:=pI hL hP hx st L 0 b false ns s4 s5 s6 s7 s8 rfl K D
  have ok:=gX (S:=S) L 0 b false rfl K
  have body:∀X,bp HC z4 (cH 0 (L.map eB)) (xg L st ns b false s4 s5 s6 s7 s8)= .ok X->wF (xg L st ns b true s4 s5 s6 s7 s8)= .ok X:=λX hX=>by
   show aA _ _ _=_
   rw[aD (Z':=xg L st ns b false s4 s5 s6 s7 s8) (cG (t:=.bl false) rfl rfl)];exact gk (ts:=cH 0 (L.map eB)) (GZ rfl) hX
  have tt:tb (vr 3) (xg L st ns b true s4 s5 s6 s7 s8)= .ok true:=rfl;rw[Gr.settle]at h
  revert sw ok h
  generalize gK L 0 L b false=R
  intro h sw ok
  cases R with
  | inr q=>
   simp only at h;cases h
   exact yO tt (body _ sw)
  | inl p=>
   obtain⟨b',mv'⟩:=p;obtain⟨ns',t4,t5,t6,t7,t8,D',sw⟩:=sw;obtain⟨K',_⟩:=ok
   cases mv' with
   | true=>
    simp only at h
    have ih:=rC hL hP hx st n b' ns' t4 t5 t6 t7 t8 r K' D' h;rw[sr tt (body _ sw)]
    exact ih
   | false=>
    simp only at h;cases h;refine⟨ns',t4,t5,t6,t7,t8,D',?_⟩
    rw[sr tt (body _ sw)];exact yP rfl
theorem gu {c:En->Rs Bool}{F:En->Rs Fl}{x:Fl}:∀{n m:Nat} {Z:En},n<=m->bK c F n Z= .ok x->bK c F m Z= .ok x
 | 0,_,_,_,h=>by cases h
 | n+1,0,_,hl,_=>absurd hl (by omega)
 | n+1,m+1,Z,hl,h=>by
  unfold bK at h ⊢
  cases q:c Z with
  | bad=>rw[q]at h;cases h
  | err _=>rw[q]at h;cases h
  | ok k=>
   rw[q]at h
   cases k with
   | false=>exact h
   | true=>
    simp only at h ⊢
    cases q2:F Z with
    | bad=>rw[q2]at h;cases h
    | err _=>rw[q2]at h;cases h
    | ok f=>
     rw[q2]at h
     cases f with
     | nx Z'=>exact gu (by omega) h
     | ct Z'=>exact gu (by omega) h
     | bk Z'=>exact h
     | rt t=>exact h
theorem xX (w:T):∀S:List N2,Ft (S.map λv=> .tup [en v,w])=some (S.map λv=>(en v,w))
 | [] =>rfl
 | v::S=>by rw[IZ,Ft,cE,xX w S];rfl
theorem sQ (w:T):∀(S ns:List N2) (g:N2->T),(ns++S).Nodup->(∀v∈S,g v=w)->iw (S.map λv=>(en v,w)) (ns.map en,ns.map g)=((ns++S).map en,(ns++S).map g)
 | [],ns,g,_,_=>by rw[JA];rfl
 | v::S,ns,g,hn,hg=>by
  have hv:v∉ns:=λz=>by
   rw[Kd]at hn;exact hn.2.2 v z v Je rfl
  rw[IZ,iw,nF _ _ _ _ hv]
  have e1:ns.map en++ [en v] =(ns++ [v]).map en:=by rw[KH];rfl
  have e2:ns.map g++ [w] =(ns++ [v]).map g:=by rw[KH,<-hg v Je];rfl
  rw[e1,e2,sQ w S (ns++ [v]) g (by rw[JE];exact hn) λu hu=>hg u (IX _ hu),JE]
  rfl
theorem BX (w:T)(S:List N2)(hn:S.Nodup)(hl:S.length<=1000):vH [.lst (S.map λv=> .tup [en v,w])] = .ok (.dct (S.map en) (S.map λ_=>w)):=by
 unfold vH;simp only[xX];rw[if_pos (by rw[Jd];exact hl)]
 have:=sQ w S [] (λ_=>w) (by simpa using hn) (λ_ _=>rfl)
 rw[LC]at this;rw[show(([]:List T),([]:List T))=(([]:List N2).map en,([]:List N2).map λ_=>w)from rfl,this]
def eS (S:List N2):T:=.lst (S.map en)
def Ci (L:cD N2)(P:List N2)(X:Rs T):Sum (b6 N2) (List Nat)->Prop
 | .inr q=>X= .ok (.tup [.non,.lst (eN q)])
 | .inl b'=> ∃ns',DR P ns' b'/\X= .ok (.tup [.dct (ns'.map en) (dV ns' b'),.non])
structure Hz (L:cD N2)(P:List N2):Prop where
 len:L.length<=500
 size:size L<=100000000
 ends:∀x∈L,x.1∈P/\x.2.1∈P
 pl:P.length<1000
def SOk (L:cD N2)(S:List N2):Sum (b6 N2) (List Nat)->Prop
 | .inr q=>Bar L q
 | .inl b'=>Settled L S b'
theorem sM {L:cD N2}{S P:List N2}(F:Hz L P)(hS:S.Nodup)(hSP:∀v∈S,v∈P):∃r,Ci L P (eg [eL L,eS S]) r/\SOk L S r:=by
 have bound:L.length*(2*size L+1)<1000000000000 - 1:=by
  have h1:=F.len
  have h2:=F.size
  have:L.length*(2*size L+1)<=500*(2*100000000+1):=Nat.mul_le_mul h1 (by omega)
  omega
 obtain⟨r,hr,ok⟩:=tI L S bound
 have ok':SOk L S r:=by cases r <;> exact ok
 refine⟨r,?_,ok'⟩
 have hSl:S.length<=1000:=JV (iI hS hSP) (by have:=F.pl;omega)
 have D0:DR P S (Gr.start S):=⟨hS,λv=>by unfold Gr.start;by_cases h:v∈S <;> simp[h],hSP⟩
 have dv0:dV S (Gr.start S)=S.map λ_=>eW (0,[]):=Lc λv hv=>by unfold Gr.start;rw[if_pos hv];rfl
 have w:=rC F.len F.pl (λx hx=>(F.ends x hx).2) (eS S) _ (Gr.start S) S .em .em .em .em .em r (nr L S) D0 hr
 have lc:iO (iS (vr 1)) [none] (gN 0) bT (bA (ae (vr 0) (ae (bA (ae (cn (.int 0)) (ae (gW aj) aj))) aj))) [.va (eL L),.va (eS S),.em,.em,.em,.em,.em,.em,.em] = .ok (.lst (S.map λv=> .tup [en v,eW (0,[])])):=by
  have:=wK (fi:=iS (vr 1)) (src:=[none]) (fe:=bA (ae (vr 0) (ae (bA (ae (cn (.int 0)) (ae (gW aj) aj))) aj))) (h:=λt=> .tup [t,eW (0,[])]) (Z:=[.va (eL L),.va (eS S),.em,.em,.em,.em,.em,.em,.em]) (ts:=S.map en) (yX rfl) (aF (k:=1000) (by rw[Jd];exact hSl)) (by simp) λt _=>
   cx (ts:=[t,eW (0,[])]) (au rfl (au (cx (ts:=[.int 0,.lst []]) (au rfl (au (sv (ts:=[]) rfl (KS _)) rfl)) (aF (k:=2) (by simp))) rfl)) (aF (k:=2) (by simp))
  rw[this,Nr];rfl
 have n0:oP 2 (iO (iS (vr 1)) [none] (gN 0) bT (bA (ae (vr 0) (ae (bA (ae (cn (.int 0)) (ae (gW aj) aj))) aj)))) [.va (eL L),.va (eS S),.em,.em,.em,.em,.em,.em,.em] = .ok (.nx [.va (eL L),.va (eS S),.ow (.dct (S.map en) (dV S (Gr.start S))),.em,.em,.em,.em,.em,.em]):=by
  unfold oP;rw[lc,ay,BX _ S hS hSl,ay,dv0]
  rfl
 have main:∀G X,bK (tb (vr 3)) wF FU (xg L (eS S) S (Gr.start S) true .em .em .em .em .em)= .ok X->iy [.va (eL L),.va (eS S),.em,.em,.em,.em,.em,.em,.em] =G->(aA (bK (tb (vr 3)) wF FU) (pU 2 (aI (bA (ae (vr 2) (ae (cn .non) aj)))))) (xg L (eS S) S (Gr.start S) true .em .em .em .em .em)=G:=λG X _ h=>by
  rw[<-h];unfold iy;rw[aD n0,aD (Z':=xg L (eS S) S (Gr.start S) true .em .em .em .em .em) (cG (t:=.bl true) rfl rfl)]
 cases r with
 | inr q=>
  have w':=gu (m:=FU) (by unfold FU;omega) w
  refine cf rfl ?_
  show iy [.va (eL L),.va (eS S),.em,.em,.em,.em,.em,.em,.em] =_
  rw[<-main _ _ w' rfl]
  exact ik w'
 | inl b'=>
  obtain⟨ns',s4,s5,s6,s7,s8,D',w⟩:=w
  have w':=gu (m:=FU) (by unfold FU;omega) w
  refine⟨ns',D',cf rfl ?_⟩
  show iy [.va (eL L),.va (eS S),.em,.em,.em,.em,.em,.em,.em] =_
  rw[<-main _ _ w' rfl,aD w'];exact G3 (cV (cx (ts:=[.dct (ns'.map en) (dV ns' b'),.non]) rfl (aF (k:=2) (by simp))))
theorem m7 {α:Type}{f:α->T}{p:α->Prop}:∀{l:List T},(∀t∈l,∃x,t=f x/\p x)->∃L:List α,l=L.map f/\∀x∈L,p x
 | [],_=>⟨[],rfl,λ_ h=>nomatch h⟩
 | t::l,h=>by
  obtain⟨x,e,hx⟩:=h t Je;obtain⟨L,e2,h2⟩:=m7 (l:=l) λu hu=>h u (IX _ hu)
  exact⟨x::L,by rw[e,e2];rfl,λy hy=>(Jg.mp hy).elim (λz=>z▸hx) (h2 y)⟩
theorem nI {t:T}(h:bo t=true):∃(x y:Int) (r:List Int),t= .tup [.int x,.int y,.tup (r.map .int)]/\(0<=x/\x<=9)/\(0<=y/\y<=9)/\∀k,0<=r.getD k 0/\r.getD k 0<=99:=by
 obtain⟨x,y,r,rfl,h1,h2,h3,h4⟩:=fB h;refine⟨x,y,r,rfl,h1,h2,λk=> ?_⟩
 have h':(ly (.int x) (.int y)&&cg (.tup (r.map .int)))=true:=h;rw[IV]at h'
 have hr:=h'.2;unfold cg at hr;rw[IV]at hr
 have hr2:(((r.map T.int).all λu=>aX u 0 99)&&(match i0 (r.map .int)with | some m=>lP m | none=>false))=true:=hr.2
 rw[IV]at hr2
 by_cases hk:k<r.length
 ·have:=JC.mp hr2.1 (.int r[k]) (JQ.mpr ⟨_,KM hk,rfl⟩)
  obtain⟨i,e,a,b⟩:=bQ this;cases e;simp[hk];exact⟨a,b⟩
 ·simp[hk]
theorem vd {cs:List T}{i:Nat}:∀{cs0:List T} {c k:Nat},i<=c->c<i+cs0.length->k<Dr (cs0.getD (c - i) .non)->T.tup [.int c,.int k] ∈dS i cs0:=by
 intro cs0
 induction cs0 generalizing i with
 | nil=>intro c k h1 h2;simp at h2;omega
 | cons a r ih=>
  intro c k h1 h2 h3;rw[dS,Ju]
  by_cases e:c=i
  ·subst e
   rw[Np]at h3
   have h3':k<Dr a:=h3;exact .inl (JQ.mpr ⟨.int k,Bv h3',rfl⟩)
  ·refine .inr (ih (by omega) (by rw[Jb]at h2;omega) ?_)
   rw[show c - i=(c - (i+1))+1 by omega]at h3
   exact h3
theorem iW {cs:List T}{t:T}(h:bc cs t=true):t∈dS 0 cs:=by
 obtain⟨c,k,rfl⟩:=cy h;unfold bc at h;simp only[IV,decide_eq_true_eq]at h;obtain⟨⟨h1,h2⟩,h3,h4⟩:=h;obtain⟨c,rfl⟩:=JS h1;obtain⟨k,rfl⟩:=JS h3;rw[oQ]at h4;exact vd (cs:=cs) (KS _) (by omega) (by rw[Nq];omega)
theorem zo {cs:List T}{t:T}(h:t∈dS 0 cs):∃v:N2,t=en v/\True:=by
 obtain⟨c,k,rfl,_⟩:=lS cs 0 h;exact⟨⟨c,k⟩,rfl,trivial⟩
def big (x:N2×N2×Int):Prop:=x.2.2.natAbs<=999
theorem oY {a b:Int}(ha : -99<=a/\a<=99)(hb:0<=b/\b<=9):(a*b).natAbs<=999:=by
 rw[Int.natAbs_mul]
 have h1:a.natAbs<=99:=by omega
 have h2:b.natAbs<=9:=by omega
 exact JV (Nat.mul_le_mul h1 h2) (by decide)
theorem CT {cs0:List T}:∀{cs:List T} {i:Nat},(∀c∈cs,bo c=true)->(∀c k:Nat,i<=c->c<i+cs.length->k<Dr (cs.getD (c - i) .non)->T.tup [.int c,.int k] ∈dS 0 cs0) →
  ∀t∈bC i cs,∃x,t=eB x/\(en x.1∈dS 0 cs0/\en x.2.1∈dS 0 cs0/\big x)
 | [],_,_,_,t,h=>by simp[bC]at h
 | c::cs,i,hc,hm,t,h=>by
  rw[bC,Ju]at h;rcases h with h | h
  ·obtain⟨x,y,r,rfl,hx,hy,hr⟩:=nI (hc c Je)
   have hm0:∀k,k<r.length->T.tup [.int i,.int k] ∈dS 0 cs0:=λk hk=>hm i k (Ji _) (by simp) (by rw[Np];show k<(r.map T.int).length;rw[Jd];exact hk)
   rw[ri]at h;unfold cB at h;obtain⟨k,hk,hp⟩:=Lq.mp h
   have hk:=Kf.mp hk
   have d : -99<=dr r k/\dr r k<=99:=by have:=hr k;have:=hr (k+1);unfold dr;omega
   unfold pr at hp;simp only[Jg,J9,or_false]at hp;rcases hp with rfl | rfl
   ·exact⟨(⟨i,k⟩,⟨i,((k+1:Nat):Int)⟩,dr r k*y),rfl,hm0 k (by omega),hm0 (k+1) (by omega),oY d hy⟩
   ·exact⟨(⟨i,((k+1:Nat):Int)⟩,⟨i,k⟩,-dr r k*x),rfl,hm0 (k+1) (by omega),hm0 k (by omega),oY (by omega) hx⟩
  ·exact CT (cs:=cs) (i:=i+1) (λc h=>hc c (IX _ h)) (λc k h1 h2 h3=>hm c k (by omega) (by rw[Jb];omega) (by rw[show c - i=(c - (i+1))+1 by omega];exact h3)) t h
theorem GP {cs:List T}{u:T}(hu:ba cs u=true):∀t∈lB u,∃x,t=eB x/\(en x.1∈dS 0 cs/\en x.2.1∈dS 0 cs/\big x):=by
 intro t ht;obtain⟨a,b,x,y,rfl,hd,ha,hb,_⟩:=cA hu
 have ma:=iW ha
 have mb:=iW hb;obtain⟨va,rfl,_⟩:=zo ma;obtain⟨vb,rfl,_⟩:=zo mb;unfold c9 at hd;rw[IV]at hd;obtain⟨i,rfl,i1,i2⟩:=bQ hd.1
 have e2:lB (.tup [en va,en vb,.int i,y])= .tup [en vb,en va,.int (-i)] ::(if y.isN then []else [.tup [en va,en vb,y]]):=rfl
 rw[e2]at ht;rcases Jg.mp ht with rfl | ht
 ·exact⟨(vb,va,-i),rfl,mb,ma,by unfold big;simp only;omega⟩
 ·cases q:y.isN with
  | true=>rw[q]at ht;simp at ht
  | false=>
   rw[q]at ht
   have ht:t= .tup [en va,en vb,y]:=by simpa using ht
   have hw:aX y i 999=true:=by
    cases y with
    | non=>cases q
    | _=>exact hd.2
   obtain⟨j,rfl,j1,j2⟩:=bQ hw;exact⟨(va,vb,j),ht,ma,mb,by unfold big;simp only;omega⟩
structure Rd (cs ls:List T)(L:cD N2)(P:List N2):Prop where
 g:Good cs ls
 b:zO cs ls=L.map eB
 e:dS 0 cs=P.map en
 f:Hz L P
 nd:P.Nodup
 pl:P.length<=16
 ll:L.length<=60
 bg:∀x∈L,big x
theorem AD {L:cD N2}(h:∀x∈L,big x):size L<=999*L.length:=by
 unfold size
 induction L with
 | nil=>simp
 | cons x L ih=>
  rw[IZ,Kz,Jb]
  have:=ih λy hy=>h y (IX _ hy)
  have:=h x Je;unfold big at this;omega
theorem yp {P:List N2}(h:(P.map en).Nodup):P.Nodup:=by
 induction P with
 | nil=>exact LW
 | cons a r ih=>
  rw[IZ,JH]at h;exact JH.mpr ⟨λz=>h.1 (JQ.mpr ⟨a,z,rfl⟩),ih h.2⟩
theorem jW {cs ls:List T}(g:Good cs ls):∃L P,Rd cs ls L P:=by
 obtain⟨hc,c1,c4⟩:=ck g.c;obtain⟨P,eP,_⟩:=m7 (f:=en) (p:=λ_=>True) (l:=dS 0 cs) λt ht=>zo ht
 have key:∀t∈zO cs ls,∃x,t=eB x/\(en x.1∈dS 0 cs/\en x.2.1∈dS 0 cs/\big x):=λt ht=>by
  unfold zO at ht;rw[Ju]at ht;rcases ht with h | h
  ·exact CT hc (λc k h1 h2 h3=>vd (cs:=cs) h1 h2 h3) t h
  ·obtain⟨u,hu,h⟩:=Lq.mp h
   exact GP (g.l u hu) t h
 obtain⟨L,eL,hL⟩:=m7 key
 have mem:∀v:N2,en v∈dS 0 cs->v∈P:=λv hv=>by
  rw[eP]at hv;obtain⟨u,hu,e⟩:=JQ.mp hv;rw[<-uq e];exact hu
 have hl:=Cb g;rw[eL,Jd]at hl
 have hp:=qN cs 0 hc;rw[eP,Jd]at hp
 have hs:=AD λx hx=>(hL x hx).2.2
 exact⟨L,P,g,eL,eP,⟨by omega,by omega,λx hx=>⟨mem _ (hL x hx).1,mem _ (hL x hx).2.1⟩,by omega⟩,yp (eP▸kA cs 0),by omega,hl,λx hx=>(hL x hx).2.2⟩
def run (L:cD N2):N2->List Nat->Option N2
 | a,[] =>some a
 | a,k::r=>match L[k]? with
  | some x=>if x.1=a then run L x.2.1 r else none
  | none=>none
section
variable {cs ls:List T}{L:cD N2}{P:List N2}
theorem Rd.bounds (R:Rd cs ls L P):fw [RR cs ls] = .ok (eL L):=by rw[zC R.g,R.b];rfl
end
section
variable {cs ls:List T}{L:cD N2}{P:List N2}
theorem Rd.events (R:Rd cs ls L P):ft [RR cs ls] = .ok (eS P):=by rw[yf R.g,R.e];rfl
theorem Fh {ns:List N2}{b:b6 N2}(D:DR P ns b){v:N2}{x:Int×List Nat}(e:b v=some x):sS (.dct (ns.map en) (dV ns b)) (en v)= .ok (eW x):=by
 unfold sS;simp only[cE];rw[D.get,e];rfl
def tmT (P:List N2)(t:N2->Int):T:=.tup (P.map λv=> .int (t v))
def HA (b:b6 N2)(v:N2):Int:=match b v with
 | some x=>x.1
 | none=>0
def atT (t:N2->Int)(u:T):T:=match u with
 | .tup [.int c,.int k] => .int (t ⟨c,k⟩)
 | _=> .non
theorem Rd.IL (R:Rd cs ls L P):(¬NoNeg L/\iM [(RR cs ls)] = .ok .non)\/(NoNeg L/\∃t b,Settled L P b/\(∀v∈P,∃w,b v=some (t v,w))/\iM [(RR cs ls)] = .ok (tmT P t)):=by
 obtain⟨r,hr,ok⟩:=sM R.f R.nd (λv h=>h)
 have wrap:∀{w:T},cZ [(RR cs ls),eL L] = .ok w->iM [(RR cs ls)] = .ok w:=λ{w} e=>cf rfl (cV (br (ts:=[(RR cs ls),eL L]) (au rfl (au (br (ts:=[(RR cs ls)]) rfl R.bounds) rfl)) e))
 have begin_:∀{x z:T} {y:Rs Fl},eg [eL L,eS P] = .ok (.tup [x,z])->((aA (eO (tb (o2 i6 (vr 3) (cn .non))) (aI (cn .non)) sN) (aI (cl jl (ae (iO (iS (vr 2)) [none,some 3] (gN 0) bT (o2 aY (o2 sS (vr 1) (vr 0)) (cn (.int 0)))) aj)))) [.va (RR cs ls),.va (eL L),.va (eS P),.va x] =y)->d6 [.va (RR cs ls),.va (eL L),.em,.em] =y:=λ{x z y} hs hy=>by
  unfold d6;rw[aD (Z':=[.va (RR cs ls),.va (eL L),.va (eS P),.em]) (cG (br (ts:=[(RR cs ls)]) rfl R.events) rfl)];rw[aD (Z':=[.va (RR cs ls),.va (eL L),.va (eS P),.va x]) (cG (aJ (u:=.int 0) (br (ts:=[eL L,eS P]) rfl hs) rfl rfl) rfl)];exact hy
 cases r with
 | inr q=>exact .inl ⟨λn=>absurd n (Bar.neg ok),wrap (cf rfl (begin_ hr (ik ((gj (cF (aJ (t:=.non) (u:=.non) rfl rfl rfl))).trans rfl))))⟩
 | inl b=>
  obtain⟨ns,D,hr⟩:=hr
  have ok:Settled L P b:=ok
  have htm:∀v∈P,∃w,b v=some (HA b v,w):=λv hv=>by
   obtain⟨d,w,e,_⟩:=ok.least v hv v 0 (.nil v);exact⟨w,by unfold HA;rw[e]⟩
  refine .inr ⟨(ok.holds R.f.ends htm).Iu,HA b,b,ok,htm,wrap (cf rfl (begin_ hr ?_))⟩
  generalize HA b=tm at htm
  have lc:iO (iS (vr 2)) [none,some 3] (gN 0) bT (o2 aY (o2 sS (vr 1) (vr 0)) (cn (.int 0))) [.va (RR cs ls),.va (eL L),.va (eS P),.va (.dct (ns.map en) (dV ns b))] = .ok (.lst ((P.map en).map (atT tm))):=
   wK (ts:=P.map en) (yX rfl) (aF (k:=16) (by rw[Jd];exact R.pl)) (by simp) λt ht=>by
    obtain⟨v,hv,rfl⟩:=JQ.mp ht;obtain⟨w,e⟩:=htm v hv;exact aJ (t:=eW (tm v,w)) (u:=.int 0) (aJ (t:=.dct (ns.map en) (dV ns b)) (u:=en v) rfl rfl (Fh D e)) rfl rfl
  rw[Nr]at lc;rw[aD (Z':=[.va (RR cs ls),.va (eL L),.va (eS P),.va (.dct (ns.map en) (dV ns b))]) ((eC (cF (aJ (t:=.dct (ns.map en) (dV ns b)) (u:=.non) rfl rfl rfl))).trans rfl)];exact cV (br (au lc rfl) rfl)
theorem Rd.IC (R:Rd cs ls L P):∃hw:Bool,aH [(RR cs ls)] = .ok (.bl hw)/\(hw=true↔NoNeg L):=by
 rcases R.IL with⟨n,e⟩ | ⟨n,t,b,_,_,e⟩
 ·exact⟨false,cf rfl (cV (aJ (t:=.non) (u:=.non) (br (ts:=[(RR cs ls)]) rfl e) rfl rfl)),λz=>(by cases z),λz=>absurd z n⟩
 ·exact⟨true,cf rfl (cV (aJ (t:=tmT P t) (u:=.non) (br (ts:=[(RR cs ls)]) rfl e) rfl rfl)),λ_=>n,λ_=>rfl⟩
end
theorem yw {n:Int}{t:T}(ht:t.pl=true)(h:aX t 0 (n - 1)=true):d7 [.int n,t] = .ok .non:=by
 refine uh (Z:=[.va (.int n),.va t]) rfl ?_
 show fX [.va (.int n),.va t] =_
 unfold fX;exact(eC (gQ (k:=true) (cF (br (ts:=[t,.int 0,.int (n - 1)]) rfl (by rw[eE _ _ _ ht,h]))))).trans rfl
theorem zv {t:T}(hp:t.pl=true)(h:dC t=true):dz [t] = .ok t:=by
 refine cf rfl ?_
 show eF [.va t] =_
 unfold eF;rw[aD (wL (t:=.non) (br (ts:=[t]) rfl (gi hp h)))];exact cV rfl
theorem zw {t:T}(hp:t.pl=true)(h:dC t=false):dz [t] = .err "NoRecord":=by
 refine ui rfl ?_
 show eF [.va t] =_
 unfold eF;exact EI (G0 (br (ts:=[t]) rfl (wy hp h)))
def rM (t:T):Rs T:=if dC t then .ok t else .err "NoRecord"
theorem BS {t:T}(hp:t.pl=true):dz [t] =rM t:=by
 unfold rM
 cases h:dC t with
 | true=>exact zv hp h
 | false=>exact zw hp h
theorem AI {f:En->Rs T}{Z:En}{t:T}(h:f Z=rM t):aI f Z=(if dC t then .ok (.rt t)else .err "NoRecord"):=by
 unfold rM at h
 cases q:dC t with
 | true=>rw[q]at h;exact cV h
 | false=>rw[q]at h;exact EJ h
theorem As {n m:Nat}{F:En->Rs Fl}{ts:List T}{t:T}(hl:ts.length=n)(h:F (aK m ts)=(if dC t then .ok (.rt t)else .err "NoRecord")):val n m F ts=rM t:=by
 unfold rM
 cases q:dC t with
 | true=>rw[q]at h;exact cf hl h
 | false=>rw[q]at h;exact ui hl h
theorem p0 {a b:T}(ha:a.pl=true)(hb:b.pl=true):(T.tup [a,b]).pl=true:=by simp[T.pl,plS,ha,hb]
theorem xZ {l m:List T}(h1:(T.tup l).pl=true)(h2:(T.tup m).pl=true):(T.tup (l++m)).pl=true:=by
 rw[ko]at*;exact mz λt ht=>(Ju.mp ht).elim (gv h1) (gv h2)
theorem Good.pls {cs ls:List T}(g:Good cs ls):(T.tup ls).pl=true:=by rw[ko];exact mz g.parts.2
theorem p8 {cs ls:List T}{t:T}(hc:(T.tup cs).pl=true)(hl:(T.tup ls).pl=true)(hn:ls.length<=20)(ht:t.pl=true)(ok:dC (RR cs ls)=true):bf [RR cs ls,t] =rM (.tup [.tup cs,.tup (ls++ [t])]):=by
 refine As rfl ?_
 show fW [.va (RR cs ls),.va t] =_
 unfold fW;rw[aD (wL (t:=.non) (br (ts:=[RR cs ls]) rfl (gi (p0 hc hl) ok)))];refine AI (br (ts:=[.tup [.tup cs,.tup (ls++ [t])]]) (au (cx (au (t:=.tup cs) rfl (au (t:=.tup (ls++ [t])) (aJ (t:=.tup ls) (u:=.tup [t]) rfl (cx rfl (aF (k:=1) (by simp))) (qV _ _ (by simp;omega))) rfl)) (aF (k:=2) (by simp))) rfl) (BS (p0 hc (xZ hl (by simp[T.pl,plS,ht])))))
theorem Fj {l:List T}{n:Nat}{f:En->Rs T}{g:En->Rs T}{Z:En}(h:f Z= .ok (.tup l))(hg:g Z= .ok (.int n)):sl f pN (pS g) Z= .ok (.tup (l.take n)):=by
 rw[<-zK];exact GS h rfl (EK hg)
theorem Fm {l:List T}{n:Nat}{f:En->Rs T}{g:En->Rs T}{Z:En}(h:f Z= .ok (.tup l))(hg:g Z= .ok (.int n)):sl f (pS g) pN Z= .ok (.tup (l.drop n)):=by
 rw[<-sV];exact GS h (EK hg) rfl
theorem BY {l:List T}{n:Nat}{f:En->Rs T}{g:En->Rs T}{Z:En}(h:f Z= .ok (.tup l))(hg:g Z= .ok (.int n)):sl f (pS (o2 aU g (cn (.int 1)))) pN Z= .ok (.tup (l.drop (n+1))):=
 Fm h (aJ (t:=.int n) (u:=.int 1) hg rfl rfl)
def tU (l:List T)(n:Nat):List T:=l.take n++l.drop (n+1)
theorem Bj (l:List T)(n:Nat):(tU l n).length<=l.length:=by unfold tU;rw[Jc,Kx,Lp];omega
theorem wg {cs ls:List T}{n:Nat}(g:Good cs ls)(hn:n<ls.length):bD [RR cs ls,.int n] = .ok (.tup [.tup cs,.tup (tU ls n)]):=by
 have hl:=g.n;refine cf rfl ?_
 show dZ [.va (RR cs ls),.va (.int n),.em] =_
 unfold dZ;rw[aD (wL (t:=.non) (br (ts:=[RR cs ls]) rfl (gi g.p g.ok)))];rw[aD (Z':=[.va (RR cs ls),.va (.int n),.va (.tup ls)]) ((cG (t:=.tup ls) rfl rfl))]
 have w:aX (.int n) 0 ((ls.length:Int) - 1)=true:=by unfold aX;simp;omega
 rw[aD (wL (t:=.non) (br (ts:=[.int (ls.length:Int),.int n]) rfl (yw rfl w)))];exact cV (cx (au (t:=.tup cs) rfl (au (t:=.tup (tU ls n)) (aJ (t:=.tup (ls.take n)) (u:=.tup (ls.drop (n+1))) (Fj rfl rfl) (BY rfl rfl) (qV _ _ (by have:=Bj ls n;unfold tU at this;omega))) rfl)) (aF (k:=2) (by simp)))
theorem ka {n:Nat}{l:List T}(h:∀t∈l,t.dep<=n):(T.tup l).dep<=n+1:=by unfold T.dep;have:=vJ h;omega
theorem w6 {c:T}(h:bo c=true):c.dep<=2:=by
 obtain⟨x,y,r,rfl,_⟩:=fB h;refine ka λt ht=> ?_
 simp only[Jg,J9,or_false]at ht;rcases ht with rfl | rfl | rfl
 ·simp[T.dep]
 ·simp[T.dep]
 ·exact ka (n:=0) λt ht=>by obtain⟨i,_,rfl⟩:=JQ.mp ht;simp[T.dep]
theorem m9 {cs:List T}{t:T}(h:ba cs t=true):t.dep<=2:=by
 obtain⟨a,b,x,y,rfl,hd,ha,hb,_⟩:=cA h;obtain⟨m1,m2⟩:=GG h
 have:=(CO ha).2
 have:=(CO hb).2
 have hx:x.dep<=2:=by
  unfold c9 at hd;rw[IV]at hd;obtain⟨i,rfl,_⟩:=bQ hd.1;simp[T.dep]
 unfold T.dep deps deps deps deps deps;obtain⟨a',b',mo,le,e,_⟩:=lb h;cases e;simp only[T.dep];omega
theorem uR {cs ls:List T}(g:Good cs ls):(T.tup cs).dep<=3/\(T.tup ls).dep<=3:=⟨ka λt ht=>w6 ((ck g.c).1 t ht),ka λt ht=>m9 (g.l t ht)⟩
theorem uQ {cs ls:List T}(h:dC (RR cs ls)=true)(hp:(RR cs ls).pl=true):Good cs ls:=by
 have h':(aT (.tup cs)&&(du (.tup ls) 0 8&&ls.all (ba cs)))=true:=h;rw[IV,IV,JC]at h';exact⟨h'.1,h'.2.2,by have:=h'.2.1;simp[du]at this;exact this,hp⟩
end G
set_option maxHeartbeats 1000000
namespace G
open PySem Tr
theorem yu {D:Bool}:∀{l:List T},(∀t∈l,t.nk D=true)->nks D l=true
 | [],_=>rfl
 | t::l,h=>by unfold nks;rw[h t (.head _),yu λu hu=>h u (.tail _ hu)];rfl
theorem kH {D:Bool}{l:List T}(h:∀t∈l,t.nk D=true):(T.tup l).nk D=true:=by unfold T.nk;exact yu h
theorem zM {c:T}(h:bo c=true):c.nk false=true:=by
 obtain⟨x,y,r,rfl,_⟩:=fB h;refine kH λt ht=> ?_
 simp at ht
 rcases ht with rfl | rfl | rfl
 ·rfl
 ·rfl
 ·exact kH λu hu=>by obtain⟨k,_,rfl⟩:=JQ.mp hu;rfl
theorem sJ {cs:List T}{t:T}(h:bc cs t=true):t.nk false=true:=by
 obtain⟨c,k,rfl⟩:=cy h;rfl
theorem wG {cs:List T}{t:T}(h:ba cs t=true):t.nk false=true:=by
 obtain⟨a,b,x,y,rfl,hd,ha,hb,_⟩:=cA h;unfold c9 at hd;rw[IV]at hd;obtain⟨i,rfl,_⟩:=bQ hd.1;refine kH λt ht=> ?_
 simp at ht
 rcases ht with rfl | rfl | rfl | rfl
 ·exact sJ ha
 ·exact sJ hb
 ·rfl
 ·have:=hd.2
  cases t <;> first | rfl | simp[aX]at this
def GR (r:T):Prop:=∃cs ls,r=RR cs ls/\Good cs ls
theorem GR.pl {r:T}(h:GR r):r.pl=true:=by obtain⟨cs,ls,rfl,g⟩:=h;exact g.p
theorem GR.nk {r:T}(h:GR r):r.nk false=true:=by
 obtain⟨cs,ls,rfl,g⟩:=h;refine kH λt ht=> ?_
 simp at ht
 rcases ht with rfl | rfl
 ·exact kH λc hc=>zM ((ck g.c).1 c hc)
 ·exact kH λu hu=>wG (g.l u hu)
theorem GR.dep {r:T}(h:GR r):r.dep<=4:=by
 obtain⟨cs,ls,rfl,g⟩:=h;refine ka λt ht=> ?_
 simp at ht
 rcases ht with rfl | rfl
 ·exact(uR g).1
 ·exact(uR g).2
theorem GR.hw {r:T}(h:GR r):∃b,aH [r] = .ok (.bl b):=by
 obtain⟨cs,ls,rfl,g⟩:=h;obtain⟨L,P,R⟩:=jW g;obtain⟨b,e,_⟩:=R.IC;exact⟨b,e⟩
theorem GR.need {r:T}(h:GR r):aN [r] = .ok .non:=by
 obtain⟨cs,ls,rfl,g⟩:=h;exact gi g.p g.ok
theorem GR.of {cs ls:List T}(hp:(RR cs ls).pl=true)(h:dC (RR cs ls)=true):GR (RR cs ls):=⟨cs,ls,rfl,uQ h hp⟩
abbrev sp (w r:T):T:=.tup [w,r]
abbrev SK (P A:List T):OT:=.ob "Sketch" ["past","ahead"] [P,A]
abbrev SV (P A:List T):T:=.ob "Sketch" ["past","ahead"] [.lst P,.lst A]
theorem sA (l:List T)(z:T):aY (.lst (l++ [z])) (.int (-1))= .ok z:=by
 have:=qJ l z;exact this
theorem qM {α:Type}(P A:α):ir "past" ["past","ahead"] [P,A] =some P:=by unfold ir;rw[if_pos rfl]
theorem BH {α:Type}(P A:α):ir "ahead" ["past","ahead"] [P,A] =some A:=by unfold ir;rw[if_neg (by decide)];unfold ir;rw[if_pos rfl]
theorem Eh (P A Q:List T):gV "past" Q ["past","ahead"] [P,A] = [Q,A]:=by unfold gV;rw[if_pos rfl]
theorem Bh (P A Q:List T):gV "ahead" Q ["past","ahead"] [P,A] = [P,Q]:=by unfold gV;rw[if_neg (by decide)];unfold gV;rw[if_pos rfl]
theorem Hm (P A:List T)(w r:T):aC [SV (P++ [sp w r]) A] = .ok r:=
 cf rfl (cV (aJ (aJ (sy (ns:=["past","ahead"]) (ts:=[.lst (P++ [sp w r]),.lst A]) rfl (qM _ _)) (Bz rfl rfl) (sA P (sp w r))) rfl (CG (n:=1) rfl)))
theorem zA (P A:List T):b7 [SV P A] = .ok (.tup [.int ((P.length:Int) - 1),.int (A.length:Nat)]):=by
 refine cf rfl (cV (cx (ts:=[.int ((P.length:Int) - 1),.int (A.length:Nat)]) (au (aJ (t:=.int (P.length:Nat)) (u:=.int 1) (br (ts:=[.lst P]) (au (sy (ns:=["past","ahead"]) (ts:=[.lst P,.lst A]) rfl (qM _ _)) rfl) rfl) rfl rfl) (au (br (ts:=[.lst A]) (au (sy (ns:=["past","ahead"]) (ts:=[.lst P,.lst A]) rfl (BH _ _)) rfl) rfl) rfl)) (aF (k:=2) (by simp))))
theorem Fb {r:T}(h:GR r):cN [.ow (.ob "Sketch" [] []),.va r] = .ok (.non,SK [sp .non r] []):=by
 refine qE (Z:=[.ow (SK [sp .non r] []),.va r]) rfl ?_ rfl
 show dQ [.ow (.ob "Sketch" [] []),.va r] =_
 unfold dQ;refine il (Z':=[.ow (.ob "Sketch" [] []),.va r]) (o5 (t:=.non) (yL (br (ts:=[r]) rfl h.need))) ?_
 refine il (Z':=[.ow (.ob "Sketch" ["past"] [[sp .non r]]),.va r]) ((qG (c:="Sketch") (ns:=[]) (ls:=[]) (l:=[sp .non r]) rfl (au (cx rfl (aF (k:=2) (by simp))) rfl) (by simp) (by simp)).trans rfl) ?_
 refine(qG (c:="Sketch") (ns:=["past"]) (ls:=[[sp .non r]]) (l:=[]) rfl rfl (by simp) (by simp)).trans ?_
 rw[if_neg (by decide)];rfl
theorem Hn {P A:List T}{w:Str}{r:T}{b:Bool}(hb:aH [r] = .ok (.bl b))(hl:P.length<=1000):bV [.ow (SK P A),.va (.str w),.va r] = .ok (.bl b,SK (P++ [sp (.str w) r]) []):=by
 refine kM (Z:=[.ow (SK (P++ [sp (.str w) r]) []),.va (.str w),.va r]) rfl ?_ rfl
 show fD [.ow (SK P A),.va (.str w),.va r] =_
 unfold fD;refine il (Z':=[.ow (SK (P++ [sp (.str w) r]) A),.va (.str w),.va r]) (o5 (t:=.non) ((yN (ns:=["past","ahead"]) (ls:=[P,A]) (l:=P) (t:=sp (.str w) r) rfl (qM _ _) (cx rfl (aF (k:=2) (by simp))) hl).trans (by rw[Eh];rfl))) ?_
 refine il (Z':=[.ow (SK (P++ [sp (.str w) r]) []),.va (.str w),.va r]) ((qG (c:="Sketch") (ns:=["past","ahead"]) (ls:=[P++ [sp (.str w) r],A]) (l:=[]) rfl rfl (by simp) (by simp)).trans (by rw[if_pos (by decide),Bh];rfl)) ?_
 exact nt (yL (br (ts:=[r]) rfl hb))
section
variable {P A:List T}{w r r' t u:T}{X:En->Rs T}{Z:En}{v:Str}
theorem o4 {i:Nat}(hi:Z[i]? =some (.ow (SK (P++ [sp w r]) A)))(h:GR r):ln i (iJ "Sketch" "record" aC (vr i) aj) Z= .ok r:=by
 have hl:i<Z.length:=(Jh.mp hi).1
 refine yW hi (vn (c:="Sketch") (ns:=["past","ahead"]) (ts:=[.lst (P++ [sp w r]),.lst A]) (By ?_) (by decide) rfl (Hm P A w r)) h.nk
 unfold disown;rw[hi];simp[hl];rfl
theorem G4 {i:Nat}(hi:Z[i]? =some (.ow (SK P A))):ln i (iJ "Sketch" "counts" b7 (vr i) aj) Z= .ok (.tup [.int ((P.length:Int) - 1),.int (A.length:Nat)]):=by
 have hl:i<Z.length:=(Jh.mp hi).1
 refine yW hi (vn (c:="Sketch") (ns:=["past","ahead"]) (ts:=[.lst P,.lst A]) (By ?_) (by decide) rfl (zA P A)) rfl
 unfold disown;rw[hi];simp[hl];rfl
theorem k_go (hi:Z[0]? =some (.ow (SK P A)))(hx:X Z= .ok r')(h:GR r')(hl:P.length<=1000):∃b,m5 (ee 0 "Sketch" "go_on" bV (ae (cn (.str v)) (ae X aj))) Z= .ok (.rt (.bl b) (Z.set 0 (.ow (SK (P++ [sp (.str v) r']) [])))):=by
 obtain⟨b,hb⟩:=h.hw;exact⟨b,nt (iP (ns:=["past","ahead"]) (ls:=[P,A]) (ts:=[.str v,r']) hi (by decide) (au rfl (au hx rfl)) (Hn hb hl))⟩
theorem Hq (h:GR r)(hl:(P++ [sp w r]).length<=1000)(hx:bD [r,t] = .ok r')(h':GR r'):∃b,c8 [.ow (SK (P++ [sp w r]) A),.va t] = .ok (.bl b,SK (P++ [sp w r] ++ [sp (.str "cut") r']) []):=by
 obtain⟨b,hb⟩:=k_go (v:="cut") (P:=P++ [sp w r]) (A:=A) (Z:=[.ow (SK (P++ [sp w r]) A),.va t]) (X:=cl bD (ae (ln 0 (iJ "Sketch" "record" aC (vr 0) aj)) (ae (vr 1) aj))) rfl (br (au (o4 rfl h) rfl) hx) h' hl;exact⟨b,kM rfl hb rfl⟩
end
end G
namespace G
open PySem Tr Gr
theorem xM:∀{r:List Int} {k:Nat},lP r=true->k+1<r.length->0<=dr r k
 | [],k,_,h=>by simp at h
 | [a],k,_,h=>by simp at h
 | a::b::r,0,h,_=>by
  rw[AH,IV]at h
  have:=of_decide_eq_true h.1
  show 0<=b - a
  omega
 | a::b::r,k+1,h,hk=>by
  rw[AH,IV]at h;exact xM (r:=b::r) (k:=k) h.2 (by simpa using hk)
theorem uz {t:T}(h:bo t=true):∃(x y:Int) (r:List Int),t= .tup [.int x,.int y,.tup (r.map .int)]/\(0<=x/\x<=9)/\x<=y/\(∀k,0<=r.getD k 0/\r.getD k 0<=99)/\∀k,k+1<r.length->0<=dr r k:=by
 obtain⟨x,y,r,rfl,h1,h2,h3⟩:=nI h;refine⟨x,y,r,rfl,h1,?_,h3,?_⟩
 ·have h':(ly (.int x) (.int y)&&cg (.tup (r.map .int)))=true:=h
  rw[IV]at h'
  have hp:(aX (.int x) 1 9&&aX (.int y) x 9)=true:=h'.1;rw[IV]at hp;obtain⟨i,e,a,b⟩:=bQ hp.2;cases e;exact a
 ·have h':(ly (.int x) (.int y)&&cg (.tup (r.map .int)))=true:=h
  rw[IV]at h'
  have hr:=h'.2;unfold cg at hr;rw[IV]at hr
  have hr2:(((r.map T.int).all λu=>aX u 0 99)&&(match i0 (r.map .int)with | some m=>lP m | none=>false))=true:=hr.2
  rw[IV,hZ]at hr2;exact λk hk=>xM hr2.2 hk
theorem zQ {u:T}:∀{cs:List T} {i:Nat},u∈bC i cs->∃j c,cs[j]? =some c/\u∈xB (i+j) c
 | [],i,h=>by simp[bC]at h
 | c::cs,i,h=>by
  rw[bC,Ju]at h;rcases h with h | h
  ·exact⟨0,c,rfl,h⟩
  ·obtain⟨j,d,e,hd⟩:=zQ h
   exact⟨j+1,d,e,by rw[show i+(j+1)=i+1+j by omega];exact hd⟩
theorem uu {x y:N2×N2×Int}(h:eB x=eB y):x=y:=by
 obtain⟨a,b,m⟩:=x;obtain⟨a',b',m'⟩:=y;unfold eB at h
 have h':=T.tup.inj h;simp only[List.cons.injEq,T.int.injEq,and_true]at h';rw[uq h'.1,uq h'.2.1,h'.2.2]
section
variable {cs ls:List T}{L:cD N2}{P:List N2}{i:Nat}{x y:Int}{r:List Int}
def cw (b:Bool)(cs:List T)(v:N2):Int:=match cs[v.c.toNat]? with
 | some (.tup [.int x,.int y,.tup r])=>(if b then y else x)*((i0 r).getD []).getD v.k.toNat 0
 | _=>0
theorem CQ (b:Bool)(e:cs[i]? =some (.tup [.int x,.int y,.tup (r.map .int)]))(k:Nat):cw b cs ⟨i,(k:Nat)⟩=(if b then y else x)*r.getD k 0:=by
 unfold cw;simp only[Kc,e,hZ,Option.getD_some]
theorem Rd.cw0 (R:Rd cs [] L P)(b:Bool):Holds L (cw b cs):=λu v m hx=>by
 have hb:eB (u,v,m)∈zO cs []:=by rw[R.b];exact JQ.mpr ⟨_,hx,rfl⟩
 unfold zO at hb;rw[List.flatMap_nil,JA]at hb;obtain⟨j,c,hj,hu⟩:=zQ hb;rw[Nat.zero_add]at hu;obtain⟨x,y,r,rfl,_,xy,_,dd⟩:=uz ((ck R.g.c).1 _ (Ky hj));rw[ri]at hu;obtain⟨k,hk,hu⟩:=Lq.mp hu
 have hk':=Kf.mp hk
 have d0:=dd k (by omega)
 have c1:=CQ b hj k
 have c2:=CQ b hj (k+1)
 have fx:x<=(if b then y else x)/\(if b then y else x)<=y:=by cases b <;> simp[xy]
 revert fx c1 c2
 generalize (if b then y else x)=z
 intro c1 c2 fx
 have m1:=L7 fx.1 d0
 have m2:=L7 fx.2 d0
 have ed:z*r.getD (k+1) 0 - z*r.getD k 0=dr r k*z:=by unfold dr;rw[<-Int.mul_sub,Int.mul_comm]
 unfold pr at hu;simp only[Jg,J9,or_false]at hu;rcases hu with hu | hu
 ·have:=uu (y:=(⟨j,k⟩,⟨j,((k+1:Nat):Int)⟩,dr r k*y)) hu
  cases this;rw[c1,c2];omega
 ·have:=uu (y:=(⟨j,((k+1:Nat):Int)⟩,⟨j,k⟩,-dr r k*x)) hu
  cases this;rw[c1,c2,Int.neg_mul];omega
theorem Rd.Iv (R:Rd cs ls L P):∃t,((NoNeg L/\t= .non)\/(∃q,Bar L q/\t= .lst (eN q)))/\dY [RR cs ls] = .ok t:=by
 obtain⟨r,hr,ok⟩:=sM R.f R.nd (λv h=>h)
 have wrap:∀{x y:T},eg [eL L,eS P] = .ok (.tup [x,y])->dY [RR cs ls] = .ok y:=λ{x y} e=>
  cf rfl (cV (aJ (t:=.tup [x,y]) (u:=.int 1) (br (ts:=[eL L,eS P]) (au (br (ts:=[RR cs ls]) rfl R.bounds) (au (br (ts:=[RR cs ls]) rfl R.events) rfl)) e) rfl rfl))
 cases r with
 | inr q=>exact⟨_,.inr ⟨q,ok,rfl⟩,wrap hr⟩
 | inl b=>
  obtain⟨ms,D,hr⟩:=hr
  have ok:Settled L P b:=ok
  have all:∀v∈P,∃d w,b v=some (d,w):=λv hv=>by
   obtain⟨d,w,e,_⟩:=ok.least v hv v 0 (.nil v);exact⟨d,w,e⟩
  let tm:N2->Int:=λv=>match b v with | some x=>x.1 | none=>0
  have htm:∀v∈P,∃w,b v=some (tm v,w):=λv hv=>by
   obtain⟨d,w,e⟩:=all v hv;refine⟨w,?_⟩
   show b v=some ((match b v with | some x=>x.1 | none=>0),w)
   rw[e]
  exact⟨_,.inl ⟨(ok.holds R.f.ends htm).Iu,rfl⟩,wrap hr⟩
theorem Rd.inL (R:Rd cs ls L P){x:N2×N2×Int}(h:eB x∈zO cs ls):x∈L:=by
 rw[R.b]at h;obtain⟨y,hy,e⟩:=JQ.mp h;rw[<-uu e];exact hy
theorem Rd.ID (R:Rd cs ls L P)(n:NoNeg L):dJ [RR cs ls] = .ok .non:=by
 obtain⟨hw,e,i⟩:=R.IC;rw[i.mpr n]at e;refine uh (Z:=[.va (RR cs ls)]) rfl ?_
 show gD [.va (RR cs ls)] =_
 unfold gD;exact(eC (gQ (k:=true) (cF (br (ts:=[RR cs ls]) rfl e)))).trans rfl
theorem Rd.less {ms:List T}{M:cD N2}{Q:List N2}(R:Rd cs ls L P)(S:Rd cs ms M Q)(h:∀u∈ms,u∈ls)(n:NoNeg L):NoNeg M:=n.mono λx hx=>R.inL (by
 have:eB x∈zO cs ms:=by rw[S.b];exact JQ.mpr ⟨x,hx,rfl⟩
 unfold zO at this ⊢;rcases Ju.mp this with z | z
 ·exact JN _ z
 ·obtain⟨u,hu,hz⟩:=Lq.mp z
  exact Jx _ (Lq.mpr ⟨u,h u hu,hz⟩))
end
def aR (r:T):Bool:=match aH [r]with
 | .ok (.bl b)=>b
 | _=>false
theorem GR.has {r:T}(h:GR r):aH [r] = .ok (.bl (aR r)):=by
 obtain⟨b,e⟩:=h.hw;unfold aR;rw[e]
theorem kO {cs ls:List T}{L:cD N2}{P:List N2}(R:Rd cs ls L P):aR (RR cs ls)=true↔NoNeg L:=by
 obtain⟨b,e,h⟩:=R.IC;unfold aR;rw[e];exact h
theorem GR.bar {r:T}(h:GR r):∃t,dY [r] = .ok t/\t.isN=aR r:=by
 obtain⟨cs,ls,rfl,g⟩:=h;obtain⟨L,P,R⟩:=jW g;obtain⟨t,h1,e⟩:=R.Iv;refine⟨t,e,?_⟩
 rcases h1 with⟨n,rfl⟩ | ⟨q,hq,rfl⟩
 ·rw[(kO R).mpr n];rfl
 ·have:aR (RR cs ls)≠true:=λz=>by
   have n:=(kO R).mp z;obtain⟨_,⟨a,ha⟩,hc,_⟩:=hq
   have:=n a _ ha.wk;omega
  cases hb:aR (RR cs ls)
  ·rfl
  ·exact absurd hb this
theorem GR.nw {r:T}(h:GR r)(hw:aR r=true):dJ [r] = .ok .non:=by
 obtain⟨cs,ls,rfl,g⟩:=h;obtain⟨L,P,R⟩:=jW g;exact R.ID ((kO R).mp hw)
theorem BG {cs ls ms:List T}(g:Good cs ls)(h:∀u∈ms,u∈ls)(hn:ms.length<=8)(hw:aR (RR cs ls)=true):aR (RR cs ms)=true:=by
 obtain⟨L,P,R⟩:=jW g;obtain⟨M,Q,S⟩:=jW (g.sub h hn);exact(kO S).mpr (R.less S h ((kO R).mp hw))
theorem EX {cs ls:List T}(g:Good cs ls):aR (RR cs [])=true:=by
 obtain⟨M,Q,S⟩:=jW (g.sub (ms:=[]) (λu hu=>by cases hu) (by simp))
 exact(kO S).mpr (S.cw0 true).Iu
end G
set_option maxHeartbeats 1000000
namespace G
open PySem Tr
def rc:T->T
 | .tup [_,r] =>r
 | _=> .non
def aS (P:List T):T:=match P.reverse.find? (λs=>aR (rc s))with
 | some s=>rc s
 | none=> .non
theorem gz (P:List T)(s:T):aS (P++ [s])=if aR (rc s)then rc s else aS P:=by
 unfold aS;rw[List.reverse_append,List.reverse_singleton,Nk,KG]
 cases aR (rc s) <;> rfl
abbrev HJ:En->Rs Fl:=eO (tb (cl aH (ae (o2 aY (vr 1) (cn (.int 1))) aj))) (aI (o2 aY (vr 1) (cn (.int 1)))) sN
theorem vB (v:T):∀(l:List T) (s1:Sl),(∀s∈l,∃w r,s=sp w r/\GR r)->(match l.find? (λs=>aR (rc s))with
  | some s=>bp (gN 1) HJ l [.va v,s1] = .ok (.rt (rc s))
  | none=> ∃s2,bp (gN 1) HJ l [.va v,s1] = .ok (.nx [.va v,s2]))
 | [],s1,_=>⟨s1,rfl⟩
 | s::l,s1,h=>by
  obtain⟨w,r,rfl,hr⟩:=h s (.head _)
  have ih:=vB v l (.va (sp w r)) λu hu=>h u (.tail _ hu)
  have hix:o2 aY (vr 1) (cn (.int 1)) [.va v,.va (sp w r)] = .ok r:=oA (n:=1) (l:=[w,r]) rfl rfl rfl
  have ht:tb (cl aH (ae (o2 aY (vr 1) (cn (.int 1))) aj)) [.va v,.va (sp w r)] = .ok (aR r):=cF (br (ts:=[r]) (au hix rfl) hr.has);rw[KG]
  show match(match aR r with | true=>some (sp w r) | false=>_)with | some s=>_ | none=>_
  cases hb:aR r with
  | true=>
   rw[hb]at ht
   exact qH (Z1:=[.va v,.va (sp w r)]) rfl ((gj ht).trans (cV hix))
  | false=>
   rw[hb]at ht
   have e:∀{x},bp (gN 1) HJ l [.va v,.va (sp w r)] =x->bp (gN 1) HJ (sp w r::l) [.va v,s1] =x:=λ{x} e=>(fA (Z1:=[.va v,.va (sp w r)]) rfl ((eC ht).trans rfl)).trans e
   dsimp only
   revert ih
   cases l.find? (λs=>aR (rc s))with
   | some s=>intro ih;exact e ih
   | none=>intro ⟨s2,ih⟩;exact⟨s2,e ih⟩
theorem Fc {P A:List T}(h:∀s∈P,∃w r,s=sp w r/\GR r):bh [SV P A] = .ok (aS P):=by
 refine cf rfl ?_
 show f7 [.va (SV P A),.em] =_
 unfold f7
 have hi:y9 (ae (o1 (nA "Sketch" "past") (vr 0)) aj) [.va (SV P A),.em] = .ok P.reverse:=by
  unfold y9;rw[au (sy (ns:=["past","ahead"]) (ts:=[.lst P,.lst A]) rfl (qM _ _)) rfl];rfl
 have hl:=vB (SV P A) P.reverse .em λs hs=>h s (List.mem_reverse.mp hs)
 unfold aS
 revert hl
 cases P.reverse.find? (λs=>aR (rc s))with
 | some s=>intro hl;exact ik (gk hi hl)
 | none=>intro ⟨s2,hl⟩;exact(aD (gk hi hl)).trans rfl
theorem qI {P A:List T}{Z:En}{i:Nat}(h:∀s∈P,∃w r,s=sp w r/\GR r)(hi:Z[i]? =some (.ow (SK P A)))(hg:GR (aS P)):ln i (iJ "Sketch" "good" bh (vr i) aj) Z= .ok (aS P):=by
 have hl:i<Z.length:=(Jh.mp hi).1
 refine yW hi (vn (c:="Sketch") (ns:=["past","ahead"]) (ts:=[.lst P,.lst A]) (By ?_) (by decide) rfl (Fc h)) hg.nk
 unfold disown;rw[hi];simp[hl];rfl
abbrev DK (K:List T):OT:=.ob "Desk" ["kept"] [K]
abbrev DV (K:List T):T:=.ob "Desk" ["kept"] [.lst K]
theorem zg {α:Type}(K:α):ir "kept" ["kept"] [K] =some K:=by unfold ir;rw[if_pos rfl]
theorem Ei (K Q:List T):gV "kept" Q ["kept"] [K] = [Q]:=by unfold gV;rw[if_pos rfl]
theorem BU {r:T}(h:GR r)(hw:aR r=true):dn [.ow (.ob "Desk" [] []),.va r] = .ok (.non,DK [r]):=by
 refine qE (Z:=[.ow (DK [r]),.va r]) rfl ?_ rfl
 show eK [.ow (.ob "Desk" [] []),.va r] =_
 unfold eK;refine il (Z':=[.ow (.ob "Desk" [] []),.va r]) (o5 (t:=.non) (yL (br (ts:=[r]) rfl (h.nw hw)))) ?_
 exact(qG (c:="Desk") (ns:=[]) (ls:=[]) (l:=[r]) rfl rfl (by simp) (by simp)).trans rfl
theorem Ho (K:List T)(r:T):bH [DV (K++ [r])] = .ok r:=
 cf rfl (cV (aJ (sy (ns:=["kept"]) (ts:=[.lst (K++ [r])]) rfl (zg _)) (Bz rfl rfl) (sA K r)))
section
variable {K:List T}{r r' t:T}{Z:En}
theorem nu {i:Nat}(hi:Z[i]? =some (.ow (DK (K++ [r]))))(h:GR r):ln i (iJ "Desk" "record" bH (vr i) aj) Z= .ok r:=by
 have hl:i<Z.length:=(Jh.mp hi).1
 refine yW hi (vn (c:="Desk") (ns:=["kept"]) (ts:=[.lst (K++ [r])]) (By ?_) (by decide) rfl (Ho K r)) h.nk
 unfold disown;rw[hi];simp[hl];rfl
theorem E9 (h:GR r)(hw:aR r=true)(hl:K.length<=1000):et [.ow (DK K),.va r] = .ok (.non,DK (K++ [r])):=by
 refine qE (Z:=[.ow (DK (K++ [r])),.va r]) rfl ?_ rfl
 show eI [.ow (DK K),.va r] =_
 unfold eI;refine il (Z':=[.ow (DK K),.va r]) ((CF (k:=false) (gQ (k:=true) (cF (br (ts:=[r]) rfl (by rw[h.has,hw]))))).trans rfl) ?_
 exact o5 (t:=.non) ((yN (ns:=["kept"]) (ls:=[K]) (l:=K) (t:=r) rfl (zg _) rfl hl).trans (by rw[Ei];rfl))
theorem BR (h:GR r)(hw:aR r=false):et [.ow (DK K),.va r] = .err "Barred":=by
 refine vm rfl ?_
 show eI [.ow (DK K),.va r] =_
 unfold eI;exact qF ((CF (k:=true) (gQ (k:=false) (cF (br (ts:=[r]) rfl (by rw[h.has,hw]))))).trans rfl)
theorem E7 {cs ls:List T}(h:GR r)(hx:bf [r,t] = .ok (RR cs ls))(h':GR (RR cs ls))(hw:aR (RR cs ls)=true)(hl:(K++ [r]).length<=1000) :
  ej [.ow (DK (K++ [r])),.va t] = .ok (.int ((ls.length:Int) - 1),DK (K++ [r] ++ [RR cs ls])):=by
 refine kM (Z:=[.ow (DK (K++ [r] ++ [RR cs ls])),.va t]) rfl ?_ rfl
 show eG [.ow (DK (K++ [r])),.va t] =_
 unfold eG;refine il (o5 (iP (c:="Desk") (ns:=["kept"]) (ls:=[K++ [r]]) (ts:=[RR cs ls]) rfl (by decide) (au (br (au (nu rfl h) rfl) hx) rfl) (E9 h' hw hl))) ?_
 exact nt (yL (aJ (t:=.int (ls.length:Nat)) (u:=.int 1) (br (ts:=[.tup ls]) (au (oA (n:=1) (l:=[.tup cs,.tup ls]) (nu (K:=K++ [r]) rfl h') rfl rfl) rfl) rfl) rfl rfl))
theorem BP (h:GR r)(hx:bf [r,t] = .ok r')(h':GR r')(hw:aR r'=false):ej [.ow (DK (K++ [r])),.va t] = .err "Barred":=by
 refine vm rfl ?_
 show eG [.ow (DK (K++ [r])),.va t] =_
 unfold eG;exact qF (yV (sk (c:="Desk") (ns:=["kept"]) (ls:=[K++ [r]]) (ts:=[r']) rfl (by decide) (au (br (au (nu rfl h) rfl) hx) rfl) (BR h' hw)))
end
end G
set_option maxHeartbeats 4000000
namespace G
open PySem Tr
section
variable {P A K:List T}{w r r' t:T}
theorem zp (h:GR r)(hl:(P++ [sp w r]).length<=1000)(hx:bf [r,t] = .ok r')(h':GR r'):cT [.ow (SK (P++ [sp w r]) A),.va t] = .ok (.bl (aR r'),SK (P++ [sp w r] ++ [sp (.str "write") r']) []):=
 kM rfl (nt (iP (c:="Sketch") (ns:=["past","ahead"]) (ls:=[P++ [sp w r],A]) (ts:=[.str "write",r']) rfl (by decide) (au rfl (au (br (au (o4 rfl h) rfl) hx) rfl)) (Hn h'.has hl))) rfl
theorem zq {cs ls:List T}(h:GR r)(hx:bf [r,t] = .ok (RR cs ls))(h':GR (RR cs ls))(hw:aR (RR cs ls)=true)(hl:(K++ [r]).length<=1000):c7 [.ow (DK (K++ [r])),.va t] = .ok (.bl true,DK (K++ [r] ++ [RR cs ls])):=
 kM (Z:=[.ow (DK (K++ [r] ++ [RR cs ls])),.va t]) rfl (EN (il (o5 (iP (c:="Desk") (ns:=["kept"]) (ls:=[K++ [r]]) (ts:=[t]) rfl (by decide) rfl (E7 h hx h' hw hl))) (nt (yL rfl)))) rfl
theorem zr (h:GR r)(hx:bf [r,t] = .ok r')(h':GR r')(hw:aR r'=false):c7 [.ow (DK (K++ [r])),.va t] = .ok (.bl false,DK (K++ [r])):=
 kM (Z:=[.ow (DK (K++ [r])),.va t]) rfl (BA (qF (yV (sk (c:="Desk") (ns:=["kept"]) (ls:=[K++ [r]]) (ts:=[t]) rfl (by decide) rfl (BP h hx h' hw)))) (by unfold zc;rw[if_pos rfl])) rfl
end
theorem GR.ne {r:T}(h:GR r):lR r r= .ok (.bl false):=qy h.pl (by have:=h.dep;omega)
theorem GR.eq {r:T}(h:GR r):lX r r= .ok (.bl true):=vE h.pl (by have:=h.dep;omega)
theorem oX (b:Bool):lR (.bl b) (.bl b)= .ok (.bl false):=qy rfl (by simp[T.dep])
theorem gp:∀{l m:List T},beqTs l m=true->l.length=m.length
 | [],[],_=>rfl
 | [],_::_,h=>by simp[beqTs]at h
 | _::_,[],h=>by simp[beqTs]at h
 | a::l,b::m,h=>by
  rw[beqTs,IV]at h;rw[Jb,Jb,gp h.2]
abbrev LE (ns:List Int)(F:T)(o d:OT)(la we k le to he ma tu:Sl):En:=[.va (.scr ns),.va F,.ow o,.ow d,la,we,k,le,to,he,ma,tu]
abbrev S0:En->Rs Fl:=(cJ (cl bq (ae (vr 0) (ae (o2 aU (cn (.int 80)) (o2 bY (cn (.int 8)) (vr 6))) (ae (o2 aY (vr 1) (cn (.int 0))) aj)))) (gN 7))
abbrev S1:En->Rs Fl:=(eO (tb (o2 i6 (vr 7) (cn .non))) (aI (o2 lX (ln 2 (iJ "Sketch" "good" bh (vr 2) aj)) (vr 1))) sN)
abbrev S2:En->Rs Fl:=(tQ 8 (ee 2 "Sketch" "write" cT (ae (vr 7) aj)))
abbrev S3:En->Rs Fl:=(cJ (ln 2 (iJ "Sketch" "record" aC (vr 2) aj)) (gN 9))
abbrev S4:En->Rs Fl:=(eO (mG (tb (o2 lR (vr 8) (cl aH (ae (vr 9) aj)))) (tb (o2 lR (vr 8) (o2 i6 (cl dY (ae (vr 9) aj)) (cn .non))))) (aI (cn (.bl false))) sN)
abbrev S5:En->Rs Fl:=(eO (tb (o2 lR (o2 aY (o2 aY (vr 9) (cn (.int 1))) (o1 kI (cn (.int 1)))) (vr 7))) (aI (cn (.bl false))) sN)
abbrev S6:En->Rs Fl:=(eO (sY (cK (tb (vr 5))) (tb (vr 8))) (aI (cn (.bl false))) sN)
abbrev S7:En->Rs Fl:=(cJ (CK (tb (vr 8)) (vr 9) (vr 4)) (gN 4))
abbrev S8:En->Rs Fl:=(eO (mG (tb (o2 lR (ln 2 (iJ "Sketch" "good" bh (vr 2) aj)) (vr 4))) (cK (tb (cl aH (ae (ln 2 (iJ "Sketch" "good" bh (vr 2) aj)) aj))))) (aI (cn (.bl false))) sN)
abbrev S9:En->Rs Fl:=(eO (tb (vr 5)) (tN (tp (Df (Aq lR (tq 3 c7 (ae (vr 7) aj)) (vr 8))) (De (tb (o2 lR (o2 lX (ln 3 (iJ "Desk" "record" bH (vr 3) aj)) (vr 9)) (vr 8))))) (aI (cn (.bl false))) sN) sN)
abbrev S10:En->Rs Fl:=(cJ (vr 8) (gN 5))
abbrev B10:En->Rs Fl:=S10
abbrev B9:En->Rs Fl:=aA S9 B10
abbrev B8:En->Rs Fl:=aA S8 B9
abbrev B7:En->Rs Fl:=aA S7 B8
abbrev B6:En->Rs Fl:=aA S6 B7
abbrev B5:En->Rs Fl:=aA S5 B6
abbrev B4:En->Rs Fl:=aA S4 B5
abbrev B3:En->Rs Fl:=aA S3 B4
abbrev B2:En->Rs Fl:=aA S2 B3
abbrev B1:En->Rs Fl:=aA S1 B2
abbrev B0:En->Rs Fl:=aA S0 B1
structure Stt (cs l0 ms P K:List T):Prop where
 g:Good cs (l0++ms)
 lst:∃P' w,P=P'++ [sp w (RR cs (l0++ms))]
 all:∀s∈P,∃w r,s=sp w r/\GR r
 len:P.length=ms.length+1
 lg:GR (aS P)
 lw:aR (aS P)=true
 mem:∀l∈ms,ba cs l=true
 kn:K.length<=ms.length+1
 desk:aR (RR cs (l0++ms))=true->∃K',K=K'++ [RR cs (l0++ms)]
 one:ms= []->aS P=RR cs l0
theorem Av {cs:List T}{l:T}(h:ba cs l=true):2<=(dS 0 cs).length:=by
 obtain⟨a,b,x,y,rfl,_,ha,hb,hn⟩:=cA h
 have h1:=iW ha
 have h2:=iW hb;rcases OQ (dS 0 cs).length 2 with z | z
 ·exfalso
  have hab:a=b:=by
   match hE:dS 0 cs,z with
   | [],_=>rw[hE]at h1;cases h1
   | [x],_=>rw[hE]at h1 h2;rw[Jk.mp h1,Jk.mp h2]
  subst hab;obtain⟨c,k,rfl⟩:=cy ha;rw[iX _ rfl]at hn;cases hn
 ·exact z
section
variable {cs l0 ms P K:List T}{ns:List Int}
theorem Stt.snoc {l:T}{K':List T}(S:Stt cs l0 ms P K)(hl:ba cs l=true)(g:Good cs (l0++(ms++ [l])))(hk:K'.length<=K.length+1)(hd:aR (RR cs (l0++(ms++ [l])))=true->∃K2,K'=K2++ [RR cs (l0++(ms++ [l]))]) :
  Stt cs l0 (ms++ [l]) (P++ [sp (.str "write") (RR cs (l0++(ms++ [l])))]) K':=by
 have hG:GR (RR cs (l0++(ms++ [l]))):=⟨_,_,rfl,g⟩
 have e:aS (P++ [sp (.str "write") (RR cs (l0++(ms++ [l])))])=if aR (RR cs (l0++(ms++ [l])))then RR cs (l0++(ms++ [l]))else aS P:=gz P _
 refine⟨g,⟨P,_,rfl⟩,λs hs=> ?_,by rw[Jc,Jc,S.len];simp,?_,?_,λu hu=> ?_,by rw[Jc];have:=S.kn;simp;omega,hd,λz=>by simp at z⟩
 ·rcases Ju.mp hs with z | z
  ·exact S.all s z
  ·rw[Jk.mp z];exact⟨_,_,rfl,hG⟩
 ·rw[e];cases aR (RR cs (l0++(ms++ [l])))
  ·exact S.lg
  ·exact hG
 ·rw[e]
  cases hb:aR (RR cs (l0++(ms++ [l])))
  ·exact S.lw
  ·exact hb
 ·rcases Ju.mp hu with z | z
  ·exact S.mem u z
  ·rw[Jk.mp z];exact hl
def Nxt (ns:List Int)(cs l0 ms:List T)(j:Nat)(ma tu:Sl)(x:Rs Fl):Prop:=∃ms' P' K' le' to' he',Stt cs l0 ms' P' K'/\ms'.length=ms.length+1/\x= .ok (.nx (LE ns (RR cs l0) (SK P' []) (DK K') (.va (aS P')) (.va (.bl (aR (RR cs (l0++ms'))))) (.va (.int (j:Nat))) le' to' he' ma tu))
theorem BK (hn:ns.length<=63)(j:Nat)(hc:aT (.tup cs)=true)(S:Stt cs l0 ms P K)(h8:l0.length+ms.length<8)(le to he ma tu:Sl)(h0:GR (RR cs l0)) :
  B0 (LE ns (RR cs l0) (SK P []) (DK K) (.va (aS P)) (.va (.bl (aR (RR cs (l0++ms))))) (.va (.int (j:Nat))) le to he ma tu)= .ok (.rt (.bl true)) ∨
  Nxt ns cs l0 ms j ma tu (B0 (LE ns (RR cs l0) (SK P []) (DK K) (.va (aS P)) (.va (.bl (aR (RR cs (l0++ms))))) (.va (.int (j:Nat))) le to he ma tu)):=by
 obtain⟨l,el,hl⟩:=nC ns hn (80+8*j) cs hc
 have hS0:S0 (LE ns (RR cs l0) (SK P []) (DK K) (.va (aS P)) (.va (.bl (aR (RR cs (l0++ms))))) (.va (.int (j:Nat))) le to he ma tu)= .ok (.nx (LE ns (RR cs l0) (SK P []) (DK K) (.va (aS P)) (.va (.bl (aR (RR cs (l0++ms))))) (.va (.int (j:Nat))) (.va l) to he ma tu)):=by
  refine cG (br (ts:=[.scr ns,.int ((80+8*j:Nat):Int),.tup cs]) (au rfl (au (aJ (t:=.int 80) (u:=.int (8*(j:Int))) rfl (aJ rfl rfl (j6 (by omega) (by omega))) ?_) (au (oA (n:=0) (l:=[.tup cs,.tup l0]) rfl rfl rfl) rfl))) el) rfl
  show Rs.ok (T.int (80+8*(j:Int)))=_
  simp
 rcases hl with⟨rfl,hs⟩ | ⟨hl,hsm⟩
 ·refine .inl ?_
  have hms:ms= []:=by
   cases hm:ms with
   | nil=>rfl
   | cons u us=>exact absurd (Av (S.mem u (by rw[hm];exact .head _))) (by omega)
  refine(aD hS0).trans (ik ((gj (cF rfl)).trans (cV (aJ (qI S.all rfl S.lg) rfl ?_))))
  rw[S.one hms];exact h0.eq
 ·refine .inr ?_
  have hlp:l.pl=true:=uP _ hsm
  have hgl:Good cs (l0++ms++ [l]):=⟨S.g.c,λu hu=>by
   rcases Ju.mp hu with z | z
   ·exact S.g.l u z
   ·rw[Jk.mp z];exact hl,by rw[Jc,Jc];simp;omega,p0 S.g.parts.1 (xZ S.g.pls (by simp[T.pl,plS,hlp]))⟩
  have hx:bf [RR cs (l0++ms),l] = .ok (RR cs (l0++ms++ [l])):=by
   rw[p8 S.g.parts.1 S.g.pls (by have:=S.g.n;omega) hlp S.g.ok]
   unfold rM;rw[if_pos hgl.ok]
  rw[JE]at hx hgl
  have hG:GR (RR cs (l0++ms)):=⟨_,_,rfl,S.g⟩
  have hG':GR (RR cs (l0++(ms++ [l]))):=⟨_,_,rfl,hgl⟩
  have hmono:aR (RR cs (l0++(ms++ [l])))=true->aR (RR cs (l0++ms))=true:=BG hgl (λu hu=>by rw[<-JE];exact JN _ hu) S.g.n
  obtain⟨P',w,hP⟩:=S.lst
  have hPl:P.length<=20:=by rw[S.len];omega
  -- the sketch
  have hw:=zp (P:=P') (A:=[]) (w:=w) hG (by rw[<-hP];omega) hx hG'
  rw[<-hP]at hw
  let P2:=P++ [sp (.str "write") (RR cs (l0++(ms++ [l])))]
  let b:=aR (RR cs (l0++(ms++ [l])))
  let E3:OT->OT->T->Bool->T->En:=λo d la we he'=>LE ns (RR cs l0) o d (.va la) (.va (.bl we)) (.va (.int (j:Nat))) (.va l) (.va (.bl b)) (.va he') ma tu
  have a1:S1 (LE ns (RR cs l0) (SK P []) (DK K) (.va (aS P)) (.va (.bl (aR (RR cs (l0++ms))))) (.va (.int (j:Nat))) (.va l) to he ma tu)= .ok (.nx (LE ns (RR cs l0) (SK P []) (DK K) (.va (aS P)) (.va (.bl (aR (RR cs (l0++ms))))) (.va (.int (j:Nat))) (.va l) to he ma tu)):=by
   obtain⟨a',b',x',y',rfl,_⟩:=cA hl;exact(eC (cF rfl)).trans rfl
  have a2:S2 (LE ns (RR cs l0) (SK P []) (DK K) (.va (aS P)) (.va (.bl (aR (RR cs (l0++ms))))) (.va (.int (j:Nat))) (.va l) to he ma tu)= .ok (.nx (LE ns (RR cs l0) (SK P2 []) (DK K) (.va (aS P)) (.va (.bl (aR (RR cs (l0++ms))))) (.va (.int (j:Nat))) (.va l) (.va (.bl b)) he ma tu)):=
   G5 (iP (c:="Sketch") (ns:=["past","ahead"]) (ls:=[P,[]]) (ts:=[l]) rfl (by decide) rfl hw) (by simp)
  have a3:S3 (LE ns (RR cs l0) (SK P2 []) (DK K) (.va (aS P)) (.va (.bl (aR (RR cs (l0++ms))))) (.va (.int (j:Nat))) (.va l) (.va (.bl b)) he ma tu)= .ok (.nx (E3 (SK P2 []) (DK K) (aS P) (aR (RR cs (l0++ms))) (RR cs (l0++(ms++ [l]))))):=
   cG (o4 (P:=P) (A:=[]) rfl hG') rfl
  obtain⟨tb_,eb,hb⟩:=hG'.bar
  have a4:S4 (E3 (SK P2 []) (DK K) (aS P) (aR (RR cs (l0++ms))) (RR cs (l0++(ms++ [l]))))= .ok (.nx (E3 (SK P2 []) (DK K) (aS P) (aR (RR cs (l0++ms))) (RR cs (l0++(ms++ [l]))))):=
   (eC (yR (cF (aJ rfl (br (ts:=[RR cs (l0++(ms++ [l]))]) rfl hG'.has) (oX _))) (cF (aJ (u:=.bl b) rfl (aJ (t:=tb_) (u:=.non) (br (ts:=[RR cs (l0++(ms++ [l]))]) rfl eb) rfl (by show Rs.ok (T.bl tb_.isN)=_;rw[hb])) (oX _))))).trans rfl
  have a5:S5 (E3 (SK P2 []) (DK K) (aS P) (aR (RR cs (l0++ms))) (RR cs (l0++(ms++ [l]))))= .ok (.nx (E3 (SK P2 []) (DK K) (aS P) (aR (RR cs (l0++ms))) (RR cs (l0++(ms++ [l]))))):=by
   refine(eC (b:=tb (o2 lR (o2 aY (o2 aY (vr 9) (cn (.int 1))) (o1 kI (cn (.int 1)))) (vr 7))) (cF (aJ (t:=l) (u:=l) (aJ (t:=.tup (l0++(ms++ [l]))) (u:=.int (-1)) (oA (n:=1) (l:=[.tup cs,.tup (l0++(ms++ [l]))]) rfl rfl rfl) (Bz rfl rfl) ?_) rfl (qy hlp (by have:=m9 hl;omega))))).trans rfl
   rw[<-JE];exact qJ _ _
  have a6:S6 (E3 (SK P2 []) (DK K) (aS P) (aR (RR cs (l0++ms))) (RR cs (l0++(ms++ [l]))))= .ok (.nx (E3 (SK P2 []) (DK K) (aS P) (aR (RR cs (l0++ms))) (RR cs (l0++(ms++ [l]))))):=by
   refine(eC ?_).trans rfl
   cases hc1:aR (RR cs (l0++ms))with
   | true=>exact ES (gQ (k:=true) (cF (by show Rs.ok _=_;rfl)))
   | false=>
    refine ER (gQ (k:=false) (cF rfl)) (cF ?_)
    show Rs.ok (T.bl b)=_
    cases hb2:aR (RR cs (l0++(ms++ [l])))with
    | false=>show Rs.ok (T.bl (aR (RR cs (l0++(ms++ [l])))))=_;rw[hb2]
    | true=>exact absurd (hmono hb2) (by rw[hc1];simp)
  have elast:aS P2=if b then RR cs (l0++(ms++ [l]))else aS P:=gz P _
  have a7:S7 (E3 (SK P2 []) (DK K) (aS P) (aR (RR cs (l0++ms))) (RR cs (l0++(ms++ [l]))))= .ok (.nx (E3 (SK P2 []) (DK K) (aS P2) (aR (RR cs (l0++ms))) (RR cs (l0++(ms++ [l]))))):=by
   refine cG (t:=aS P2) ((CH (p:=b) (cF rfl)).trans ?_) rfl
   rw[elast];cases b <;> rfl
  have fin:∀K',K'.length<=K.length+1->(aR (RR cs (l0++(ms++ [l])))=true->∃K2,K'=K2++ [RR cs (l0++(ms++ [l]))]) →
    S9 (E3 (SK P2 []) (DK K) (aS P2) (aR (RR cs (l0++ms))) (RR cs (l0++(ms++ [l]))))= .ok (.nx (E3 (SK P2 []) (DK K') (aS P2) (aR (RR cs (l0++ms))) (RR cs (l0++(ms++ [l])))))->Nxt ns cs l0 ms j ma tu (B0 (LE ns (RR cs l0) (SK P []) (DK K) (.va (aS P)) (.va (.bl (aR (RR cs (l0++ms))))) (.va (.int (j:Nat))) le to he ma tu)):=λK' hk hd a9=>by
   have S':=S.snoc (K':=K') hl hgl hk hd
   have a8:S8 (E3 (SK P2 []) (DK K) (aS P2) (aR (RR cs (l0++ms))) (RR cs (l0++(ms++ [l]))))= .ok (.nx (E3 (SK P2 []) (DK K) (aS P2) (aR (RR cs (l0++ms))) (RR cs (l0++(ms++ [l]))))):=
    (eC (yR (cF (aJ (qI S'.all rfl S'.lg) rfl S'.lg.ne)) (gQ (k:=true) (cF (br (ts:=[aS P2]) (au (qI S'.all rfl S'.lg) rfl) (by rw[S'.lg.has,S'.lw])))))).trans rfl
   exact⟨ms++ [l],P2,K',.va l,.va (.bl b),.va (RR cs (l0++(ms++ [l]))),S',by simp,(aD hS0).trans ((aD a1).trans ((aD a2).trans ((aD a3).trans ((aD a4).trans ((aD a5).trans ((aD a6).trans ((aD a7).trans ((aD a8).trans ((aD a9).trans (cG (t:=.bl b) rfl rfl))))))))))⟩
  cases hc1:aR (RR cs (l0++ms))with
  | false=>
   have hb2:aR (RR cs (l0++(ms++ [l])))=false:=by
    cases hb2:aR (RR cs (l0++(ms++ [l])))
    ·rfl
    ·exact absurd (hmono hb2) (by rw[hc1];simp)
   rw[<-hc1];refine fin K (by omega) (λz=>by rw[hb2]at z;cases z) ?_
   rw[hc1]
   exact(eC (cF rfl)).trans rfl
  | true=>
   obtain⟨K2,rfl⟩:=S.desk hc1;rw[<-hc1]
   cases hb2:aR (RR cs (l0++(ms++ [l])))with
   | true=>
    refine fin (K2++ [RR cs (l0++ms)] ++ [RR cs (l0++(ms++ [l]))]) (by simp) (λ_=>⟨_,rfl⟩) ?_
    have htk:=zq (K:=K2) hG hx hG' hb2 (by have:=S.kn;omega)
    rw[hc1]
    refine(gj (cF rfl)).trans ((CI (b:=false) (vk (CC (CD (u:=.bl true) (yM (o:=DK (K2++ [RR cs (l0++ms)])) (ts:=[l]) rfl rfl htk) (by show Rs.ok (T.bl b)=_;show Rs.ok (T.bl (aR (RR cs (l0++(ms++ [l])))))=_;rw[hb2]) (oX true))) (CB (cF (aJ (t:=.bl true) (u:=.bl true) (aJ (nu (K:=K2++ [RR cs (l0++ms)]) rfl hG') rfl hG'.eq) (by show Rs.ok (T.bl (aR (RR cs (l0++(ms++ [l])))))=_;rw[hb2]) (oX true)))))).trans rfl)
   | false=>
    refine fin (K2++ [RR cs (l0++ms)]) (by omega) (λz=>by rw[hb2]at z;cases z) ?_
    have htk:=zr (K:=K2) hG hx hG' hb2
    have hneq:lX (RR cs (l0++ms)) (RR cs (l0++(ms++ [l])))= .ok (.bl false):=by
     unfold lX;rw[if_pos (gn (by have:=hG.dep;omega) (T.HY _ hG.pl) (T.HY _ hG'.pl))]
     have:aV (RR cs (l0++ms)) (RR cs (l0++(ms++ [l])))=false:=by
      cases hq:aV (RR cs (l0++ms)) (RR cs (l0++(ms++ [l])))
      ·rfl
      ·have z:(aV (.tup cs) (.tup cs)&&(aV (.tup (l0++ms)) (.tup (l0++(ms++ [l])))&&true))=true:=hq
       rw[Oc,IV]at z
       have:=gp (show beqTs (l0++ms) (l0++(ms++ [l]))=true from z.2)
       simp at this
     rw[this]
    rw[hc1];refine(gj (cF rfl)).trans ((CI (b:=false) (vk (CC (CD (u:=.bl false) (yM (o:=DK (K2++ [RR cs (l0++ms)])) (ts:=[l]) rfl rfl htk) (by show Rs.ok (T.bl (aR (RR cs (l0++(ms++ [l])))))=_;rw[hb2]) (oX false))) (CB (cF (aJ (t:=.bl false) (u:=.bl false) (aJ (nu (K:=K2) rfl hG) rfl hneq) (by show Rs.ok (T.bl (aR (RR cs (l0++(ms++ [l])))))=_;rw[hb2]) (oX false)))))).trans rfl)
end
end G
set_option maxHeartbeats 4000000
namespace G
open PySem Tr
section
variable {cs l0 ms P K:List T}{ns:List Int}
theorem vC (hn:ns.length<=63)(hc:aT (.tup cs)=true)(ma tu:Sl)(h0:GR (RR cs l0)):∀(js:List Nat) {ms P K:List T} (k le to he:Sl),Stt cs l0 ms P K->l0.length+ms.length+js.length<=8 →
  bp (gN 6) B0 (js.map λ(j:Nat)=>T.int j) (LE ns (RR cs l0) (SK P []) (DK K) (.va (aS P)) (.va (.bl (aR (RR cs (l0++ms))))) k le to he ma tu)= .ok (.rt (.bl true)) ∨
  ∃ms' P' K' k' le' to' he',Stt cs l0 ms' P' K'/\ms'.length=ms.length+js.length/\bp (gN 6) B0 (js.map λ(j:Nat)=>T.int j) (LE ns (RR cs l0) (SK P []) (DK K) (.va (aS P)) (.va (.bl (aR (RR cs (l0++ms))))) k le to he ma tu)
   = .ok (.nx (LE ns (RR cs l0) (SK P' []) (DK K') (.va (aS P')) (.va (.bl (aR (RR cs (l0++ms'))))) k' le' to' he' ma tu))
 | [],ms,P,K,k,le,to,he,S,_=> .inr ⟨ms,P,K,k,le,to,he,S,by simp,rfl⟩
 | j::js,ms,P,K,k,le,to,he,S,hl=>by
  rw[Jb]at hl;rcases BK hn j hc S (by omega) le to he ma tu h0 with e | ⟨ms1,P1,K1,le1,to1,he1,S1,l1,e1⟩
  ·exact .inl (by rw[IZ];exact qH (Z1:=LE ns (RR cs l0) (SK P []) (DK K) (.va (aS P)) (.va (.bl (aR (RR cs (l0++ms))))) (.va (.int (j:Nat))) le to he ma tu) rfl e)
  ·rw[IZ,fA (Z1:=LE ns (RR cs l0) (SK P []) (DK K) (.va (aS P)) (.va (.bl (aR (RR cs (l0++ms))))) (.va (.int (j:Nat))) le to he ma tu) rfl e1]
   rcases vC hn hc ma tu h0 js (.va (.int (j:Nat))) le1 to1 he1 S1 (by omega)with e | ⟨ms2,P2,K2,k2,le2,to2,he2,S2,l2,e2⟩
   ·exact .inl e
   ·exact .inr ⟨ms2,P2,K2,k2,le2,to2,he2,S2,by rw[l2,l1,Jb];omega,e2⟩
structure HQ (cs l0 ms P:List T):Prop where
 g:Good cs (l0++ms)
 lst:∃P' w,P=P'++ [sp w (RR cs (l0++ms))]
 all:∀s∈P,∃w r,s=sp w r/\GR r
 n:P.length<=100
theorem yh (l:List T)(u:T):tU (l++ [u]) l.length=l:=by
 unfold tU;rw[List.take_left,List.drop_of_length_le (by simp),JA]
abbrev C8:En->Rs Fl:=(rJ (ee 2 "Sketch" "cut" c8 (ae (o2 fF (cl cv (ae (o2 aY (ln 2 (iJ "Sketch" "record" aC (vr 2) aj)) (cn (.int 1))) aj)) (cn (.int 1))) aj)))
theorem zL {l:T}(S:HQ cs l0 (ms++ [l]) P)(hP:P.length<100)(d:OT)(la we k le to he ma tu:Sl):HQ cs l0 ms (P++ [sp (.str "cut") (RR cs (l0++ms))]) ∧
  C8 (LE ns (RR cs l0) (SK P []) d la we k le to he ma tu)= .ok (.nx (LE ns (RR cs l0) (SK (P++ [sp (.str "cut") (RR cs (l0++ms))]) []) d la we k le to he ma tu)):=by
 have g':Good cs (l0++ms):=S.g.sub (λu hu=>by rw[<-JE];exact JN _ hu) (by have:=S.g.n;simp at this ⊢;omega)
 have hG:GR (RR cs (l0++(ms++ [l]))):=⟨_,_,rfl,S.g⟩
 have hG':GR (RR cs (l0++ms)):=⟨_,_,rfl,g'⟩;obtain⟨P',w,hP'⟩:=S.lst
 have hx:bD [RR cs (l0++(ms++ [l])),.int ((l0++ms).length:Nat)] = .ok (RR cs (l0++ms)):=by
  have:=wg (n:=(l0++ms).length) S.g (by simp)
  rw[<-JE,yh]at this;rw[<-JE];exact this
 obtain⟨b,hb⟩:=Hq (P:=P') (A:=[]) (w:=w) hG (by rw[<-hP'];omega) hx hG'
 rw[<-hP']at hb;refine⟨⟨g',⟨P,_,rfl⟩,λs hs=> ?_,by rw[Jc];simp;omega⟩,?_⟩
 ·rcases Ju.mp hs with z | z
  ·exact S.all s z
  ·rw[Jk.mp z];exact⟨_,_,rfl,hG'⟩
 ·refine G2 (iP (c:="Sketch") (ns:=["past","ahead"]) (ls:=[P,[]]) (ts:=[.int ((l0++ms).length:Nat)]) rfl (by decide) (au (aJ (t:=.int ((l0++(ms++ [l])).length:Nat)) (u:=.int 1) (br (ts:=[.tup (l0++(ms++ [l]))]) (au (oA (n:=1) (l:=[.tup cs,.tup (l0++(ms++ [l]))]) (o4 (P:=P') (A:=[]) (w:=w) (by rw[<-hP'];rfl) hG) rfl rfl) rfl) rfl) rfl ?_) rfl) hb)
  show Rs.ok (T.int (((l0++(ms++ [l])).length:Int) - 1))=_
  rw[show((l0++(ms++ [l])).length:Int) - 1=((l0++ms).length:Nat)by simp;omega]
theorem sU (d:OT)(la we k le to he ma:Sl):∀(n:Nat) {ts ms P:List T} (tu:Sl),ts.length=n->ms.length=n->HQ cs l0 ms P->P.length+n<=100->∃P' tu',HQ cs l0 [] P'/\P'.length=P.length+n/\(n≠0->∃P0 w,P'=P0++ [sp w (RR cs (l0++ []))])/\(n=0->P'=P) ∧
  bp (gN 11) C8 ts (LE ns (RR cs l0) (SK P []) d la we k le to he ma tu)= .ok (.nx (LE ns (RR cs l0) (SK P' []) d la we k le to he ma tu'))
 | 0,ts,ms,P,tu,ht,hm,S,_=>by
  cases MZ.mp ht;cases MZ.mp hm
  exact⟨P,tu,S,rfl,λz=>absurd rfl z,λ_=>rfl,rfl⟩
 | n+1,ts,ms,P,tu,ht,hm,S,hP=>by
  obtain⟨ms',l,rfl⟩:∃ms' l,ms=ms'++ [l]:=⟨ms.dropLast,ms.getLast (by intro z;rw[z]at hm;simp at hm),(List.dropLast_concat_getLast _).symm⟩
  cases ts with
  | nil=>simp at ht
  | cons t ts=>
   obtain⟨S1,e1⟩:=zL (ns:=ns) S (by omega) d la we k le to he ma (.va t)
   obtain⟨P2,tu2,S2,l2,q1,q2,e2⟩:=sU d la we k le to he ma n (ts:=ts) (.va t) (by simpa using ht) (by simpa using hm) S1 (by rw[Jc];simp;omega)
   refine⟨P2,tu2,S2,by rw[l2,Jc];simp;omega,λ_=>S2.lst,λz=>by omega,?_⟩
   rw[fA (Z1:=LE ns (RR cs l0) (SK P []) d la we k le to he ma (.va t)) rfl e1];exact e2
abbrev T7:En->Rs Fl:=aA (cJ (o2 fF (cl cv (ae (o2 aY (ln 2 (iJ "Sketch" "record" aC (vr 2) aj)) (cn (.int 1))) aj)) (cl cv (ae (o2 aY (vr 1) (cn (.int 1))) aj))) (gN 10)) (aA (gU (iR (ae (vr 10) aj)) (gN 11) (rJ (ee 2 "Sketch" "cut" c8 (ae (o2 fF (cl cv (ae (o2 aY (ln 2 (iJ "Sketch" "record" aC (vr 2) aj)) (cn (.int 1))) aj)) (cn (.int 1))) aj)))) (aI (bZ (o2 lX (ln 2 (iJ "Sketch" "record" aC (vr 2) aj)) (vr 1)) (bZ (o2 lX (ln 2 (iJ "Sketch" "good" bh (vr 2) aj)) (vr 1)) (o2 lX (ln 2 (iJ "Sketch" "counts" b7 (vr 2) aj)) (bA (ae (o2 bY (cn (.int 2)) (vr 10)) (ae (cn (.int 0)) aj))))))))
theorem t7 (S:Stt cs l0 ms P K)(h0:GR (RR cs l0))(hw0:aR (RR cs l0)=true)(hml:ms.length<=20)(we k le to he ma tu:Sl) :
  T7 (LE ns (RR cs l0) (SK P []) (DK K) (.va (aS P)) we k le to he ma tu)= .ok (.rt (.bl true)):=by
 have hG:GR (RR cs (l0++ms)):=⟨_,_,rfl,S.g⟩
 have hlen:=S.len;obtain⟨P',w,hP'⟩:=S.lst;unfold T7;rw[aD (Z':=LE ns (RR cs l0) (SK P []) (DK K) (.va (aS P)) we k le to he (.va (.int (ms.length:Nat))) tu) (cG (t:=.int (ms.length:Nat)) (aJ (t:=.int ((l0++ms).length:Nat)) (u:=.int (l0.length:Nat)) (br (ts:=[.tup (l0++ms)]) (au (oA (n:=1) (l:=[.tup cs,.tup (l0++ms)]) (o4 (P:=P') (A:=[]) (w:=w) (by rw[<-hP'];rfl) hG) rfl rfl) rfl) rfl) (br (ts:=[.tup l0]) (au (oA (n:=1) (l:=[.tup cs,.tup l0]) rfl rfl rfl) rfl) rfl) (by show Rs.ok (T.int (((l0++ms).length:Int) - (l0.length:Int)))=_;rw[show((l0++ms).length:Int) - (l0.length:Int)=(ms.length:Nat)by simp;omega])) rfl)]
 obtain⟨P2,tu2,S2,l2,q1,q2,e2⟩:=sU (cs:=cs) (l0:=l0) (ns:=ns) (DK K) (.va (aS P)) we k le to he (.va (.int (ms.length:Nat))) ms.length (ts:=rng 0 (ms.length:Nat)) (ms:=ms) (P:=P) tu (iG _) rfl ⟨S.g,S.lst,S.all,by omega⟩ (by omega)
 rw[aD (gk (CL (j:=(ms.length:Nat)) rfl (by omega) (by omega)) e2)]
 have hrec:∃P0 w,P2=P0++ [sp w (RR cs l0)]:=by
  have:=S2.lst;rw[JA]at this;exact this
 obtain⟨P0,w0,hP0⟩:=hrec
 have hlast:aS P2=RR cs l0:=by
  rw[hP0,gz,show rc (sp w0 (RR cs l0))=RR cs l0 from rfl,if_pos hw0]
 have hg:GR (aS P2):=by rw[hlast];exact h0
 refine cV ((y0 (aJ (o4 (P:=P0) (A:=[]) (w:=w0) (by rw[<-hP0];rfl) h0) rfl h0.eq)).trans ((y0 (aJ (qI S2.all rfl hg) rfl (by rw[hlast];exact h0.eq))).trans (aJ (G4 rfl) (cx (au (t:=.int (2*(ms.length:Int))) (aJ rfl rfl (j6 (by omega) (by omega))) rfl) (aF (k:=2) (by simp))) ?_)))
 rw[show((P2.length:Int) - 1)=2*(ms.length:Int)by rw[l2,hlen];omega]
 exact vE rfl (by simp[T.dep,deps])
end
theorem pure_law (ns:List Int)(hn:ns.length<=63):m_law [.scr ns] = .ok (.bl true):=by
 refine cf rfl ?_
 show zY [.va (.scr ns),.em,.em,.em,.em,.em,.em,.em,.em,.em,.em,.em] =_
 unfold zY;obtain⟨cs,ls,e0,hc,_,hs,hl,h2⟩:=Fd ns hn 0 1 (by omega)
 obtain⟨hr,hsm⟩:=Dq hc hs hl (by omega)
 have hG0:GR (RR cs ls):=GR.of (uP _ hsm) hr;rw[aD (Z':=[.va (.scr ns),.va (RR cs ls),.em,.em,.em,.em,.em,.em,.em,.em,.em,.em]) (cG (br (ts:=[.scr ns,.int 0,.int 1]) rfl e0) rfl)]
 obtain⟨l0,e1,hG,hw0,hl0⟩:∃l0,(eO (cK (tb (cl aH (ae (vr 1) aj)))) (cJ (bA (ae (o2 aY (vr 1) (cn (.int 0))) (ae (bA aj) aj))) (gN 1)) sN) [.va (.scr ns),.va (RR cs ls),.em,.em,.em,.em,.em,.em,.em,.em,.em,.em] = .ok (.nx [.va (.scr ns),.va (RR cs l0),.em,.em,.em,.em,.em,.em,.em,.em,.em,.em])/\GR (RR cs l0)/\aR (RR cs l0)=true/\l0.length<=1:=by
  have g0:=uQ hr (uP _ hsm)
  cases hb:aR (RR cs ls)with
  | true=>exact⟨ls,(eC (gQ (k:=true) (cF (br (ts:=[RR cs ls]) rfl (by rw[hG0.has,hb]))))).trans rfl,hG0,hb,h2⟩
  | false=>exact⟨[],(gj (gQ (k:=false) (cF (br (ts:=[RR cs ls]) rfl (by rw[hG0.has,hb]))))).trans (cG (cx (au (oA (n:=0) (l:=[.tup cs,.tup ls]) rfl rfl rfl) (au (cx rfl (aF (k:=1) (by simp))) rfl)) (aF (k:=2) (by simp))) rfl),⟨cs,[],rfl,g0.sub (λu hu=>by cases hu) (by simp)⟩,EX g0,by simp⟩
 rw[aD e1];rw[aD (Z':=[.va (.scr ns),.va (RR cs l0),.ow (SK [sp .non (RR cs l0)] []),.em,.em,.em,.em,.em,.em,.em,.em,.em]) (yU (ts:=[RR cs l0]) rfl (Fb hG) (by simp))]
 rw[aD (Z':=[.va (.scr ns),.va (RR cs l0),.ow (SK [sp .non (RR cs l0)] []),.ow (DK [RR cs l0]),.em,.em,.em,.em,.em,.em,.em,.em]) (yU (ts:=[RR cs l0]) rfl (BU hG hw0) (by simp))]
 have hlast:aS [sp .non (RR cs l0)] =RR cs l0:=by
  have:=gz [] (sp .non (RR cs l0));rw[LC,show rc (sp .non (RR cs l0))=RR cs l0 from rfl,if_pos hw0]at this
  exact this
 rw[aD (Z':=[.va (.scr ns),.va (RR cs l0),.ow (SK [sp .non (RR cs l0)] []),.ow (DK [RR cs l0]),.va (RR cs l0),.em,.em,.em,.em,.em,.em,.em]) (cG (t:=RR cs l0) rfl rfl)]
 have hgood:Good cs (l0++ []):=by
  rw[JA];obtain⟨cs',ls',e,g⟩:=hG;cases e;exact g
 have S0:Stt cs l0 [] [sp .non (RR cs l0)] [RR cs l0]:=⟨hgood,⟨[],.non,by rw[JA];rfl⟩,λs hs=>by rw[Jk.mp hs];exact⟨_,_,rfl,hG⟩,rfl,by rw[hlast];exact hG,by rw[hlast];exact hw0,λu hu=>(by cases hu),by simp,λ_=>⟨[],by rw[JA];rfl⟩,λ_=>hlast⟩
 have e5:cJ (cn (.bl true)) (gN 5) [.va (.scr ns),.va (RR cs l0),.ow (SK [sp .non (RR cs l0)] []),.ow (DK [RR cs l0]),.va (RR cs l0),.em,.em,.em,.em,.em,.em,.em] = .ok (.nx (LE ns (RR cs l0) (SK [sp .non (RR cs l0)] []) (DK [RR cs l0]) (.va (aS [sp .non (RR cs l0)])) (.va (.bl (aR (RR cs (l0++ []))))) .em .em .em .em .em .em)):=by
  rw[JA,hlast,hw0];exact cG (t:=.bl true) rfl rfl
 rw[aD e5];obtain⟨d,e,p,q⟩:=da ns 70 7 hn (by omega)
 obtain⟨d,rfl⟩:=JS p
 have hi:iR (ae (o2 aU (cn (.int 1)) (cl az (ae (vr 0) (ae (cn (.int 70)) (ae (cn (.int 7)) aj))))) aj) (LE ns (RR cs l0) (SK [sp .non (RR cs l0)] []) (DK [RR cs l0]) (.va (aS [sp .non (RR cs l0)])) (.va (.bl (aR (RR cs (l0++ []))))) .em .em .em .em .em .em)= .ok ((J1 (1+d)).map λ(j:Nat)=>T.int j):=by
  rw[<-lO];exact CL (j:=((1+d:Nat):Int)) (au (aJ (t:=.int 1) (u:=.int (d:Nat)) rfl (br (ts:=[.scr ns,.int 70,.int 7]) rfl e) rfl) rfl) (by omega) (by omega)
 rcases vC hn hc .em .em hG (J1 (1+d)) .em .em .em .em S0 (by simp;omega)with e2 | ⟨ms,P,K,k',le',to',he',S,l1,e2⟩
 ·exact ik (gk hi e2)
 ·rw[aD (gk hi e2)]
  exact t7 S hG hw0 (by rw[l1];simp;omega) _ _ _ _ _ _ _
end G
end
open PySem PySem.W PyProof.Rows
set_option maxRecDepth 100000 in
set_option maxHeartbeats 0 in
theorem PySem.Challenge.cw_farclocks_k84_whole_sketches_holds : PySem.Challenge.rw_farclocks_k84_whole_sketches.Holds := by
  w_on; o_law
  refine holds_open (q := G.vw) (loose := G.lse) (Xt := λ_ => true) (XP := λ_ _ => True) (Yf := (Tr.hookC G.asks G.top).obs) (Ya := (Tr.hookC G.asks G.top).val) (YP := (Tr.hookC G.asks G.top).says) (N := 9000) (Tr.left_of (by rfl) (by rfl) (λ_ => rfl) λw os => ?hl) (Tr.hookC G.asks G.top).of (Tr.hookC G.asks G.top).keeps (λ_ _ => trivial) (λ_ _ _ _ _ => trivial) (by rfl) (by rfl) (by rfl) (λs _ => recFacts_of (s := s) rfl) (by rfl) (by assumption) (by decide +kernel) ⟨rfl, rfl, rfl, rfl, rfl, by decide +kernel⟩ ?hw ?hc
  case hl => exact G.IP w os
  case hw => w_witness2
  case hc => exact Tr.walk_c (n := 63) (k := 15) (x := "_law_script") (CX := L2.CX0) (sp := λK => Tr.spP K 1 G.m_law) rfl (by decide) rfl ⟨rfl, by decide, by decide⟩ (λw K mg fa h X e g hf => G.all_ok X e g hf) (λK H a ns hl _ hS => Tr.sp_script hS (G.pure_law ns hl)) λ_ _ _ _ z => z
