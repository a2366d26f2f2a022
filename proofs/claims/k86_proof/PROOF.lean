import PyProof.Rows.All
import Wide.All
import OpenK.AllK
import Wide.FinOn
import Lean
import PyProof.EqAt
import PyProof.EqKinds
import PyProof.TupleCall
import PyProof.ExcClass3
import PyProof.StationsW
import PyProof.ExcBaseAll.ValueError
import PyProof.ExcArgsOwn
import PyProof.IsiBase
import PyProof.IsiH_tuple
import PyProof.ExcAttrAll.ValueError
import PyProof.Rows.RuleN_isinstance
import PyProof.MeetsSeq
import PyProof.RulesAs
import PyProof.IsiH_list
import PyProof.AttrMiss
import KE.KDictOf
import PyProof.Rows.SumAny
import PyProof.Rows.MinMaxN
import PyProof.Rows.SortShellK
import PyProof.Rows.SortWalk
import PyProof.ZipIter
import PyProof.WalksMore
import PyProof.DictWalks
import PyProof.AutoSeq1
import PyProof.Rows.Range3
import PyProof.CollectWalk
import KE.KSortTup
import PyProof.EnumMake
import PyProof.ListRange
import KE.KRevIter
import PySem.Challenge.RW_farclocks_k86_whole_twins
noncomputable section
open PySem.Challenge renaming pw_farclocks_k86_whole_twins→Ku,rw_farclocks_k86_whole_twins→N1
open PySem.AutoListH renaming list___mul___list_int_3→Po
open PyProof.Rows renaming slot_tuple_getitem→K3,callWith_builtin1→Na,callWith_type1→Lb,subscriptTail_builtinR→Os,entry_tuple_getitem→Pj,args_tuple_getitem→PF,tupleItemsOf_→PH,subscriptTail→PJ,IntsAre→Nl,AllBare→Od,IsTup→Q6
open List renaming dropLast_concat_getLast→Mt,getElem?_append_right→Lo,nodup_iff_pairwise_ne→NF,getElem?_eq_some_iff→Ki,getElem?_append_left→KL,drop_eq_getElem_cons→L0,getElem?_eq_getElem→Kq,getElem?_replicate→K8,getElem?_cons_succ→Ln,length_eq_zero_iff→Oc,getElem?_set_self→KB,drop_eq_nil_of_le→MZ,mem_append_right→Kr,length_singleton→LC,getElem?_eq_none→Nf,set_getElem_self→Ng,dropLast_eq_take→OH,contains_iff_mem→OI,take_append_drop→OJ,mem_cons_of_mem→J6,getElem?_set_ne→Kv,mem_append_left→KD,mem_of_getElem?→L5,mem_erase_of_ne→O4,mem_of_mem_take→O5,mem_of_mem_drop→O6,filterMap_cons→Ls,replicate_succ→Lw,getElem_of_mem→Mh,map_congr_left→Mj,drop_succ_cons→Ph,mem_cons_self→Ke,length_append→Kh,mem_singleton→Km,contains_cons→MP,mem_filterMap→NJ,size_toArray→Ko,getElem?_map→Kz,nodup_append→K5,append_assoc→Ld,flatten_cons→L8,length_range→L9,flatMap_cons→NX,length_cons→Kd,all_eq_true→KF,lookup_cons→KZ,length_take→Lh,not_mem_nil→Li,getElem_mem→LH,length_drop→Mp,drop_length→Oi,getElem_map→Ol,cons_append→Om,mem_flatMap→Qu,mem_reverse→Qv,getLast_mem→Qw,length_map→Kc,mem_append→Ky,nodup_cons→KJ,append_nil→KO,length_set→Lm,map_append→LD,find?_cons→Ma,of_mem_zip→MM,nil_append→Nu,length_nil→OD,range_succ→OK,mem_filter→QH,forIn_cons→QR,length_zip→QY,idxOf_cons→QZ,replicate→Kx,mem_range→LB,nodup_nil→M6,map_cons→Ka,mem_cons→Kf,sum_cons→LJ,any_cons→Mi,all_cons→N8,mem_map→K7,map_nil→Oy,toArray→Qd,map_map→Qe,set_set→Qi,lookup→Lu,length→LQ,range→K9,Nodup→Lx,foldl→NV
open PySem.F renaming args_tuple_iterator_next_1→Nn,entry_tuple_iterator_next→Nx,slot_tuple_iterator_next→LS,excBase_ValueError→NC,slot_list_getattribute→Mc,args_tuple_add_2→MG,slot_list_append→NS,type_list_append→NT,plainAttrs_list→LI,entry_tuple_add→MK,args_dict_get_2→N3,slot_tuple_add→MW,entry_dict_get→Oo,slot_dict_get→Nb,slot_enumerate_next→OB,args_int_rmul_2→PN,slot_tuple_rmul→PR,slot_tuple_mul→Oj,slot_int_index→Qq,entry_int_rmul→Qr,slot_int_rmul→Nv,fills_int_mul→QQ
open PySem.Builtin.Slice renaming slicePartIndex→Qz,sliceApplied→Nz,slicePlaces→LX,sliceAdjust→MC
open Array renaming getElem?_eq_some_iff→Lp,length_toList→LN,find?_toList→Pn,toList→Ox
open PySem renaming wpAny_newFunctionEnv_cells→MA,wpAny_binaryOp_repeat_ref→NP,wpAny_callSpecial?_slot→LK,wpAny_pyNext_list_item→Oq,wpAny_Call_method_late→Ot,codeAny_call_function→Nh,wpAny_isTrue_Compare1→Ni,wpAny_pyNext_list_end→OQ,builtinLookup_eq_fast→OU,wpAny_pyIter_revIter→O7,mem_of_lookup→LR,wpAny_isSubtype_exc→Pl,wpAny_Call_Name_kw→Lf,wpAny_pyIter_tuple→MT,tupleKind_room_in1→MV,wpAny_List_spliced→PB,foldedSetIterable→K6,wpAny_truthy_bool→Le,wpAny_newObj_type→Lz,wpAny_pyIter_list→N0,wpAny_assign_Name→PV,wpAny_sequenceKey→PX,wpAny_pyIter_enum→P4,wpAny_loadPart_at→P6,wpAny_call_entry→ME,noFill_tuple_add→On,seqSlot_of→Qs,wpAny_execs_cons→Qx,wpAny_loadPart'→Mf,wpAny_execs_nil→MR,letOwnedTupleGo→MS,importedModules→OP,pushCells_keeps→OS,wpAny_passesOwn→Q0,typeLookup_type→Q3,codeAny_builtin→Q4,wpAny_seqItems→O9,wpAny_setField→Pa,attributeBase→KH,behindInMarks→Mo,wpAny_holding→Of,swapsWithSole→Py,swappedStores→Pz,seq_tuple_add→PC,bootBuiltins→KQ,codeAny_mono→MJ,wpAny_typeOf→NM,Within→P8,codeAny_func→Qk,concat_meets→Ql,mainGlobals→KN,wpAny_field→L3,keywordEach→L4,excClassObj→MF,sliceBounds→M4,sizeLine_eq→Ny,subscripted→Pk,wpAny_bind→Kb,wpAny_pure→Kp,assignEach→Ly,wpAny_mono→LV,sysModules→Mz,call_meets→M5,builtinsNs→NY,wpAny_call→OW,typeIs_int→OY,typeLookup→PY,wpAny_rule→PZ,swapsWith→KM,compareOp→K2,cellsFrom→Me,getMethod→MU,tupleKind→NZ,Arguments→ON,pushCells→OR,treeTable→Px,noteFrame→Q2,starEach→Kn,FuncData→KY,binaryOp→LG,boot_len→LL,NameKind→My,backToKw→M8,callWith→Og,bindArgs→QB,Program→KA,OsState→NO,BindsTo→Oe,Keyword→Q1,Shared→J9,Around→KP,IsPart→PD,Result→Qj,Paired→Q5,Value→J7,World→K1,Scope→Nk,CmpOp→Qy
open PySem.Builtin.Tuple renaming tupleItemsOf→NA,tupleIsExact→NB,tupleExact→LF
open PySem.Calls renaming Name_function_global→ND,callWith_builtin→Mr,evalArgs_plain→MB,spliced_cons→ML,Constant_str→Pm,spliced_nil→M0
open PySem.Builtin.SmallTypes renaming nextOf→LY
open PySem.Builtin.List renaming listTooLong→L6
open Int renaming eq_ofNat_of_zero_le→KC,emod_lt_of_pos→NL,toNat_natCast→Lv,emod_nonneg→OM,le_refl→Pe
open PySem.Builtin.Dict renaming updateFrom→N4
open PySem.Heap renaming get?_push_of_some→Kg,get?_update_other→MX,get?_update_self→Oz,get?_push_size→Kw,NewAttrErr→QV,size_push→LZ,lt_size→Kl,SameBut→Nc
open PySem.W renaming cellsFrom_some→Mq,methodCall_KW→Mu,hideAll_none→Nm,hideAll_get→Mg,plainGet_of→Nr,callWith_K0→Nt,callWith_K→Ms,of_hideAll→NG,codeRec_of→NH,emptyDict→Lj,methodObj→NQ,hasDictIn→NR,plainOver→PK,kitx_list→PL,kitx_dict→PM,plainGet→Nj,openSeen→Qm,openGood→Qn,handedIn→Qo,kia_one→Lg,instObj→LM,topFrom→Nq,hideAll→Ou,takerIn→Ov,makesIn→QC,findIn→LA,keepIn→LW,lookIn→NN,codeIn→O8,mg_of→N6,Frag→J5,nsIn→MH,fnOf→M9,isFn→P7
open Option renaming map_eq_some_iff→MY,isSome_some→Pp,getD_none→Qp,some→K4
open PySem.Obj renaming isFreed_of_fields→OA,data_mapFields→MO,mapFields→Pr
open Bool renaming and_eq_false_iff→OL,and_eq_true_iff→La,or_eq_false_iff→O0,false_ne_true→Kt,not_eq_true'→PU,and_eq_true→J8,or_eq_true→QU,true_and→Ob,false_or→Pq,and_true→Pw
open PySem.Around renaming under_plainId→OZ,units→NK,under→P9
open PySem.Heap.SameBut renaming update→Pb
open Nat renaming lt_of_lt_of_le→Ks,lt_of_le_of_lt→Pv,le_of_succ_le→NW,lt_succ_of_lt→PP,lt_succ_self→Oh,mod_eq_of_lt→Qt,lt_irrefl→KI,le_trans→KW,ne_of_lt→Lk,le_of_lt→MI,le_of_eq→Nd,ne_of_gt→NI,sub_self→OF,sub_zero→OG,add_comm→Qb,mul_comm→Qc,le_refl→Kj,zero_le→LP
open Option.some renaming injEq→NU,inj→KS
open ForInStep renaming yield→Mw
open PySem.Expr renaming Attribute→MD,Subscript→M7,Constant→N9,ListComp→Pu,Compare→Qg,UnaryOp→Qh,BoolOp→L1,Name→K0,Call→Md
open PySem.NameKind renaming free→KU,cell→Ll
open Prod.mk renaming injEq→N5,inj→QD
open PySem.Paired renaming length→N7
open PySem.Str renaming ofString→Kk
open PySem.Code renaming isFrame→Qa
open PySem.Stmt renaming Assign→Oa
open PySem.Scope renaming names→Pf
open PySem.Pos renaming endLine→Pg,line→MQ
open PySem.Value renaming float→QF,none→KR,bool→Lc,type→Np,ref→KG,int→Lq,str→Lr
open PySem.Data renaming fields→QK
open False renaming elim→LU
open True renaming intro→L7
open PySem.BoolOp renaming And→OV,Or→Pt
open PySem.Env renaming scope→Mx
open PyProof.Rows.IsTup renaming new→QP
open Ne renaming symm→Mv
open Iff renaming rfl→MN
open Sum renaming inl→Pc,inr→Pd
open Prod renaming mk→PQ
set_option Elab.async false
set_option linter.all false
set_option maxRecDepth 100000
set_option maxHeartbeats 8000000
noncomputable section
abbrev nDb (x:PySem.Str):Prop:=(x == PySem.Str.ofString "__debug__")=false
theorem aqa (h:True:=by first | exact .inl rfl | exact .inr rfl | assumption):True:=trivial
theorem aqb (h:True:=by decide):True:=trivial
theorem aqc (h:True:=by intro _;rfl):True:=trivial
theorem aqd (h:True:=by rfl):True:=trivial
theorem aqe (h:True:=by first | exact Or.inl rfl | exact Or.inr (Or.inl rfl) | exact Or.inr (Or.inr rfl)):True:=trivial
theorem aqf (h:True:=by with_unfolding_all rfl):True:=trivial
theorem aqg (h:True:=by intro _ _;rfl):True:=trivial
theorem aqh (h:True:=by first | exact Or.inl rfl | exact Or.inr rfl):True:=trivial
theorem aqi (h:True:=by decide+kernel):True:=trivial
namespace L2
open PySem PySem.Spec PyProof.Rows
inductive V where
 | non | bl (b:Bool) | int (i:Int) | str (x:Str) | byt (b:Array UInt8) | flt (b:UInt64) | ref (a:Addr) | ty (n:String)
 deriving DecidableEq
def bY (s:Stmt)(j:Nat):Stmt:=match s with
 | .ClassDef _ _ _ body _ _ _ _ _ _ _=>body.getD j (.Pass ⟨0,0,0,0⟩)
 | _=> .Pass ⟨0,0,0,0⟩
def fh (s:Stmt):ON:=match s with
 | .FunctionDef _ a _ _ _ _ _ _ _ _=>a
 | _=> { posonlyargs:=[],args:=[],vararg:=none,kwonlyargs:=[],kw_defaults:=[],kwarg:=none,defaults:=[] }
def bu (s:Stmt):List Stmt:=match s with
 | .FunctionDef _ _ b _ _ _ _ _ _ _=>b
 | _=> []
def ai (s:Stmt):Nk:=match s with
 | .FunctionDef _ _ _ _ _ _ sc _ _ _=>sc
 | _=> { kind:=.function,names:=[],isGenerator:=false,isCoroutine:=false }
end L2
namespace Tr
open PySem PySem.Spec PyProof.Rows L2
inductive T where
 | non | bl (b:Bool) | int (i:Int) | str (x:Str) | tup (l:List T) | lst (l:List T)
 /-- the law's script: a list of ints that is only read -/
 | scr (l:List Int)
 /-- a dict: its keys,its values -/
 | dct (ks vs:List T)
 /-- an instance: its class,the names of its attributes,what they are -/
 | ob (C:Str) (ns:List Str) (ts:List T)
inductive OT where
 | lst (l:List T) | dct (ks ts:List T) | dd (ks:List T) (rows:List (List T×List T))
 /-- an instance,its attributes own lists -/
 | ob (C:Str) (ns:List Str) (ls:List (List T))
def OT.view:OT->T
 | .lst l=> .lst l
 | .dct ks ts=> .dct ks ts
 | .dd ks rows=> .dct ks (rows.map λr=> .dct r.1 r.2)
 | .ob C ns ls=> .ob C ns (ls.map T.lst)
def calmNames:List Str:=["__init__","__getattribute__","__getattr__","__class__"]
def yX:J7->Bool
 | .str _ _=>true
 | _=>false
end Tr
namespace Tr
def fF:List Int->List Int->Bool
 | [],[] =>false
 | [],_::_=>true
 | _::_,[] =>false
 | a::l,b::m=>if a=b then fF l m else decide (a<b)
end Tr
namespace Tr
open PySem PySem.Spec PyProof.Rows L2
structure RK where
 V:Heap->J7->List Int->Prop
 inj:∀{h v a b},V h v a->V h v b->a=b
 on:∀{h h':Heap} {v a},V h v a->(∀b o,h.get? b=some o->h'.get? b=some o)->V h' v a
 fst:∀{h v a},V h v a->∃ad xs n o m t,v= .ref ad/\h.get? ad=some o/\o.cls= .type "tuple"/\o.data= .seq xs n/\xs[0]? =some (.int m t)
 lt:∀{prog w A s E x y a b} {Q:Bool->J9->Prop},A.units+60<cLine->V s.heap x a->V s.heap y b->Q (fF a b) s->wpAny (model prog w) A (keyLt' (tuples' true) x y) Q E s
variable (R:RK)
open Classical in
def RK.key (h:Heap)(v:J7):Option (List Int):=if e:∃ns,R.V h v ns then some e.choose else none
variable {R:RK}
end Tr
namespace Tr
open PySem PySem.Spec PyProof.Rows L2 PySem.W
def tV (h:Heap):Frag:=(K9 h.objs.size).filterMap λa=>(h.get? a).map λo=>(a,o)
def obF (K:Frag)(n:Str):Option (Str×Str×ON×FuncBody×Nk×Addr×List (Str×Addr)×J7×Addr×Bool×Bool):=match nsIn K KN n with
 | some (some (.ref f))=>match K.lookup f with
  | some ⟨_,_,.func d,_⟩=>some (d.name,d.qualname,d.params,d.body,d.scope,d.globals,d.closure,d.defaults,d.builtins,codeIn K d.code n,keepIn K (.ref f))
  | _=>none
 | _=>none
def exF (n:Str)(st:Stmt):Option (Str×Str×ON×FuncBody×Nk×Addr×List (Str×Addr)×J7×Addr×Bool×Bool):=
 some (n,n,fh st,.stmts (bu st),ai st,KN,[],.none,NY,true,true)
def HF (K:Frag)(N:Addr)(n:Str):Bool:=match nsIn K N n with | some none=>true | _=>false
def Jc (K:Frag)(n:Str):Option Int:=match nsIn K KN n with | some (some (.int i _))=>some i | _=>none
def vW:List J7->Bool
 | [.type a,.type b,.type c,.type d] =>a == "ValueError" &&b == "Exception" &&c == "BaseException" &&d == "object"
 | _=>false
def under (D:Option Addr)(m:List J7):Bool:=match D with
 | none=>vW m
 | some D=>match m with
  | .ref E::m=>E == D&&vW m
  | _=>false
def CL (K:Frag)(D:Option Addr)(n:Str):Option Addr:=match nsIn K KN n with
 | some (some (.ref C))=>match K.lookup C with
  | some ⟨.type t,_,.cls c,⟨[_,_,_,_,some (.builtin b),_]⟩⟩=>match c.mro,K.lookup c.ns with
   | .ref E::m,some ⟨_,_,.dict es _,_⟩=>
    if (t == "type" &&b == "ValueError.__new__" && !c.hasDel&&(es.toList.all λe=>yX e.key)&&calmNames.all (HF K c.ns)&&E == C&&under D m)=true then some C else none
   | _,_=>none
  | _=>none
 | _=>none
def vF {α:Type}:List (Option α)->Option (List α)
 | [] =>some []
 | none::_=>none
 | some a::r=>match vF r with | some l=>some (a::l) | none=>none
def rh:List Addr->Bool
 | [] =>true
 | a::r=>(r.all λb=> !(a == b))&&rh r
def Ja (K:Frag):List Str->Bool
 | [] =>true
 | m::es=>match CL K none m with
  | some D=>match vF (es.map (CL K (some D)))with | some l=>rh (l++ [D]) | none=>false
  | none=>false
structure Bm where
 tab:List (Str×Nat)
 zs:List Str
 cs:List (Str×Int)
 es:List Str
def tj (S:Bm)(K:Frag):=(S.tab.map (λp=>obF K p.1),S.zs.all (HF K KN),S.cs.map (λc=>Jc K c.1),Ja K S.es)
def sy (S:Bm)(top:Nat->Stmt):=(S.tab.map (λp=>exF p.1 (top p.2)),true,S.cs.map (λc=>some c.2),true)
def HG (K:Frag)(C:Addr)(m q:Str):Option (Str×Str×ON×FuncBody×Nk×Addr×List (Str×Addr)×J7×Addr×Bool×Bool×Bool):=match findIn K (.ref C) m with
 | some (some (.ref f))=>match K.lookup f with
  | some ⟨_,_,.func d,_⟩=>some (d.name,d.qualname,d.params,d.body,d.scope,d.globals,d.closure,d.defaults,d.builtins,codeIn K d.code q,keepIn K (.ref f),isFn K (.ref f))
  | _=>none
 | _=>none
def II (m q:Str)(st:Stmt):Option (Str×Str×ON×FuncBody×Nk×Addr×List (Str×Addr)×J7×Addr×Bool×Bool×Bool):=
 some (m,q,fh st,.stmts (bu st),ai st,KN,[],.none,NY,true,true,true)
def FE (K:Frag)(C:Addr)(f:Str):Bool:=match findIn K (.ref C) f with | some none=>true | _=>false
def Er (K:Frag)(C:Addr):Bool:=match findIn K (.ref C) "__setattr__" with | some (some (.builtin b))=>b == "object.__setattr__" | _=>false
def DV (K:Frag)(C:Addr)(as:List Str):Bool:=plainGet K C Str.empty&&hasDictIn K C&&plainOver K C&&Er K C&&makesIn K C&&keepIn K (.ref C)&&as.all (FE K C)
structure Dy where
 c:Str
 i:Nat
 as:List Str
 ms:List (Str×Str×Nat)
def Jb (K:Frag)(A:Dy):=match nsIn K KN A.c with
 | some (some (.ref C))=>some (DV K C A.as,A.ms.map λ(m:Str×Str×Nat)=>HG K C m.1 m.2.1)
 | _=>none
def Jf (top:Nat->Stmt)(A:Dy):=some (true,A.ms.map λ(m:Str×Str×Nat)=>II m.1 m.2.1 (bY (top A.i) m.2.2))
structure ur where
 a:Bm
 ks:List Dy
def zG (S:ur)(K:Frag):=(tj S.a K,S.ks.map (Jb K))
def yU (S:ur)(top:Nat->Stmt):=(sy S.a top,S.ks.map (Jf top))
end Tr
namespace G
open PySem PySem.Spec PyProof.Rows L2 Tr
def top (i:Nat):Stmt:=Ku.main.body.getD i (.Pass ⟨0,0,0,0⟩)
def A8:Bm:=⟨([("is_long",14),("is_whole",12),("is_within",13),("is_pace",17),("rises",15),("are_readings",16),("is_clock",18),("are_clocks",19),("is_event",20),("is_delay",21),("is_letter",22),("are_letters",23),("is_record",24),("need_record",25),("_law_cell",48)]:List (Str×Nat))++([("_law_drawn",49),("_law_events",52),("_law_letter",51),("_law_clock",50),("_law_record",53),("events",27),("is_better",40),("settle",39),("greatest_world",42),("bounds_of_clock",35),("bounds_of_letter",36),("bounds",37),("world",43),("has_world",44),("_law_now",55)]:List (Str×Nat))++([("need_number",26),("without_letter",31),("if_record",29),("with_clock",32),("with_reading",33),("with_letter",30),("_law_step",54),("_law_go_on",56),("law",57)]:List (Str×Nat)),(["all","bool","dict","enumerate","int","isinstance","len","list","min","range","reversed","tuple"]:List Str),[("MOST_CLOCKS",4),("MOST_LETTERS",8),("MOST_READINGS",4),("LAST_READING",99),("SLOWEST",9),("LONGEST",999)],["ClockError","NoRecord","NoNumber","Nothing"]⟩
def asks:ur:=⟨A8,[⟨"Sketch",46,["past","ahead"],[("__init__","Sketch.__init__",0),("record","Sketch.record",1),("twin","Sketch.twin",10),("back","Sketch.back",7),("good","Sketch.good",6),("counts","Sketch.counts",9),("go_on","Sketch.go_on",2),("cut","Sketch.cut",5),("read","Sketch.read",4),("write","Sketch.write",3),("forth","Sketch.forth",8)]⟩]⟩
def vw:KA:=PySem.W.view Ku [57]
def lse:List Str:=(["ClockError","NoRecord","NoNumber","Nothing","MOST_CLOCKS","MOST_LETTERS","MOST_READINGS","LAST_READING","SLOWEST","LONGEST","is_whole","is_within","is_long","rises","are_readings","is_pace","is_clock","are_clocks","is_event","is_delay"]:List Str)++(["is_letter","are_letters","is_record","need_record","need_number","events","if_record","with_letter","without_letter","with_clock","with_reading","bounds_of_clock","bounds_of_letter","bounds","settle","is_better","greatest_world","world","has_world","Sketch"]:List Str)++(["_law_cell","_law_drawn","_law_clock","_law_letter","_law_events","_law_record","_law_step","_law_now","_law_go_on"]:List Str)
def lhs (w:K1)(h:Heap)(d:Drawn)(t:Nat)(os:NO):=(Nq Px Ku w 9000 ⟨h,⟨[]⟩,d,t,os⟩).map (λs=>(Qm vw lse (OP Ku.main.body) (λ_=>true) true s,zG asks (tV s.heap)))
def rhs (w:K1):=some (Qn vw lse,yU asks top)
end G
set_option maxHeartbeats 1000000
set_option maxHeartbeats 1000000
set_option maxHeartbeats 1000000
set_option maxHeartbeats 4000000
set_option maxHeartbeats 4000000
namespace G
open PySem Tr PySem.W PyProof.Rows
def lhA (w:K1)(h:Heap)(d:Drawn)(t:Nat)(os:NO):=(Nq Px Ku w 9000 ⟨h,⟨[]⟩,d,t,os⟩).map λs=>Qm vw lse (OP Ku.main.body) (λ_=>true) true s
def rhA (_:K1):=some (Qn vw lse)
theorem lhA_r:lhA=lhA:=rfl
theorem rhA_r:rhA=rhA:=rfl
def lhB (w:K1)(h:Heap)(d:Drawn)(t:Nat)(os:NO):=(Nq Px Ku w 9000 ⟨h,⟨[]⟩,d,t,os⟩).map λs=>tj asks.a (tV s.heap)
def rhB (_:K1):=some (sy asks.a top)
theorem lhB_r:lhB=lhB:=rfl
theorem rhB_r:rhB=rhB:=rfl
def lhC (w:K1)(h:Heap)(d:Drawn)(t:Nat)(os:NO):=(Nq Px Ku w 9000 ⟨h,⟨[]⟩,d,t,os⟩).map λs=>asks.ks.map (Jb (tV s.heap))
def rhC (_:K1):=some (asks.ks.map (Jf top))
theorem lhC_r:lhC=lhC:=rfl
theorem rhC_r:rhC=rhC:=rfl
theorem join3 {α β γ δ:Type}{o:Option α}{f:α->β}{g:α->γ}{k:α->δ}{a:β}{b:γ}{c:δ}(h1:o.map f=some a)(h2:o.map g=some b)(h3:o.map k=some c):o.map (λs=>(f s,g s,k s))=some (a,b,c):=by
 cases o with
 | none=>cases h1
 | some s=>cases h1;cases h2;cases h3;rfl
end G
lay_quick G.lhA G.rhA G.lhB G.rhB G.lhC G.rhC
name_quick lhAz for G.lhA by G.lhA_r
name_quick rhAz for G.rhA by G.rhA_r
name_quick lhBz for G.lhB by G.lhB_r
name_quick rhBz for G.rhB by G.rhB_r
name_quick lhCz for G.lhC by G.lhC_r
name_quick rhCz for G.rhC by G.rhC_r
section
open PySem PySem.W PyProof.Rows
set_option maxRecDepth 100000 in
theorem G.JS (w:K1)(os:NO):PySem.W.Fast.lhAz w (boot_heap w.params) boot_drawn boot_toks os=PySem.W.Fast.rhAz w:=by kernel_rfl
set_option maxRecDepth 100000 in
theorem G.JR (w:K1)(os:NO):PySem.W.Fast.lhBz w (boot_heap w.params) boot_drawn boot_toks os=PySem.W.Fast.rhBz w:=by kernel_rfl
set_option maxRecDepth 100000 in
theorem G.JX (w:K1)(os:NO):PySem.W.Fast.lhCz w (boot_heap w.params) boot_drawn boot_toks os=PySem.W.Fast.rhCz w:=by kernel_rfl
theorem G.JW (w:K1)(os:NO):G.lhs w (boot_heap w.params) boot_drawn boot_toks os=G.rhs w:=G.join3 (((congrFun (congrFun (congrFun (congrFun (congrFun PySem.W.Fast.lhAz_eq w) _) _) _) os).trans (G.JS w os)).trans (congrFun PySem.W.Fast.rhAz_eq w).symm) (((congrFun (congrFun (congrFun (congrFun (congrFun PySem.W.Fast.lhBz_eq w) _) _) _) os).trans (G.JR w os)).trans (congrFun PySem.W.Fast.rhBz_eq w).symm) (((congrFun (congrFun (congrFun (congrFun (congrFun PySem.W.Fast.lhCz_eq w) _) _) _) os).trans (G.JX w os)).trans (congrFun PySem.W.Fast.rhCz_eq w).symm)
end
namespace L2
open PySem PySem.Spec PyProof.Rows
abbrev Key:=Sum Int Str
def pM:Key->J7->Bool
 | .inl k,v=>Value.isInt k v
 | .inr x,v=>Value.isStrOf x v
def keyH (w:K1):Key->Int
 | .inl k=>hashInt k
 | .inr x=>hashStr w x
theorem cb:∀{k:Key} {v:J7},pM k v=true->(∃i t,k=Pc i/\v=Lq i t)\/(∃x t,k=Pd x/\v=Lr x t)
 | .inl i,v,h=>by
  obtain⟨t,e⟩:=Value.isInt_shape (k:=i) (v:=v) h
  exact .inl ⟨i,t,rfl,e⟩
 | .inr x,v,h=>by
  obtain⟨t,e⟩:=Value.isStrOf_shape (x:=x) (v:=v) h;exact .inr ⟨x,t,rfl,e⟩
theorem yi (i:Int)(t:Tok):pM (.inl i) (.int i t)=true:=by simp[pM,Value.isInt]
theorem yh (x:Str)(t:Tok):pM (.inr x) (.str x t)=true:=by simp[pM,Value.isStrOf]
theorem FR (a b:Int):decide ((Pc a:Key)=Pc b)=(a == b):=by
 by_cases e:a=b
 ·subst e;simp
 ·have h:¬ (Pc a:Key)=Pc b:=λq=>e (Pc.inj q)
  rw[decide_eq_false h];exact(beq_eq_false_iff_ne.mpr e).symm
theorem FO (a b:Str):decide ((Pd a:Key)=Pd b)=decide (a=b):=by
 by_cases e:a=b
 ·subst e;simp
 ·have h:¬ (Pd a:Key)=Pd b:=λq=>e (Pd.inj q)
  rw[decide_eq_false h,decide_eq_false e]
theorem FQ (a:Int)(b:Str):decide ((Pc a:Key)=Pd b)=false:=decide_eq_false (λq=>nomatch q)
theorem FP (a:Str)(b:Int):decide ((Pd a:Key)=Pc b)=false:=decide_eq_false (λq=>nomatch q)
def cm (prog:KA)(w:K1):PySem.KeyKind prog w Key where
 is:=pM
 hash:=keyH w
 inj:=λv a b ha hb=>by
  rcases cb ha with⟨i,t,rfl,rfl⟩ | ⟨x,t,rfl,rfl⟩
  ·rcases cb hb with⟨j,u,rfl,e⟩ | ⟨y,u,rfl,e⟩
   ·injection e with e1 _;rw[e1]
   ·exact nomatch e
  ·rcases cb hb with⟨j,u,rfl,e⟩ | ⟨y,u,rfl,e⟩
   ·exact nomatch e
   ·injection e with e1 _;rw[e1]
 byValue:=λk v h=>by
  rcases cb h with⟨i,t,rfl,rfl⟩ | ⟨x,t,rfl,rfl⟩ <;> rfl
 pyHash:=λhv h=>by
  rcases cb hv with⟨i,t,rfl,rfl⟩ | ⟨x,t,rfl,rfl⟩
  ·exact wpAny_pyHash_int h
  ·exact wpAny_pyHash_str h
 eqBool:=λhu hv h=>by
  rcases cb hu with⟨i,t,rfl,rfl⟩ | ⟨x,t,rfl,rfl⟩
  ·rcases cb hv with⟨j,u,rfl,rfl⟩ | ⟨y,u,rfl,rfl⟩
   ·rw[FR]at h;exact wpAny_eqBool_int h
   ·rw[FQ]at h;exact SeqAt.EqAt.int_str i t y u _ _ _ _ h
  ·rcases cb hv with⟨j,u,rfl,rfl⟩ | ⟨y,u,rfl,rfl⟩
   ·rw[FP]at h;exact SeqAt.EqAt.str_int x t j u _ _ _ _ h
   ·rw[FO]at h;exact wpAny_eqBool_str h
 «strs»:=λk x t v h=>by
  rcases cb h with⟨i,u,rfl,e⟩ | ⟨y,u,rfl,e⟩
  ·exact nomatch e
  ·injection e with e1 _
   subst e1;cases v <;> rfl
theorem tM (prog:KA)(w:K1)(i:Int)(t:Tok):(cm prog w).is (.inl i) (.int i t)=true:=yi i t
theorem tL (prog:KA)(w:K1)(x:Str)(t:Tok):(cm prog w).is (.inr x) (.str x t)=true:=yh x t
def RelV:V->J7->Prop
 | .non,u=>u=KR
 | .bl b,u=>u=Lc b
 | .int i,u=> ∃t,u=Lq i t
 | .str x,u=> ∃t,u=Lr x t
 | .byt b,u=> ∃t,u=Value.bytes b t
 | .flt b,u=> ∃t,u=QF b t
 | .ref a,u=>u=KG a
 | .ty n,u=>u=Np n
abbrev Vals:List V->List J7->Prop:=Q5 RelV
theorem Vals.length {xs:List V}{us:List J7}(r:Vals xs us):xs.length=us.length:=N7 r
theorem Vals.get:∀{xs:List V} {us:List J7} {i:Nat} {x:V},Vals xs us->xs[i]? =some x->∃u,us[i]? =some u/\RelV x u
 | _,_,_,_,.nil,e=>by simp at e
 | _,_,0,_,.cons r _,e=>by simp at e;subst e;exact⟨_,rfl,r⟩
 | _,_,i+1,x,.cons _ t,e=>by
  obtain⟨u,h1,h2⟩:=Vals.get (i:=i) (x:=x) t (by simpa using e)
  exact⟨u,by simpa using h1,h2⟩
theorem Vals.append:∀{xs ys:List V} {us ws:List J7},Vals xs us->Vals ys ws->Vals (xs++ys) (us++ws)
 | _,_,_,_,.nil,s=>s
 | _,_,_,_,.cons r t,s=> .cons r (Vals.append t s)
theorem Vals.take:∀{xs:List V} {us:List J7} (n:Nat),Vals xs us->Vals (xs.take n) (us.take n)
 | _,_,0,_=> .nil
 | _,_,_+1,.nil=> .nil
 | _,_,n+1,.cons r t=> .cons r (Vals.take n t)
theorem Vals.drop:∀{xs:List V} {us:List J7} (n:Nat),Vals xs us->Vals (xs.drop n) (us.drop n)
 | _,_,0,r=>r
 | _,_,_+1,.nil=> .nil
 | _,_,n+1,.cons _ t=>Vals.drop n t
def RelO:Option V->Option J7->Prop
 | some v,some u=>RelV v u
 | none,none=>True
 | _,_=>False
def KV {κ:Type}:List (κ×V)->List (κ×J7)->Prop:=Q5 λ(p:κ×V) (q:κ×J7)=>p.1=q.1/\RelV p.2 q.2
def kV:Key->V
 | .inl i=> .int i
 | .inr x=> .str x
inductive HO where
 /-- a list -/
 | lst (xs:List V)
 /-- a tuple (never changes) -/
 | tup (xs:List V)
 /-- a dict whose keys are ints and texts;one whose keys are tuples of ints and texts (the empty one is both) -/
 | dK (kvs:List (Key×V)) | dT (kvs:List (List Key×V))
 /-- a set of ints: its members,its size -/
 | set (S:Int->Bool) (n:Nat)
 /-- an instance of the class at C,its dict at dx,its attributes -/
 | ins (C dx:Addr) (fs:List (Str×V))
 /-- the dict of the instance at x -/
 | own (x:Addr)
 /-- the dict of an exception -/
 | xd (fs:List (Str×V))
 /-- a bound method,f of x -/
 | met (f x:Addr)
 /-- a range object lo,lo+1,.. below hi -/
 | rng (lo hi:Int)
 /-- a thing that is known to the object (the script;a dict while a loop walks it): read,never written while it is so -/
 | frz (o:Obj) (u:HO)
 /-- a code object's table -/
 | tbl (ps:Array J7)
 /-- any other thing,by what is true of its one object (a def of one's own: SetO a S n:=HO.ext λh=> ..) -/
 | ext (φ:Heap->Prop)
abbrev Hp:=Addr->Option HO
def upd (H:Hp)(a:Addr)(o:HO):Hp:=λb=>if b=a then some o else H b
theorem aO {H:Hp}{a:Addr}{o:HO}:upd H a o a=some o:=by unfold upd;rw[if_pos rfl]
theorem aE {H:Hp}{a b:Addr}{o:HO}(h:b≠a):upd H a o b=H b:=by unfold upd;rw[if_neg h]
theorem qo {H:Hp}{a:Addr}{o u:HO}:upd (upd H a o) a u=upd H a u:=by
 funext b;unfold upd;split <;> rfl
theorem nT {H:Hp}{a b:Addr}{o u:HO}(h:H a=some o)(h':H b=some u)(d:o≠u):a≠b:=by
 intro e;subst e;rw[h]at h';exact d (KS h')
theorem bS {H:Hp}{a b:Addr}{o:HO}(h:H a=some o)(h':H b=none):a≠b:=by
 intro e;subst e;rw[h]at h';cases h'
section
variable (P:KA)(w:K1)
def ObjOk (H:Hp)(h:Heap)(a:Addr):HO->Prop
 | .lst xs=>xs.length<=sizeLine/\∃(its:List J7) (n:Nat),Vals xs its/\h.get? a=some { cls:=.type "list",data:=.seq its.toArray n }
 | .tup xs=>xs.length<=sizeLine/\∃its:List J7,Vals xs its/\Q6 h a its.toArray
 | .dK kvs=>kvs.length<=sizeLine/\(a == Mz)=false/\∃vs,KV kvs vs/\h.DictOf (cm P w) a vs
 | .dT kvs=>kvs.length<=sizeLine/\(a == Mz)=false/\∃xs:List (List Key×Addr×J7),
   Q5 (λ(p:List Key×V) (q:List Key×Addr×J7)=>p.1=q.1/\H q.2.1=some (.tup (p.1.map kV))/\RelV p.2 q.2.2) kvs xs ∧
   ∃o es ep,h.get? a=some o/\o.ExactDict/\o.data= .dict es ep/\es.toList=xs.map (entryOfKey (NZ (cm P w)))/\(xs.map (·.1)).Nodup
 | .set S n=>h.SetOf (intKind P w) a S n
 | .ins C dx fs=>H dx=some (.own a)/\fs.length<=1000/\dx≠a/\h.get? a=some (LM C dx) ∧
   ∃mA,h.Ns1 dx mA/\(∀f,RelO (fs.lookup f) (mA f))/\P8 mA (fs.map (·.1))
 | .own _=> ∃o,h.get? a=some o
 | .xd fs=> ∃mA,h.Ns1 a mA/\∀f,RelO (fs.lookup f) (mA f)
 | .rng lo hi=> ∃t u v,h.get? a=some { cls:=.type "range",data:=.fields #[.int lo t,.int hi u,.int 1 v] }
 | .frz o u=>h.get? a=some o/\ObjOk H h a u
 | .tbl ps=>h.get? a=some { cls:=.none,data:=.fields ps }
 | .met f x=>h.get? a=some (NQ (.ref f) (.ref x))
 | .ext φ=>φ h/\(∃o,h.get? a=some o)/\∀h1 h2:Heap,φ h1->(∀o,h1.get? a=some o->h2.get? a=some o)->φ h2
def HOk (H:Hp)(h:Heap):Prop:=∀a o,H a=some o->ObjOk P w H h a o
end
section
variable {P:KA}{w:K1}{H H':Hp}{h h':Heap}{a:Addr}{o:HO}
theorem ObjOk.lt (x:ObjOk P w H h a o):a<h.objs.size:=by
 cases o with
 | lst xs=>obtain⟨_,_,_,_,e⟩:=x;exact Kl e
 | tup xs=>obtain⟨_,_,_,p⟩:=x;exact p.lt
 | dK kvs=>obtain⟨_,_,_,_,o,_,_,e,_⟩:=x;exact Kl e
 | dT kvs=>obtain⟨_,_,_,_,o,_,_,e,_⟩:=x;exact Kl e
 | set S n=>obtain⟨o,_,_,_,e,_⟩:=x;exact Kl e
 | ins C dx fs=>obtain⟨_,_,_,e,_⟩:=x;exact Kl e
 | own y=>obtain⟨_,e⟩:=x;exact Kl e
 | xd fs=>obtain⟨_,⟨_,_,_,e,_⟩,_⟩:=x;exact Kl e
 | rng lo hi=>obtain⟨_,_,_,e⟩:=x;exact Kl e
 | frz ob u=>obtain⟨e,_⟩:=x;exact Kl e
 | tbl ps=>exact Kl (show h.get? a=some _ from x)
 | met f y=>exact Kl (show h.get? a=some _ from x)
 | ext φ=>obtain⟨_,⟨_,e⟩,_⟩:=x;exact Kl e
theorem Paired.JN {α β:Type}{F G:α->β->Prop}:∀{l₁:List α} {l₂:List β},Q5 F l₁ l₂->(∀a b,F a b->G a b)->Q5 G l₁ l₂
 | _,_,.nil,_=> .nil
 | _,_,.cons r t,f=> .cons (f _ _ r) (Paired.JN t f)
theorem ObjOk.Jt (x:ObjOk P w H h a o)(k:∀b u,(b=a\/H b=some (.own a))->h.get? b=some u->h'.get? b=some u)
  (ho:∀b,H b=some (.own a)->H' b=some (.own a)) (ht:∀b xs,H b=some (.tup xs)->H' b=some (.tup xs)):ObjOk P w H' h' a o:=by
 induction o with
 | lst xs=>obtain⟨z,its,n,r,e⟩:=x;exact⟨z,its,n,r,k _ _ (.inl rfl) e⟩
 | tup xs=>obtain⟨z,its,r,ob,e,c⟩:=x;exact⟨z,its,r,ob,k _ _ (.inl rfl) e,c⟩
 | dK kvs=>obtain⟨z,y,vs,r,ob,es,ep,e,c⟩:=x;exact⟨z,y,vs,r,ob,es,ep,k _ _ (.inl rfl) e,c⟩
 | dT kvs=>
  obtain⟨z,y,xs,r,ob,es,ep,e,c⟩:=x
  exact⟨z,y,xs,Paired.JN r λp q z=>⟨z.1,ht _ _ z.2.1,z.2.2⟩,ob,es,ep,k _ _ (.inl rfl) e,c⟩
 | set S n=>obtain⟨ob,es,ep,t,e,c⟩:=x;exact⟨ob,es,ep,t,k _ _ (.inl rfl) e,c⟩
 | ins C dx fs=>
  obtain⟨d,z,ne,e,mA,⟨od,es,ep,e2,c⟩,r⟩:=x
  exact⟨ho _ d,z,ne,k _ _ (.inl rfl) e,mA,⟨od,es,ep,k _ _ (.inr d) e2,c⟩,r⟩
 | own y=>obtain⟨ob,e⟩:=x;exact⟨ob,k _ _ (.inl rfl) e⟩
 | xd fs=>obtain⟨mA,⟨od,es,ep,e,c⟩,r⟩:=x;exact⟨mA,⟨od,es,ep,k _ _ (.inl rfl) e,c⟩,r⟩
 | rng lo hi=>obtain⟨t,u,v,e⟩:=x;exact⟨t,u,v,k _ _ (.inl rfl) e⟩
 | frz ob u ih=>obtain⟨e,q⟩:=x;exact⟨k _ _ (.inl rfl) e,ih q⟩
 | tbl ps=>
  have e:h.get? a=some { cls:=.none,data:=.fields ps }:=x
  show h'.get? a=some { cls:=.none,data:=.fields ps }
  exact k a _ (.inl rfl) e
 | met f y=>
  have e:h.get? a=some (NQ (.ref f) (.ref y)):=x
  show h'.get? a=some (NQ (.ref f) (.ref y))
  exact k a _ (.inl rfl) e
 | ext φ=>obtain⟨p,⟨o,e⟩,st⟩:=x;exact⟨st _ _ p λo q=>k _ _ (.inl rfl) q,⟨o,k _ _ (.inl rfl) e⟩,st⟩
theorem HOk.lt (x:HOk P w H h)(e:H a=some o):a<h.objs.size:=(x a o e).lt
theorem HOk.fresh (x:HOk P w H h)(e:h.objs.size<=a):H a=none:=by
 cases q:H a with
 | none=>rfl
 | some u=>exact absurd (Ks (x.lt q) e) (KI _)
theorem HOk.kept (x:HOk P w H h)(k:∀b u,h.get? b=some u->h'.get? b=some u):HOk P w H h':=λa o e=>
 (x a o e).Jt (λb u _ q=>k b u q) (λ_ q=>q) λ_ _ q=>q
theorem HOk.laid (x:HOk P w H h)(k:∀b u,h.get? b=some u->h'.get? b=some u)(hp:h.objs.size<=a)(new:ObjOk P w (upd H a o) h' a o):HOk P w (upd H a o) h':=λb u e=>by
 have hn:=x.fresh hp
 by_cases hb:b=a
 ·subst hb;rw[aO]at e;cases e;exact new
 ·rw[aE hb]at e
  exact(x b u e).Jt (λc v _ q=>k c v q) (λc q=>by rw[aE (bS q hn)];exact q) λc xs q=>by rw[aE (bS q hn)];exact q
end
def Rd (H:Hp)(a:Addr)(u:HO):Prop:=H a=some u\/∃o,H a=some (.frz o u)
theorem Rd.ok {P:KA}{w:K1}{H:Hp}{h:Heap}{a:Addr}{u:HO}(r:Rd H a u)(x:HOk P w H h):ObjOk P w H h a u:=by
 rcases r with r | ⟨o,r⟩
 ·exact x a u r
 ·obtain⟨_,q⟩:=x a _ r
  exact q
def IU:Option HO->Prop
 | some (.lst _)=>True
 | some (.dK _)=>True
 | some (.dT _)=>True
 | some (.set _ _)=>True
 | some (.ins _ _ _)=>True
 | some (.ext _)=>True
 | _=>False
section
variable {P:KA}{w:K1}{H:Hp}{h h':Heap}{x e:Addr}{o':HO}
theorem HOk.write (ok:HOk P w H h)(mu:IU (H x))(he:e=x\/H e=some (.own x))(k:∀b u,b≠e->h.get? b=some u->h'.get? b=some u)(heo:∃u,h'.get? e=some u)
  (new:ObjOk P w (upd H x o') h' x o'):HOk P w (upd H x o') h':=λb u q=>by
 have nown:∀c y,H c=some (.own y)->c≠x:=λc y r z=>by subst z;rw[r]at mu;exact mu
 have ntup:∀c xs,H c=some (.tup xs)->c≠x:=λc xs r z=>by subst z;rw[r]at mu;exact mu
 by_cases hb:b=x
 ·subst hb;rw[aO]at q;cases q;exact new
 ·rw[aE hb]at q
  by_cases hbe:b=e
  ·have q':H b=some (.own x):=by
    rcases he with z | z
    ·exact absurd (hbe.trans z) hb
    ·rw[hbe];exact z
   rw[q]at q';cases q';obtain⟨v,hv⟩:=heo;exact⟨v,by rw[hbe];exact hv⟩
  ·refine(ok b u q).Jt (λc v hc r=>k c v ?_ r) (λc r=>by rw[aE (nown c b r)];exact r) λc xs r=>by rw[aE (ntup c xs r)];exact r
   rcases hc with rfl | hc
   ·exact hbe
   ·rintro rfl
    rcases he with z | z
    ·exact nown c b hc z
    ·rw[hc]at z;cases z;exact hb rfl
end
structure Un (fs ex:List Addr)(H H':Hp)(h h':Heap):Prop where
 keep:∀b o,h.get? b=some o->H b=none->b∉fs->b∉ex->h'.get? b=some o
 slot:∀b o,h.get? b=some o->H b=none->b∈fs->b∉ex->∃sl,h'.get? b=some { o with slots:=sl }
 free:∀b o,h.get? b=some o->H b=none->b∉ex->H' b=none
 there:∀b o,h.get? b=some o->b∉ex->∃o',h'.get? b=some o'
 tups:∀b xs,H b=some (.tup xs)->H' b=some (.tup xs)
 frzs:∀b o u,H b=some (.frz o u)->H' b=some (.frz o u)
 tbls:∀b ps,H b=some (.tbl ps)->∃more,H' b=some (.tbl (ps++more))
section
variable {fs fs' ex ex':List Addr}{H H1 H2:Hp}{h h1 h2 h':Heap}{a x e:Addr}{o:HO}
theorem Un.any (u:Un fs ex H H1 h h1){b:Addr}{ob:Obj}(q:h.get? b=some ob)(n:H b=none)(hx:b∉ex):∃sl,h1.get? b=some { ob with slots:=sl }:=by
 by_cases hb:b∈fs
 ·exact u.slot b ob q n hb hx
 ·exact⟨ob.slots,u.keep b ob q n hb hx⟩
theorem Un.kept (k:∀b u,h.get? b=some u->h'.get? b=some u):Un fs ex H H h h':=
 ⟨λb ob q _ _ _=>k b ob q,λb ob q _ _ _=>⟨ob.slots,k b ob q⟩,λ_ _ _ n _=>n,λb ob q _=>⟨ob,k b ob q⟩,λ_ _ q=>q,λ_ _ _ q=>q,λ_ ps q=>⟨#[],by rw[q];simp⟩⟩
theorem Un.refl:Un fs ex H H h h:=Un.kept λ_ _ q=>q
theorem Un.laid (k:∀b u,h.get? b=some u->h'.get? b=some u)(hp:h.objs.size<=a)(hn:H a=none):Un fs ex H (upd H a o) h h' where
 keep:=λb u q _ _ _=>k b u q
 slot:=λb u q _ _ _=>⟨u.slots,k b u q⟩
 free:=λb u q n _=>by rw[aE (Lk (Ks (Kl q) hp))];exact n
 there:=λb u q _=>⟨u,k b u q⟩
 tups:=λb xs q=>by rw[aE (bS q hn)];exact q
 frzs:=λb u xs q=>by rw[aE (bS q hn)];exact q
 tbls:=λb ps q=>⟨#[],by rw[aE (bS q hn),q];simp⟩
theorem Un.write (mu:IU (H x))(he:e=x\/H e=some (.own x))(k:∀b u,b≠e->h.get? b=some u->h'.get? b=some u)(heo:∃u,h'.get? e=some u):Un fs ex H (upd H x o) h h':=by
 have hx:∀b,H b=none->b≠x:=λb n z=>by subst z;rw[n]at mu;exact mu
 have hb:∀b,H b=none->b≠e:=λb n z=>by
  subst z;rcases he with r | r
  ·exact hx b n r
  ·rw[n]at r;cases r
 have hm:∀b u,H b=some u->¬ IU (some u)->b≠x:=λb u q nm z=>by subst z;rw[q]at mu;exact nm mu
 refine⟨λb u q n _ _=>k b u (hb b n) q,λb u q n _ _=>⟨u.slots,k b u (hb b n) q⟩,λb u q n _=>by rw[aE (hx b n)];exact n,λb u q _=> ?_,
  λb xs q=>by rw[aE (hm b _ q λz=>z)];exact q,λb u xs q=>by rw[aE (hm b _ q λz=>z)];exact q,λb ps q=>⟨#[],by rw[aE (hm b _ q λz=>z),q];simp⟩⟩
 by_cases hbe:b=e
 ·subst hbe;exact heo
 ·exact⟨u,k b u hbe q⟩
end
def trk (h:Heap)(H:Hp):List Addr:=(K9 h.objs.size).filter λa=>(H a).isSome
def rP (h:Heap)(H:Hp):Heap:=Ou h (trk h H)
theorem yn (h:Heap)(H:Hp):(rP h H).objs.size=h.objs.size:=PySem.W.hideAll_size _ _
theorem Aq {h:Heap}{H:Hp}{b:Addr}{o:Obj}(e:h.get? b=some o)(n:H b=none):(rP h H).get? b=some o:=
 Mg _ e λhm=>by
  have q:(H b).isSome=true:=(QH.mp hm).2;rw[n]at q;simp at q
theorem CK {h:Heap}{H:Hp}{b:Addr}{o:Obj}(e:(rP h H).get? b=some o):h.get? b=some o/\H b=none:=by
 have e':h.get? b=some o:=NG (trk h H) e;refine⟨e',?_⟩
 cases q:H b with
 | none=>rfl
 | some x=>
  have hm:b∈trk h H:=QH.mpr ⟨LB.mpr (Kl e'),by simp[q]⟩
  have z:(rP h H).get? b=none:=Nm (trk h H) hm;rw[z]at e;cases e
def Dp (g h:Heap)(L:Addr):List (Addr×Obj):=(K9 h.objs.size).filterMap λa=>if a=L\/(g.get? a).isSome=true then none else(h.get? a).map λo=>(a,o)
def bA (g h:Heap)(L d:Addr):List (Addr×Obj):=(Dp g h L).filter λp=>decide (p.1≠d)
structure Mod (K:J5)(mg:Str->Option J7)(base:Heap):Prop where
 kin:K.In base
 glob:base.Ns KN mg
 blt:∃mb,base.Ns NY mb/\∀x:Str,x≠ "__name__"->mb x=KQ x
 nolimit:base.NoLimit
structure Cx where
 prog:KA
 w:K1
 K:J5
 mg:Str->Option J7
 base:Heap
 A:KP
 N:List Str
 s₀:J9
 H₀:Hp
 env:Env
 outer:List Env
 stack:List Env
 ex:List Addr
 fn:Str->Bool
 calm:Bool
 pn:List (Addr×Obj)
 xe:J7->J9->Prop
def oj (l:List Env):List Addr:=l.filterMap (·.frame)
abbrev Cx.fs (X:Cx):List Addr:=oj X.outer
def kK (sc:Nk)(x:Str):Prop:=sc.names.lookup x=some .local\/sc.names.lookup x=some .cell\/sc.names.lookup x=some .free
def Loc (sc:Nk)(x:Str):Prop:=sc.names.lookup x=some .local\/sc.names.lookup x=some .cell
def Look (env:Env)(h:Heap)(m:Str->Option J7)(x:Str)(u:J7):Prop:=
 (env.kindOf x=some .local/\m x=some u)\/((env.kindOf x=some .cell\/env.kindOf x=some .free)/\∃c,env.cells.lookup x=some c/\h.IsCell c (some u))
structure Cx.Ok (X:Cx):Prop where
 mod:Mod X.K X.mg X.base
 kind:X.env.scope.kind= .function
 glob:X.env.globals=KN
 blt:X.env.builtins=NY
 above:X.s₀.heap.objs.size<=X.env.locals
 inj:∀x y c,X.env.cells.lookup x=some c->X.env.cells.lookup y=some c->x=y
 has:∀x,(X.env.kindOf x=some .cell\/X.env.kindOf x=some .free)->∃c,X.env.cells.lookup x=some c
 cab:∀x c,X.fn x=true->X.env.cells.lookup x=some c->X.s₀.heap.objs.size<=c
 hd:X.calm=true->X.A.handled=none
 frames:X.A.frames=some X.stack
 stk:X.stack=X.outer\/(X.stack=X.env::X.outer/\X.env.frame=some X.env.locals)
 exf:∀b∈X.ex,b≠X.env.locals/\∀x c,X.env.cells.lookup x=some c->c≠b
 bs:∀b o,X.base.get? b=some o->X.s₀.heap.get? b=some o/\X.H₀ b=none
 bsz:X.base.objs.size<=X.s₀.heap.objs.size
 noex:∀b o,X.base.get? b=some o->b∉X.ex
 exfs:∀b∈X.ex,b∉X.fs
 funs:X.s₀.heap.FunFrames X.base X.outer
 frf:∀b∈X.fs,X.H₀ b=none
structure Inv (X:Cx)(pins:List (Addr×Obj))(σ:List (Option V))(H:Hp)(s:J9):Prop where
 ok:X.Ok
 os:s.os=X.s₀.os
 bare:Od s.gens
 base:Un X.fs X.ex X.H₀ H X.s₀.heap s.heap
 loc:∃m,s.heap.Ns X.env.locals m/\∀(i:Nat) (x:Str) (v:V),X.N[i]? =some x->σ[i]? =some (some v)->kK X.env.scope x->∃u,RelV v u/\Look X.env s.heap m x u
 cell:∀x c,X.env.cells.lookup x=some c->∃v,s.heap.IsCell c v
 free:H X.env.locals=none
 freeC:∀x c,X.env.cells.lookup x=some c->H c=none
 pin:∀p∈X.pn++pins,s.heap.get? p.1=some p.2/\H p.1=none/\p.1≠X.env.locals/\p.1∉X.fs/\∀v,p.2.data≠ .cell v
 hok:HOk X.prog X.w H s.heap
 len:σ.length=X.N.length
section
variable {X:Cx}{pins:List (Addr×Obj)}{σ:List (Option V)}{H H':Hp}{s:J9}{h':Heap}
theorem Cx.Ok.J1 (ok:X.Ok){b:Addr}{o:Obj}(e:X.base.get? b=some o):b∉X.fs:=λhb=>by
 have:=(ok.funs.mem hb).1;rw[e]at this;cases this
theorem Inv.bs (I:Inv X pins σ H s):∀b o,X.base.get? b=some o->s.heap.get? b=some o/\H b=none:=λb o e=>
 ⟨I.base.keep b o (I.ok.bs b o e).1 (I.ok.bs b o e).2 (I.ok.J1 e) (I.ok.noex b o e),I.base.free b o (I.ok.bs b o e).1 (I.ok.bs b o e).2 (I.ok.noex b o e)⟩
theorem Inv.bk (I:Inv X pins σ H s):∀b o,X.base.get? b=some o->s.heap.get? b=some o:=λb o e=>(I.bs b o e).1
theorem Inv.mod (I:Inv X pins σ H s):Mod X.K X.mg X.base:=I.ok.mod
theorem Inv.kIn (I:Inv X pins σ H s):X.K.In s.heap:=I.ok.mod.kin.keeps I.bk
theorem Inv.lt (I:Inv X pins σ H s):X.env.locals<s.heap.objs.size:=let ⟨_,hn,_⟩:=I.loc;hn.lt
theorem Inv.sz (I:Inv X pins σ H s):X.s₀.heap.objs.size<=s.heap.objs.size:=KW I.ok.above (MI I.lt)
theorem Inv.J3 (I:Inv X pins σ H s){a:Addr}(h:s.heap.objs.size<=a):a∉X.fs:=λhb=>by
 obtain⟨_,o,ho,_⟩:=I.ok.funs.mem hb;exact absurd (Ks (Kl ho) (KW I.sz h)) (KI _)
theorem Inv.cne (I:Inv X pins σ H s):∀x c,X.env.cells.lookup x=some c->c≠X.env.locals:=λx c e z=>by
 obtain⟨v,o,ho,hd⟩:=I.cell x c e;obtain⟨m,⟨o',es,ep,ho',hd',_⟩,_⟩:=I.loc;rw[z,ho']at ho;cases ho;rw[hd']at hd;cases hd
theorem Inv.funs (I:Inv X pins σ H s):s.heap.FunFrames X.base X.outer:=by
 have all:∀(l:List Env),(∀b∈oj l,b∈X.fs)->X.s₀.heap.FunFrames X.base l->s.heap.FunFrames X.base l:=by
  intro l
  induction l with
  | nil=>intro _ _;trivial
  | cons env r ih=>
   intro hs hl;obtain⟨hk,⟨L,o,hf,hn,ho,hd⟩,hr⟩:=hl
   have hL:L∈X.fs:=hs L (by unfold oj;rw[Ls,hf];exact Ke)
   obtain⟨sl,e⟩:=I.base.slot L o ho (I.ok.frf L hL) hL λz=>I.ok.exfs L z hL
   exact⟨hk,⟨L,_,hf,hn,e,hd⟩,ih (λb hb=>hs b (by unfold oj;rw[Ls,hf];exact J6 _ hb)) hr⟩
 exact all X.outer (λ_ hb=>hb) I.ok.funs
theorem Inv.stack (I:Inv X pins σ H s):s.heap.FunFrames X.base X.stack:=by
 rcases I.ok.stk with e | ⟨e,hf⟩
 ·rw[e];exact I.funs
 ·rw[e]
  obtain⟨m,hn,_⟩:=I.loc;refine .cons (by rw[I.ok.kind];decide) hf hn ?_ I.funs
  exact Heap.get?_none_of_le (KW I.ok.bsz I.ok.above)
theorem Inv.JC (I:Inv X pins σ H s):∀b∈oj X.stack,b∈X.env.locals::X.fs:=λb hb=>by
 rcases I.ok.stk with e | ⟨e,hf⟩
 ·rw[e]at hb;exact J6 _ hb
 ·rw[e]at hb
  unfold oj at hb;rw[Ls,hf]at hb;exact hb
theorem Inv.Jr (I:Inv X pins σ H s):∀b∈oj X.stack,H b=none:=λb hb=>by
 rcases Kf.mp (I.JC b hb)with e | hb
 ·rw[e];exact I.free
 ·obtain⟨_,o,ho,_⟩:=I.ok.funs.mem hb
  exact I.base.free b o ho (I.ok.frf b hb) λz=>I.ok.exfs b z hb
theorem Inv.step {g':Array GenState}{t':Nat}{d':Drawn}{ch:List Addr}(I:Inv X pins σ H s)
  (hch:∀b∈ch,(b∈X.ex\/X.s₀.heap.objs.size<=b)/\b≠X.env.locals/\(∀x c,X.env.cells.lookup x=some c->c≠b)/\∀p∈X.pn++pins,p.1≠b)
  (keep:∀b o,b≠X.env.locals->b∉X.fs->b∉ch->s.heap.get? b=some o->H b=none->h'.get? b=some o)
  (slot:∀b o,b≠X.env.locals->b∈X.fs->b∉ch->s.heap.get? b=some o->H b=none->∃sl,h'.get? b=some { o with slots:=sl }) (free:∀b o,b∉ch->s.heap.get? b=some o->H b=none->H' b=none)
  (there:∀b o,b∉ch->s.heap.get? b=some o->∃o',h'.get? b=some o')
  (tups:∀b xs,H b=some (.tup xs)->H' b=some (.tup xs)) (frzs:∀b o u,H b=some (.frz o u)->H' b=some (.frz o u)) (tbls:∀b ps,H b=some (.tbl ps)->∃more,H' b=some (.tbl (ps++more)))
  (ns:∀m,s.heap.Ns X.env.locals m->h'.Ns X.env.locals m) (hok:HOk X.prog X.w H' h') (hg:Od g') :
  Inv X pins σ H' { s with heap:=h',gens:=g',drawn:=d',toks:=t' }:=by
 have neL:∀b o,X.s₀.heap.get? b=some o->b≠X.env.locals:=λb o e=>Lk (Ks (Kl e) I.ok.above)
 have neC:∀b o,X.s₀.heap.get? b=some o->b∉X.ex->b∉ch:=λb o e hx hb=>by
  rcases(hch b hb).1 with z | z
  ·exact hx z
  ·exact absurd (Ks (Kl e) z) (KI _)
 have cellK:∀x c,X.env.cells.lookup x=some c->∀v,s.heap.IsCell c v->h'.IsCell c v:=λx c e v hh_=>by
  obtain⟨o,ho,hd⟩:=hh_
  have nch:c∉ch:=λz=>(hch c z).2.2.1 x c e rfl
  by_cases hc:c∈X.fs
  ·obtain⟨sl,q⟩:=slot c o (I.cne x c e) hc nch ho (I.freeC x c e)
   exact⟨_,q,hd⟩
  ·exact⟨o,keep c o (I.cne x c e) hc nch ho (I.freeC x c e),hd⟩
 refine⟨I.ok,I.os,hg,⟨λb o e n hb hx=> ?_,λb o e n hb hx=> ?_,λb o e n hx=> ?_,λb o e hx=> ?_,λb xs e=>tups b xs (I.base.tups b xs e),λb o xs e=>frzs b o xs (I.base.frzs b o xs e),λb ps e=> ?_⟩,?_,λx c e=> ?_,?_,λx c e=> ?_,λp hp=> ?_,hok,I.len⟩
 ·exact keep b o (neL b o e) hb (neC b o e hx) (I.base.keep b o e n hb hx) (I.base.free b o e n hx)
 ·obtain⟨sl,e1⟩:=I.base.slot b o e n hb hx
  obtain⟨sl',e2⟩:=slot b _ (neL b o e) hb (neC b o e hx) e1 (I.base.free b o e n hx);exact⟨sl',e2⟩
 ·obtain⟨o',e1⟩:=I.base.there b o e hx
  exact free b o' (neC b o e hx) e1 (I.base.free b o e n hx)
 ·obtain⟨o',e1⟩:=I.base.there b o e hx
  exact there b o' (neC b o e hx) e1
 ·obtain⟨m1,e1⟩:=I.base.tbls b ps e
  obtain⟨m2,e2⟩:=tbls b _ e1;exact⟨m1++m2,by rw[e2,Array.append_assoc]⟩
 ·obtain⟨m,hn,hl⟩:=I.loc
  refine⟨m,ns m hn,λi x v e1 e2 e3=> ?_⟩
  obtain⟨u,r,l⟩:=hl i x v e1 e2 e3;refine⟨u,r,?_⟩
  rcases l with l | ⟨k,c,e,z⟩
  ·exact .inl l
  ·exact .inr ⟨k,c,e,cellK x c e _ z⟩
 ·obtain⟨v,z⟩:=I.cell x c e
  exact⟨v,cellK x c e v z⟩
 ·obtain⟨m,⟨o,_,_,ho,_⟩,_⟩:=I.loc
  exact free _ o (λz=>(hch _ z).2.1 rfl) ho I.free
 ·obtain⟨v,o,ho,hd⟩:=I.cell x c e
  exact free c o (λz=>(hch c z).2.2.1 x c e rfl) ho (I.freeC x c e)
 ·obtain⟨e,n,ne,nf,d⟩:=I.pin p hp
  have nch:p.1∉ch:=λz=>(hch p.1 z).2.2.2 p hp rfl
  exact⟨keep p.1 p.2 ne nf nch e n,free p.1 p.2 nch e n,ne,nf,d⟩
theorem Inv.un {t':Nat}(I:Inv X pins σ H s)(u:Un X.fs [] H H' s.heap h')(hok:HOk X.prog X.w H' h'):Inv X pins σ H' { s with heap:=h',toks:=t' }:=by
 obtain⟨m,⟨o,es,ep,ho,r⟩,_⟩:=id I.loc;obtain⟨sl,hL⟩:=u.any ho I.free (by simp)
 exact I.step (g':=s.gens) (d':=s.drawn) (ch:=[]) (λ_ z=>nomatch z) (λb o _ hb _ e n=>u.keep b o e n hb (by simp)) (λb o _ hb _ e n=>u.slot b o e n hb (by simp)) (λb o _ e n=>u.free b o e n (by simp)) (λb o _ e=>u.there b o e (by simp)) u.tups u.frzs u.tbls (λm' hm=>by
  obtain⟨o',es',ep',ho',r'⟩:=hm;rw[ho]at ho';cases ho';exact⟨_,es',ep',hL,r'⟩) hok I.bare
theorem Inv.call {g':Array GenState}{t':Nat}{d':Drawn}{ch:List Addr}(I:Inv X pins σ H s)(u:Un (oj X.stack) ch H H' s.heap h')(hok:HOk X.prog X.w H' h')(hg:Od g')
  (hch:∀b∈ch,(b∈X.ex\/X.s₀.heap.objs.size<=b)/\b≠X.env.locals/\(∀x c,X.env.cells.lookup x=some c->c≠b)/\∀p∈X.pn++pins,p.1≠b) :
  Inv X pins σ H' { s with heap:=h',gens:=g',drawn:=d',toks:=t' }:=by
 obtain⟨m,⟨o,es,ep,ho,r⟩,_⟩:=id I.loc;obtain⟨sl,hL⟩:=u.any ho I.free λz=>(hch _ z).2.1 rfl
 exact I.step (ch:=ch) hch (λb o hL hb hc e n=>u.keep b o e n (λz=>(Kf.mp (I.JC b z)).elim hL hb) hc) (λb o _ _ hc e n=>u.any e n hc) (λb o hc e n=>u.free b o e n hc) (λb o hc e=>u.there b o e hc) u.tups u.frzs u.tbls (λm' hm=>by
  obtain⟨o',es',ep',ho',r'⟩:=hm;rw[ho]at ho';cases ho';exact⟨_,es',ep',hL,r'⟩) hok hg
theorem Inv.turned {t':Nat}{it:Addr}(I:Inv X pins σ H s)(k:∀b o,b≠it->s.heap.get? b=some o->h'.get? b=some o)(hn:H it=none)(hL:it≠X.env.locals)
  (h1:it∈X.ex\/X.s₀.heap.objs.size<=it) (h2:∀x c,X.env.cells.lookup x=some c->c≠it) (h3:∀p∈X.pn++pins,p.1≠it):Inv X pins σ H { s with heap:=h',toks:=t' }:=by
 have nit:∀b u,H b=some u->b≠it:=λb u e z=>by rw[z,hn]at e;cases e
 refine I.step (g':=s.gens) (d':=s.drawn) (ch:=[it]) (λb hb=> ?_) (λb o _ _ hc e _=>k b o (λz=>hc (by simp[z])) e) (λb o _ _ hc e _=>⟨o.slots,k b o (λz=>hc (by simp[z])) e⟩) (λ_ _ _ _ n=>n)
  (λb o hc e=>⟨o,k b o (λz=>hc (by simp[z])) e⟩) (λ_ _ e=>e) (λ_ _ _ e=>e) (λb ps e=>⟨#[],by rw[e];simp⟩) (λm hm=> ?_) (λb u e=> ?_) I.bare
 ·have e:b=it:=by simpa using hb
  subst e;exact⟨h1,hL,h2,h3⟩
 ·obtain⟨o,es,ep,ho,r⟩:=hm
  exact⟨o,es,ep,k _ o (Mv hL) ho,r⟩
 ·refine(I.hok b u e).Jt (λc v hc q=>k c v ?_ q) (λ_ q=>q) λ_ _ q=>q
  rcases hc with z | z
  ·rw[z];exact nit b u e
  ·exact nit c _ z
theorem Inv.tok (I:Inv X pins σ H s)(t:Nat):Inv X pins σ H { s with toks:=t }:=I.un (h':=s.heap) (t':=t) Un.refl I.hok
theorem Inv.kept {t':Nat}(I:Inv X pins σ H s)(k:∀b u,s.heap.get? b=some u->h'.get? b=some u):Inv X pins σ H { s with heap:=h',toks:=t' }:=I.un (Un.kept k) (I.hok.kept k)
theorem Inv.laid {a:Addr}{o:HO}{t':Nat}(I:Inv X pins σ H s)(k:∀b u,s.heap.get? b=some u->h'.get? b=some u)(hp:s.heap.objs.size<=a)(new:ObjOk X.prog X.w (upd H a o) h' a o) :
  Inv X pins σ (upd H a o) { s with heap:=h',toks:=t' }:=I.un (Un.laid k hp (I.hok.fresh hp)) (I.hok.laid k hp new)
theorem Inv.write {x e:Addr}{o:HO}{t':Nat}(I:Inv X pins σ H s)(mu:IU (H x))(he:e=x\/H e=some (.own x))(k:∀b u,b≠e->s.heap.get? b=some u->h'.get? b=some u)(heo:∃u,h'.get? e=some u)
  (new:ObjOk X.prog X.w (upd H x o) h' x o):Inv X pins σ (upd H x o) { s with heap:=h',toks:=t' }:=I.un (Un.write mu he k heo) (I.hok.write mu he k heo new)
theorem Inv.JF {pins':List (Addr×Obj)}(I:Inv X pins σ H s)(h:∀p∈pins',s.heap.get? p.1=some p.2/\H p.1=none/\p.1≠X.env.locals/\p.1∉X.fs/\∀v,p.2.data≠ .cell v):Inv X pins' σ H s:=
 ⟨I.ok,I.os,I.bare,I.base,I.loc,I.cell,I.free,I.freeC,λp hp=>(Ky.mp hp).elim (λz=>I.pin p (KD _ z)) (h p),I.hok,I.len⟩
theorem tq {N:List Str}(hN:N.Nodup){i j:Nat}{x:Str}(a:N[i]? =some x)(b:N[j]? =some x):i=j:=by
 obtain⟨h1,e1⟩:=Ki.mp a
 obtain⟨h2,e2⟩:=Ki.mp b
 exact(List.getElem_inj hN).mp (e1.trans e2.symm)
theorem pC {M:Model}{A:KP}{E:J7->J9->Prop}{i:Nat}{x:Str}{v:V}{u:J7}{Q:Unit->J9->Prop}(I:Inv X pins σ H s)(hN:X.N.Nodup)(hi:X.N[i]? =some x)(hx:Loc X.env.scope x)(r:RelV v u)
  (h:∀s',Inv X pins (σ.set i (some v)) H s'->(∃a,Nc a s.heap s'.heap/\(a=X.env.locals\/X.env.cells.lookup x=some a))->Q () s') (hf:autoParam (X.fn x=true\/X.env.scope.names.lookup x=some .local) aqa._auto_1):wpAny M A (storeName X.env x u) Q E s:=by
 obtain⟨m,hn,hl⟩:=id I.loc
 have hcls:(X.env.scope.kind == .class||(X.env.scope.kind == .module&&X.env.locals != X.env.globals))=false:=by rw[I.ok.kind];rfl
 have hiσ:i<σ.length:=by rw[I.len];exact(Ki.mp hi).1
 have cne:=I.cne
 have tracked:∀{a:Addr} {h':Heap},(∃o,s.heap.get? a=some o/\H a=none)->Nc a s.heap h'->HOk X.prog X.w H h':=λ{a h'} ha hs b ob e=>by
  obtain⟨_,_,hfree⟩:=ha;refine(I.hok b ob e).Jt (λc w' hc q=>(hs.2 c ?_).trans q) (λ_ q=>q) λ_ _ q=>q
  rintro rfl
  rcases hc with rfl | hc
  ·rw[hfree]at e;cases e
  ·rw[hfree]at hc;cases hc
 rcases hx with hk | hk
 ·refine wpAny_storeName_local hk hn (λh' hn' hs=> ?_) hcls
  obtain⟨oL,_,_,hoL,_⟩:=id hn;refine h _ ⟨I.ok,I.os,I.bare,⟨λb o e n hb hx=> ?_,λb o e n hb hx=> ?_,I.base.free,λb o e hx=> ?_,I.base.tups,I.base.frzs,I.base.tbls⟩,⟨_,hn',λj y v' e1 e2 e3=> ?_⟩,λy c e=> ?_,I.free,I.freeC,λp hp=> ?_,tracked ⟨oL,hoL,I.free⟩ hs,by simpa using I.len⟩ ⟨_,hs,.inl rfl⟩
  ·exact(hs.2 b (Lk (Ks (Kl e) I.ok.above))).trans (I.base.keep b o e n hb hx)
  ·obtain⟨sl,e1⟩:=I.base.slot b o e n hb hx
   exact⟨sl,(hs.2 b (Lk (Ks (Kl e) I.ok.above))).trans e1⟩
  ·obtain⟨o',e1⟩:=I.base.there b o e hx
   exact⟨o',(hs.2 b (Lk (Ks (Kl e) I.ok.above))).trans e1⟩
  ·by_cases hj:j=i
   ·subst hj
    rw[hi]at e1;cases e1;rw[KB hiσ]at e2
    cases e2;exact⟨u,r,.inl ⟨hk,by simp⟩⟩
   ·rw[Kv (Mv hj)]at e2
    obtain⟨u',r',q⟩:=hl j y v' e1 e2 e3;refine⟨u',r',?_⟩
    rcases q with⟨k,e⟩ | ⟨k,c,e,z⟩
    ·refine .inl ⟨k,?_⟩
     have:y≠x:=λe=>hj (tq hN e1 (e▸hi))
     simp[this,e]
    ·exact .inr ⟨k,c,e,z.sameBut hs (cne y c e)⟩
  ·obtain⟨w',z⟩:=I.cell y c e
   exact⟨w',z.sameBut hs (cne y c e)⟩
  ·obtain⟨e,n,ne,nf,d⟩:=I.pin p hp
   exact⟨(hs.2 p.1 ne).trans e,n,ne,nf,d⟩
 ·have hfn:X.fn x=true:=by
   rcases hf with z | z
   ·exact z
   ·rw[z]at hk;cases hk
  obtain⟨c,hc⟩:=I.ok.has x (.inl hk);obtain⟨w',z⟩:=I.cell x c hc;refine wpAny_storeName_cell I.ok.kind hk hc z (λh' hc' hs=> ?_)
  obtain⟨oc,hoc,hocd⟩:=id z;refine h { s with heap:=h' } ⟨I.ok,I.os,I.bare,⟨λb o e n hb hx=> ?_,λb o e n hb hx=> ?_,I.base.free,λb o e hx=> ?_,I.base.tups,I.base.frzs,I.base.tbls⟩,⟨m,hn.sameBut hs (Mv (cne x c hc)),λj y v' e1 e2 e3=> ?_⟩,λy c' e=> ?_,I.free,I.freeC,λp hp=> ?_,tracked ⟨oc,hoc,I.freeC x c hc⟩ hs,by simpa using I.len⟩ ⟨c,hs,.inr hc⟩
  ·exact(hs.2 b (Lk (Ks (Kl e) (I.ok.cab x c hfn hc)))).trans (I.base.keep b o e n hb hx)
  ·obtain⟨sl,e1⟩:=I.base.slot b o e n hb hx
   exact⟨sl,(hs.2 b (Lk (Ks (Kl e) (I.ok.cab x c hfn hc)))).trans e1⟩
  ·obtain⟨o',e1⟩:=I.base.there b o e hx
   exact⟨o',(hs.2 b (Lk (Ks (Kl e) (I.ok.cab x c hfn hc)))).trans e1⟩
  ·by_cases hj:j=i
   ·subst hj
    rw[hi]at e1;cases e1;rw[KB hiσ]at e2
    cases e2;exact⟨u,r,.inr ⟨.inl hk,c,hc,hc'⟩⟩
   ·rw[Kv (Mv hj)]at e2
    obtain⟨u',r',q⟩:=hl j y v' e1 e2 e3;refine⟨u',r',?_⟩
    rcases q with q | ⟨k,c',e,z'⟩
    ·exact .inl q
    ·refine .inr ⟨k,c',e,z'.sameBut hs ?_⟩
     rintro rfl
     exact hj (tq hN e1 (I.ok.inj _ _ _ e hc▸hi))
  ·by_cases hcc:c'=c
   ·subst hcc;exact⟨_,hc'⟩
   ·obtain⟨w2,z2⟩:=I.cell y c' e
    exact⟨w2,z2.sameBut hs hcc⟩
  ·obtain⟨e,n,ne,nf,d⟩:=I.pin p hp
   refine⟨(hs.2 p.1 ?_).trans e,n,ne,nf,d⟩
   intro q;rw[q,hoc]at e
   have q':oc=p.2:=KS e;exact d w' (by rw[<-q'];exact hocd)
theorem sC {M:Model}{A:KP}{E:J7->J9->Prop}{i:Nat}{x:Str}{v:V}{u:J7}{Q:Unit->J9->Prop}(I:Inv X pins σ H s)(hN:X.N.Nodup)(hi:X.N[i]? =some x)(hx:Loc X.env.scope x)(r:RelV v u)
  (h:∀s',Inv X pins (σ.set i (some v)) H s'->Q () s') (hf:autoParam (X.fn x=true\/X.env.scope.names.lookup x=some .local) aqa._auto_1):wpAny M A (storeName X.env x u) Q E s:=
 pC I hN hi hx r (λs' I' _=>h s' I') hf
theorem Inv.JE {s':J9}{ch:List Addr}(I:Inv X pins σ H s)(ho:s'.os=s.os)(u:Un (oj X.stack) ch H H' s.heap s'.heap)(hok:HOk X.prog X.w H' s'.heap)(hg:Od s'.gens)
  (hch:∀b∈ch,(b∈X.ex\/X.s₀.heap.objs.size<=b)/\b≠X.env.locals/\(∀x c,X.env.cells.lookup x=some c->c≠b)/\∀p∈X.pn++pins,p.1≠b):Inv X pins σ H' s':=by
 obtain⟨h',g',d',t',o'⟩:=s'
 have e:o'=s.os:=ho;subst e;exact I.call (g':=g') (t':=t') (d':=d') u hok hg hch
end
abbrev XK:=J7->Option Addr->Hp->Prop
abbrev St:=List (Option V)
abbrev VK:=V->Hp->Prop
abbrev TE:=St->Hp->VK->Prop
abbrev TT:=St->Hp->(Bool->Hp->Prop)->Prop
abbrev TA:=St->Hp->(List V->Hp->Prop)->Prop
structure kL where
 nx:St->Hp->Prop
 rt:VK
 bk:St->Hp->Prop:=λ_ _=>False
 ct:St->Hp->Prop:=λ_ _=>False
abbrev TS:=kL->St->Hp->Prop
def EP (X:Cx)(pins:List (Addr×Obj))(σ:St)(Q:VK)(u:J7)(s':J9):Prop:=∃v H',Inv X pins σ H' s'/\RelV v u/\Q v H'
def TP (X:Cx)(pins:List (Addr×Obj))(σ:St)(Q:Bool->Hp->Prop)(b:Bool)(s':J9):Prop:=∃H',Inv X pins σ H' s'/\Q b H'
def AP (X:Cx)(pins:List (Addr×Obj))(σ:St)(Q:List V->Hp->Prop)(us:List J7)(s':J9):Prop:=∃vs H',Inv X pins σ H' s'/\Vals vs us/\Q vs H'
def SP (X:Cx)(pins:List (Addr×Obj))(D:kL)(f:Flow)(s':J9):Prop:=
 match f with
 | .next=> ∃σ' H',Inv X pins σ' H' s'/\D.nx σ' H'
 | .brk=> ∃σ' H',Inv X pins σ' H' s'/\D.bk σ' H'
 | .cont=> ∃σ' H',Inv X pins σ' H' s'/\D.ct σ' H'
 | .ret u=> ∃v σ' H',Inv X pins σ' H' s'/\RelV v u/\D.rt v H'
def PE (X:Cx)(e:Expr)(t:TE):Prop:=
 ∀(pins:List (Addr×Obj)) (s:J9) (σ:St) (H:Hp) (Q:VK),Inv X pins σ H s->t σ H Q->wpAny (model X.prog X.w) X.A (eval e X.env) (EP X pins σ Q) X.xe s
def PT (X:Cx)(e:Expr)(t:TT):Prop:=
 ∀(pins:List (Addr×Obj)) (s:J9) (σ:St) (H:Hp) (Q:Bool->Hp->Prop),Inv X pins σ H s->t σ H Q->wpAny (model X.prog X.w) X.A (isTrue e X.env (eval e X.env)) (TP X pins σ Q) X.xe s
def PW (X:Cx)(e:Expr)(t:TT):Prop:=
 ∀(whole:Sem J7) (pins:List (Addr×Obj)) (s:J9) (σ:St) (H:Hp) (Q:Bool->Hp->Prop),Inv X pins σ H s->t σ H Q->wpAny (model X.prog X.w) X.A (isTrue e X.env whole) (TP X pins σ Q) X.xe s
theorem PW.pt {X:Cx}{e:Expr}{t:TT}(h:PW X e t):PT X e t:=h _
def PA (X:Cx)(es:List Expr)(t:TA):Prop:=
 ∀(pos:Pos) (pins:List (Addr×Obj)) (s:J9) (σ:St) (H:Hp) (Q:List V->Hp->Prop),Inv X pins σ H s->t σ H Q->wpAny (model X.prog X.w) X.A (spliced (backTo pos (Kn es X.env))) (AP X pins σ Q) X.xe s
def PS (X:Cx)(st:Stmt)(t:TS):Prop:=
 ∀(pins:List (Addr×Obj)) (s:J9) (σ:St) (H:Hp) (D:kL),Inv X pins σ H s->t D σ H->wpAny (model X.prog X.w) X.A (exec st X.env) (SP X pins D) X.xe s
def PSs (X:Cx)(st:List Stmt)(t:TS):Prop:=
 ∀(pins:List (Addr×Obj)) (s:J9) (σ:St) (H:Hp) (D:kL),Inv X pins σ H s->t D σ H->wpAny (model X.prog X.w) X.A (execs st X.env) (SP X pins D) X.xe s
theorem bN {α:Type}{t:Sem α}{Q Q':α->J9->Prop}{M:Model}{A:KP}{E:J7->J9->Prop}{s:J9}(h:wpAny M A t Q E s)(hQ:∀a s,Q a s->Q' a s):wpAny M A t Q' E s:=LV h hQ λ_ _ x=>x
section
variable {X:Cx}
def tVar (i:Nat):TE:=λσ H Q=> ∃v,σ[i]? =some (some v)/\Q v H
def tC (v:V):TE:=λ_ H Q=>Q v H
theorem dY {i:Nat}{x:Str}{pos:Pos}(hN:X.N[i]? =some x)(hv:kK X.env.scope x)(hd:autoParam ((x == ("__debug__" : Str))=false) aqb._auto_1)(hcd:autoParam ((x == ("__classdict__" : Str))=false) aqb._auto_1):PE X (.Name x pos) (tVar i):=by
 intro pins s σ H Q I h;obtain⟨v,e,h⟩:=h;obtain⟨m,hn,hl⟩:=I.loc;obtain⟨u,r,l⟩:=hl i x v hN e hv
 have fin:EP X pins σ Q u s:=⟨v,H,I,r,h⟩;rcases l with⟨hk,hm⟩ | ⟨hk,c,hc,hcell⟩
 ·exact wpAny_Name (wpAny_loadName_local I.ok.kind hk hn hm fin) hd
 ·rcases hk with hk | hk
  ·exact wpAny_Name (wpAny_loadName_cell I.ok.kind hk hc hcell fin) hd
  ·exact wpAny_Name (wpAny_loadName_free I.ok.kind hk hc hcell fin hcd) hd
theorem Fm {i j pos}:PE X (.Constant (.int i) j pos) (tC (.int i)):=λ_ _ _ H _ I h=>wpAny_Constant_int ⟨.int i,H,I.tok _,⟨_,rfl⟩,h⟩
theorem Hz {b j pos}:PE X (.Constant (.bool b) j pos) (tC (.bl b)):=λ_ _ _ H _ I h=>Constant_bool ⟨.bl b,H,I,rfl,h⟩
theorem Fi {j pos}:PE X (.Constant .none j pos) (tC .non):=λ_ _ _ H _ I h=>Constant_none ⟨.non,H,I,rfl,h⟩
theorem Ff {x j pos}:PE X (.Constant (.str x) j pos) (tC (.str x)):=λ_ _ _ H _ I h=>Pm ⟨.str x,H,I.tok _,⟨_,rfl⟩,h⟩
def Gl (X:Cx)(x:Str):Prop:=X.env.kindOf x=some .globalImplicit
theorem gB {E:J7->J9->Prop}{pins:List (Addr×Obj)}{s:J9}{σ:St}{H:Hp}{x:Str}{u:J7}{pos:Pos}{Q:J7->J9->Prop}(I:Inv X pins σ H s)(hg:Gl X x)(hm:X.mg x=some u)(h:Q u s)
  (hd:autoParam ((x == ("__debug__" : Str))=false) aqb._auto_1):wpAny (model X.prog X.w) X.A (eval (.Name x pos) X.env) Q E s:=
 ND I.ok.kind hg (Calls.loadGlobal_global (by rw[I.ok.glob];exact I.mod.glob.keeps I.bk) hm h) hd
theorem gC {E:J7->J9->Prop}{pins:List (Addr×Obj)}{s:J9}{σ:St}{H:Hp}{x:Str}{u:J7}{pos:Pos}{Q:J7->J9->Prop}(I:Inv X pins σ H s)(hg:Gl X x)(hm:X.mg x=none)(hv:KQ x=some u)(h:Q u s)
  (hn:autoParam (x≠ "__name__") aqb._auto_1) (hd:autoParam ((x == ("__debug__" : Str))=false) aqb._auto_1):wpAny (model X.prog X.w) X.A (eval (.Name x pos) X.env) Q E s:=by
 obtain⟨mb,h1,h2⟩:=I.mod.blt;exact ND I.ok.kind hg (Calls.loadGlobal_builtin (by rw[I.ok.glob];exact I.mod.glob.keeps I.bk) hm (by rw[I.ok.blt];exact h1.keeps I.bk) ((h2 x hn).trans hv) h) hd
theorem Cz {x:Str}{v:V}{u:J7}{pos:Pos}(hg:Gl X x)(hm:X.mg x=some u)(r:RelV v u)(hd:autoParam ((x == ("__debug__" : Str))=false) aqb._auto_1):PE X (.Name x pos) (tC v):=
 λ_ _ _ H _ I h=>gB I hg hm ⟨v,H,I,r,h⟩ hd
theorem CC {x:Str}{v:V}{u:J7}{pos:Pos}(hg:Gl X x)(hm:X.mg x=none)(hv:KQ x=some u)(r:RelV v u)(hn:autoParam (x≠ "__name__") aqb._auto_1)(hd:autoParam ((x == ("__debug__" : Str))=false) aqb._auto_1):PE X (.Name x pos) (tC v):=
 λ_ _ _ H _ I h=>gC I hg hm hv ⟨v,H,I,r,h⟩ hn hd
variable {a b:Expr}{ta tb:TE}{pos:Pos}
def tB (t:TE):TT:=λσ H Q=>t σ H λx H1=> ∃c,x= .bl c/\Q c H1
theorem E6 {e:Expr}{t:TE}(h:PE X e t)(he:autoParam (∀whole,isTrue e X.env whole=(do let v <-whole;standAt e.pos;holding [v] (truthy v))) aqc._auto_1):PT X e (tB t):=by
 intro pins s σ H Q I hw;refine isTrue_plain (bN (h pins s σ H _ I hw) λv s1 ⟨x,H1,I1,r1,q1⟩=> ?_) (he _)
 obtain⟨d,rfl,q⟩:=q1;cases r1;exact Le ⟨H1,I1,q⟩
variable {tA tB':TT}{bA:List Expr}
def tAnd (t u:TT):TT:=λσ H Q=>t σ H λc H1=>if c=true then u σ H1 Q else Q false H1
def tOr (t u:TT):TT:=λσ H Q=>t σ H λc H1=>if c=true then Q true H1 else u σ H1 Q
def tNot (t:TT):TT:=λσ H Q=>t σ H λc H1=>Q (!c) H1
theorem Cn (ha:PT X a tA):PW X (.BoolOp .And [a] pos) tA:=by
 intro wh pins s σ H Q I h;refine isTrue_and (bN (ha pins s σ H Q I h) λc s1 e=> ?_)
 cases c with
 | true=>exact isTrue_and_nil e
 | false=>exact e
theorem zh (ha:PT X a tA):PW X (.BoolOp .Or [a] pos) tA:=by
 intro wh pins s σ H Q I h;refine isTrue_or (bN (ha pins s σ H Q I h) λc s1 e=> ?_)
 cases c with
 | false=>exact isTrue_or_nil e
 | true=>exact e
theorem E5 (ha:PT X a tA)(hb:PW X (.BoolOp .And (b::bA) pos) tB'):PW X (.BoolOp .And (a::b::bA) pos) (tAnd tA tB'):=by
 intro wh pins s σ H Q I h;refine isTrue_and (bN (ha pins s σ H _ I h) λc s1 hh_=> ?_)
 obtain⟨H1,I1,q1⟩:=hh_
 cases c with
 | true=>exact hb wh pins s1 σ H1 Q I1 q1
 | false=>exact⟨H1,I1,q1⟩
theorem DF (ha:PT X a tA)(hb:PW X (.BoolOp .Or (b::bA) pos) tB'):PW X (.BoolOp .Or (a::b::bA) pos) (tOr tA tB'):=by
 intro wh pins s σ H Q I h;refine isTrue_or (bN (ha pins s σ H _ I h) λc s1 hh_=> ?_)
 obtain⟨H1,I1,q1⟩:=hh_
 cases c with
 | true=>exact⟨H1,I1,q1⟩
 | false=>exact hb wh pins s1 σ H1 Q I1 q1
theorem E7 (ha:PT X a tA):PT X (.UnaryOp .Not a pos) (tNot tA):=by
 intro pins s σ H Q I h;exact isTrue_not (ha pins s σ H (λc H1=>Q (!c) H1) I h)
def G1 (ta tb:TE):TE:=λσ H Q=>ta σ H λx H1=> ∃c,x= .bl c/\if c=true then tb σ H1 Q else Q (.bl false) H1
def tOrV (ta tb:TE):TE:=λσ H Q=>ta σ H λx H1=> ∃c,x= .bl c/\if c=true then Q (.bl true) H1 else tb σ H1 Q
def GQ (ta:TE):TE:=λσ H Q=>ta σ H λx H1=> ∃c,x= .bl c/\Q (.bl (!c)) H1
theorem Fg {op}{t:TE}(h:PE X a t):PE X (.BoolOp op [a] pos) t:=λpins s σ H Q I hw=>BoolOp_one (h pins s σ H Q I hw)
theorem Fp (ha:PE X a ta)(hb:PE X (.BoolOp .And (b::bA) pos) tb):PE X (.BoolOp .And (a::b::bA) pos) (G1 ta tb):=by
 intro pins s σ H Q I h;refine BoolOp_and (bN (ha pins s σ H _ I h) λv s1 hh_=> ?_)
 obtain⟨x,H1,I1,r1,q1⟩:=hh_;obtain⟨c,rfl,q1⟩:=q1;cases r1;refine Le ?_
 cases c with
 | true=>exact hb pins s1 σ H1 Q I1 q1
 | false=>exact⟨.bl false,H1,I1,rfl,q1⟩
theorem Hy (ha:PE X a ta)(hb:PE X (.BoolOp .Or (b::bA) pos) tb):PE X (.BoolOp .Or (a::b::bA) pos) (tOrV ta tb):=by
 intro pins s σ H Q I h;refine BoolOp_or (bN (ha pins s σ H _ I h) λv s1 hh_=> ?_)
 obtain⟨x,H1,I1,r1,q1⟩:=hh_;obtain⟨c,rfl,q1⟩:=q1;cases r1;refine Le ?_
 cases c with
 | false=>exact hb pins s1 σ H1 Q I1 q1
 | true=>exact⟨.bl true,H1,I1,rfl,q1⟩
theorem Fh (ha:PE X a ta):PE X (.UnaryOp .Not a pos) (GQ ta):=by
 intro pins s σ H Q I h;refine UnaryOp_ (bN (ha pins s σ H _ I h) λv s1 hh_=> ?_)
 obtain⟨x,H1,I1,r1,q1⟩:=hh_;obtain⟨c,rfl,q1⟩:=q1;cases r1;exact not_of (Le ⟨.bl (!c),H1,I1,rfl,q1⟩)
def tIf (t:TT)(ta tb:TE):TE:=λσ H Q=>t σ H λc H1=>if c=true then ta σ H1 Q else tb σ H1 Q
theorem zu {c:Expr}(hc:PT X c tA)(ha:PE X a ta)(hb:PE X b tb):PE X (.IfExp c a b pos) (tIf tA ta tb):=by
 intro pins s σ H Q I h;refine wpAny_IfExp (bN (hc pins s σ H _ I h) λd s1 hh_=> ?_)
 obtain⟨H1,I1,q1⟩:=hh_
 cases d with
 | true=>exact ha pins s1 σ H1 Q I1 q1
 | false=>exact hb pins s1 σ H1 Q I1 q1
end
def SqL (K:J5)(H:Hp)(a:Addr)(xs:List V):Prop:=
 Rd H a (.lst xs) ∨
  ∃(o:Obj) (its:Array J7) (n:Nat),K.lookup a=some o/\o.cls= .type "list"/\o.dict=none/\o.data= .seq its n/\its.size<=sizeLine/\Vals xs its.toList
def SqT (K:J5)(H:Hp)(a:Addr)(xs:List V):Prop:=
 Rd H a (.tup xs) ∨
  ∃(o:Obj) (its:Array J7) (n:Nat),K.lookup a=some o/\o.cls= .type "tuple"/\o.data= .seq its n/\its.size<=sizeLine/\Vals xs its.toList
def absV:J7->Option V
 | .none=>some .non
 | .bool b=>some (.bl b)
 | .int i _=>some (.int i)
 | .str x _=>some (.str x)
 | .bytes b _=>some (.byt b)
 | .float b _=>some (.flt b)
 | .ref a=>some (.ref a)
 | .type n=>some (.ty n)
 | _=>none
theorem RelV.abs {x:V}{u:J7}(r:RelV x u):absV u=some x:=by
 cases x with
 | non=>cases r;rfl
 | bl _=>cases r;rfl
 | int _=>obtain⟨t,rfl⟩:=r;rfl
 | str _=>obtain⟨t,rfl⟩:=r;rfl
 | byt _=>obtain⟨t,rfl⟩:=r;rfl
 | flt _=>obtain⟨t,rfl⟩:=r;rfl
 | ref _=>cases r;rfl
 | ty _=>cases r;rfl
theorem RelV.inj {x y:V}{u:J7}(r:RelV x u)(q:RelV y u):x=y:=KS (r.abs.symm.trans q.abs)
theorem Vals.inj:∀{xs ys:List V} {us:List J7},Vals xs us->Vals ys us->xs=ys
 | _,_,_,.nil,.nil=>rfl
 | _,_,_,.cons r t,.cons r' t'=>by rw[r.inj r',Vals.inj t t']
section
variable {X:Cx}{pins:List (Addr×Obj)}{σ:St}{H:Hp}{s:J9}{a:Addr}{xs ys:List V}
theorem SqL.of {K:J5}(h:H a=some (.lst xs)):SqL K H a xs:=.inl (.inl h)
theorem SqT.of {K:J5}(h:H a=some (.tup xs)):SqT K H a xs:=.inl (.inl h)
theorem Inv.list (I:Inv X pins σ H s)(h:SqL X.K H a xs):∃its:List J7,Vals xs its/\PlainL s.heap a its.toArray/\xs.length<=sizeLine:=by
 rcases h with h | ⟨o,its,n,hk,hc,hd,hs,hz,r⟩
 ·obtain⟨z,its,n,r,e⟩:=h.ok I.hok
  exact⟨its,r,⟨_,n,e,rfl,rfl,rfl⟩,z⟩
 ·refine⟨its.toList,r,⟨o,n,I.kIn a o hk,hc,hd,by simpa using hs⟩,?_⟩
  have e:=r.length;simp only[LN]at e;omega
theorem Inv.tuple (I:Inv X pins σ H s)(h:SqT X.K H a xs):∃its:List J7,Vals xs its/\Q6 s.heap a its.toArray/\xs.length<=sizeLine:=by
 rcases h with h | ⟨o,its,n,hk,hc,hs,hz,r⟩
 ·obtain⟨z,its,r,p⟩:=h.ok I.hok
  exact⟨its,r,p,z⟩
 ·refine⟨its.toList,r,⟨o,I.kIn a o hk,hc,n,by simpa using hs⟩,?_⟩
  have e:=r.length;simp only[LN]at e;omega
theorem Inv.Jx (I:Inv X pins σ H s)(h:SqL X.K H a xs)(h':SqL X.K H a ys):xs=ys:=by
 obtain⟨its,r,⟨o,n,e,_,_,d⟩,_⟩:=I.list h;obtain⟨its',r',⟨o',n',e',_,_,d'⟩,_⟩:=I.list h';rw[e]at e';cases e';rw[d]at d';injection d' with d1 _
 have:its=its':=by simpa using congrArg Ox d1
 subst this;exact r.inj r'
theorem Inv.Jy (I:Inv X pins σ H s)(h:SqT X.K H a xs)(h':SqT X.K H a ys):xs=ys:=by
 obtain⟨its,r,⟨o,e,_,n,d⟩,_⟩:=I.tuple h;obtain⟨its',r',⟨o',e',_,n',d'⟩,_⟩:=I.tuple h';rw[e]at e';cases e';rw[d]at d';injection d' with d1 _
 have:its=its':=by simpa using congrArg Ox d1
 subst this;exact r.inj r'
end
abbrev Cx.FB (X:Cx)(E:J7->J9->Prop):Cx:={ X with xe:=E }
abbrev Cx.nox (X:Cx):Cx:=X.FB λ_ _=>False
theorem Cx.Ok.FB {X:Cx}(ok:X.Ok)(E:J7->J9->Prop):(X.FB E).Ok:=
 ⟨ok.mod,ok.kind,ok.glob,ok.blt,ok.above,ok.inj,ok.has,ok.cab,ok.hd,ok.frames,ok.stk,ok.exf,ok.bs,ok.bsz,ok.noex,ok.exfs,ok.funs,ok.frf⟩
theorem Cx.Ok.IR {X:Cx}{E:J7->J9->Prop}(ok:(X.FB E).Ok):X.Ok:=
 ⟨ok.mod,ok.kind,ok.glob,ok.blt,ok.above,ok.inj,ok.has,ok.cab,ok.hd,ok.frames,ok.stk,ok.exf,ok.bs,ok.bsz,ok.noex,ok.exfs,ok.funs,ok.frf⟩
section
variable {X:Cx}{pins:List (Addr×Obj)}{σ:St}{H:Hp}{s:J9}{E:J7->J9->Prop}
theorem Inv.FB (I:Inv X pins σ H s)(E:J7->J9->Prop):Inv (X.FB E) pins σ H s:=⟨I.ok.FB E,I.os,I.bare,I.base,I.loc,I.cell,I.free,I.freeC,I.pin,I.hok,I.len⟩
theorem Inv.IR (I:Inv (X.FB E) pins σ H s):Inv X pins σ H s:=⟨I.ok.IR,I.os,I.bare,I.base,I.loc,I.cell,I.free,I.freeC,I.pin,I.hok,I.len⟩
theorem SP.IR {D:kL}{f:Flow}{s':J9}(h:SP (X.FB E) pins D f s'):SP X pins D f s':=by
 cases f with
 | next=>obtain⟨σ',H',I,q⟩:=h;exact⟨σ',H',I.IR,q⟩
 | brk=>obtain⟨σ',H',I,q⟩:=h;exact⟨σ',H',I.IR,q⟩
 | cont=>obtain⟨σ',H',I,q⟩:=h;exact⟨σ',H',I.IR,q⟩
 | ret u=>obtain⟨v,σ',H',I,r,q⟩:=h;exact⟨v,σ',H',I.IR,r,q⟩
theorem PSs.nox {st:List Stmt}{t:TS}(h:PSs X.nox st t):PSs X st t:=λpins s σ H D I hw=>
 LV (h pins s σ H D (I.FB _) hw) (λ_ _ q=>q.IR) λ_ _ z=>LU z
end
section
variable {X:Cx}{st:Stmt}{bA:List Stmt}{t u:TS}{e:Expr}{te:TE}{pos:Pos}
def GU:TS:=λD σ H=>D.nx σ H
def tSeq (t u:TS):TS:=λD σ H=>t { D with nx:=u D } σ H
theorem v8:PSs X [] GU:=λ_ _ σ H _ I h=>MR ⟨σ,H,I,h⟩
theorem ng (h1:PS X st t)(h2:PSs X bA u):PSs X (st::bA) (tSeq t u):=by
 intro pins s σ H D I h;refine Qx (bN (h1 pins s σ H { D with nx:=u D } I h) λf s1 q=> ?_)
 cases f with
 | next=>
  obtain⟨σ',H',I',q⟩:=q
  exact h2 pins s1 σ' H' D I' q
 | ret v=>exact q
 | brk=>exact q
 | cont=>exact q
theorem qL (h1:PS X st t):PSs X [st] t:=by
 intro pins s σ H D I h;refine Qx (bN (h1 pins s σ H D I h) λf s1 q=> ?_)
 cases f with
 | next=>exact MR q
 | ret v=>exact q
 | brk=>exact q
 | cont=>exact q
def GZ:TS:=λD σ H=>D.ct σ H
theorem sU:PS X (.Continue pos) GZ:=λ_ _ σ H _ I h=>wpAny_Continue ⟨σ,H,I,h⟩
theorem Inv.quiet {pins:List (Addr×Obj)}{σ:St}{H:Hp}{s:J9}(I:Inv X pins σ H s):interactive X.env=false:=by simp[interactive,I.ok.kind]
def GX (te:TE):TS:=λD σ H=>te σ H λ_ H1=>D.nx σ H1
theorem km (he:PE X e te)(hs:autoParam (KM e none pos.line X.env=pure false) aqd._auto_1):PS X (.Expr e pos) (GX te):=by
 intro pins s σ H D I h;exact wpAny_Expr_any (bN (he pins s σ H _ I h) λv s1 ⟨x,H1,I1,r1,q1⟩=>⟨σ,H1,I1,q1⟩) I.quiet hs
def tRet (te:TE):TS:=λD σ H=>te σ H D.rt
theorem uQ (he:PE X e te):PS X (.Return (some e) pos) (tRet te):=by
 intro pins s σ H D I h;exact wpAny_Return_some (bN (he pins s σ H _ I h) λv s1 ⟨x,H1,I1,r1,q1⟩=>⟨x,σ,H1,I1,r1,q1⟩)
def tIfS (c:TT)(t u:TS):TS:=λD σ H=>c σ H λb H1=>if b=true then t D σ H1 else u D σ H1
theorem zk {c:Expr}{a b:List Stmt}{tc:TT}(hc:PT X c tc)(ha:PSs X a t)(hb:PSs X b u):PS X (.If c a b pos) (tIfS tc t u):=by
 intro pins s σ H D I h;refine wpAny_If (bN (hc pins s σ H _ I h) λd s1 hh_=> ?_)
 obtain⟨H1,I1,q1⟩:=hh_
 cases d with
 | true=>exact ha pins s1 σ H1 D I1 q1
 | false=>exact hb pins s1 σ H1 D I1 q1
end
abbrev TG:=V->St->Hp->(St->Hp->Prop)->Prop
abbrev Dq:=List V->St->Hp->(St->Hp->Prop)->Prop
def PG (X:Cx)(target:Expr)(t:TG):Prop:=
 ∀(pins:List (Addr×Obj)) (s:J9) (σ:St) (H:Hp) (v:V) (u:J7) (Q:St->Hp->Prop),Inv X pins σ H s->RelV v u->t v σ H Q →
  wpAny (model X.prog X.w) X.A (assign target X.env u) (λ_ s'=> ∃σ' H',Inv X pins σ' H' s'/\Q σ' H') X.xe s
def PGs (X:Cx)(ts:List Expr)(t:Dq):Prop:=
 ∀(pins:List (Addr×Obj)) (s:J9) (σ:St) (H:Hp) (vs:List V) (us:List J7) (Q:St->Hp->Prop),Inv X pins σ H s->Vals vs us->t vs σ H Q →
  wpAny (model X.prog X.w) X.A (assignInOrder ((Ly ts X.env).map (·.2)) us) (λ_ s'=> ∃σ' H',Inv X pins σ' H' s'/\Q σ' H') X.xe s
section
variable {X:Cx}{pos:Pos}
def Av (i:Nat):TG:=λv σ H Q=>Q (σ.set i (some v)) H
theorem wb {i:Nat}{x:Str}(hN:X.N.Nodup)(hi:X.N[i]? =some x)(hx:Loc X.env.scope x)(hf:autoParam (X.fn x=true\/X.env.scope.names.lookup x=some .local) aqa._auto_1):PG X (.Name x pos) (Av i):=by
 intro pins s σ H v u Q I r h;exact PV (sC I hN hi hx r (λs' I'=>⟨_,H,I',h⟩) hf)
def gNil:Dq:=λvs σ H Q=>vs= []/\Q σ H
def Iz (t:TG)(u:Dq):Dq:=λvs σ H Q=> ∃v r,vs=v::r/\t v σ H λσ' H'=>u r σ' H' Q
theorem Cy:PGs X [] gNil:=by
 intro pins s σ H vs us Q I r h;obtain⟨e,h⟩:=h;subst e;cases r;exact assignInOrder_nil ⟨σ,H,I,h⟩
theorem zp {e:Expr}{es:List Expr}{t:TG}{u:Dq}(h1:PG X e t)(h2:PGs X es u)
  (hs:autoParam ((Ly (e::es) X.env).map (·.2)=assign e X.env::(Ly es X.env).map (·.2)) aqd._auto_1):PGs X (e::es) (Iz t u):=by
 intro pins s σ H vs us Q I r h;obtain⟨v,vr,e1,h⟩:=h;subst e1
 cases r with
 | cons r rr=>
  rw[hs];refine assignInOrder_cons (bN (h1 pins s σ H _ _ _ I r h) λ_ s1 hh_=> ?_)
  obtain⟨σ1,H1,I1,q1⟩:=hh_;exact h2 pins s1 σ1 H1 _ _ Q I1 rr q1
def gTup (K:J5)(n:Nat)(t:Dq):TG:=λv σ H Q=> ∃a xs,v= .ref a/\SqT K H a xs/\xs.length=n/\t xs σ H Q
theorem Fd {es:List Expr}{k:Nat}{t:Dq}{n:Nat}(hc:X.calm=true)(h:PGs X es t)
  (hn:autoParam ((Ly es X.env).length=n) aqd._auto_1) (hst:autoParam ((Ly es X.env).findIdx? (·.1)=none) aqd._auto_1):PG X (.Tuple es k pos) (gTup X.K n t):=by
 intro pins s σ H v u Q I r hw;obtain⟨a,xs,e1,hq,hl,hw⟩:=hw;subst e1;cases r;obtain⟨its,rv,ht,hz⟩:=I.tuple hq;refine assign_Tuple_tuple (I.ok.hd hc) ht (by simp[hn,<-hl,rv.length]) hst λh' hx=> ?_
 have I1:Inv X pins σ H { s with heap:=h' }:=I.kept (t':=s.toks) λb o e=>hx b o (Lk (Kl e)) e
 exact h pins _ σ H xs _ Q I1 (by simpa using rv) hw
def BQ (te:TE)(g:TG):TS:=λD σ H=>te σ H λx H1=>g x σ H1 D.nx
theorem E8 {tg e:Expr}{te:TE}{g:TG}(he:PE X e te)(hg:PG X tg g)(hs:autoParam (Py [tg] e pos.line X.env=pure false) aqd._auto_1)(hw:autoParam (Pz [tg] e X.env=pure none) aqd._auto_1)
  (h1:autoParam ((Ly [tg] X.env).map (·.2)= [assign tg X.env]) aqd._auto_1):PS X (.Assign [tg] e pos) (BQ te g):=by
 intro pins s σ H D I h;refine wpAny_Assign_stores (bN (he pins s σ H _ I h) λv s1 ⟨x,H1,I1,r1,q1⟩=> ?_) hs hw
 rw[h1];exact bN (hg pins s1 σ H1 x v _ I1 r1 q1) λ_ s2 q=>q
theorem kR {i:Nat}{x:Str}{e:Expr}{te:TE}{pos':Pos}(hN:X.N.Nodup)(hi:X.N[i]? =some x)(hx:Loc X.env.scope x)(he:PE X e te)(hs:autoParam (KM e (some (.Name x pos')) pos.line X.env=pure false) aqd._auto_1)(hf:autoParam (X.fn x=true\/X.env.scope.names.lookup x=some .local) aqa._auto_1) :
  PS X (.Assign [.Name x pos'] e pos) (BQ te (Av i)):=by
 intro pins s σ H D I h;refine wpAny_Assign_Name (bN (he pins s σ H _ I h) λv s1 ⟨y,H1,I1,r1,q1⟩=> ?_) hs
 exact sC I1 hN hi hx r1 (λs2 I2=>⟨_,H1,I2,q1⟩) hf
end
section
variable {X:Cx}{pos:Pos}
def uG (c:TT)(tb:TS):TS:=λD σ H=> ∃W:Nat->St->Hp->Prop,(∃m,W m σ H)/\∀m σ H,W m σ H →
 c σ H λb H1=>if b=true then ∃N:St->Hp->Prop,(∀σ' H',N σ' H'->∃m',m'<m/\W m' σ' H')/\tb { D with nx:=N,ct:=N,bk:=D.nx } σ H1 else D.nx σ H1
theorem zj {c:Expr}{body:List Stmt}{tc:TT}{tb:TS}(hp:PassesOwn (model X.prog X.w) X.A X.env X.xe)(hc:PT X c tc)(hb:PSs X body tb):PS X (.While c body [] pos) (uG tc tb):=by
 intro pins s σ H D I h;obtain⟨W,⟨m0,w0⟩,turn⟩:=h;refine wpAny_While (codeAny_whileLoop (λn s'=> ∃σ' H',Inv X pins σ' H' s'/\W n σ' H') ?_ m0 ⟨σ,H,I,w0⟩)
 rintro n s1 ⟨σ1,H1,I1,w1⟩
 refine Q0 hp (bN (hc pins s1 σ1 H1 _ I1 (turn n σ1 H1 w1)) λb s2 hh_=> ?_)
 obtain⟨H2,I2,q2⟩:=hh_
 cases b with
 | true=>
  obtain⟨N,hN,q2⟩:=q2;rw[if_pos rfl];refine Q0 hp (bN (hb pins s2 σ1 H2 _ I2 q2) λf s3 q3=> ?_)
  cases f with
  | next=>
   obtain⟨σ3,H3,I3,n3⟩:=q3;obtain⟨m',hm,w3⟩:=hN σ3 H3 n3
   exact⟨m',hm,σ3,H3,I3,w3⟩
  | cont=>
   obtain⟨σ3,H3,I3,n3⟩:=q3;obtain⟨m',hm,w3⟩:=hN σ3 H3 n3
   exact⟨m',hm,σ3,H3,I3,w3⟩
  | brk=>exact q3
  | ret v=>exact q3
 | false=>
  rw[if_neg Kt];exact MR ⟨σ1,H2,I2,q2⟩
end
structure It where
 go:Nat->Hp->Prop
 yld:Nat->Hp->V->Hp->Prop
 stop:Nat->Hp->Prop
def oH (X:Cx)(pins:List (Addr×Obj))(H:Hp)(b:Addr):Prop:=
 H b=none/\b≠X.env.locals/\b∉X.fs/\(b∈X.ex\/X.s₀.heap.objs.size<=b)/\(∀x c,X.env.cells.lookup x=some c->c≠b)/\∀p∈X.pn++pins,p.1≠b
theorem Inv.JD {X:Cx}{pins:List (Addr×Obj)}{σ:St}{H H':Hp}{s:J9}{b:Addr}(I:Inv X pins σ H s)(hb:s.heap.objs.size<=b)(hn:H' b=none):oH X pins H' b:=by
 refine⟨hn,NI (Ks I.lt hb),I.J3 hb,.inr (KW I.sz hb),λx c e z=> ?_,λp hp z=> ?_⟩
 ·obtain⟨v,q⟩:=I.cell x c e
  exact absurd (Ks q.lt (by rw[z];exact hb)) (KI _)
 ·exact absurd (Ks (Kl (I.pin p hp).1) (by rw[z];exact hb)) (KI _)
structure yC (P:KA)(w:K1)(K:J5)(tg:Expr)(J:It)(fp:List Addr)(it:Addr)(tn:Nat->Heap->Prop):Prop where
 mem:it∈fp
 obj:∀i h,tn i h->∀b∈fp,∃o,h.get? b=some o/\∀v,o.data≠ .cell v
 keep:∀i h h',tn i h->(∀b∈fp,∀o,h.get? b=some o->h'.get? b=some o)->tn i h'
 item:∀(X:Cx),X.prog=P->X.w=w->X.K=K->X.calm=true->∀(i:Nat) (pins:List (Addr×Obj)) (s:J9) (σ:St) (H:Hp) (E:J7->J9->Prop),Inv X pins σ H s->(∀b∈fp,oH X pins H b)->tn i s.heap->J.go i H →
  wpAny (model P w) X.A (pyNext (.ref it)) (λr s1=> ∃u,r=some u ∧
   wpAny (model P w) X.A (MS tg (.ref it) u) (λ_ s2=> ∃x H',Inv X pins σ H' s2/\RelV x u/\J.yld i H x H'/\tn (i+1) s2.heap/\∀b∈fp,H' b=none) E s1) E s
 done:∀(X:Cx),X.prog=P->X.w=w->X.K=K->X.calm=true->∀(i:Nat) (pins:List (Addr×Obj)) (s:J9) (σ:St) (H:Hp) (E:J7->J9->Prop),Inv X pins σ H s->(∀b∈fp,oH X pins H b)->tn i s.heap->J.stop i H →
  wpAny (model P w) X.A (pyNext (.ref it)) (λr s1=>r=none/\Inv X pins σ H s1) E s
 self:∀(A:KP) (i:Nat) (s:J9) (Q:J7->J9->Prop) (E:J7->J9->Prop),tn i s.heap->Q (.ref it) s->wpAny (model P w) A (pyIter (.ref it)) Q E s
abbrev TI:=St->Hp->(It->Hp->Prop)->Prop
def PIE (X:Cx)(pins:List (Addr×Obj))(σ:St)(tg:Expr)(R:It->Hp->Prop)(itv:J7)(s2:J9):Prop:=
 ∃(it:Addr) (fp:List Addr) (tn:Nat->Heap->Prop) (J:It) (H':Hp),itv= .ref it/\Inv X pins σ H' s2/\yC X.prog X.w X.K tg J fp it tn/\tn 0 s2.heap/\(∀b∈fp,oH X pins H' b)/\R J H'
def PI (X:Cx)(tg iter:Expr)(wi:TI):Prop:=
 ∀(pins:List (Addr×Obj)) (s:J9) (σ:St) (H:Hp) (R:It->Hp->Prop),Inv X pins σ H s->wi σ H R →
  wpAny (model X.prog X.w) X.A (eval iter X.env) (λv s1=>wpAny (model X.prog X.w) X.A (pyIter v) (PIE X pins σ tg R) X.xe s1) X.xe s
theorem w4 {M:Model}{A:KP}{E:J7->J9->Prop}{s:J9}{tg:Expr}{it:Addr}{u:J7}{o:Obj}{n:String}{vs:Array J7}{Q:Unit->J9->Prop}(ho:s.heap.get? it=some o)(hc:o.cls= .type n)(hd:o.data= .fields vs)
  (hn:["enumerate","zip","dict_itemiterator","dict_reverseitemiterator","odict_iterator","itertools.zip_longest","itertools.pairwise"].contains n=false) (hQ:Q () s):wpAny M A (MS tg (.ref it) u) Q E s:=by
 unfold MS
 cases tg <;> first
  | exact Kp hQ
  | (cases u <;> first
    | exact Kp hQ
    | (refine Kb (wpAny_load ho ?_)
       rw[hc,hd]
       show wpAny M A (if (["enumerate","zip","dict_itemiterator","dict_reverseitemiterator","odict_iterator","itertools.zip_longest","itertools.pairwise"].contains n&&vs[0]? == some (rawInt _))=true then _ else _) Q E s
       rw[if_neg (by intro h;rw[hn,Bool.false_and]at h;cases h)]
       exact Kp hQ))
def Itl (K:J5)(a:Addr):It:=
 ⟨λi H=> ∃xs x,SqL K H a xs/\xs[i]? =some x,λi H x H'=>H'=H/\∀xs,SqL K H a xs->xs[i]? =some x,λi H=> ∃xs,SqL K H a xs/\xs.length<=i⟩
def Itt (K:J5)(a:Addr):It:=
 ⟨λi H=> ∃xs x,SqT K H a xs/\xs[i]? =some x,λi H x H'=>H'=H/\∀xs,SqT K H a xs->xs[i]? =some x,λi H=> ∃xs,SqT K H a xs/\xs.length<=i⟩
def Itr (lo:Int)(n:Nat):It:=⟨λi _=>i<n,λi H x H'=>H'=H/\x= .int (lo+i),λi _=>n<=i⟩
theorem xH {P:KA}{w:K1}{K:J5}{tg:Expr}(a it:Addr):yC P w K tg (Itl K a) [it] it (λi h=>h.IsListIter it a i) where
 mem:=by simp
 obj:=λi h st b hb=>by
  have e:b=it:=by simpa using hb
  subst e;obtain⟨o,e,c,d⟩:=st;exact⟨o,e,λv z=>by rw[d]at z;cases z⟩
 keep:=λi h h' st k=>st.at λo e=>k it (by simp) o e
 item:=by
  intro X hP hw hK hc i pins s σ H E I hf st hg;subst hP hw hK;obtain⟨xs,x,hq,hx⟩:=hg;obtain⟨its,rv,p,hz⟩:=I.list hq;obtain⟨u,hu,ru⟩:=rv.get hx;obtain⟨f0,f1,f2,f3,f4,f5⟩:=hf it (by simp)
  refine Oq st p.isList (x:=u) (by simpa using hu) λh' st' sb=> ?_
  have I1:Inv X pins σ H { s with heap:=h' }:=I.turned (t':=s.toks) (λb o hb e=>(sb.2 b hb).trans e) f0 f1 f3 f4 f5
  obtain⟨o,e,c,d⟩:=id st';exact⟨u,rfl,w4 (s:={ s with heap:=h' }) e c d (by decide) ⟨x,H,I1,ru,⟨rfl,λys hy=>by rw[I.Jx hy hq];exact hx⟩,st',λb hb=>(hf b hb).1⟩⟩
 done:=by
  intro X hP hw hK hc i pins s σ H E I hf st hg;subst hP hw hK;obtain⟨xs,hq,hx⟩:=hg;obtain⟨its,rv,p,hz⟩:=I.list hq;obtain⟨f0,f1,f2,f3,f4,f5⟩:=hf it (by simp)
  have hl:=rv.length;exact OQ (I.ok.hd hc) st p.isList (by simp;omega) λh' eb=>⟨rfl,I.turned (t':=s.toks) (λb o hb e=>eb b o hb e) f0 f1 f3 f4 f5⟩
 self:=λ_ _ _ _ _ st h=>wpAny_pyIter_listiter st h
theorem uE {P:KA}{w:K1}{K:J5}{tg:Expr}(a it:Addr):yC P w K tg (Itt K a) [it] it (λi h=>h.IsTupleIter it a i) where
 mem:=by simp
 obj:=λi h st b hb=>by
  have e:b=it:=by simpa using hb
  subst e;obtain⟨o,e,c,d⟩:=st;exact⟨o,e,λv z=>by rw[d]at z;cases z⟩
 keep:=λi h h' st k=>st.at λo e=>k it (by simp) o e
 item:=by
  intro X hP hw hK hc i pins s σ H E I hf st hg;subst hP hw hK;obtain⟨xs,x,hq,hx⟩:=hg;obtain⟨its,rv,p,hz⟩:=I.tuple hq;obtain⟨u,hu,ru⟩:=rv.get hx;obtain⟨f0,f1,f2,f3,f4,f5⟩:=hf it (by simp)
  refine wpAny_pyNext_tuple_item st (show s.heap.IsTuple a its.toArray from p) (x:=u) (by simpa using hu) λh' st' sb=> ?_
  have I1:Inv X pins σ H { s with heap:=h' }:=I.turned (t':=s.toks) (λb o hb e=>(sb.2 b hb).trans e) f0 f1 f3 f4 f5
  obtain⟨o,e,c,d⟩:=id st';exact⟨u,rfl,w4 (s:={ s with heap:=h' }) e c d (by decide) ⟨x,H,I1,ru,⟨rfl,λys hy=>by rw[I.Jy hy hq];exact hx⟩,st',λb hb=>(hf b hb).1⟩⟩
 done:=by
  intro X hP hw hK hc i pins s σ H E I hf st hg;subst hP hw hK;obtain⟨xs,hq,hx⟩:=hg;obtain⟨its,rv,p,hz⟩:=I.tuple hq;obtain⟨f0,f1,f2,f3,f4,f5⟩:=hf it (by simp)
  have hl:=rv.length;exact wpAny_pyNext_tuple_end (I.ok.hd hc) st (show s.heap.IsTuple a its.toArray from p) (by simp;omega) λh' eb=>⟨rfl,I.turned (t':=s.toks) (λb o hb e=>eb b o hb e) f0 f1 f3 f4 f5⟩
 self:=λ_ _ _ _ _ st h=>wpAny_pyIter_tupleiter st h
theorem uF {P:KA}{w:K1}{K:J5}{tg:Expr}(it:Addr)(lo:Int)(n:Nat):yC P w K tg (Itr lo n) [it] it (λi h=>IsRangeIter h it (lo+(i:Nat)*1) ((n:Int) - (i:Nat)) 1) where
 mem:=by simp
 obj:=λi h st b hb=>by
  have e:b=it:=by simpa using hb
  subst e
  exact⟨_,st,λv z=>by
   have z':QK _=Data.cell v:=z;cases z'⟩
 keep:=λi h h' st k=>k it (by simp) _ st
 item:=by
  intro X hP hw hK hc i pins s σ H E I hf st hg;subst hP hw hK;obtain⟨f0,f1,f2,f3,f4,f5⟩:=hf it (by simp)
  have W:=Walks.range (prog:=X.prog) (w:=X.w) (I.ok.hd hc) it lo 1 n;refine W.item i s _ _ hg st λv h' tk hv st' kk=> ?_
  obtain⟨t,rfl⟩:=hv
  have I1:Inv X pins σ H { s with heap:=h',toks:=tk }:=I.turned (λb o hb e=>kk b o (by simpa using hb) e) f0 f1 f3 f4 f5
  refine⟨_,rfl,w4 (s:={ s with heap:=h',toks:=tk }) (n:="range_iterator") st' rfl rfl (by decide) ⟨.int (lo+i),H,I1,⟨t,?_⟩,⟨rfl,rfl⟩,st',λb hb=>(hf b hb).1⟩⟩
  rw[Int.mul_one]
 done:=by
  intro X hP hw hK hc i pins s σ H E I hf st hg;subst hP hw hK;obtain⟨f0,f1,f2,f3,f4,f5⟩:=hf it (by simp)
  exact wpAny_pyNext_range_end (I.ok.hd hc) st (by have:n<=i:=hg;omega) λh' eb=>⟨rfl,I.turned (t':=s.toks) (λb o hb e=>eb b o hb e) f0 f1 f3 f4 f5⟩
 self:=λ_ _ _ _ _ st h=>wpAny_pyIter_rangeiter st h
section
variable {X:Cx}{tg:Expr}
def Iw (K:J5)(tl:TE):TI:=λσ H R=>tl σ H λx H1=> ∃a,x= .ref a/\(∃xs,SqL K H1 a xs)/\R (Itl K a) H1
def iTup (K:J5)(tl:TE):TI:=λσ H R=>tl σ H λx H1=> ∃a,x= .ref a/\(∃xs,SqT K H1 a xs)/\R (Itt K a) H1
theorem Cv {l:Expr}{tl:TE}(hl:PE X l tl):PI X tg l (Iw X.K tl):=by
 intro pins s σ H R I h;refine bN (hl pins s σ H _ I h) λv s1 hh_=> ?_
 obtain⟨x,H1,I1,r1,q1⟩:=hh_;obtain⟨a,e,⟨xs,hq⟩,q⟩:=q1;subst e;cases r1;obtain⟨its,rv,p,hz⟩:=I1.list hq;refine N0 p.isList ?_
 refine⟨s1.heap.objs.size,[s1.heap.objs.size],_,_,H1,rfl,I1.kept (t':=s1.toks) λb o e=>Kg _ e,xH a _,⟨_,Kw _ rfl,rfl,rfl⟩,λb hb=> ?_,q⟩
 have e:b=s1.heap.objs.size:=by simpa using hb
 subst e;exact I1.JD (Kj _) (I1.hok.fresh (Kj _))
theorem Fc {l:Expr}{tl:TE}(hl:PE X l tl):PI X tg l (iTup X.K tl):=by
 intro pins s σ H R I h;refine bN (hl pins s σ H _ I h) λv s1 hh_=> ?_
 obtain⟨x,H1,I1,r1,q1⟩:=hh_;obtain⟨a,e,⟨xs,hq⟩,q⟩:=q1;subst e;cases r1;obtain⟨its,rv,p,hz⟩:=I1.tuple hq;refine MT (show s1.heap.IsTuple a its.toArray from p) ?_
 refine⟨s1.heap.objs.size,[s1.heap.objs.size],_,_,H1,rfl,I1.kept (t':=s1.toks) λb o e=>Kg _ e,uE a _,⟨_,Kw _ rfl,rfl,rfl⟩,λb hb=> ?_,q⟩
 have e:b=s1.heap.objs.size:=by simpa using hb
 subst e;exact I1.JD (Kj _) (I1.hok.fresh (Kj _))
theorem sT {pins:List (Addr×Obj)}{σ:St}{H:Hp}{s:J9}{R:It->Hp->Prop}{E:J7->J9->Prop}{lo hi:Int}{t u v:Tok}{tk:Nat}(I:Inv X pins σ H s)(h1 : -(2 ^ 62)<=lo)(h2:lo<2 ^ 62)(h3 : -(2 ^ 62)<=hi)(h4:hi<2 ^ 62)
  (q:R (Itr lo (hi - lo).toNat) H):wpAny (model X.prog X.w) X.A (pyIter (.ref s.heap.objs.size)) (PIE X pins σ tg R) E { s with heap:=s.heap.push { cls:=.type "range",data:=.fields #[.int lo t,.int hi u,.int 1 v] },toks:=tk }:=by
 refine wpAny_pyIter_range (IsRange.new ..) (small_one h1 h2 h3 h4) ?_
 have I1:Inv X pins σ H { s with heap:=s.heap.push { cls:=.type "range",data:=.fields #[.int lo t,.int hi u,.int 1 v] },toks:=tk }:=I.kept λb o e=>Kg _ e
 refine⟨(s.heap.push { cls:=.type "range",data:=.fields #[.int lo t,.int hi u,.int 1 v] }).objs.size,[(s.heap.push { cls:=.type "range",data:=.fields #[.int lo t,.int hi u,.int 1 v] }).objs.size],_,_,H,rfl,
  I1.kept (t':=tk) λb o e=>Kg _ e,uF _ lo (hi - lo).toNat,?_,λb hb=> ?_,q⟩
 ·have e1:lo+((0:Nat):Int)*1=lo:=by simp
  have e2:(((hi - lo).toNat:Nat):Int) - ((0:Nat):Int)=Builtin.Range.rangeSize lo hi 1:=by rw[rangeSize_one];split <;> omega
  show IsRangeIter _ _ (lo+((0:Nat):Int)*1) ((((hi - lo).toNat:Nat):Int) - ((0:Nat):Int)) 1
  rw[e1,e2];exact Kw _ rfl
 ·have e:b=(s.heap.push { cls:=.type "range",data:=.fields #[.int lo t,.int hi u,.int 1 v] }).objs.size:=by simpa using hb
  subst e;exact I1.JD (Kj _) (I1.hok.fresh (Kj _))
def tFor (wi:TI)(g:TG)(tb:TS):TS:=λD σ H=>wi σ H λJ H1=> ∃W:Nat->Nat->St->Hp->Prop,(∃m,W 0 m σ H1)/\∀i m σ H,W i m σ H →
 (J.stop i H/\D.nx σ H)\/(J.go i H/\∃N:St->Hp->Prop,(∀σ' H',N σ' H'->∃m',m'<m/\W (i+1) m' σ' H')/\∀x H',J.yld i H x H'->g x σ H' λσ2 H2=>tb { D with nx:=N,ct:=N,bk:=D.nx } σ2 H2)
def nh (fp:List Addr)(h:Heap):List (Addr×Obj):=fp.filterMap λb=>(h.get? b).map λo=>(b,o)
theorem gz {fp:List Addr}{h:Heap}{b:Addr}{o:Obj}(hb:b∈fp)(e:h.get? b=some o):(b,o)∈nh fp h:=NJ.mpr ⟨b,hb,by rw[e];rfl⟩
theorem xZ {fp:List Addr}{h:Heap}{p:Addr×Obj}(hp:p∈nh fp h):p.1∈fp/\h.get? p.1=some p.2:=by
 obtain⟨b,hb,e⟩:=NJ.mp hp
 cases q:h.get? b with
 | none=>rw[q]at e;cases e
 | some o=>
  rw[q]at e
  have e':(b,o)=p:=KS e;subst e';exact⟨hb,q⟩
theorem Inv.pinned {pins:List (Addr×Obj)}{σ:St}{H:Hp}{s:J9}{fp:List Addr}(I:Inv X pins σ H s)(hf:∀b∈fp,oH X pins H b)(ho:∀b∈fp,∃o,s.heap.get? b=some o/\∀v,o.data≠ .cell v):Inv X (pins++nh fp s.heap) σ H s:=
 I.JF λp hp=>(Ky.mp hp).elim (λz=>I.pin p (Kr _ z)) λz=>by
  obtain⟨hb,e⟩:=xZ z;obtain⟨f0,f1,f2,_⟩:=hf p.1 hb;obtain⟨o,e',d⟩:=ho p.1 hb;rw[e]at e';cases e';exact⟨e,f0,f1,f2,d⟩
theorem Inv.Jq {pins pl:List (Addr×Obj)}{σ:St}{H:Hp}{s:J9}(I:Inv X (pins++pl) σ H s):Inv X pins σ H s:=I.JF λp hp=>I.pin p (Kr _ (KD _ hp))
end
abbrev R2:=V->V->Hp->VK->Prop
def sd (X:Cx)(f:J7->J7->Sem J7)(r:R2):Prop:=
 ∀(pins:List (Addr×Obj)) (s:J9) (σ:St) (H:Hp) (x y:V) (v u:J7) (Q:VK),Inv X pins σ H s->RelV x v->RelV y u->r x y H Q →
  wpAny (model X.prog X.w) X.A (f v u) (EP X pins σ Q) X.xe s
def UnR (X:Cx)(f:J7->Sem J7)(r:V->Hp->VK->Prop):Prop:=
 ∀(pins:List (Addr×Obj)) (s:J9) (σ:St) (H:Hp) (x:V) (v:J7) (Q:VK),Inv X pins σ H s->RelV x v->r x H Q →
  wpAny (model X.prog X.w) X.A (f v) (EP X pins σ Q) X.xe s
def CallR (X:Cx)(f:J7)(r:List V->Hp->VK->Prop):Prop:=
 ∀(pins:List (Addr×Obj)) (s:J9) (σ:St) (H:Hp) (xs:List V) (us:List J7) (Q:VK),Inv X pins σ H s->Vals xs us->r xs H Q →
  wpAny (model X.prog X.w) X.A (call f us) (EP X pins σ Q) X.xe s
def tUn (r:V->Hp->VK->Prop)(ta:TE):TE:=λσ H Q=>ta σ H λx H1=>r x H1 Q
def rI (C:Int->Int->Prop)(g:Int->Int->V):R2:=λx y H Q=> ∃i j,x= .int i/\y= .int j/\C i j/\Q (g i j) H
def Ex (g:Int->Int->V):R2:=λx y H Q=> ∃i j,x= .int i/\y= .int j/\Q (g i j) H
def rU (g:Int->V):V->Hp->VK->Prop:=λx H Q=> ∃i,x= .int i/\Q (g i) H
section
variable {X:Cx}{a b c:Expr}{ta tb tc:TE}{pos:Pos}
theorem Hw {op:UnaryOp}{r:V->Hp->VK->Prop}(ho:UnR X (unaryOp op) r)(ha:PE X a ta):PE X (.UnaryOp op a pos) (tUn r ta):=by
 intro pins s σ H Q I h;exact UnaryOp_ (bN (ha pins s σ H _ I h) λv s1 ⟨x,H1,I1,r1,q1⟩=>ho pins s1 σ H1 x v Q I1 r1 q1)
theorem opI {f:J7->J7->Sem J7}{C:Int->Int->Prop}{g:Int->Int->Int}
  (rule:∀(i j:Int) (t u:Tok) (s:J9) (Q:J7->J9->Prop) (E:J7->J9->Prop),C i j->Q (.int (g i j) s.toks) { s with toks:=s.toks+1 }->wpAny (model X.prog X.w) X.A (f (.int i t) (.int j u)) Q E s) :
  sd X f (rI C λi j=> .int (g i j)):=by
 intro pins s σ H x y v u Q I rx ry h;obtain⟨i,j,rfl,rfl,hc,q⟩:=h;obtain⟨t,rfl⟩:=rx;obtain⟨t',rfl⟩:=ry;exact rule i j t t' s _ _ hc ⟨.int (g i j),H,I.tok _,⟨_,rfl⟩,q⟩
theorem HD {f:J7->J7->Sem J7}{g:Int->Int->Int}
  (rule:∀(i j:Int) (t u:Tok) (s:J9) (Q:J7->J9->Prop) (E:J7->J9->Prop),Q (.int (g i j) s.toks) { s with toks:=s.toks+1 }->wpAny (model X.prog X.w) X.A (f (.int i t) (.int j u)) Q E s) :
  sd X f (Ex λi j=> .int (g i j)):=by
 intro pins s σ H x y v u Q I rx ry h;obtain⟨i,j,rfl,rfl,q⟩:=h;obtain⟨t,rfl⟩:=rx;obtain⟨t',rfl⟩:=ry;exact rule i j t t' s _ _ ⟨.int (g i j),H,I.tok _,⟨_,rfl⟩,q⟩
theorem HE {f:J7->J7->Sem J7}{g:Int->Int->Bool}
  (rule:∀(i j:Int) (t u:Tok) (s:J9) (Q:J7->J9->Prop) (E:J7->J9->Prop),Q (.bool (g i j)) s->wpAny (model X.prog X.w) X.A (f (.int i t) (.int j u)) Q E s) :
  sd X f (Ex λi j=> .bl (g i j)):=by
 intro pins s σ H x y v u Q I rx ry h;obtain⟨i,j,rfl,rfl,q⟩:=h;obtain⟨t,rfl⟩:=rx;obtain⟨t',rfl⟩:=ry;exact rule i j t t' s _ _ ⟨.bl (g i j),H,I,rfl,q⟩
def CDiv (i j:Int):Prop:=0<j/\j<1073741824
def CMul (i j:Int):Prop:=(-(2 ^ 64)<i/\i<2 ^ 64)\/(-(2 ^ 64)<j/\j<2 ^ 64)
theorem CMul.ok {i j:Int}(h:CMul i j):IntMulOk i j:=by
 rcases h with⟨h1,h2⟩ | ⟨h1,h2⟩
 ·exact .of_left (intBits_le_64 h1 h2)
 ·exact .of_right (intBits_le_64 h1 h2)
theorem Fz:sd X (LG .Add) (Ex λi j=> .int (i+j)):=HD λ_ _ _ _ _ _ _ q=>add_int q
theorem Fs:sd X (LG .Sub) (Ex λi j=> .int (i - j)):=HD λ_ _ _ _ _ _ _ q=>sub_int q
theorem Fu:sd X (LG .Mult) (rI CMul λi j=> .int (i*j)):=opI λ_ _ _ _ _ _ _ hc q=>mul_int q hc.ok
theorem CI:sd X (LG .FloorDiv) (rI CDiv λi j=> .int (i / j)):=opI λi j _ _ _ _ _ hc q=>by
 have h1:(0:Int)<j:=hc.1
 have h2:j<1073741824:=hc.2;exact floordiv_int (by omega) (by rw[Int.fdiv_eq_ediv_of_nonneg i (by omega)];exact q) (.inl (PyProof.noPylong_small (by omega)))
theorem Fv:sd X (LG .Mod) (rI (λ_ j=>0<j) λi j=> .int (i % j)):=opI λi j _ _ _ _ _ hc q=>by
 have h1:(0:Int)<j:=hc;exact mod_int' (by omega) (by rw[Int.fmod_eq_emod_of_nonneg i (by omega)];exact q)
theorem unI {f:J7->Sem J7}{g:Int->Int}
  (rule:∀(i:Int) (t:Tok) (s:J9) (Q:J7->J9->Prop) (E:J7->J9->Prop),Q (.int (g i) s.toks) { s with toks:=s.toks+1 }->wpAny (model X.prog X.w) X.A (f (.int i t)) Q E s) :
  UnR X f (rU λi=> .int (g i)):=by
 intro pins s σ H x v Q I rx h;obtain⟨i,rfl,q⟩:=h;obtain⟨t,rfl⟩:=rx;exact rule i t s _ _ ⟨.int (g i),H,I.tok _,⟨_,rfl⟩,q⟩
theorem El:UnR X (unaryOp .USub) (rU λi=> .int (-i)):=unI λ_ _ _ _ _ q=>neg_int q
end
section
variable {X:Cx}{a b c:Expr}{ta tb tc:TE}{pos:Pos}
theorem Az {pins:List (Addr×Obj)}{σ:St}{H:Hp}{s:J9}{Q:VK}{k k':Bool}(I:Inv X pins σ H s)(q:Q (.bl k) H)(e:k=k'):EP X pins σ Q (.bool k') s:=by
 subst e;exact⟨.bl k,H,I,rfl,q⟩
theorem HB:sd X (K2 .Lt) (Ex λi j=> .bl (decide (i<j))):=HE λ_ _ _ _ _ _ _ q=>lt_int q
theorem HC:sd X (K2 .LtE) (Ex λi j=> .bl (decide (i<=j))):=HE λ_ _ _ _ _ _ _ q=>le_int q
theorem Fw:sd X (K2 .Is) (λx y H Q=>y= .non/\Q (.bl (decide (x= .non))) H):=by
 intro pins s σ H x y v u Q I rx ry h;obtain⟨rfl,q⟩:=h;cases ry;refine is_none_gen (Az I q ?_)
 cases x <;> first
  | (cases rx;rfl)
  | (obtain⟨t,rfl⟩:=rx;rfl)
theorem CH:sd X (K2 .IsNot) (λx y H Q=>y= .non/\Q (.bl (!decide (x= .non))) H):=by
 intro pins s σ H x y v u Q I rx ry h;obtain⟨rfl,q⟩:=h;cases ry;refine isnot_none_gen (Az I q ?_)
 cases x <;> first
  | (cases rx;rfl)
  | (obtain⟨t,rfl⟩:=rx;rfl)
theorem nW:(sizeLine:Nat)<2 ^ 63:=by rw[Ny];decide
theorem uV:sd X (LG .Add) (λx y H Q=> ∃i j,x= .str i/\y= .str j/\i.length+j.length<=sizeLine/\Q (.str (i++j)) H):=by
 intro pins s σ H x y v u Q I rx ry h;obtain⟨i,j,rfl,rfl,hz,q⟩:=h;obtain⟨t,rfl⟩:=rx;obtain⟨t',rfl⟩:=ry;exact add_str (λt' tk=>⟨.str (i++j),H,I.tok _,⟨_,rfl⟩,q⟩) hz
theorem jo {x:V}{us:List J7}(r:Vals [x] us):∃u,us= [u]/\RelV x u:=by
 cases r with
 | cons r1 r2=>cases r2;exact⟨_,rfl,r1⟩
theorem DC {x y:V}{us:List J7}(r:Vals [x,y] us):∃u w',us= [u,w']/\RelV x u/\RelV y w':=by
 cases r with
 | cons r1 r2=>
  cases r2 with
  | cons r3 r4=>cases r4;exact⟨_,_,rfl,r1,r3⟩
theorem yz (hc:X.calm=true):CallR X (.builtin "min") (λxs H Q=> ∃i j,xs= [.int i,.int j]/\Q (.int (if j<i then j else i)) H):=by
 intro pins s σ H xs us Q I r h;obtain⟨i,j,rfl,q⟩:=h;obtain⟨u,w',rfl,⟨t,rfl⟩,⟨t',rfl⟩⟩:=DC r;refine min_two_ints (I.ok.hd hc) λh' tk k=>⟨_,H,I.kept k,?_,q⟩
 by_cases hj:j<i
 ·rw[if_pos hj,if_pos hj];exact⟨_,rfl⟩
 ·rw[if_neg hj,if_neg hj];exact⟨_,rfl⟩
theorem yA:CallR X (.type "int") (λxs H Q=>(∃i,xs= [.int i]/\Q (.int i) H)\/∃k,xs= [.bl k]/\Q (.int (if k then 1 else 0)) H):=by
 intro pins s σ H xs us Q I r h;rcases h with⟨i,rfl,q⟩ | ⟨k,rfl,q⟩
 ·obtain⟨u,rfl,t,rfl⟩:=jo r
  exact call_int_int ⟨.int i,H,I,⟨_,rfl⟩,q⟩
 ·obtain⟨u,rfl,r1⟩:=jo r
  cases r1;exact call_int_bool ⟨.int (if k then 1 else 0),H,I.tok _,⟨_,rfl⟩,q⟩
end
structure ObjM (h:Heap)(x dx C:Addr)(mA:Str->Option J7):Prop where
 obj:h.get? x=some (LM C dx)
 ns:h.Ns1 dx mA
 ne:dx≠x
theorem yd {h:Heap}{dx:Addr}{mA:Str->Option J7}(n:h.Ns1 dx mA):∃od,h.get? dx=some od/\∀name,NN name od=some (mA name):=by
 obtain⟨o,es,ep,ho,hd,hk,_,hm⟩:=n;refine⟨o,ho,λname=> ?_⟩
 have e:=hm name;unfold nsFind findBy at e;rw[<-Pn]at e
 unfold NN;rw[hd]
 dsimp only
 split
 ·rename_i y q
  rw[q]at e;exact congrArg some e
 ·rename_i q
  rw[q]at e
  have a:es.toList.any (·.refKey)=false:=by
   rw[List.any_eq_false];intro y hy;obtain⟨z,t,hkey⟩:=hk y (Array.mem_toList_iff.mp hy);simp[DictEntry.refKey,hkey]
  have a':¬ es.toList.any (·.refKey)=true:=by rw[a];exact Kt
  rw[if_neg a'];exact congrArg some e
theorem ObjM.look {h:Heap}{x dx C:Addr}{mA:Str->Option J7}(I:ObjM h x dx C mA):∃od,PySem.W.InstAt h x (LM C dx) C (some od)/\∀name,NN name od=some (mA name):=
 let ⟨od,ho,hl⟩:=yd I.ns
 ⟨od,⟨I.obj,rfl,rfl,ho⟩,hl⟩
section
variable {prog:KA}{w:K1}{A:KP}{E:J7->J9->Prop}{s:J9}{K:J5}{x dx C f:Addr}{mA:Str->Option J7}{name:Str}{v:J7}
theorem mL {expr:Bool}{Q:J7->J9->Prop}(X:K.In s.heap)(I:ObjM s.heap x dx C mA)(hg:Nj K C name=true)(hh:NR K C=true)
  (ha:LA K (.ref C) name=some none) (hv:mA name=some v) (hv':Qo v=true) (h:Q v { s with toks:=s.toks+1 }) :
  wpAny (model prog w) A (getAttr (.ref x) name expr) Q E s:=by
 obtain⟨od,J,hl⟩:=I.look;exact PySem.W.get_value X J (Nr hg).1 (PySem.W.findObj_own hh ha rfl (by rw[hl,hv])) hv' h
theorem As {pl:Sem Bool}{Q:J7×List J7->J9->Prop}(X:K.In s.heap)(I:ObjM s.heap x dx C mA)(hg:Nj K C name=true)
  (hf:LA K (.ref C) name=some (some (.ref f))) (ht:P7 K (.ref f)=true) (hv:mA name=none) (h:Q (.ref f,[.ref x]) s) :
  wpAny (model prog w) A (MU (.ref x) name pl) Q E s:=by
 obtain⟨od,J,hl⟩:=I.look;exact PySem.W.method_fn X J (Nr hg).1 (Nr hg).2 hf (beq_iff_eq.mp ht) (by show(NN name od).map (·.isSome)=some false;rw[hl,hv];rfl) h
theorem BW {ns:List Str}{Q:Unit->J9->Prop}(X:K.In s.heap)(I:ObjM s.heap x dx C mA)
  (hs:LA K (.ref C) "__setattr__" =some (some (.builtin "object.__setattr__"))) (hp:PK K C=true) (ht:Ov K C name=some none) (hh:NR K C=true)
  (hw:P8 mA ns) (hsz:ns.length<=sizeLine)
  (h:∀h',ObjM h' x dx C (λy=>if y=name then some v else mA y)->Nc dx s.heap h'->Q () { s with heap:=h',toks:=s.toks+2 }) :
  wpAny (model prog w) A (setAttr (.ref x) name v) Q E s:=by
 obtain⟨od,J,hl⟩:=I.look;refine PySem.W.set_plain X J hs (PySem.W.osa_open (s:={ s with toks:=s.toks+1 }) (r:=none) X J hp ht λb=> ?_)
 obtain⟨cd,hc,hd'⟩:=PySem.W.any_some hh
 have hx:s.heap.get? x=some ⟨.ref C,some dx,.plain,#[]⟩:=I.obj;refine Kb (Kp (Kb (Kb (wpAny_loadPart hx (Kb (PySem.W.Looks.here (s:={ s with toks:=s.toks+1 }) (PySem.W.looks_clsIn X hc) ?_))))))
 rw[hd'];refine Kp (a:=some dx) (Kb (Kp (Kb ?_)))
 refine wpAny_nsSet1 (s:={ s with toks:=s.toks+1 }) I.ns λh' hn2 hs2=> ?_
 obtain⟨oD,esD,epD,hoD,hdD,hcD⟩:=hn2.count (PySem.Within.cons name v hw);refine Kb (wpAny_lookBehind hoD (by rw[hdD];exact pastItsLine_dict (KW hcD (by rw[Kd];omega))) ?_)
 exact Kp (h _ ⟨(hs2.2 _ (Mv I.ne)).trans I.obj,hn2,I.ne⟩ hs2)
theorem zP {R:Qj->J9->Prop}{vs:List J7}{kw:List (Str×J7)}(X:K.In s.heap)(hm:QC K C=true)
  (hi:LA K (.ref C) "__init__" =some (some (.ref f))) (hf:PySem.W.typeIn K (.ref f)=some (.type "function"))
  (h:codeAny (model prog w) (A.under (.builtin "type.__call__" ⟨.ref C::vs,kw⟩)) (.call (.ref f) ⟨.ref (s.heap.objs.size+1)::vs,kw⟩) (PySem.W.InitBack (s.heap.objs.size+1) R)
   { s with heap:=(s.heap.push Lj).push (LM C s.heap.objs.size) }) :
  codeAny (model prog w) A (.call (.ref C) ⟨vs,kw⟩) R s:=by
 obtain⟨hh,g,d,t,os⟩:=s;exact PySem.W.make_core (PySem.W.makes_of X hm) (PySem.W.looks_findIn X hi) (λself=>PySem.W.bind_fn X self hf) (.inl rfl) h
end
def putF (f:Str)(v:V):List (Str×V)->List (Str×V)
 | [] => [(f,v)]
 | (g,x)::r=>if g=f then(g,v)::r else(g,x)::putF f v r
theorem lN (f g:Str)(v:V):∀fs:List (Str×V),(putF f v fs).lookup g=if g=f then some v else fs.lookup g
 | [] =>by
  show Lu g [(f,v)] =_
  by_cases h:g=f
  ·have hb:(g == f)=true:=beq_iff_eq.mpr h
   simp only[Lu,hb,if_pos h]
  ·have hb:(g == f)=false:=beq_eq_false_iff_ne.mpr h
   simp only[Lu,hb,if_neg h]
 | (k,x)::r=>by
  have ih:=lN f g v r;rw[show putF f v ((k,x)::r)=(if k=f then(k,v)::r else(k,x)::putF f v r)from rfl]
  by_cases hk:k=f
  ·rw[if_pos hk]
   by_cases h:g=k
   ·have hb:(g == k)=true:=beq_iff_eq.mpr h
    simp only[Lu,hb,if_pos (h.trans hk)]
   ·have hb:(g == k)=false:=beq_eq_false_iff_ne.mpr h
    simp only[Lu,hb,if_neg (λe:g=f=>h (e.trans hk.symm))]
  ·rw[if_neg hk]
   by_cases h:g=k
   ·have hb:(g == k)=true:=beq_iff_eq.mpr h
    simp only[Lu,hb,if_neg (λe:g=f=>hk (h.symm.trans e))]
   ·have hb:(g == k)=false:=beq_eq_false_iff_ne.mpr h
    simp only[Lu,hb];exact ih
theorem lp (f:Str)(v:V):∀fs:List (Str×V),f∈(putF f v fs).map (·.1)/\∀g,g∈fs.map (·.1)->g∈(putF f v fs).map (·.1)
 | [] =>⟨by simp[putF],λg h=>by simp at h⟩
 | (k,x)::r=>by
  obtain⟨i1,i2⟩:=lp f v r;rw[show putF f v ((k,x)::r)=(if k=f then(k,v)::r else(k,x)::putF f v r)from rfl]
  by_cases hk:k=f
  ·rw[if_pos hk]
   subst hk;exact⟨by simp,λg h=>by simpa using h⟩
  ·rw[if_neg hk]
   refine⟨?_,λg h=> ?_⟩
   ·rw[Ka]
    exact J6 _ i1
   ·rw[Ka]at h ⊢
    rcases Kf.mp h with e | e
    ·exact Kf.mpr (.inl e)
    ·exact J6 _ (i2 g e)
theorem lP (f:Str)(v:V):∀fs:List (Str×V),(putF f v fs).length<=fs.length+1
 | [] =>by simp[putF]
 | (k,x)::r=>by
  have ih:=lP f v r;rw[show putF f v ((k,x)::r)=(if k=f then(k,v)::r else(k,x)::putF f v r)from rfl]
  by_cases hk:k=f
  ·rw[if_pos hk,Kd,Kd];omega
  ·rw[if_neg hk,Kd,Kd];omega
theorem RelO.some_of {v:V}{o:Option J7}(r:RelO (some v) o):∃u,o=some u/\RelV v u:=by
 cases o with
 | none=>exact(show False from r).elim
 | some u=>exact⟨u,rfl,r⟩
theorem RelO.none_of {o:Option J7}(r:RelO none o):o=none:=by
 cases o with
 | none=>rfl
 | some u=>exact(show False from r).elim
theorem yo {v:V}{u:J7}(r:RelV v u):Qo u=true:=by
 cases v with
 | non=>cases (show u=KR from r);rfl
 | bl b=>cases (show u=Lc b from r);rfl
 | int i=>obtain⟨t,e⟩:=(show ∃t,u=Lq i t from r);cases e;rfl
 | str x=>obtain⟨t,e⟩:=(show ∃t,u=Lr x t from r);cases e;rfl
 | byt b=>obtain⟨t,e⟩:=(show ∃t,u=Value.bytes b t from r);cases e;rfl
 | flt b=>obtain⟨t,e⟩:=(show ∃t,u=QF b t from r);cases e;rfl
 | ref a=>cases (show u=KG a from r);rfl
 | ty n=>cases (show u=Np n from r);rfl
section
variable {P:KA}{w:K1}{H H':Hp}{h h':Heap}{a C dx:Addr}{fs fs':List (Str×V)}
theorem mK (hok:HOk P w H h)(e:H a=some (.ins C dx fs)):∃mA,ObjM h a dx C mA/\(∀f,RelO (fs.lookup f) (mA f))/\P8 mA (fs.map (·.1))/\fs.length<=1000/\H dx=some (.own a):=by
 obtain⟨d,z,ne,ob,mA,n,r,q⟩:=(show ObjOk P w H h a (.ins C dx fs)from hok a _ e)
 exact⟨mA,⟨ob,n,ne⟩,r,q,z,d⟩
end
structure Cls (K:J5)(C:Addr):Prop where
 pg:Nj K C Str.empty=true
 hd:NR K C=true
 po:PK K C=true
 sa:LA K (.ref C) "__setattr__" =some (some (.builtin "object.__setattr__"))
theorem Cls.get {K:J5}{C:Addr}(c:Cls K C)(f:Str):Nj K C f=true:=c.pg
def NoAttr (K:J5)(C:Addr)(f:Str):Prop:=LA K (.ref C) f=some none
theorem NoAttr.JU {K:J5}{C:Addr}{f:Str}(n:NoAttr K C f):Ov K C f=some none:=by
 unfold Ov;rw[show LA K (.ref C) f=some none from n]
 rfl
structure pw (K:J5)(C:Addr)(m:Str)(f:Addr):Prop where
 at_:LA K (.ref C) m=some (some (.ref f))
 fn:P7 K (.ref f)=true
 kp:LW K (.ref f)=true
section
variable {X:Cx}{pins:List (Addr×Obj)}{σ:St}{H:Hp}{s:J9}{a C dx:Addr}{fs:List (Str×V)}{f:Str}{v:V}{A:KP}{E:J7->J9->Prop}
theorem vk {b:Bool}{Q:J7->J9->Prop}(I:Inv X pins σ H s)(e:H a=some (.ins C dx fs))(c:Cls X.K C)(n:NoAttr X.K C f)(l:fs.lookup f=some v)
  (h:∀u s',Inv X pins σ H s'->RelV v u->Q u s'):wpAny (model X.prog X.w) A (getAttr (.ref a) f b) Q E s:=by
 obtain⟨mA,O,r,_,_,_⟩:=mK I.hok e;obtain⟨u,hu,ru⟩:=RelO.some_of (v:=v) (o:=mA f) (by rw[<-l];exact r f)
 exact mL I.kIn O (c.get f) c.hd n hu (yo ru) (h u _ (I.tok _) ru)
theorem gE {m:Str}{g:Addr}{pl:Sem Bool}{Q:J7×List J7->J9->Prop}(I:Inv X pins σ H s)(e:H a=some (.ins C dx fs))(c:Cls X.K C)(k:pw X.K C m g)(l:fs.lookup m=none)
  (h:Q (.ref g,[.ref a]) s):wpAny (model X.prog X.w) A (MU (.ref a) m pl) Q E s:=by
 obtain⟨mA,O,r,_,_,_⟩:=mK I.hok e
 have hn:mA m=none:=RelO.none_of (by rw[<-l];exact r m)
 exact As I.kIn O (c.get m) k.at_ k.fn hn h
theorem uK {y:V}{u:J7}{Q:Unit->J9->Prop}(I:Inv X pins σ H s)(e:H a=some (.ins C dx fs))(c:Cls X.K C)(n:NoAttr X.K C f)(hl:fs.length<1000)(ry:RelV y u)
  (h:∀s',Inv X pins σ (upd H a (.ins C dx (putF f y fs))) s'->Q () s'):wpAny (model X.prog X.w) A (setAttr (.ref a) f u) Q E s:=by
 obtain⟨mA,O,r,wi,_,ho⟩:=mK I.hok e
 have hz:(fs.map (·.1)).length<=sizeLine:=by rw[Kc,Ny];omega
 refine BW I.kIn O c.sa c.po n.JU c.hd wi hz λh' O' sb=>h _ ?_
 have hd:∃o,h'.get? dx=some o:=let ⟨o,_,_,e',_⟩:=O'.ns;⟨o,e'⟩
 refine I.write (x:=a) (e:=dx) (by rw[e];exact L7) (.inr ho) (λb q hb z=>(sb.2 b hb).trans z) hd ?_
 refine⟨by rw[aE O.ne];exact ho,?_,O.ne,O'.obj,_,O'.ns,λg=> ?_,λg hg=> ?_⟩
 ·have:=lP f y fs;omega
 ·show RelO ((putF f y fs).lookup g) (if g=f then some u else mA g)
  rw[lN]
  by_cases q:g=f
  ·rw[if_pos q,if_pos q];exact ry
  ·rw[if_neg q,if_neg q];exact r g
 ·by_cases q:g=f
  ·rw[q];exact(lp f y fs).1
  ·refine(lp f y fs).2 g (wi g λz=>hg ?_)
   show(if g=f then some u else mA g)=none
   rw[if_neg q];exact z
theorem Inv.made (I:Inv X pins σ H s):Inv X pins σ (upd (upd H s.heap.objs.size (.own (s.heap.objs.size+1))) (s.heap.objs.size+1) (.ins C s.heap.objs.size []))
  { s with heap:=(s.heap.push Lj).push (LM C s.heap.objs.size) }:=by
 have e1:(s.heap.push Lj).get? s.heap.objs.size=some Lj:=Kw s.heap rfl
 have e2:((s.heap.push Lj).push (LM C s.heap.objs.size)).get? (s.heap.objs.size+1)=some (LM C s.heap.objs.size):=by
  have:=Kw (s.heap.push Lj) (o:=LM C s.heap.objs.size) rfl
  rwa [LZ]at this
 have e3:(s.heap.push Lj).Ns s.heap.objs.size (λ_=>none):=⟨Lj,#[],_,e1,rfl,(λe he=>absurd he (by simp)),λ_=>rfl⟩
 have I1:=I.laid (a:=s.heap.objs.size) (o:=.own (s.heap.objs.size+1)) (h':=s.heap.push Lj) (t':=s.toks) (λb u q=>Kg _ q) (Kj _) ⟨_,e1⟩
 refine I1.laid (a:=s.heap.objs.size+1) (o:=.ins C s.heap.objs.size []) (t':=s.toks) (λb u q=>Kg _ q) (Nd (LZ _ _)) ?_
 have ne:s.heap.objs.size≠s.heap.objs.size+1:=Lk (Oh _);refine⟨by rw[aE ne,aO],LP _,ne,e2,λ_=>none,(Heap.Ns1.of_empty e3).at λo q=>Kg _ q,λ_=>L7,λy hy=>absurd rfl hy⟩
theorem Dn {prog:KA}{w:K1}{env:Env}{e:Expr}{f:Str}{pos:Pos}{s:J9}{Q:J7->J9->Prop}(hb:KH e f env (eval e env)=eval e env)
  (h:wpAny (model prog w) A (eval e env) (λo s₁=>wpAny (model prog w) A (getAttr o f true) Q E s₁) E s):wpAny (model prog w) A (eval (.Attribute e f pos) env) Q E s:=
 Attribute_any_ h (by rw[arm_eval_Attribute,hb])
end
def tFld (K:J5)(ta:TE)(f:Str):TE:=λσ H Q=>ta σ H λx H1=> ∃a C dx fs v,x= .ref a/\H1 a=some (.ins C dx fs)/\Cls K C/\NoAttr K C f/\fs.lookup f=some v/\Q v H1
def sFld (K:J5)(ta tv:TE)(f:Str):TS:=λD σ H=>tv σ H λy H1=>ta σ H1 λx H2=> ∃a C dx fs,x= .ref a/\H2 a=some (.ins C dx fs)/\Cls K C/\NoAttr K C f/\fs.length<1000 ∧
 D.nx σ (upd H2 a (.ins C dx (putF f y fs)))
section
variable {X:Cx}{o e value:Expr}{f:Str}{pos pos' tpos:Pos}{ta tv:TE}
theorem uT (he:PE X e ta)(hb:KH e f X.env (eval e X.env)=eval e X.env):PE X (.Attribute e f pos) (tFld X.K ta f):=by
 intro pins s σ H Q I h;refine Dn hb (bN (he pins s σ H _ I h) λu s1 hh_=> ?_)
 obtain⟨x,H1,I1,rx,a,C,dx,fs,v,ex,ea,c,n,l,q⟩:=hh_;subst ex;obtain rfl:u=KG a:=rx;exact vk I1 ea c n l λu' s2 I2 ru=>⟨v,H1,I2,ru,q⟩
theorem zl (ha:PE X o ta)(hv:PE X value tv)(hs:KM value (some (.Attribute o f pos')) pos.line X.env=pure false):PS X (.Assign [.Attribute o f pos'] value pos) (sFld X.K ta tv f):=by
 intro pins s σ H D I h;refine plainObj_wpAny_Assign_Attribute (bN (hv pins s σ H _ I h) λu s1 ⟨y,H1,I1,ry,q⟩=>bN (ha pins s1 σ H1 _ I1 q) λov s2 ⟨x,H2,I2,rx,a,C,dx,fs,ex,ea,c,n,l,q2⟩=> ?_) hs
 subst ex;obtain rfl:ov=KG a:=rx;exact uK I2 ea c n l ry λs3 I3=>⟨σ,_,I3,q2⟩
end
section
variable {X:Cx}{pins:List (Addr×Obj)}{σ:St}{H:Hp}{s:J9}{A:KP}{E:J7->J9->Prop}{Q:J7->J9->Prop}{c:J7}{b:Bool}
inductive lD (K:J5) (H:Hp):V->J7->Prop where
 | non:lD K H .non (.type "NoneType")
 | bl (x:Bool):lD K H (.bl x) (.type "bool")
 | int (i:Int):lD K H (.int i) (.type "int")
 | str (x:Str):lD K H (.str x) (.type "str")
 | flt (x:UInt64):lD K H (.flt x) (.type "float")
 | lst {a:Addr} {xs:List V} (e:H a=some (.lst xs)):lD K H (.ref a) (.type "list")
 | frz {a:Addr} {o:Obj} {xs:List V} (e:H a=some (.frz o (.lst xs))):lD K H (.ref a) (.type "list")
 | tup {a:Addr} {xs:List V} (e:H a=some (.tup xs)):lD K H (.ref a) (.type "tuple")
 | dK {a:Addr} {kvs:List (Key×V)} (e:H a=some (.dK kvs)):lD K H (.ref a) (.type "dict")
 | dT {a:Addr} {kvs:List (List Key×V)} (e:H a=some (.dT kvs)):lD K H (.ref a) (.type "dict")
 | ins {a C dx:Addr} {fs:List (Str×V)} (e:H a=some (.ins C dx fs)) (cl:Cls K C) (ha:LA K (.ref C) "__class__" =some (some (.builtin "object.__class__")))
   (hn:PySem.W.specialIn K (.builtin "object.__class__") "__get__" =some (some (.builtin "getset_descriptor.__get__"))) (htk:PySem.W.takesIn K (.builtin "object.__class__")=some true)
   (hm:PySem.W.mroIn K C (.type "object")=some true):lD K H (.ref a) (.ref C)
theorem yk {x:V}{u t:J7}(I:Inv X pins σ H s)(rx:RelV x u)(ty:lD X.K H x t)(e:PySem.W.kitOne X.K t c=some b)(h:∀tk,Q (.bool b) { s with toks:=tk }) :
  wpAny (model X.prog X.w) A (call (.builtin "isinstance") [u,c]) Q E s:=by
 cases ty with
 | non=>cases (show u=KR from rx);exact Lg PySem.W.kitx_none I.kIn L7 e (λz=>nomatch z) h
 | bl y=>cases (show u=Lc y from rx);exact Lg PySem.W.kitx_bool I.kIn L7 e (λz=>nomatch z) h
 | int i=>obtain⟨t,q⟩:=(show ∃t,u=Lq i t from rx);cases q;exact Lg PySem.W.kitx_int I.kIn L7 e (λz=>nomatch z) h
 | str y=>obtain⟨t,q⟩:=(show ∃t,u=Lr y t from rx);cases q;exact Lg PySem.W.kitx_str I.kIn L7 e (λz=>nomatch z) h
 | flt y=>obtain⟨t,q⟩:=(show ∃t,u=QF y t from rx);cases q;exact Lg PySem.W.kitx_float I.kIn L7 e (λz=>nomatch z) h
 | @lst a xs ea=>
  cases (show u=KG a from rx)
  obtain⟨_,_,n,_,h1⟩:=(show ObjOk X.prog X.w H s.heap a (.lst xs)from I.hok a _ ea)
  exact Lg PL I.kIn ⟨_,h1,rfl⟩ e (λz=>nomatch z) h
 | @frz a ob xs ea=>
  cases (show u=KG a from rx)
  obtain⟨_,_,_,n,_,h1⟩:=(show ObjOk X.prog X.w H s.heap a (.frz ob (.lst xs))from I.hok a _ ea)
  exact Lg PL I.kIn ⟨_,h1,rfl⟩ e (λz=>nomatch z) h
 | @tup a xs ea=>
  cases (show u=KG a from rx)
  obtain⟨_,_,_,p⟩:=(show ObjOk X.prog X.w H s.heap a (.tup xs)from I.hok a _ ea)
  obtain⟨o,h1,h2,_⟩:=p
  exact Lg PySem.W.kitx_tuple I.kIn ⟨o,h1,h2⟩ e (λz=>nomatch z) h
 | @dK a kvs ea=>
  cases (show u=KG a from rx)
  obtain⟨_,_,vs,_,p⟩:=(show ObjOk X.prog X.w H s.heap a (.dK kvs)from I.hok a _ ea)
  obtain⟨o,es,ep,h1,h2,_⟩:=p
  exact Lg PM I.kIn ⟨o,h1,h2.1⟩ e (λz=>nomatch z) h
 | @dT a kvs ea=>
  cases (show u=KG a from rx)
  obtain⟨_,_,xs,_,o,es,ep,h1,h2,_⟩:=(show ObjOk X.prog X.w H s.heap a (.dT kvs)from I.hok a _ ea)
  exact Lg PM I.kIn ⟨o,h1,h2.1⟩ e (λz=>nomatch z) h
 | @ins a C dx fs ea cl ha hn htk hm=>
  cases (show u=KG a from rx)
  obtain⟨mA,O,_⟩:=mK I.hok ea;obtain⟨od,J,_⟩:=O.look;exact Lg (PySem.W.kitx_own (cl.get _) cl.hd ha hn htk hm) I.kIn J e (λz=>nomatch z) h
end
structure Room (k:Nat)(A:KP):Prop where
 hd:A.handled=none
 dp:A.depth+3*k+5<recursionLimit
 un:A.units+16*k+200<cLine
theorem Room.mono {j k:Nat}{A:KP}(r:Room k A)(h:j<=k):Room j A:=⟨r.hd,by have:=r.dp;omega,by have:=r.un;omega⟩
theorem Room.deeper {k:Nat}{A:KP}(r:Room (k+1) A)(env:Env):Room k (A.deeper env):=
 ⟨r.hd,by have:=r.dp;show A.depth+1+3*k+5<_;omega,by have:=r.un;show A.units+3+16*k+200<_;omega⟩
theorem vc {A:KP}{C:Addr}{us:List J7}{kw:List (Str×J7)}:(A.under (.builtin "type.__call__" ⟨.ref C::us,kw⟩)).depth=A.depth+1:=by
 first | rfl | simp[P9,Code.weight,Code.isCreation,Code.isGuard,Code.isCaller,Code.frames,Qa,guardIds]
theorem u9 {A:KP}{C:Addr}{us:List J7}{kw:List (Str×J7)}:(A.under (.builtin "type.__call__" ⟨.ref C::us,kw⟩)).units=A.units+1:=by
 first | rfl | simp[P9,Code.cUnits,Code.frames,Qa]
theorem Room.make {k:Nat}{A:KP}(r:Room (k+1) A)(C:Addr)(us:List J7)(kw:List (Str×J7)):Room k (A.under (.builtin "type.__call__" ⟨.ref C::us,kw⟩)):=
 ⟨r.hd,by have:=r.dp;rw[vc];omega,by have:=r.un;rw[u9];omega⟩
theorem Room.depth {k:Nat}{A:KP}(r:Room k A):A.depth<recursionLimit:=by have:=r.dp;omega
def GS:TA:=λ_ H Q=>Q [] H
def yW (ta:TE)(tr:TA):TA:=λσ H Q=>ta σ H λx H1=>tr σ H1 λxs H2=>Q (x::xs) H2
section
variable {X:Cx}{e:Expr}{es:List Expr}{te:TE}{t:TA}{pos:Pos}
theorem iw:PA X [] GS:=λ_ _ _ _ H Q I h=>M0 ⟨[],H,I,.nil,h⟩
theorem d9 (ha:PE X e te)(hr:PA X es t)(hs:autoParam (Kn (e::es) X.env=(false,eval e X.env)::Kn es X.env) aqd._auto_1):PA X (e::es) (yW te t):=by
 intro pos pins s σ H Q I h;rw[hs]
 show wpAny _ _ (spliced ((false,eval e X.env)::backTo pos (Kn es X.env))) _ _ s
 refine ML (bN (ha pins s σ H _ I h) λu s1 hh_=> ?_)
 obtain⟨x,H1,I1,r1,q1⟩:=hh_;exact bN (hr pos pins s1 σ H1 _ I1 q1) λus s2 ⟨xs,H2,I2,r2,q2⟩=>⟨x::xs,H2,I2,.cons r1 r2,q2⟩
def tTup (t:TA):TE:=λσ H Q=>t σ H λxs H1=>xs.length<=sizeLine/\∀p,H1 p=none->Q (.ref p) (upd H1 p (.tup xs))
def tLst (t:TA):TE:=λσ H Q=>t σ H λxs H1=>xs.length<=sizeLine/\∀p,H1 p=none->Q (.ref p) (upd H1 p (.lst xs))
theorem Fe {x1}(h:PA X es t):PE X (.Tuple es x1 pos) (tTup t):=by
 intro pins s σ H Q I hq;refine wpAny_Tuple_spliced (bN (h pos pins s σ H _ I hq) λus s1 ⟨xs,H1,I1,r,z,q⟩=>⟨by rw[<-r.length];exact z,?_⟩)
 have hf:H1 s1.heap.objs.size=none:=I1.hok.fresh (Kj _);refine⟨.ref s1.heap.objs.size,upd H1 s1.heap.objs.size (.tup xs),I1.laid (t':=s1.toks) (λb u e=>Kg _ e) (Kj _) ?_,rfl,q _ hf⟩
 exact⟨z,us,r,⟨_,Kw _ rfl,rfl,_,rfl⟩⟩
theorem Fj (h:PA X es t):PE X (.List es pos) (tLst t):=by
 intro pins s σ H Q I hq;refine PB (bN (h pos pins s σ H _ I hq) λus s1 ⟨xs,H1,I1,r,z,q⟩=>⟨by rw[<-r.length];exact z,?_⟩)
 have hf:H1 s1.heap.objs.size=none:=I1.hok.fresh (Kj _);refine⟨.ref s1.heap.objs.size,upd H1 s1.heap.objs.size (.lst xs),I1.laid (t':=s1.toks) (λb u e=>Kg _ e) (Kj _) ?_,rfl,q _ hf⟩
 exact⟨z,us,0,r,Kw _ rfl⟩
end
abbrev Sp:=List V->Hp->VK->XK->Prop
abbrev Bk:=List Env->Hp->J9->XK->J7->J9->Prop
structure Env0 (P:KA)(w:K1)(K:J5)(mg:Str->Option J7)(base:Heap)(A:KP)(outer:List Env)(s:J9)(H:Hp):Prop where
 frames:A.frames=some outer
 mod:Mod K mg base
 bs:∀b o,base.get? b=some o->s.heap.get? b=some o/\H b=none
 bsz:base.objs.size<=s.heap.objs.size
 funs:s.heap.FunFrames base outer
 frf:∀b∈oj outer,H b=none
 hok:HOk P w H s.heap
 bare:Od s.gens
def CE (outer:List Env)(P:KA)(w:K1)(H:Hp)(s:J9)(Q:VK)(u:J7)(s':J9):Prop:=
 ∃v H',s'.os=s.os/\Od s'.gens/\Un (oj outer) [] H H' s.heap s'.heap/\HOk P w H' s'.heap/\RelV v u/\Q v H'
def CR (CX:Bk)(outer:List Env)(P:KA)(w:K1)(H:Hp)(s:J9)(Q:VK)(E:XK)(r:Qj)(s':J9):Prop:=
 match r with
 | .ok (.ret u)=>CE outer P w H s Q u s'
 | .ok _=>False
 | .error e=>CX outer H s E e s'
structure FnOk (P:KA)(w:K1)(K:J5)(mg:Str->Option J7)(base:Heap)(CX:Bk)(k:Nat)(f:Addr)(fd:KY)(ps:List Str)(sp:Sp):Prop where
 len:∀vs H Q E,sp vs H Q E->vs.length=ps.length
 run:∀(A:KP) (outer:List Env) (s:J9) (H:Hp) (args:Args) (us:List J7) (vs:List V) (Q:VK) (E:XK),Room k A->Env0 P w K mg base A outer s H->Oe s fd args (ps.zip us)->Vals vs us->sp vs H Q E →
  codeAny (model P w) A (.call (.ref f) args) (CR CX outer P w H s Q E) s
theorem FnOk.mono {P:KA}{w:K1}{K:J5}{mg:Str->Option J7}{base:Heap}{CX:Bk}{j k:Nat}{f:Addr}{fd:KY}{ps:List Str}{sp:Sp}(F:FnOk P w K mg base CX j f fd ps sp)(h:j<=k) :
  FnOk P w K mg base CX k f fd ps sp:=⟨F.len,λA outer s H args us vs Q E hr=>F.run A outer s H args us vs Q E (hr.mono h)⟩
theorem Env0.make {P:KA}{w:K1}{K:J5}{mg:Str->Option J7}{base:Heap}{A:KP}{outer:List Env}{s:J9}{H:Hp}(e:Env0 P w K mg base A outer s H)(C:Addr)(us:List J7)(kw:List (Str×J7)) :
  Env0 P w K mg base (A.under (.builtin "type.__call__" ⟨.ref C::us,kw⟩)) outer s H:=⟨by first | exact e.frames | (simpa [P9,Code.envs,Qa,pushEnvs]using e.frames),e.mod,e.bs,e.bsz,e.funs,e.frf,e.hok,e.bare⟩
section
variable {X:Cx}{pins:List (Addr×Obj)}{σ:St}{H:Hp}{s s':J9}
theorem Inv.JI (I:Inv X pins σ H s):Env0 X.prog X.w X.K X.mg X.base X.A X.stack s H:=
 ⟨I.ok.frames,I.ok.mod,I.bs,KW I.ok.bsz I.sz,I.stack,I.Jr,I.hok,I.bare⟩
theorem Inv.after {Q:VK}{u:J7}(I:Inv X pins σ H s)(h:CE X.stack X.prog X.w H s Q u s'):EP X pins σ Q u s':=by
 obtain⟨v,H',os,bare,un,hok,r,q⟩:=h;obtain⟨hh,g,d,t,os'⟩:=s';obtain rfl:os'=s.os:=os;exact⟨v,H',I.call (h':=hh) (g':=g) (d':=d) (t':=t) (ch:=[]) un hok bare (λb z=>absurd z (by simp)),r,q⟩
end
def G0 (sp:Sp)(dvs:List V)(E:XK)(t:TA):TE:=λσ H Q=>t σ H λvs H1=>sp (vs++dvs) H1 Q E
def Binds (K:J5)(fd:KY)(ps:List Str)(ds:List J7):Prop:=
 ∀(s:J9) (us:List J7),K.In s.heap->(us++ds).length=ps.length->Oe s fd ⟨us,[]⟩ (ps.zip (us++ds))
theorem Binds.all {K:J5}{fd:KY}{ps:List Str}(h:∀us:List J7,us.length=ps.length->QB fd ⟨us,[]⟩=pure (ps.zip us)):Binds K fd ps []:=λs us _ hl=>by
 rw[KO]at hl ⊢;exact .of_eq (h us hl)
def vJ (CX:Bk)(X:Cx)(E:XK):Prop:=∀(pins:List (Addr×Obj)) (σ:St) (H:Hp) (s:J9) (e:J7) (s':J9),Inv X pins σ H s->CX X.stack H s E e s'->X.xe e s'
section
variable {X:Cx}{CX:Bk}{k:Nat}{f C:Addr}{fd:KY}{ps:List Str}{sp:Sp}{dvs:List V}{ds:List J7}{E:XK}{x m:Str}{p pos apos:Pos}{e o:Expr}{es:List Expr}{ta:TE}{t:TA}
theorem qE {pins:List (Addr×Obj)}{σ:St}{H:Hp}{s:J9}{Q:VK}{us:List J7}{vs:List V}(F:FnOk X.prog X.w X.K X.mg X.base CX k f fd ps sp)(hr:Room k X.A)(hb:Binds X.K fd ps ds)(hd:Vals dvs ds)(hx:vJ CX X E)
  (I:Inv X pins σ H s) (r:Vals vs us) (h:sp (vs++dvs) H Q E):wpAny (model X.prog X.w) X.A (call (.ref f) us) (EP X pins σ Q) X.xe s:=by
 have r2:Vals (vs++dvs) (us++ds):=r.append hd
 have hl:(us++ds).length=ps.length:=by rw[<-r2.length];exact F.len _ _ _ _ h
 refine OW (MJ (F.run X.A X.stack s H ⟨us,[]⟩ (us++ds) (vs++dvs) Q E hr I.JI (hb s us I.kIn hl) r2 h) λr s' hq=> ?_)
 cases r with
 | error e=>exact hx pins σ H s e s' I hq
 | ok fl=>
  cases fl with
  | ret u=>exact I.after hq
  | next=>exact LU hq
  | brk=>exact LU hq
  | cont=>exact LU hq
theorem wg (F:FnOk X.prog X.w X.K X.mg X.base CX k f fd ps sp)(hr:Room k X.A)(hg:Gl X x)(hm:X.mg x=some (.ref f))(hk:LW X.K (.ref f)=true)(hb:Binds X.K fd ps ds)(hd:Vals dvs ds)(hx:vJ CX X E)
  (ha:PA X (e::es) t) (hdb:autoParam ((x == ("__debug__" : Str))=false) aqb._auto_1) (he:autoParam (Kn (e::es) X.env=(false,eval e X.env)::Kn es X.env) aqd._auto_1) (hpl:autoParam ((backTo pos (Kn es X.env)).any (·.1)=false) aqd._auto_1) :
  PE X (.Call (.Name x p) (e::es) [] pos) (G0 sp dvs E t):=by
 intro pins s σ H Q I h;refine Lf (gB I hg hm ?_ hdb)
 refine Ms (h₀:=X.base) I.ok.mod.kin hk (bN (ha pos pins s σ H _ I h) λus s1 ⟨vs,H1,I1,r,q⟩=>⟨I1.kIn,?_⟩) he hpl
 exact qE F hr hb hd hx I1 r q
structure Mk (K:J5)(C f:Addr):Prop where
 makes:QC K C=true
 init:LA K (.ref C) "__init__" =some (some (.ref f))
 fn:P7 K (.ref f)=true
 kp:LW K (.ref C)=true
end
structure ay (N P:List Str)(sc:Nk):Prop where
 kind:sc.kind= .function
 co:sc.isCoroutine=false
 gen:sc.isGenerator=false
 nd:N.Nodup
 pre:N.take P.length=P
 par:∀x∈P,sc.names.lookup x=some .local\/sc.names.lookup x=some .cell
 nofree:∀y∈sc.names,y.2≠ .free
theorem p0 {kindOf:Str->Option My}{x:Str}:∀{binds:List (Str×J7)} {m:Str->Option J7},(∀v,(x,v)∉binds)->bindL kindOf binds m x=m x
 | [],_,_=>rfl
 | (n,v)::r,m,h=>by
  unfold bindL;rw[p0 λw hw=>h w (J6 _ hw)]
  split
  ·have:x≠n:=by rintro rfl;exact h v Ke
   simp[this]
  ·rfl
theorem p7 {kindOf:Str->Option My}{x:Str}:∀{binds:List (Str×J7)} {m:Str->Option J7},(∀v,(x,v)∉binds)->bindC kindOf binds m x=m x
 | [],_,_=>rfl
 | (n,v)::r,m,h=>by
  unfold bindC;rw[p7 λw hw=>h w (J6 _ hw)]
  split
  ·rfl
  ·have:x≠n:=by rintro rfl;exact h v Ke
   simp[this]
theorem p6 {kindOf:Str->Option My}{x:Str}{v:J7}:∀{P:List Str} {vs:List J7} {i:Nat} {m:Str->Option J7},P.Nodup->P[i]? =some x->vs[i]? =some v->kindOf x=some .local →
  bindL kindOf (P.zip vs) m x=some v
 | [],_,_,_,_,h,_,_=>by simp at h
 | _::_,[],_,_,_,_,h,_=>by simp at h
 | p::P,w::vs,0,m,nd,h1,h2,hk=>by
  simp at h1 h2;subst h1;subst h2
  show bindL kindOf ((p,w)::P.zip vs) m p=_
  unfold bindL;rw[p0 λv hv=>(KJ.mp nd).1 (MM hv).1,if_pos hk]
  simp
 | p::P,w::vs,i+1,m,nd,h1,h2,hk=>by
  show bindL kindOf ((p,w)::P.zip vs) m x=_
  unfold bindL;exact p6 (i:=i) (KJ.mp nd).2 (by simpa using h1) (by simpa using h2) hk
theorem p8 {kindOf:Str->Option My}{x:Str}{v:J7}:∀{P:List Str} {vs:List J7} {i:Nat} {m:Str->Option J7},P.Nodup->P[i]? =some x->vs[i]? =some v->kindOf x≠some .local →
  bindC kindOf (P.zip vs) m x=some v
 | [],_,_,_,_,h,_,_=>by simp at h
 | _::_,[],_,_,_,_,h,_=>by simp at h
 | p::P,w::vs,0,m,nd,h1,h2,hk=>by
  simp at h1 h2;subst h1;subst h2
  show bindC kindOf ((p,w)::P.zip vs) m p=_
  unfold bindC;rw[p7 λv hv=>(KJ.mp nd).1 (MM hv).1,if_neg hk]
  simp
 | p::P,w::vs,i+1,m,nd,h1,h2,hk=>by
  show bindC kindOf ((p,w)::P.zip vs) m x=_
  unfold bindC;exact p8 (i:=i) (KJ.mp nd).2 (by simpa using h1) (by simpa using h2) hk
def start (N:List Str)(vs:List V):St:=vs.map some++Kx (N.length - vs.length) none
def fm (CX:Bk)(P:KA)(w:K1)(K:J5)(mg:Str->Option J7)(base:Heap)(N:List Str)(qual:Str)(scope:Nk)(f:Addr)(cd:J7)(A:KP)(outer:List Env)(s:J9)(H:Hp)(E:XK):Cx where
 prog:=P
 w:=w
 K:=K
 mg:=mg
 base:=base
 A:=A.deeper (envOfC qual scope s.heap.objs.size f cd)
 N:=N
 s₀:=s
 H₀:=H
 env:=envOfC qual scope s.heap.objs.size f cd
 outer:=outer
 stack:=envOfC qual scope s.heap.objs.size f cd::outer
 ex:=[]
 calm:=true
 fn:=λ_=>true
 pn:=[]
 xe:=λe s'=>wpAny (model P w) (A.deeper (envOfC qual scope s.heap.objs.size f cd)) (leaving (envOfC qual scope s.heap.objs.size f cd) e) (λ_ s''=>CX outer H s E e s'') (λe' s''=>CX outer H s E e' s'') s'
theorem uk {sc:Nk}{n:Nat}{x:Str}(h:sc.names.lookup x=some .cell):∃c,(Me n sc.names []).lookup x=some c:=by
 have q:=Mq sc.names n [] (.inl h);exact Option.isSome_iff_exists.mp q
theorem lu {CX:Bk}{P:KA}{w:K1}{K:J5}{mg:Str->Option J7}{base:Heap}{N ps:List Str}{qual:Str}{scope:Nk}{f:Addr}{cd:J7}{A:KP}{outer:List Env}{s s1:J9}{H:Hp}{E:XK}{us:List J7}{vs:List V}
  (S:ay N ps scope) (hd:A.handled=none) (e0:Env0 P w K mg base A outer s H) (hl:vs.length=ps.length) (r:Vals vs us)
  (x:InCallC s s.heap.objs.size (bindL (envOfC qual scope s.heap.objs.size f cd).kindOf (ps.zip us) λ_=>none) (Me (s.heap.objs.size+1) scope.names []) (bindC (envOfC qual scope s.heap.objs.size f cd).kindOf (ps.zip us) λ_=>none) s1) :
  Inv (fm CX P w K mg base N qual scope f cd A outer s H E) [] (start N vs) H s1:=by
 have hpl:ps.length<=N.length:=by have:=congrArg LQ S.pre;rw[Lh]at this;omega
 obtain⟨h1,tk,rfl,hk⟩:=x.done
 have noA:∀b:Addr,b∉(fm CX P w K mg base N qual scope f cd A outer s H E).ex:=λb z=>absurd (show b∈([]:List Addr)from z) (by simp)
 refine⟨⟨e0.mod,S.kind,rfl,rfl,Kj _,λy z c h1 h2=> ?_,λy hy=> ?_,λy c _ h=> ?_,λ_=>hd,Around.frames_deeper e0.frames,.inr ⟨rfl,rfl⟩,λb z=>absurd z (noA b),e0.bs,e0.bsz,λb _ _=>noA b,λb z=>absurd z (noA b),e0.funs,e0.frf⟩,
  rfl,e0.bare,Un.kept hk,⟨_,x.toInCall.ns,λi y v h1 h2 h3=> ?_⟩,λy c h=>⟨_,x.cell y c h⟩,e0.hok.fresh (Kj _),λy c h=> ?_,λp hp=>absurd (show p∈([]:List (Addr×Obj))from hp) (by simp),e0.hok.kept hk,?_⟩
 ·exact name_of_addr x.apart (LR h1) (LR h2)
 ·have hy:scope.names.lookup y=some .cell\/scope.names.lookup y=some .free:=hy
  rcases hy with hy | hy
  ·exact uk hy
  ·exact absurd rfl (S.nofree _ (LR hy))
 ·exact MI (x.above y c (LR h))
 ·have hi:i<vs.length:=by
   unfold start at h2
   by_cases hi:i<vs.length
   ·exact hi
   ·rw[Lo (by simpa using hi)]at h2
    rw[K8]at h2
    split at h2 <;> cases h2
  have ha:vs[i]? =some v:=by
   unfold start at h2;rw[KL (by simpa using hi),Kz]at h2
   cases e:vs[i]? with
   | none=>rw[e]at h2;cases h2
   | some a=>rw[e]at h2;cases h2;rfl
  obtain⟨u,hu,rv⟩:=r.get ha
  have hp:ps[i]? =some y:=by
   rw[<-S.pre,List.getElem?_take_of_lt (by omega)];exact h1
  have ndP:ps.Nodup:=by rw[<-S.pre];exact S.nd.sublist (List.take_sublist _ _)
  refine⟨u,rv,?_⟩
  rcases S.par y (L5 hp)with k | k
  ·exact .inl ⟨k,p6 ndP hp hu k⟩
  ·obtain⟨c,e⟩:=uk (n:=s.heap.objs.size+1) k
   refine .inr ⟨.inl k,c,e,?_⟩
   have q:=x.cell y c e;rw[p8 ndP hp hu (by show scope.names.lookup y≠_;rw[k];decide)]at q
   exact q
 ·exact e0.hok.fresh (MI (x.above y c (LR h)))
 ·unfold start
  show _=N.length
  rw[Kh,Kc,List.length_replicate];omega
theorem IF {CX:Bk}{P:KA}{w:K1}{K:J5}{mg:Str->Option J7}{base:Heap}{k:Nat}{f:Addr}{name qual:Str}{params:ON}{body:List Stmt}{scope:Nk}{dV kV doc pm cdv ct oc:J7}{an od:Option Addr}
  {osl:Array (Option J7)} {N ps:List Str} {sp:Sp} (lk:K.lookup f=some ⟨oc,od,.func (M9 name qual params body scope dV kV doc pm an cdv ct),osl⟩) (hcd:O8 K cdv qual=true) (S:ay N ps scope)
  (len:∀vs H Q E,sp vs H Q E->vs.length=ps.length)
  (hbody:∀(A:KP) (outer:List Env) (s:J9) (H:Hp) (vs:List V) (Q:VK) (E:XK),Room k (A.deeper (envOfC qual scope s.heap.objs.size f cdv))->sp vs H Q E →
   ∃t,PSs (fm CX P w K mg base N qual scope f cdv A outer s H E) body t/\t { nx:=λ_ H'=>Q .non H',rt:=Q } (start N vs) H) :
  FnOk P w K mg base CX (k+1) f (M9 name qual params body scope dV kV doc pm an cdv ct) ps sp:=by
 refine⟨len,λA outer s H args us vs Q E hr e0 hb r hsp=> ?_⟩
 have hl:=len _ _ _ _ hsp
 have KX:K.In s.heap:=e0.mod.kin.keeps λb o e=>(e0.bs b o e).1
 have lim:s.heap.NoLimit:=e0.mod.nolimit.keeps λb o e=>(e0.bs b o e).1
 have hkind:∀y∈ps.zip us,scope.names.lookup y.1=some .local\/(scope.names.lookup y.1=some .cell/\((Me (s.heap.objs.size+1) scope.names []).lookup y.1).isSome=true):=λ⟨n,v⟩ hy=>by
  rcases S.par n (MM hy).1 with q | q
  ·exact .inl q
  ·exact .inr ⟨q,Mq _ _ _ (.inl q)⟩
 refine Nh hr.depth (KX _ _ lk) rfl S.co S.gen rfl (NH KX hcd) (hb _ _ _ _ ?_)
 refine MA S.kind hkind λenv he s1 x=> ?_
 subst he;refine⟨lim.keeps x.toInCall.keep,Qk ?_⟩
 obtain⟨t,ht,hq⟩:=hbody A outer s H vs Q E (hr.deeper _) hsp
 have I:Inv (fm CX P w K mg base N qual scope f cdv A outer s H E) [] (start N vs) H s1:=lu S hr.hd e0 hl r x;refine LV (ht [] s1 (start N vs) H _ I hq) (λfl s' hs=> ?_) λe s' hs=>hs
 have fin:∀{σ':St} {H':Hp} {v:V} {u:J7},Inv (fm CX P w K mg base N qual scope f cdv A outer s H E) [] σ' H' s'->RelV v u->Q v H'->CE outer P w H s Q u s':=
  λ{σ' H' v u} J rv q=>⟨v,H',J.os,J.bare,J.base,J.hok,rv,q⟩
 cases fl with
 | ret u=>
  obtain⟨v,σ',H',J,rv,q⟩:=hs
  exact fin J rv q
 | next=>
  obtain⟨σ',H',J,q⟩:=hs
  exact fin (v:=V.non) (u:=KR) J rfl q
 | brk=>
  obtain⟨_,_,_,q⟩:=hs
  exact LU q
 | cont=>
  obtain⟨_,_,_,q⟩:=hs;exact LU q
section
variable {X:Cx}{x:Str}{p pos:Pos}{e:Expr}{es:List Expr}{t:TA}{id T:String}{r:List V->Hp->VK->Prop}
def tCB (r:List V->Hp->VK->Prop)(t:TA):TE:=λσ H Q=>t σ H λvs H1=>r vs H1 Q
theorem xU (hc:CallR X (.type T) r)(hg:Gl X x)(hm:X.mg x=none)(hv:KQ x=some (.type T))(ha:PA X (e::es) t)(hn:autoParam (x≠ "__name__") aqb._auto_1)(hdb:autoParam ((x == ("__debug__" : Str))=false) aqb._auto_1)
  (he:autoParam (Kn (e::es) X.env=(false,eval e X.env)::Kn es X.env) aqd._auto_1) (hpl:autoParam ((backTo pos (Kn es X.env)).any (·.1)=false) aqd._auto_1):PE X (.Call (.Name x p) (e::es) [] pos) (tCB r t):=by
 intro pins s σ H Q I h;refine Lf (gC I hg hm hv ?_ hn hdb)
 exact Lb (bN (ha pos pins s σ H _ I h) λus s1 ⟨vs,H1,I1,r1,q1⟩=>hc pins s1 σ H1 vs us Q I1 r1 q1) he hpl
end
end L2
namespace HT
open PySem PyProof.Rows
section
variable {prog:KA}{w:K1}{A:KP}{E:J7->J9->Prop}{s:J9}
theorem cat_tup {t b:Addr}{vs ws:List J7}{Q:J7->J9->Prop}(ht:Q6 s.heap t vs.toArray)(hb:Q6 s.heap b ws.toArray)(hv:vs≠ [])
  (h1:ws= []->Q (.ref t) s) (h2:ws≠ []->Q (.ref s.heap.objs.size) { s with heap:=s.heap.push { cls:=.type "tuple",data:=.seq (vs++ws).toArray } })
  (hsz:vs.length+ws.length<=sizeLine):wpAny (model prog w) A (LG .Add (.ref t) (.ref b)) Q E s:=by
 obtain⟨⟨cls,dd,data,sl⟩,ho,hc,n,hd⟩:=id ht;obtain⟨⟨cls2,dd2,data2,sl2⟩,ho2,hc2,n2,hd2⟩:=id hb;simp only at hc hd hc2 hd2;subst hc hd hc2 hd2
 have e:vs.toArray++ws.toArray=(vs++ws).toArray:=by simp
 by_cases hw:ws= []
 ·exact Ql ⟨_,ho,rfl⟩ ⟨_,ho2,rfl⟩ On PC MW MK (MG _ _)
   (tuple_addW1 t b vs.toArray ws.toArray n n2 dd dd2 sl sl2 (by simpa using hv) (by simp[hw])) ⟨ho,ho2,h1 hw⟩
 ·refine Ql ⟨_,ho,rfl⟩ ⟨_,ho2,rfl⟩ On PC MW MK (MG _ _)
   (tuple_addW2 t b vs.toArray ws.toArray n n2 dd dd2 sl sl2 (by simpa using hv) (by simpa using hw) (by rw[Ko,Ko];exact hsz)) ⟨ho,ho2,?_⟩
  rw[e];exact h2 hw
def sIx (n d:Nat):Option Int->Nat
 | none=>d
 | some v=>if v<0 then(v+(n:Int)).toNat else min v.toNat n
theorem sIx_none (n d:Nat):sIx n d none=d:=rfl
theorem sIx_nat (n d k:Nat):sIx n d (some (k:Int))=min k n:=by
 show(if (k:Int)<0 then((k:Int)+(n:Int)).toNat else min (k:Int).toNat n)=min k n
 rw[if_neg (by omega),Lv]
theorem Es (n d:Nat)(hd:d<=n)(o:Option Int):sIx n d o<=n:=by
 cases o with
 | none=>exact hd
 | some v=>
  show(if v<0 then(v+(n:Int)).toNat else min v.toNat n)<=n
  by_cases hv:v<0
  ·rw[if_pos hv];omega
  ·rw[if_neg hv];exact Nat.min_le_right _ _
theorem xn (v:Int)(n d:Nat):(if v<0 then max (v+(n:Int)) 0 else min v (n:Int))=((sIx n d (some v):Nat):Int):=by
 show(if v<0 then max (v+(n:Int)) 0 else min v (n:Int))=(((if v<0 then(v+(n:Int)).toNat else min v.toNat n):Nat):Int)
 by_cases hv:v<0
 ·simp only[if_pos hv];omega
 ·simp only[if_neg hv];omega
theorem vG (lo hi:Option Int)(n:Nat):MC lo hi 1 (n:Int)=(((sIx n 0 lo:Nat):Int),((sIx n n hi:Nat):Int)):=by
 have h1:¬ ((1:Int)<0):=by omega
 unfold MC;simp only[h1,if_false];refine Prod.ext ?_ ?_
 ·cases lo with
  | none=>rfl
  | some v=>exact xn v n 0
 ·cases hi with
  | none=>rfl
  | some v=>exact xn v n n
theorem uS (i j:Nat):LX (i:Int) (j:Int) 1=j - i:=by
 unfold LX
 have h1:(1:Int) > 0:=by omega
 simp only[h1,if_true,Int.ediv_one]
 split <;> omega
theorem mV {v:J7}{o:Option Int}{Q:Option Int->J9->Prop}(p:PD v o)(h:Q o s):wpAny (model prog w) A (Qz v) Q E s:=by
 cases p with
 | none=>exact slicePart_none h
 | int i t=>exact slicePart_int h
theorem gk {sl:Addr}{vl vu:J7}{lo hi:Option Int}{n:Nat}{Q:Int×Int×Nat->J9->Prop}(hs:s.heap.IsSliceOf sl vl vu .none)(pl:PD vl lo)(pu:PD vu hi)
  (h:Q (((sIx n 0 lo:Nat):Int),1,sIx n n hi - sIx n 0 lo) s):wpAny (model prog w) A (Nz (.ref sl) (pure (n:Int))) Q E s:=by
 obtain⟨os,hos,hcs,hds⟩:=id hs;unfold Nz Builtin.Slice.sliceFields;refine Kb (Kb (L3 hos hds (x:=vl) rfl (Kb (L3 hos hds (x:=vu) rfl (Kb (L3 hos hds (x:=.none) rfl (Kp ?_)))))))
 refine Kb (slicePart_none ?_)
 show wpAny _ _ (if ((1:Int) == 0)=true then _ else _) _ _ s
 rw[if_neg (by decide)]
 refine Kb (mV pl (Kb (mV pu (Kb (Kp ?_)))))
 show wpAny _ _ (match MC lo hi 1 (n:Int)with | (lo,hi)=>pure (lo,(1:Int),LX lo hi 1)) _ _ s
 rw[vG lo hi n]
 show wpAny _ _ (pure (((sIx n 0 lo:Nat):Int),(1:Int),LX ((sIx n 0 lo:Nat):Int) ((sIx n n hi:Nat):Int) 1)) _ _ s
 rw[uS];exact Kp h
theorem zo (xs:Array J7)(i k:Nat):((K9 k).filterMap λ(m:Nat)=>xs[((i:Int)+(m:Int)*1).toNat]?).toArray=((xs.toList.drop i).take k).toArray:=by
 have e:(λ(m:Nat)=>xs[((i:Int)+(m:Int)*1).toNat]?)=λm=>xs[i+m]?:=by
  funext m
  have:((i:Int)+(m:Int)*1).toNat=i+m:=by omega
  rw[this]
 rw[e]
 have:=pick_run xs i k;rw[List.filterMap_map]at this
 have e2:((λx=>xs[x]?)∘λx=>i+x)=λm=>xs[i+m]?:=rfl
 rw[e2]at this;rw[this]
theorem getItem_tuple_cut {t sl:Addr}{items:Array J7}{vl vu:J7}{lo hi:Option Int}{Q:J7->J9->Prop}(ht:Q6 s.heap t items)(hs:s.heap.IsSliceOf sl vl vu .none)(pl:PD vl lo)(pu:PD vu hi)
  (hw:¬ (sIx items.size 0 lo=0/\sIx items.size items.size hi=items.size))
  (h:Q (.ref s.heap.objs.size) { s with heap:=s.heap.push { cls:=.type "tuple",data:=.seq ((items.toList.drop (sIx items.size 0 lo)).take (sIx items.size items.size hi - sIx items.size 0 lo)).toArray } })
  (hsz:items.size<=sizeLine):wpAny (model prog w) A (getItem (.ref t) (.ref sl)) Q E s:=by
 have htake:sizeOk (.seq ((items.toList.drop (sIx items.size 0 lo)).take (sIx items.size items.size hi - sIx items.size 0 lo)).toArray):=by
  show((items.toList.drop (sIx items.size 0 lo)).take (sIx items.size items.size hi - sIx items.size 0 lo)).toArray.size<=sizeLine
  rw[Ko,Lh,Mp,LN];omega
 have hj:sIx items.size items.size hi<=items.size:=Es _ _ (Kj _) hi;obtain⟨os,hos,hcs,hds⟩:=id hs
 have hTs:s.TypeIs (.ref sl) "slice":=⟨os,hos,hcs⟩;unfold getItem
 try with_reducible refine Of ?_
 first | refine Kb (Kp ?_) | skip
 refine Kb (PX ht.typeIs (by decide) ?_)
 refine Kb (LK (name:=Kk "__getitem__") ht.typeIs K3
  (ME K3 ht.typeIs Pj ?_ (PF _ _)))
 show wpAny _ _ (NA (.ref t) >>= _) _ _ s
 refine Kb (PH ht ?_)
 refine Kb (NM hTs ?_)
 rw[if_pos (by decide)]
 refine Kb (gk hs pl pu ?_)
 have hno:¬ ((((sIx items.size 0 lo:Nat):Int) == 0&&(1:Int) == 1&&(sIx items.size items.size hi - sIx items.size 0 lo) == items.size)=true):=by
  intro q;rw[J8,J8]at q
  have q1:((sIx items.size 0 lo:Nat):Int)=0:=eq_of_beq q.1.1
  have q2:sIx items.size items.size hi - sIx items.size 0 lo=items.size:=eq_of_beq q.2;exact hw ⟨by omega,by omega⟩
 show wpAny _ _ (if (((sIx items.size 0 lo:Nat):Int) == 0&&(1:Int) == 1&&(sIx items.size items.size hi - sIx items.size 0 lo) == items.size)=true then _ else _) _ _ s
 rw[if_neg hno,zo]
 first
  | exact Kb (m:=LF _) (Lz (Kp ⟨_,rfl,Kp h⟩) htake)
  | exact Kb (m:=LF _) (Lz (Kb (Kp (Kp ⟨_,rfl,Kp h⟩))) htake)
  | exact Kb (Kb (m:=LF _) (Lz (Kp (Kp ⟨_,rfl,Kp h⟩)) htake))
  | exact Kb (Kb (m:=LF _) (Lz (Kp ⟨_,rfl,Kp h⟩) htake))
end
end HT
namespace L2
open PySem PySem.Spec PyProof.Rows
abbrev TO:=St->Hp->(Option Int->Hp->Prop)->Prop
def PO (X:Cx)(e:Option Expr)(t:TO):Prop:=
 ∀(pins:List (Addr×Obj)) (s:J9) (σ:St) (H:Hp) (Q:Option Int->Hp->Prop),Inv X pins σ H s->t σ H Q →
  wpAny (model X.prog X.w) X.A (evalPart e X.env) (λu s'=> ∃o H',Inv X pins σ H' s'/\PD u o/\Q o H') X.xe s
def BP:TO:=λ_ H Q=>Q none H
def GO (t:TE):TO:=λσ H Q=>t σ H λx H1=> ∃i,x= .int i/\Q (some i) H1
theorem vj {ns:List Int}:∀{us:List J7},Vals (ns.map V.int) us->Nl us ns:=by
 induction ns with
 | nil=>intro us r;rw[Oy]at r;cases r;exact .nil
 | cons n ns ih=>
  intro us r;rw[Ka]at r
  cases r with
  | cons r1 r2=>
   obtain⟨t,e⟩:=r1;subst e;exact .cons n t (ih r2)
section
variable {X:Cx}{e:Expr}{te:TE}{lo hi:Option Expr}{tl th:TO}{pos p2:Pos}
theorem Cr:PO X none BP:=by
 intro pins s σ H Q I h;rw[evalPart_none];exact Kp ⟨none,H,I,.none,h⟩
theorem Cq (h:PE X e te):PO X (some e) (GO te):=by
 intro pins s σ H Q I hw;rw[evalPart_some];refine bN (h pins s σ H _ I hw) λu s1 hh_=> ?_
 obtain⟨x,H1,I1,r1,q1⟩:=hh_;obtain⟨i,rfl,q⟩:=q1;obtain⟨t,rfl⟩:=r1;exact⟨some i,H1,I1,.int i t,q⟩
def SlR (X:Cx)(r:V->Option Int->Option Int->Hp->VK->Prop):Prop:=
 ∀(pins:List (Addr×Obj)) (s:J9) (σ:St) (H:Hp) (x:V) (v vl vu:J7) (lo hi:Option Int) (sl:Addr) (Q:VK),Inv X pins σ H s->RelV x v->s.heap.IsSliceOf sl vl vu .none->PD vl lo->PD vu hi->r x lo hi H Q →
  ∃T id,PY (.type T) "__getitem__" =pure (some (.builtin id))/\s.TypeIs v T/\wpAny (model X.prog X.w) X.A (getItem v (.ref sl)) (EP X pins σ Q) X.xe s
theorem SlR.or {r r':V->Option Int->Option Int->Hp->VK->Prop}(h:SlR X r)(h':SlR X r'):SlR X (λx lo hi H Q=>r x lo hi H Q\/r' x lo hi H Q):=by
 intro pins s σ H x v vl vu lo hi sl Q I rx hs pl pu q;rcases q with q | q
 ·exact h pins s σ H x v vl vu lo hi sl Q I rx hs pl pu q
 ·exact h' pins s σ H x v vl vu lo hi sl Q I rx hs pl pu q
def tSl (r:V->Option Int->Option Int->Hp->VK->Prop)(te:TE)(tl th:TO):TE:=λσ H Q=>te σ H λx H1=>tl σ H1 λl H2=>th σ H2 λu H3=>r x l u H3 Q
theorem zq {r:V->Option Int->Option Int->Hp->VK->Prop}(hr:SlR X r)(he:PE X e te)(hl:PO X lo tl)(hu:PO X hi th):PE X (.Subscript e (.Slice lo hi none p2) pos) (tSl r te tl th):=by
 intro pins s σ H Q I h;refine Subscript_ (bN (he pins s σ H _ I h) λv s1 hh_=> ?_)
 obtain⟨x,H1,I1,r1,q1⟩:=hh_;refine wpAny_Slice (bN (hl pins s1 σ H1 _ I1 q1) λvl s2 ⟨l,H2,I2,pl,q2⟩=>bN (hu pins s2 σ H2 _ I2 q2) λvu s3 hh_=> ?_)
 obtain⟨u,H3,I3,pu,q3⟩:=hh_;rw[evalPart_none];refine Kp ?_
 have I4:Inv X pins σ H3 { s3 with heap:=s3.heap.push { cls:=.type "slice",data:=.fields #[vl,vu,.none] } }:=I3.kept (t':=s3.toks) λb ob q=>Kg _ q
 obtain⟨T,id,hT,ht,hg⟩:=hr pins { s3 with heap:=s3.heap.push { cls:=.type "slice",data:=.fields #[vl,vu,.none] } } σ H3 x v vl vu l u s3.heap.objs.size Q I4 r1 (Heap.IsSliceOf.new ..) pl pu q3
 show wpAny (model X.prog X.w) X.A (PJ e (.Slice lo hi none p2) v (.ref s3.heap.objs.size)) (EP X pins σ Q) X.xe { s3 with heap:=s3.heap.push { cls:=.type "slice",data:=.fields #[vl,vu,.none] } }
 exact tail_any (ops:=[.ref s3.heap.objs.size,v]) ht hT hg (by with_unfolding_all rfl)
def uj (xs:List V)(lo hi:Option Int):List V:=(xs.drop (HT.sIx xs.length 0 lo)).take (HT.sIx xs.length xs.length hi - HT.sIx xs.length 0 lo)
theorem lT (xs:List V)(lo hi:Option Int):(uj xs lo hi).length<=xs.length:=by
 unfold uj;rw[Lh,Mp];omega
def rSlT (K:J5):V->Option Int->Option Int->Hp->VK->Prop:=λx lo hi H Q=> ∃a xs,x= .ref a/\SqT K H a xs ∧
 ¬(HT.sIx xs.length 0 lo=0/\HT.sIx xs.length xs.length hi=xs.length)/\∀p,H p=none->Q (.ref p) (upd H p (.tup (uj xs lo hi)))
theorem sl_tup:SlR X (rSlT X.K):=by
 intro pins s σ H x v vl vu lo hi sl Q I rx hs pl pu h;obtain⟨a,xs,rfl,hx,hw,q⟩:=h;cases rx;obtain⟨its,r,ht,hz⟩:=I.tuple hx
 have hlen:its.toArray.size=xs.length:=by rw[Ko];exact r.length.symm
 refine⟨"tuple",_,K3.lookup,ht.typeIs,?_⟩
 refine HT.getItem_tuple_cut ht hs pl pu (by rw[hlen];exact hw) ?_ (by rw[hlen];exact hz)
 rw[hlen];refine⟨.ref s.heap.objs.size,_,I.laid (t':=s.toks) (o:=.tup (uj xs lo hi)) (λb ob q=>Kg _ q) (Kj _) ?_,rfl,q _ (I.hok.fresh (Kj _))⟩
 exact⟨KW (lT xs lo hi) hz,_,(r.drop (HT.sIx xs.length 0 lo)).take (HT.sIx xs.length xs.length hi - HT.sIx xs.length 0 lo),QP _ _⟩
def G8 (K:J5):R2:=λx y H Q=> ∃a b xs ys,x= .ref a/\y= .ref b/\SqT K H a xs/\SqT K H b ys/\xs≠ []/\xs.length+ys.length<=sizeLine ∧
 (ys= []->Q (.ref a) H)/\(ys≠ []->∀p,H p=none->Q (.ref p) (upd H p (.tup (xs++ys))))
theorem Vals.AC {xs:List V}{us:List J7}(r:Vals xs us):us= [] ↔xs= []:=by
 cases r with
 | nil=>simp
 | cons _ _=>simp
theorem CJ:sd X (LG .Add) (G8 X.K):=by
 intro pins s σ H x y v u Q I rx ry h;obtain⟨a,b,xs,ys,rfl,rfl,ha,hb,hx,hz,q1,q2⟩:=h;cases rx;cases ry;obtain⟨its,r1,p1,_⟩:=I.tuple ha;obtain⟨its2,r2,p2,_⟩:=I.tuple hb;refine HT.cat_tup p1 p2 (λz=>hx (r1.AC.mp z)) (λz=>⟨.ref a,H,I,rfl,q1 (r2.AC.mp z)⟩) (λz=> ?_) (by rw[<-r1.length,<-r2.length];exact hz)
 refine⟨.ref s.heap.objs.size,_,I.laid (t':=s.toks) (o:=.tup (xs++ys)) (λb ob q=>Kg _ q) (Kj _) ?_,rfl,q2 (λw=>z (r2.AC.mpr w)) _ (I.hok.fresh (Kj _))⟩
 exact⟨by rw[Kh];exact hz,_,r1.append r2,QP _ _⟩
end
def ixN (n:Nat)(i:Int):Option Nat:=if 0<=i then(if i<n then some i.toNat else none)else if -(n:Int)<=i then some (i+n).toNat else none
def atI {α:Type}(xs:List α)(i:Int):Option α:=(ixN xs.length i).bind λj=>xs[j]?
theorem C0 {n:Nat}{i:Int}{j:Nat}(h:ixN n i=some j):seqIndex? i n=some j/\j<n/\-(n:Int)<=i/\i<n:=by
 unfold ixN at h
 by_cases h0:0<=i
 ·rw[if_pos h0]at h
  by_cases h1:i<n
  ·rw[if_pos h1]at h
   have e:i.toNat=j:=KS h;exact⟨by rw[seqIndex_of h0 h1,e],by omega,by omega,h1⟩
  ·rw[if_neg h1]at h;cases h
 ·rw[if_neg h0]at h
  by_cases h1 : -(n:Int)<=i
  ·rw[if_pos h1]at h
   have e:(i+n).toNat=j:=KS h;exact⟨by rw[seqIndex_neg (by omega) h1,e],by omega,h1,by omega⟩
  ·rw[if_neg h1]at h;cases h
theorem r6 {α:Type}{xs:List α}{i:Int}{v:α}(h:atI xs i=some v):∃j,seqIndex? i xs.length=some j/\xs[j]? =some v/\j<xs.length/\-(xs.length:Int)<=i/\i<xs.length:=by
 unfold atI at h
 cases e:ixN xs.length i with
 | none=>rw[e]at h;cases h
 | some j=>
  rw[e]at h;obtain⟨h1,h2,h3,h4⟩:=C0 e;exact⟨j,h1,h,h2,h3,h4⟩
def xy (b:Expr):Prop:=∀o i,Pk b false o i=operate [o,i] (getItem o i)
def IxR (X:Cx)(r:R2):Prop:=
 ∀(value slice:Expr) (pins:List (Addr×Obj)) (s:J9) (σ:St) (H:Hp) (x y:V) (v u:J7) (Q:VK),Inv X pins σ H s->RelV x v->RelV y u->r x y H Q →
  Pk slice false v u=operate [v,u] (getItem v u)->wpAny (model X.prog X.w) X.A (PJ value slice v u) (EP X pins σ Q) X.xe s
def MtR (X:Cx)(id:String)(r:V->List V->Hp->VK->Prop):Prop:=
 ∀(pins:List (Addr×Obj)) (s:J9) (σ:St) (H:Hp) (x:V) (xs:List V) (v:J7) (us:List J7) (Q:VK),Inv X pins σ H s->RelV x v->Vals xs us->r x xs H Q →
  wpAny (model X.prog X.w) X.A (call (.builtin id) (v::us)) (EP X pins σ Q) X.xe s
section
variable {X:Cx}{a b:Expr}{ta tb:TE}{pos:Pos}
theorem IxR.or {r r':R2}(h:IxR X r)(h':IxR X r'):IxR X (λx y H Q=>r x y H Q\/r' x y H Q):=by
 intro value slice pins s σ H x y v u Q I rx ry q hs;rcases q with q | q
 ·exact h value slice pins s σ H x y v u Q I rx ry q hs
 ·exact h' value slice pins s σ H x y v u Q I rx ry q hs
def G7 (K:J5):R2:=λx y H Q=> ∃p xs i v,x= .ref p/\y= .int i/\SqL K H p xs/\atI xs i=some v/\Q v H
def G5 (K:J5):R2:=λx y H Q=> ∃p xs i v,x= .ref p/\y= .int i/\SqT K H p xs/\atI xs i=some v/\Q v H
def G6:R2:=λx y H Q=> ∃z i c,x= .str z/\y= .int i/\z.length<=sizeLine/\atI z.cps.toList i=some c/\Q (.str ⟨#[c]⟩) H
theorem ix_list:IxR X (G7 X.K):=by
 intro value slice pins s σ H x y v u Q I rx ry h hs;obtain⟨p,xs,i,z,rfl,rfl,hq,he,q⟩:=h;cases rx;obtain⟨t,rfl⟩:=ry;obtain⟨its,r,pl,hz⟩:=I.list hq;obtain⟨j,h1,h2,h3,h4,h5⟩:=r6 he;obtain⟨w,ew,rw'⟩:=r.get h2
 have hl:=r.length
 have hn:=nW
 have fin:EP X pins σ Q w s:=⟨z,H,I,rw',q⟩
 by_cases h0:0<=i
 ·have hj:i.toNat=j:=by
   rw[seqIndex_of h0 h5]at h1;exact KS h1
  exact item_listR pl.isList h0 (by omega) (by rw[hj];simpa using ew) fin hs
 ·have hj:(i+(its.toArray.size:Int)).toNat=j:=by
   rw[seqIndex_neg (by omega) h4]at h1
   rw[Ko,<-hl];exact KS h1
  exact Os (x:=w) pl.isList.typeIs slot_list_getitem.lookup
   (wpAny_getItem_list_neg (Q:=λr s'=>r=w/\EP X pins σ Q r s') pl.isList (by omega) (by rw[Ko] <;> omega) (by omega) (by rw[hj];simpa using ew) ⟨rfl,fin⟩) hs
theorem ix_tup:IxR X (G5 X.K):=by
 intro value slice pins s σ H x y v u Q I rx ry h hs;obtain⟨p,xs,i,z,rfl,rfl,hq,he,q⟩:=h;cases rx;obtain⟨t,rfl⟩:=ry;obtain⟨its,r,pl,hz⟩:=I.tuple hq;obtain⟨j,h1,h2,h3,h4,h5⟩:=r6 he;obtain⟨w,ew,rw'⟩:=r.get h2
 have hl:=r.length
 have hn:=nW
 have fin:EP X pins σ Q w s:=⟨z,H,I,rw',q⟩
 exact Os (x:=w) pl.typeIs slot_tuple_getitem.lookup
  (getItem_tuple (j:=j) (Q:=λr s'=>r=w/\EP X pins σ Q r s') pl (by omega) (by omega) (by rw[Ko,<-hl];exact h1) (by simpa using ew) ⟨rfl,fin⟩) hs
theorem F5:IxR X G6:=by
 intro value slice pins s σ H x y v u Q I rx ry h hs;obtain⟨z,i,c,rfl,rfl,hz,he,q⟩:=h;obtain⟨t,rfl⟩:=rx;obtain⟨t',rfl⟩:=ry;obtain⟨j,h1,h2,h3,h4,h5⟩:=r6 he
 have hl:z.cps.toList.length=z.length:=by simp[Str.length]
 rw[hl]at h1 h4 h5
 have hn:=nW
 exact tail_any (typeIs_str s z t) slot_str_getitem.lookup (getItem_str (c:=c) (by
  have e1:decide (i< -(2 ^ 63:Int))=false:=decide_eq_false (by omega)
  have e2:decide (i ≥ 2 ^ 63)=false:=decide_eq_false (by omega)
  rw[e1,e2,Bool.or_false]) (by rw[h1];simpa using h2) ⟨.str ⟨#[c]⟩,H,I.tok _,⟨_,rfl⟩,q⟩) hs
def rIx (K:J5):R2:=λx y H Q=>G7 K x y H Q\/G5 K x y H Q\/G6 x y H Q
theorem F6:IxR X (rIx X.K):=ix_list.or (ix_tup.or F5)
theorem qt (lo hi:Option Int)(n:Nat):(M4 lo hi none n).1=((HT.sIx n 0 lo:Nat):Int)/\(M4 lo hi none n).2.1=((HT.sIx n n hi:Nat):Int)/\(M4 lo hi none n).2.2=1:=by
 refine⟨?_,?_,rfl⟩
 ·cases lo with
  | none=>simp[M4,HT.sIx]
  | some i=>
   simp only[M4,HT.sIx,Qp,show(1:Int) > 0 by decide,if_true]
   by_cases h:i<0
   ·simp only[h,if_true] <;> omega
   ·simp only[h,if_false] <;> omega
 ·cases hi with
  | none=>simp[M4,HT.sIx]
  | some i=>
   simp only[M4,HT.sIx,Qp,show(1:Int) > 0 by decide,if_true]
   by_cases h:i<0
   ·simp only[h,if_true] <;> omega
   ·simp only[h,if_false] <;> omega
theorem oN (its:List J7)(lo hi:Option Int):slicePick its.toArray lo hi none=((its.drop (HT.sIx its.length 0 lo)).take (HT.sIx its.length its.length hi - HT.sIx its.length 0 lo)).toArray:=by
 obtain⟨h1,h2,h3⟩:=qt lo hi its.toArray.size;unfold slicePick;rw[h1,h2,h3];simp only[sliceRange_one,pick_run,Ko] <;> rfl
def rSlL (K:J5):V->Option Int->Option Int->Hp->VK->Prop:=λx lo hi H Q=> ∃a xs,x= .ref a/\SqL K H a xs/\∀p,H p=none->Q (.ref p) (upd H p (.lst (uj xs lo hi)))
theorem BU:SlR X (rSlL X.K):=by
 intro pins s σ H x v vl vu lo hi sl Q I rx hs pl pu h;obtain⟨a,xs,rfl,hx,q⟩:=h;cases rx;obtain⟨its,r,ht,hz⟩:=I.list hx
 have hlen:=r.length;refine⟨"list",_,slot_list_getitem.lookup,ht.isList.typeIs,?_⟩
 refine wpAny_getItem_list_slice ht.isList hs pl pu .none (by simp) ?_ (by rw[Ko] <;> omega)
 rw[oN,<-hlen];refine⟨.ref s.heap.objs.size,_,I.laid (t':=s.toks) (o:=.lst (uj xs lo hi)) (λb ob q=>Kg _ q) (Kj _) ?_,rfl,q _ (I.hok.fresh (Kj _))⟩
 exact⟨KW (lT xs lo hi) hz,_,0,(r.drop (HT.sIx xs.length 0 lo)).take (HT.sIx xs.length xs.length hi - HT.sIx xs.length 0 lo),Kw _ rfl⟩
theorem call_len_seq:CallR X (.builtin "len") (λxs H Q=> ∃p ys,xs= [.ref p]/\(SqL X.K H p ys\/SqT X.K H p ys)/\Q (.int ys.length) H):=by
 intro pins s σ H xs us Q I r h;obtain⟨p,ys,rfl,hq,q⟩:=h;obtain⟨u,rfl,rx⟩:=jo r;cases rx
 have hn:=nW;rcases hq with hq | hq
 ·obtain⟨its,r',pl,hz⟩:=I.list hq
  have hlen:=r'.length;exact Calls.call_len_list pl.isList (by simp only[Ko] <;> omega) ⟨.int ys.length,H,I.tok _,⟨s.toks+1,by rw[Ko,hlen]⟩,q⟩
 ·obtain⟨its,r',pl,hz⟩:=I.tuple hq
  have hlen:=r'.length;exact len_tuple pl (by simp only[Ko] <;> omega) ⟨.int ys.length,H,I.tok _,⟨s.toks+1,by rw[Ko,hlen]⟩,q⟩
theorem rY:CallR X (.builtin "len") (λxs H Q=> ∃z,xs= [.str z]/\z.length<=sizeLine/\Q (.int z.length) H):=by
 intro pins s σ H xs us Q I r h;obtain⟨z,rfl,hz,q⟩:=h;obtain⟨u,rfl,t,rfl⟩:=jo r
 have hn:=nW;exact len_str (by omega) ⟨.int z.length,H,I.tok _,⟨_,rfl⟩,q⟩
theorem CallR.or {f:J7}{r r':List V->Hp->VK->Prop}(h:CallR X f r)(h':CallR X f r'):CallR X f (λxs H Q=>r xs H Q\/r' xs H Q):=by
 intro pins s σ H xs us Q I rs q;rcases q with q | q
 ·exact h pins s σ H xs us Q I rs q
 ·exact h' pins s σ H xs us Q I rs q
theorem pj:CallR X (.type "tuple") (λxs H Q=> ∃p ys,xs= [.ref p]/\((SqL X.K H p ys/\∀l,H l=none->Q (.ref l) (upd H l (.tup ys)))\/(SqT X.K H p ys/\Q (.ref p) H))):=by
 intro pins s σ H xs us Q I r h;obtain⟨p,ys,rfl,h⟩:=h;obtain⟨u,rfl,rx⟩:=jo r;cases rx;rcases h with⟨hq,q⟩ | ⟨hq,q⟩
 ·obtain⟨its,r',pl,hz⟩:=I.list hq
  have hlen:=r'.length;refine call_tuple_list pl.isList (λh' kp=> ?_) (by simp only[Ko] <;> omega)
  have I1:Inv X pins σ H { s with heap:=h' }:=I.kept (t':=s.toks) kp
  have I2:Inv X pins σ (upd H h'.objs.size (.tup ys)) { s with heap:=h'.push { cls:=.type "tuple",data:=.seq its.toArray } }:=
   I1.laid (t':=s.toks) (λb o e=>Kg _ e) (Kj _) (show ObjOk X.prog X.w _ _ _ (.tup ys)from⟨hz,its,r',QP _ _⟩)
  exact⟨.ref h'.objs.size,_,I2,rfl,q _ (I1.hok.fresh (Kj _))⟩
 ·obtain⟨its,r',pl,hz⟩:=I.tuple hq
  exact call_tuple_same pl ⟨.ref p,H,I,rfl,q⟩
def tyV (K:J5)(T:String)(x:V)(H:Hp):Prop:=match x with
 | .str _=>T= "str"
 | .int _=>T= "int"
 | .ref p=>(T= "list"/\∃xs,SqL K H p xs)\/(T= "tuple"/\∃o,K.lookup p=some o/\o.cls= .type "tuple"/\o.dict=none) ∨
   (T= "dict"/\((∃kvs,H p=some (.dK kvs))\/∃kvs,H p=some (.dT kvs)))\/(T= "set"/\∃S n,H p=some (.set S n))
 | _=>False
theorem uD {pins:List (Addr×Obj)}{σ:St}{H:Hp}{s:J9}{T:String}{x:V}{v:J7}(I:Inv X pins σ H s)(r:RelV x v)(ty:tyV X.K T x H) :
  s.TypeIs v T/\∀a,v= .ref a->∃ob,s.heap.get? a=some ob/\ob.dict=none:=by
 cases x with
 | str z=>
  obtain⟨t,rfl⟩:=r;cases (show T= "str" from ty)
  exact⟨typeIs_str s z t,λ_ e=>nomatch e⟩
 | int i=>
  obtain⟨t,rfl⟩:=r;cases (show T= "int" from ty)
  exact⟨OY s i t,λ_ e=>nomatch e⟩
 | ref p=>
  cases r;rcases ty with⟨rfl,xs,hq⟩ | ⟨rfl,o,hk,hc,hd⟩ | ⟨rfl,hk⟩ | ⟨rfl,S,n,hk⟩
  ·obtain⟨its,_,pl,_⟩:=I.list hq
   refine⟨pl.isList.typeIs,λa e=> ?_⟩
   cases e;obtain⟨o,n,e,c,hd,_⟩:=pl;exact⟨o,e,hd⟩
  ·refine⟨⟨o,I.kIn p o hk,hc⟩,λa e=> ?_⟩
   cases e;exact⟨o,I.kIn _ o hk,hd⟩
  ·have z:∃o,s.heap.get? p=some o/\o.ExactDict:=by
    rcases hk with⟨kvs,hk⟩ | ⟨kvs,hk⟩
    ·obtain⟨_,_,_,_,o,_,_,e,ex,_⟩:=I.hok p _ hk
     exact⟨o,e,ex⟩
    ·obtain⟨_,_,_,_,o,_,_,e,ex,_⟩:=I.hok p _ hk
     exact⟨o,e,ex⟩
   obtain⟨o,e,ex⟩:=z;refine⟨⟨o,e,ex.1⟩,λa e2=> ?_⟩
   cases e2;exact⟨o,e,ex.2.1⟩
  ·obtain⟨o,_,_,_,e,ex,_⟩:=I.hok p _ hk
   refine⟨⟨o,e,ex.1⟩,λa e2=> ?_⟩
   cases e2
   exact⟨o,e,ex.2.1⟩
 | _=>exact LU ty
def tBM0 (K:J5)(T:String)(r:V->List V->Hp->VK->Prop)(to:TE):TE:=λσ H Q=>to σ H λx H1=>tyV K T x H1/\r x [] H1 Q
def tBM (K:J5)(T:String)(r:V->List V->Hp->VK->Prop)(to:TE)(t:TA):TE:=λσ H Q=>to σ H λx H1=>tyV K T x H1/\t σ H1 λxs H2=>r x xs H2 Q
variable {o e:Expr}{es:List Expr}{to:TE}{t:TA}{name:Str}{apos cpos:Pos}{T id:String}{r:V->List V->Hp->VK->Prop}
theorem Fo (pa:PlainAttrs T)(slot:Slot T name id)(hty:typeOf (.builtin id)=pure (.type "method_descriptor"))(hm:MtR X id r)(ho:PE X o to)
  (hbase:autoParam (KH o name X.env (eval o X.env)=eval o X.env) aqd._auto_1) (hline:autoParam ((apos.endLine == cpos.line)=true) aqd._auto_1):PE X (.Call (.Attribute o name apos) [] [] cpos) (tBM0 X.K T r to):=by
 intro pins s σ H Q I h;refine wpAny_Call_method0_late hbase hline (bN (ho pins s σ H _ I h) λv s1 hh_=> ?_)
 obtain⟨x,H1,I1,r1,ty,q1⟩:=hh_;obtain⟨h1,h2⟩:=uD I1 r1 ty;exact⟨T,id,pa,slot,hty,h1,h2,Mr rfl (PySem.evalArgs_none (hm pins s1 σ H1 x [] v [] Q I1 r1 .nil q1))⟩
theorem zx (pa:PlainAttrs T)(slot:Slot T name id)(hty:typeOf (.builtin id)=pure (.type "method_descriptor"))(hm:MtR X id r)(ho:PE X o to)(ha:PA X (e::es) t)
  (hbase:autoParam (KH o name X.env (eval o X.env)=eval o X.env) aqd._auto_1)
  (hfew:((backTo cpos (Kn (e::es) X.env)).all (λx=> !x.1)&&(M8 cpos (L4 [] X.env)).all (λx=>x.1.isSome)
   &&decide ((e::es).length+([]:List Q1).length+(if ([]:List Q1).isEmpty then 0 else 1)<30))=true:=by rfl)
  (hline:autoParam ((apos.endLine == cpos.line)=true) aqd._auto_1) (hs:autoParam (Kn (e::es) X.env=(false,eval e X.env)::Kn es X.env) aqd._auto_1) (hplain:autoParam ((backTo cpos (Kn es X.env)).any (·.1)=false) aqd._auto_1) :
  PE X (.Call (.Attribute o name apos) (e::es) [] cpos) (tBM X.K T r to t):=by
 intro pins s σ H Q I h;refine Ot hbase hfew hline rfl (bN (ho pins s σ H _ I h) λv s1 hh_=> ?_)
 obtain⟨x,H1,I1,r1,ty,q1⟩:=hh_;obtain⟨h1,h2⟩:=uD I1 r1 ty;refine⟨T,id,pa,slot,hty,h1,h2,?_⟩
 have hA:=ha cpos pins s1 σ H1 _ I1 q1;rw[hs]at hA ⊢;refine Mr (by show(false||(backTo cpos (Kn es X.env)).any (·.1))=false;rw[hplain] <;> rfl) (MB ?_)
 exact bN hA λus s2 ⟨vs,H2,I2,r2,q2⟩=>hm pins s2 σ H2 x vs v us Q I2 r1 r2 q2
end
def MtM (X:Cx)(id:String)(r:V->List V->Hp->VK->Prop):Prop:=
 ∀(pins:List (Addr×Obj)) (s:J9) (σ:St) (H:Hp) (x:V) (xs:List V) (v:J7) (us:List J7) (Q:VK),Inv X pins σ H s->RelV x v->Vals xs us->r x xs H Q →
  wpAny (model X.prog X.w) X.A (call (.builtin id) (v::us)) (EP X pins σ Q) X.xe s
theorem Vals.one:∀{x:V} {us:List J7},Vals [x] us->∃u,us= [u]/\RelV x u
 | _,_,.cons r .nil=>⟨_,rfl,r⟩
theorem Vals.zero:∀{us:List J7},Vals [] us->us= []
 | _,.nil=>rfl
theorem Vals.dropLast {xs:List V}{us:List J7}(h:Vals xs us):Vals xs.dropLast us.dropLast:=by
 induction h with
 | nil=>exact .nil
 | cons r t ih=>
  cases t with
  | nil=>exact .nil
  | cons q t'=>exact .cons r ih
theorem Vals.rep {xs:List V}{us:List J7}(h:Vals xs us):∀k:Nat,Vals (Kx k xs).flatten (Kx k us).flatten
 | 0=> .nil
 | k+1=>by
  rw[Lw,Lw,L8,L8];exact Vals.append h (Vals.rep h k)
theorem vp {α:Type}(l:List α):l.eraseIdx (l.length - 1)=l.dropLast:=by
 induction l with
 | nil=>rfl
 | cons a r ih=>
  cases r with
  | nil=>rfl
  | cons b r=>
   have e:(a::b::r).length - 1=((b::r).length - 1)+1:=by
    have h1:(a::b::r).length=r.length+2:=rfl
    have h2:(b::r).length=r.length+1:=rfl;omega
   rw[e,List.eraseIdx_cons_succ,ih]
   all_goals rfl
theorem foldl_rep (its:List J7):∀(k:Nat) (acc:List J7),
  NV (λx1 x2=>x1++x2) acc.toArray (Kx k its.toArray)=(acc++(Kx k its).flatten).toArray
 | 0,acc=>by simp
 | k+1,acc=>by
  have e:acc.toArray++its.toArray=(acc++its).toArray:=by simp
  have e2:(acc++its)++(Kx k its).flatten=acc++(Kx (k+1) its).flatten:=by
   rw[Lw,L8,Ld]
  rw[<-e2,<-foldl_rep its k (acc++its),<-e,Lw,List.foldl_cons]
section
variable {X:Cx}{pins:List (Addr×Obj)}{σ:St}{H:Hp}{s:J9}{l b:Addr}{xs ys zs:List V}
theorem Inv.JP {its its':List J7}{n:Nat}{f:Array J7->Array J7}{t':Nat}(I:Inv X pins σ H s)(hH:H l=some (.lst xs))
  (e:s.heap.get? l=some { cls:=.type "list",data:=.seq its.toArray n }) (hf:f its.toArray=its'.toArray) (hv:Vals ys its') (hz:ys.length<=sizeLine) :
  Inv X pins σ (upd H l (.lst ys)) { s with heap:=s.heap.update l (Obj.mapSeq f),toks:=t' }:=by
 have q:=PySem.IsL.update e f;rw[hf]at q;refine I.write (x:=l) (e:=l) (by rw[hH];exact trivial) (.inl rfl) (λb' u hb hu=>(MX s.heap (Obj.mapSeq f) (Mv hb)).trans hu) ⟨_,q⟩ ?_
 exact⟨hz,its',_,hv,q⟩
theorem Inv.JM {its:List J7}{t':Nat}(I:Inv X pins σ H s)(hv:Vals ys its)(hz:ys.length<=sizeLine) :
  Inv X pins σ (upd H s.heap.objs.size (.lst ys)) { s with heap:=s.heap.push { cls:=.type "list",data:=.seq its.toArray },toks:=t' }:=
 I.laid (λ_ _ q=>Kg _ q) (Kj _) ⟨hz,its,0,hv,Kw _ rfl⟩
theorem Inv.fresh (I:Inv X pins σ H s):H s.heap.objs.size=none:=I.hok.fresh (Kj _)
theorem Inv.Jw (I:Inv X pins σ H s)(hH:H l=some (.lst xs)):xs.length<=sizeLine/\∃(its:List J7) (n:Nat),Vals xs its/\xs.length=its.length/\s.heap.get? l=some { cls:=.type "list",data:=.seq its.toArray n }:=by
 obtain⟨z,its,n,r,e⟩:=I.hok l _ hH;exact⟨z,its,n,r,r.length,e⟩
theorem tp {n:Nat}(h:n<=sizeLine):L6 n=false:=by
 unfold L6;exact decide_eq_false (by omega)
end
section
variable {X:Cx}
def B1:V->List V->Hp->VK->Prop:=λx vs H Q=> ∃l xs y,x= .ref l/\vs= [y]/\H l=some (.lst xs)/\xs.length<sizeLine/\Q .non (upd H l (.lst (xs++ [y])))
theorem lb:MtM X "list.append" B1:=by
 intro pins s σ H x vs v us Q I rx rv h;obtain⟨l,xs,y,rfl,rfl,hH,hz,q⟩:=h;cases rx;obtain⟨u,rfl,ru⟩:=rv.one;obtain⟨z,its,n,r,hl,e⟩:=I.Jw hH;refine M5 F.slot_list_append ⟨_,e,rfl⟩ F.entry_list_append (F.args_list_append_2 _ _) (PySem.list_append l its.toArray n u (by rw[Ko];omega)) ⟨e,?_⟩
 refine⟨.non,_,I.JP (its':=its++ [u]) hH e (by simp) (r.append (.cons ru .nil)) ?_,rfl,q⟩
 rw[Kh,LC];omega
def B0:V->List V->Hp->VK->Prop:=λx vs H Q=> ∃l b xs zs,x= .ref l/\vs= [.ref b]/\H l=some (.lst xs)/\H b=some (.lst zs)/\xs.length+zs.length<=sizeLine/\Q .non (upd H l (.lst (xs++zs)))
theorem x9:MtM X "list.extend" B0:=by
 intro pins s σ H x vs v us Q I rx rv h;obtain⟨l,b,xs,zs,rfl,rfl,hH,hB,hz,q⟩:=h;cases rx;obtain⟨u,rfl,ru⟩:=rv.one;cases ru;obtain⟨z,its,n,r,hl,e⟩:=I.Jw hH;obtain⟨z2,its2,n2,r2,hl2,e2⟩:=I.Jw hB
 have hsz:its.toArray.size+its2.toArray.size<=sizeLine:=by rw[Ko,Ko];omega
 have hlong:¬ (!its.toArray.isEmpty&&L6 (its.toArray.size+its2.toArray.size))=true:=by
  rw[tp hsz,Bool.and_false];exact Kt
 refine M5 F.slot_list_extend ⟨_,e,rfl⟩ F.entry_list_extend (F.args_list_extend_2 _ _)
  (AutoSeq1.list_extend_list_list_0 l its.toArray n b its2.toArray n2 hlong (by rw[Ko];omega) (by omega)) ⟨e,e2,?_⟩
 refine⟨.non,_,I.JP (its':=its++its2) hH e (by simp) (r.append r2) ?_,rfl,q⟩
 rw[Kh];omega
def rPop:V->List V->Hp->VK->Prop:=λx vs H Q=> ∃l xs y,x= .ref l/\vs= []/\H l=some (.lst xs)/\xs[xs.length - 1]? =some y/\Q y (upd H l (.lst xs.dropLast))
theorem FI:MtM X "list.pop" rPop:=by
 intro pins s σ H x vs v us Q I rx rv h;obtain⟨l,xs,y,rfl,rfl,hH,hy,q⟩:=h;cases rx
 have hus:=rv.zero;subst hus;obtain⟨z,its,n,r,hl,e⟩:=I.Jw hH;obtain⟨u,hu,ru⟩:=r.get hy
 have hy':its.toArray[its.toArray.size - 1]? =some u:=by
  show its.toArray[its.length - 1]? =some u
  rw[<-Array.getElem?_toList,<-hl]
  exact hu
 refine M5 F.slot_list_pop ⟨_,e,rfl⟩ F.entry_list_pop (F.args_list_pop_1 _) (MeetsSeq.list_pop_last l its.toArray n u hy' (by rw[Ko];omega)) ⟨e,?_⟩
 refine⟨y,_,I.JP (its':=its.dropLast) hH e ?_ r.dropLast ?_,ru,q⟩
 ·show its.toArray.eraseIdxIfInBounds (its.toArray.size - 1)=its.dropLast.toArray
  rw[Ko,List.eraseIdxIfInBounds_toArray,vp]
 ·rw[List.length_dropLast]
  omega
def rCat:R2:=λx y H Q=> ∃l b xs zs,x= .ref l/\y= .ref b/\H l=some (.lst xs)/\H b=some (.lst zs)/\xs.length+zs.length<=sizeLine/\∀p,H p=none->Q (.ref p) (upd H p (.lst (xs++zs)))
theorem Fy:sd X (LG .Add) rCat:=by
 intro pins s σ H x y v u Q I rx ry h;obtain⟨l,b,xs,zs,rfl,rfl,hH,hB,hz,q⟩:=h;cases rx;cases ry;obtain⟨z,its,n,r,hl,e⟩:=I.Jw hH;obtain⟨z2,its2,n2,r2,hl2,e2⟩:=I.Jw hB;refine PySem.P.add_list e e2 ?_ (by rw[Ko,Ko];omega)
 have ea:its.toArray++its2.toArray=(its++its2).toArray:=by simp
 rw[ea];exact⟨.ref _,_,I.JM (t':=s.toks) (r.append r2) (by rw[Kh];omega),rfl,q _ I.fresh⟩
def rRep:R2:=λx y H Q=> ∃l k xs,x= .ref l/\y= .int k/\H l=some (.lst xs)/\-(2 ^ 63)<=k/\k<2 ^ 63/\xs.length*k.toNat<=sizeLine ∧
 ∀p,H p=none->Q (.ref p) (upd H p (.lst (Kx k.toNat xs).flatten))
theorem len_rep {α:Type}(xs:List α)(k:Nat):(Kx k xs).flatten.length=k*xs.length:=by
 induction k with
 | zero=>simp
 | succ k ih=>rw[Lw,L8,Kh,ih,Nat.succ_mul,Qb]
theorem Ft:sd X (LG .Mult) rRep:=by
 intro pins s σ H x y v u Q I rx ry h;obtain⟨l,k,xs,rfl,rfl,hH,h1,h2,hz,q⟩:=h;cases rx;obtain⟨t,rfl⟩:=ry;obtain⟨z,its,n,r,hl,e⟩:=I.Jw hH
 have hlen:its.toArray.size*k.toNat<=sizeLine:=by rw[Ko,<-hl];exact hz
 have hcap:¬ its.toArray.size*k.toNat > (2 ^ 63 - 1) / 8:=by
  have:(sizeLine:Nat)<=(2 ^ 63 - 1) / 8:=by decide
  omega
 have hfit:¬ (!Builtin.List.listFitsIndex k)=true:=by
  rw[fitsIndex_both h1 h2];exact Kt
 have hlong:¬ L6 (its.toArray.size*k.toNat)=true:=by
  rw[tp hlen];exact Kt
 have hnew:NV (λx1 x2=>x1++x2) #[] (Kx (if its.toArray.isEmpty=true then 0 else k.toNat) its.toArray)=(Kx k.toNat its).flatten.toArray:=by
  have f0:∀m:Nat,NV (λx1 x2=>x1++x2) #[] (Kx m its.toArray)=(Kx m its).flatten.toArray:=λm=>by
   have:=foldl_rep its m [];rw[Nu]at this;exact this
  rw[f0]
  cases its with
  | nil=>simp
  | cons a r'=>rw[if_neg (by simp)]
 refine NP (T:="list") (U:="int") (by decide) ⟨_,e,rfl⟩ (λs'=>OY s' k t) noFill_list_mul QQ Nv repeat_list Qq.lookup
  (M5 Nv (OY s k t) Qr (PN _ _) (int___rmul___int_list k t l its.toArray n)
   ⟨e,rfl,⟨_,e,rfl⟩,M5 F.slot_list_mul ⟨_,e,rfl⟩ F.entry_list_mul (F.args_list_mul_2 _ _) (Po l its.toArray n k t hfit hcap hlong) ⟨e,?_⟩⟩)
 rw[hnew];exact⟨.ref _,_,I.JM (t':=s.toks) (r.rep k.toNat) (by rw[len_rep,Qc];exact hz),rfl,q _ I.fresh⟩
end
end L2
namespace Att
open PySem PySem.W PySem.Calls PyProof.Rows
theorem ml {P:Params}{h:Heap}:∀(ns:List Int) (vs:List J7),WellAll P h vs (ns.map WData.int)->Nl vs ns:=by
 intro ns
 induction ns with
 | nil=>
  intro vs w;rw[Oy]at w;cases w
  exact .nil
 | cons n ns ih=>
  intro vs w;rw[Ka]at w
  cases w with
  | cons a b=>
   cases a;exact .cons _ _ (ih _ b)
theorem xM {l:OpenLaw}{n:Nat}(hn:l.most=some n){P:Params}{h:Heap}{args:List WData}{vals:List J7}
  (hpre:l.row.toRowW.claim.pre args=true) (hwl:WellAll P h vals args) :
  ∃a vs ns,vals= [KG a]/\args= [WData.list (ns.map WData.int)]/\h.get? a=some { cls:=.type "list",data:=.seq vs.toArray }/\Nl vs ns/\ns.length<=n:=by
 have hsh:WShape.hasAll [] args [.list .int] =true:=(pre_splitW hpre).1
 have hc:l.pre.holds [] { args:=args }=true:=(pre_splitW hpre).2;obtain⟨d,r,rfl,h1,h2⟩:=hasAllW_cons hsh;obtain rfl:=hasAllW_nil h2;obtain⟨xs,rfl,h3⟩:=hasW_list h1;obtain⟨ns,rfl⟩:=items_int h3
 have hlen:ns.length<=n:=by
  unfold OpenLaw.pre at hc
  have h4:(WTm.not (.lt (.lit (.int (n:Int))) (.len (.arg 0)))).holds [] { args:=[.list (ns.map .int)] }=true:=by
   have h4:=(holds_andW hc).1;rw[hn]at h4;exact h4
  have h5:=condW_of h4 (w_not (w_lt w_lit (w_len_list (w_arg rfl))));rw[Kc]at h5;refine Nat.le_of_not_lt λq=> ?_
  have q':(n:Int)<((ns.length:Nat):Int):=by omega
  first
   | (rw[decide_eq_true q']at h5;exact absurd h5 (by decide))
   | (simp at h5;omega)
 cases hwl with
 | cons w1 w2=>
  cases w2
  cases w1 with
  | list ho hall=>exact⟨_,_,ns,rfl,rfl,ho,ml ns _ hall,hlen⟩
theorem xT (l:OpenLaw)(args:List WData):l.row.toRowW.claim.post args (.bool true) args=true:=
 postW_of (r:=l.row.toRowW) (X:=(true == true))
  (show WShape.has [] (.bool true) .bool=true by first | rfl | decide | simp[WShape.has,WShape.arms,WShape.armsAll])
  (show(WTm.eq .res (.lit (.bool true))).value [] { args:=args,res:=some (.bool true),after:=args }=some (.bool (true == true))from w_eq_bool (w_res rfl) w_lit) rfl
theorem attach_call {l:OpenLaw}{n:Nat}{q:KA}{loose:List Str}{XP:(Str->Option J7)->Heap->Prop}{YP:K1->Heap->Prop}{d:DefRec}
  (hn:l.most=some n) (hdf:d.params.defaults= [])
  (call:∀(w:K1) (s₀ s₁:J9) (mg mb:Str->Option J7) (fa:Addr) (o:Obj) (pm cd doc:J7) (a:Addr) (vs:List J7) (ns:List Int),
   Ground q loose [] XP w s₀ mg mb s₁.heap->YP w s₁.heap →
   s₁.heap.get? fa=some o->o.data= .func (docDef d.name d.params d.body d.scope pm cd doc)->s₁.heap.CodeRec cd d.name->mg d.name=some (.ref fa) →
   s₁.heap.get? a=some { cls:=.type "list",data:=.seq vs.toArray }->Nl vs ns->ns.length<=n->s₁.gens= #[] →
   codeAny (model l.prog w) callerA (.call (.ref fa) ⟨[.ref a],[]⟩) (λr s'=>r= .ok (.ret (.bool true))/\OldK s₁.heap s'.heap/\s'.os=s₁.os/\Od s'.gens) s₁) :
  WalkO q loose XP YP l.row.toRowW d [] (λf vs=>PySem.call f vs):=by
 intro w s₀ s₁ mg mb G Y fa o pm cd doc dV kV ho hd hcd hD hmg hg args vals as hpre hlay hrd hwl hlo;obtain rfl:dV= .none:=Dflts.none hD hdf;obtain rfl:kV= .none:=Dflts.noKw hD;obtain⟨a,vs,ns,rfl,rfl,hobj,hints,hlen⟩:=xM hn hpre hwl;refine enter_call (MJ (call w s₀ s₁ mg mb fa o pm cd doc a vs ns G Y ho (fd_plain hd) hcd hmg hobj hints hlen hg) λr s' hq=> ?_)
 obtain⟨rfl,h2,h3,h4⟩:=hq;exact⟨.inl ⟨.bool true,.bool true,[],rfl,λ_=>rfl,.bool true,xT l _,λ_=>⟨List.Pairwise.nil,λ_ hm=>(nomatch hm)⟩⟩,h2,h3,h4⟩
end Att
namespace L2
open PySem PySem.Spec PyProof.Rows
theorem pB:∀{vs:List J7} {ns:List Int},Nl vs ns->Vals (ns.map V.int) vs
 | _,_,.nil=> .nil
 | _,_,.cons n t h=> .cons ⟨t,rfl⟩ (pB h)
def Gz (H:Hp):Prop:=∀b,H b=none\/∃o xs,H b=some (.frz o (.lst xs))
theorem zY {P:KA}{w:K1}{K:J5}{mg mb:Str->Option J7}{CX:Bk}{k:Nat}{fa a:Addr}{fd:KY}{x:Str}{sp:Sp}{s₁:J9}{vs:List J7}{ns:List Int}
  (KX:K.In s₁.heap) (hns:s₁.heap.Ns KN mg) (hb:s₁.heap.Ns NY mb) (hbb:∀x:Str,x≠ "__name__"->mb x=KQ x) (hlim:s₁.heap.NoLimit) (hg:s₁.gens= #[])
  (ha:s₁.heap.get? a=some { cls:=.type "list",data:=.seq vs.toArray }) (hi:Nl vs ns) (hl:ns.length<=sizeLine) (hr:Room k callerA)
  (F:∀base:Heap,K.In base->base.Ns KN mg->FnOk P w K mg base CX k fa fd [x] sp) (hbind:∀(s:J9) (u:J7),Oe s fd ⟨[u],[]⟩ [(x,u)])
  (hsp:∀H:Hp,Gz H->SqL K H a (ns.map V.int)->sp [.ref a] H (λv _=>v= .bl true) λ_ _ _=>False)
  (hCX:∀H e s',CX [] H s₁ (λ_ _ _=>False) e s'->False) :
  codeAny (model P w) callerA (.call (.ref fa) ⟨[.ref a],[]⟩) (λr s'=>r= .ok (.ret (.bool true))/\OldK s₁.heap s'.heap/\s'.os=s₁.os/\Od s'.gens) s₁:=by
 have rv:=pB hi
 have lenV:=hi.length
 -- from an abstract heap in which nothing but the script may be tracked
 have core:∀H:Hp,Gz H->SqL K H a (ns.map V.int)->HOk P w H s₁.heap->(∀b,H b≠none->b=a)->(H a≠none->K.lookup a=none) →
   codeAny (model P w) callerA (.call (.ref fa) ⟨[.ref a],[]⟩) (λr s'=>r= .ok (.ret (.bool true))/\OldK s₁.heap s'.heap/\s'.os=s₁.os/\Od s'.gens) s₁:=by
  intro H hO hS hok hA hK
  have base_of:∀{b:Addr} {o:Obj},s₁.heap.get? b=some o->H b=none->(rP s₁.heap H).get? b=some o:=λe n=>Aq e n
  have noA:∀{b:Addr} {o:Obj} {es:Array DictEntry} {ep:Nat},s₁.heap.get? b=some o->o.data= .dict es ep->H b=none:=λ{b o es ep} e d=>by
   cases q:H b with
   | none=>rfl
   | some u=>
    have e':b=a:=hA b (by rw[q];simp)
    subst e';rw[ha]at e;cases e
    have d':Data.seq vs.toArray _=Data.dict es ep:=d;cases d'
  have nsK:∀{b:Addr} {m:Str->Option J7},s₁.heap.Ns b m->(rP s₁.heap H).Ns b m:=λ{b m} ⟨o,es,ep,e,d,r⟩=>⟨o,es,ep,base_of e (noA e d),d,r⟩
  have hKb:K.In (rP s₁.heap H):=λb o e=>base_of (KX b o e) (by
   cases q:H b with
   | none=>rfl
   | some u=>
    have e':b=a:=hA b (by rw[q];simp)
    subst e';rw[hK (by rw[q];simp)]at e;cases e)
  have hM:Mod K mg (rP s₁.heap H):=⟨hKb,nsK hns,⟨mb,nsK hb,hbb⟩,let ⟨mc,h1,h2⟩:=hlim;⟨mc,nsK h1,h2⟩⟩
  have e0:Env0 P w K mg (rP s₁.heap H) callerA [] s₁ H:=⟨rfl,hM,λb o e=>CK e,Nd (yn _ _),trivial,λb hb=>absurd (show b∈([]:List Addr)from hb) (by simp),hok,.of_eq hg⟩
  refine MJ ((F _ hKb (nsK hns)).run callerA [] s₁ H ⟨[.ref a],[]⟩ [.ref a] [.ref a] _ _ hr e0 (hbind s₁ (.ref a)) (.cons rfl .nil) (hsp H hO hS)) λr s' h=> ?_
  cases r with
  | error e=>exact(hCX H e s' h).elim
  | ok fl=>
   cases fl with
   | next=>exact LU h
   | brk=>exact LU h
   | cont=>exact LU h
   | ret u=>
    obtain⟨v,H',os,bare,un,hok',r',q⟩:=h
    have q':v= .bl true:=q;subst q';obtain rfl:u=Lc true:=r';refine⟨rfl,OldK.of_keep λb o e=> ?_,os,bare⟩
    cases q:H b with
    | none=>exact un.keep b o e q (by intro z;exact absurd (show b∈([]:List Addr)from z) (by simp)) (by simp)
    | some u=>
     rcases hO b with z | ⟨ob,xs,z⟩
     ·rw[q]at z;cases z
     ·have z2:=un.frzs b ob _ z
      obtain⟨e1,_⟩:=hok b _ z;obtain⟨e2,_⟩:=hok' b _ z2;rw[e]at e1;cases e1;exact e2
 cases hk:K.lookup a with
 | some o=>
  -- the script is one of the module's own objects
  have e:=KX a o hk;rw[ha]at e;cases e
  refine core (λ_=>none) (λ_=> .inl rfl) (.inr ⟨_,vs.toArray,_,hk,rfl,rfl,rfl,by rw[Ko,lenV];exact hl,by simpa using rv⟩) (λb u z=>by have z':(none:Option HO)=some u:=z;cases z') (λb z=>absurd rfl z) λz=>absurd rfl z
 | none=>
  refine core (λb=>if b=a then some (.frz { cls:=.type "list",data:=.seq vs.toArray } (.lst (ns.map V.int)))else none) (λb=> ?_) (.inl (.inr ⟨{ cls:=.type "list",data:=.seq vs.toArray },if_pos rfl⟩)) (λb u z=> ?_) (λb z=> ?_) λ_=>hk
  ·by_cases hb:b=a
   ·exact .inr ⟨_,_,if_pos hb⟩
   ·exact .inl (if_neg hb)
  ·by_cases hb:b=a
   ·have z':=(if_pos hb).symm.trans z
    cases z';subst hb;exact⟨ha,by rw[Kc];exact hl,vs,_,rv,ha⟩
   ·have z':=(if_neg hb).symm.trans z
    cases z'
  ·by_cases hb:b=a
   ·exact hb
   ·exact absurd (if_neg hb) z
abbrev CX0:Bk:=λ_ _ _ _ _ _=>False
abbrev E0:XK:=λ_ _ _=>False
theorem sV {X:Cx}:vJ CX0 X E0:=λ_ _ _ _ _ _ _ h=>h.elim
structure Fun (K:J5)(x qual:Str)(st:Stmt)(f:Addr)(fd:KY):Prop where
 ex:∃(oc:J7) (od:Option Addr) (kV doc pm:J7) (an:Option Addr) (cdv ct:J7) (osl:Array (Option J7)),
  fd=M9 x qual (fh st) (bu st) (ai st) .none kV doc pm an cdv ct/\K.lookup f=some ⟨oc,od,.func fd,osl⟩/\O8 K cdv qual=true
 kp:LW K (.ref f)=true
section
variable {P:KA}{w:K1}{K:J5}{mg:Str->Option J7}{base:Heap}
theorem Fun.ok {x qual:Str}{st:Stmt}{f:Addr}{fd:KY}{N ps:List Str}{k:Nat}{sp:Sp}(F:Fun K x qual st f fd)(S:ay N ps (ai st))(len:∀vs H Q E,sp vs H Q E->vs.length=ps.length)
  (hbody:∀(cdv:J7) (A:KP) (outer:List Env) (s:J9) (H:Hp) (vs:List V) (Q:VK) (E:XK),Room k (A.deeper (envOfC qual (ai st) s.heap.objs.size f cdv))->sp vs H Q E →
   ∃t,PSs (fm CX0 P w K mg base N qual (ai st) f cdv A outer s H E).nox (bu st) t/\t { nx:=λ_ H'=>Q .non H',rt:=Q } (start N vs) H):FnOk P w K mg base CX0 (k+1) f fd ps sp:=by
 obtain⟨oc,od,kV,doc,pm,an,cdv,ct,osl,rfl,lk,hcd⟩:=F.ex;refine IF lk hcd S len λA outer s H vs Q E hr hsp=> ?_
 obtain⟨t,h,q⟩:=hbody cdv A outer s H vs Q E hr hsp;exact⟨t,h.nox,q⟩
theorem Fun.binds {x qual:Str}{st:Stmt}{f:Addr}{fd:KY}{ps:List Str}(F:Fun K x qual st f fd)
  (h:∀(kV doc pm:J7) (an:Option Addr) (cdv ct:J7) (us:List J7),us.length=ps.length->QB (M9 x qual (fh st) (bu st) (ai st) .none kV doc pm an cdv ct) ⟨us,[]⟩=pure (ps.zip us)):Binds K fd ps []:=by
 obtain⟨oc,od,kV,doc,pm,an,cdv,ct,osl,rfl,lk,hcd⟩:=F.ex;exact .all (h kV doc pm an cdv ct)
theorem Aw {x qual:Str}{st:Stmt}{f:Addr}{oc:J7}{od an:Option Addr}{osl:Array (Option J7)}{kV doc pm cdv ct:J7}(l:K.lookup f=some ⟨oc,od,.func (M9 x qual (fh st) (bu st) (ai st) .none kV doc pm an cdv ct),osl⟩)
  (c:O8 K cdv qual=true) (k:LW K (.ref f)=true):Fun K x qual st f (M9 x qual (fh st) (bu st) (ai st) .none kV doc pm an cdv ct):=⟨⟨oc,od,kV,doc,pm,an,cdv,ct,osl,rfl,l,c⟩,k⟩
end
theorem iteF {A B:Prop}(h:B):if false=true then A else B:=by
 rw[if_neg Kt];exact h
theorem iteT {A B:Prop}(h:A):if true=true then A else B:=by
 rw[if_pos rfl];exact h
def Same (H H':Hp):Prop:=∀b o,H b=some o->H' b=some o
theorem Same.refl (H:Hp):Same H H:=λ_ _ h=>h
theorem Same.trans {H H1 H2:Hp}(a:Same H H1)(b:Same H1 H2):Same H H2:=λc o h=>b c o (a c o h)
theorem jT {env:Env}:∀(names:List (Str×My)) (acc:List (Str×Addr)),
  (∀x,(x,KU)∈names->∃c,env.cells.lookup x=some c) →
  (∀x c,acc.lookup x=some c->env.cells.lookup x=some c) →
  ∃cl,(forIn (m:=Sem) names acc (λx cs=>(if (x.2 == KU)=true then do let a <-cellOf env x.1;pure (Mw ((x.1,a)::cs))else pure (Mw cs))))=pure cl ∧
   (∀x c,cl.lookup x=some c->env.cells.lookup x=some c) ∧
   (∀x,(x,KU)∈names->∃c,cl.lookup x=some c)/\(∀x c,acc.lookup x=some c->∃c',cl.lookup x=some c')
 | [],acc,_,h=>⟨acc,rfl,h,λx hx=>by simp at hx,λx c e=>⟨c,e⟩⟩
 | (n,k)::r,acc,hf,h=>by
  by_cases hk:k=KU
  ·subst hk
   obtain⟨c,hc⟩:=hf n (by simp)
   have h':∀x c',((n,c)::acc).lookup x=some c'->env.cells.lookup x=some c':=λx c' e=>by
    rw[KZ]at e
    cases q:x == n with
    | true=>
     rw[q]at e
     have e2:c=c':=KS e
     have e3:x=n:=by simpa using q
     rw[<-e2,e3];exact hc
    | false=>rw[q]at e;exact h x c' e
   obtain⟨cl,e1,e2,e3,e4⟩:=jT r ((n,c)::acc) (λx hx=>hf x (J6 _ hx)) h'
   refine⟨cl,?_,e2,λx hx=> ?_,λx c' e=> ?_⟩
   ·rw[QR]
    simp only[beq_self_eq_true,if_true,cellOf,hc,pure_bind];exact e1
   ·rcases Kf.mp hx with z | z
    ·have z1:x=n:=by injection z
     subst z1;exact e4 x c (by simp[KZ])
    ·exact e3 x z
   ·cases q:x == n with
    | true=>exact e4 x c (by simp[KZ,q])
    | false=>exact e4 x c' (by simp[KZ,q,e])
  ·have hb:(k == KU)=false:=by simpa using hk
   obtain⟨cl,e1,e2,e3,e4⟩:=jT r acc (λx hx=>hf x (J6 _ hx)) h
   refine⟨cl,?_,e2,λx hx=> ?_,e4⟩
   ·rw[QR]
    simp only[hb,Bool.false_eq_true,if_false,pure_bind];exact e1
   ·rcases Kf.mp hx with z | z
    ·have z1:KU=k:=by injection z
     exact absurd z1.symm hk
    ·exact e3 x z
theorem vA {env:Env}{scope:Nk}(hf:∀x,(x,KU)∈scope.names->∃c,env.cells.lookup x=some c) :
  ∃cl,closureFor scope env=pure cl/\(∀x c,cl.lookup x=some c->env.cells.lookup x=some c)/\(∀x,(x,KU)∈scope.names->∃c,cl.lookup x=some c):=by
 obtain⟨cl,e1,e2,e3,_⟩:=jT scope.names [] hf (λx c e=>by simp at e)
 refine⟨cl,?_,e2,e3⟩
 unfold closureFor;refine Eq.trans ?_ (congrArg (λz=>z >>= pure) e1|>.trans (by simp))
 rfl
theorem rX {pr:KA}{wd:K1}{Ar:KP}{Rz:Qj->J9->Prop}{s0:J9}{el tg it0:Expr}{cs:List Expr}{sc:Nk}{ps:Pos}{itv av:J7}{ev:Env}(W:Nat->J9->Prop)
  (go:∀k st,W k st->wpAny (model pr wd) Ar (pyNext itv) (λr s1=>match r with
   | none=>Rz (.ok .next) s1
   | some v=>wpAny (model pr wd) Ar (MS tg itv v) (λ_ s2=>wpAny (model pr wd) Ar (assign tg ev v) (λ_ s3=>
     wpAny (model pr wd) Ar (forIn cs true λc b=>if b=true then do let z <-isTrue c ev (eval c ev);pure (Mw z)else pure (Mw b)) (λz s4=>
      if z=true then wpAny (model pr wd) Ar (eval el ev) (λy s5=>
       wpAny (model pr wd) Ar (call (.builtin "list.append") [av,y]) (λ_ s6=> ∃m,m<k/\W m s6) (λ_ _=>False) s5) (λ_ _=>False) s4
      else ∃m,m<k/\W m s4) (λ_ _=>False) s3) (λ_ _=>False) s2) (λ_ _=>False) s1) (λ_ _=>False) st)
  (k:Nat) (hk:W k s0):codeAny (model pr wd) Ar (.compLoop (.ListComp el [⟨tg,it0,cs,0⟩] sc ps) 0 itv av ev) Rz s0:=by
 refine codeAny_loop rfl W (λk st hw=> ?_) k hk
 show wpAny (model pr wd) Ar ((compTurn (.ListComp el [⟨tg,it0,cs,0⟩] sc ps) 0 itv av ev).onRaise (λz=>do Q2 z ev;theTreesLotGoes z)) _ _ st
 refine wpAny_noted ?_
 rw[compTurn_list]
 have no:∀{α:Type} {t:Sem α} {Q Q':α->J9->Prop} {E':J7->J9->Prop} {x:J9},wpAny (model pr wd) Ar t Q (λ_ _=>False) x->(∀y z,Q y z->Q' y z)->wpAny (model pr wd) Ar t Q' E' x:=λh f=>LV h f λ_ _ z=>z.elim
 refine Kb (wpAny_standAt (Kb (no (go k st hw) λr s1 g1=> ?_)))
 cases r with
 | none=>exact Kp g1
 | some v=>
  refine Kb (no g1 λ_ s2 g2=>Kb (no g2 λ_ s3 g3=>Kb (no g3 λz s4 g4=> ?_)))
  cases z with
  | false=>exact Kp (And.intro rfl g4)
  | true=>exact Kb (Kb (no g4 λy s5 g5=>Kb (no g5 λ_ s6 g6=>Kp (Kp (And.intro rfl g6)))))
def cu (X:Cx)(scope:Nk)(cl:List (Str×Addr))(N':List Str)(C:Addr)(s₀:J9)(H₀:Hp)(fp:List Addr):Cx:=
 { X with N:=N',s₀:=s₀,H₀:=H₀,env:=compEnvC scope cl C X.env,outer:=X.stack,stack:=X.stack,ex:=fp,fn:=λx=>scope.names.lookup x == some .cell,xe:=λ_ _=>False }
def fg (src:List (Option Nat))(σ:St):St:=src.map λo=>match o with
 | some i=>(σ[i]?).join
 | none=>none
theorem iF {env:Env}:∀{names:List (Str×My)} {x:Str} {k:My},
  (names.map λ(n,k)=>if (k == KU&&env.scope.kind == .function&&env.kindOf n == some .cell)then(n,Ll)else(n,k)).lookup x=some k →
  ∃k',names.lookup x=some k'/\(k=k'\/k'= .free)
 | [],_,_,h=>by simp at h
 | (n,k0)::r,x,k,h=>by
  have ih:=@iF env r x k
  have h':Lu x ((if (k0 == KU&&env.scope.kind == .function&&env.kindOf n == some .cell)=true then(n,Ll)else(n,k0))::(r.map λ(n,k)=>if (k == KU&&env.scope.kind == .function&&env.kindOf n == some .cell)then(n,Ll)else(n,k)))=some k:=h
  by_cases hc:(k0 == KU&&env.scope.kind == .function&&env.kindOf n == some .cell)=true
  ·rw[if_pos hc]at h'
   rw[KZ]at h' ⊢
   cases hx:x == n with
   | true=>
    refine⟨k0,rfl,.inr ?_⟩
    have:=La.mp hc|>.1
    have:=La.mp this|>.1
    simpa using this
   | false=>rw[hx]at h';exact ih h'
  ·rw[if_neg hc]at h'
   rw[KZ]at h' ⊢
   cases hx:x == n with
   | true=>rw[hx]at h';exact⟨k0,rfl,.inl (KS h').symm⟩
   | false=>rw[hx]at h';exact ih h'
theorem jc {names:List (Str×My)}{x:Str}{k:My}(h:names.lookup x=some k):(x,k)∈names:=LR h
theorem gY {env:Env}:∀{names:List (Str×My)} {x:Str},names.lookup x=some .free →
  (names.map λ(n,k)=>if (k == KU&&env.scope.kind == .function&&env.kindOf n == some .cell)then(n,Ll)else(n,k)).lookup x=some .cell ∨
  (names.map λ(n,k)=>if (k == KU&&env.scope.kind == .function&&env.kindOf n == some .cell)then(n,Ll)else(n,k)).lookup x=some .free
 | [],_,h=>by simp at h
 | (n,k0)::r,x,h=>by
  have ih:=@gY env r x
  show Lu x ((if (k0 == KU&&env.scope.kind == .function&&env.kindOf n == some .cell)=true then(n,Ll)else(n,k0))::_)=_\/Lu x ((if (k0 == KU&&env.scope.kind == .function&&env.kindOf n == some .cell)=true then(n,Ll)else(n,k0))::_)=_
  rw[KZ]at h
  by_cases hc:(k0 == KU&&env.scope.kind == .function&&env.kindOf n == some .cell)=true
  ·rw[if_pos hc]
   rw[KZ]
   cases hx:x == n with
   | true=>exact .inl rfl
   | false=>rw[hx]at h;exact ih h
  ·rw[if_neg hc]
   rw[KZ]
   cases hx:x == n with
   | true=>rw[hx]at h;exact .inr h
   | false=>rw[hx]at h;exact ih h
section
variable {X:Cx}
structure LcScope (X:Cx)(scope:Nk)(N':List Str)(src:List (Option Nat)):Prop where
 kind:scope.kind= .function
 cel:∀y∈scope.names,y.2= .cell->scope.names.lookup y.1=some .cell
 loc:∀y∈scope.names,y.2= .local->scope.names.lookup y.1=some .local
 len:src.length=N'.length
 from_:∀(j i:Nat) (x:Str),src[j]? =some (some i)->N'[j]? =some x->X.N[i]? =some x/\scope.names.lookup x=some .free
 free:∀x,(x,KU)∈scope.names->X.env.kindOf x=some .cell\/X.env.kindOf x=some .free
def GW (K:J5)(wi:TI)(src:List (Option Nat))(g:TG)(tc:TT)(te:TE):TE:=λσ H Q=>wi σ H λJ H1=> ∀D,H1 D=none->K.lookup D=none →
 ∃W:Nat->Nat->St->List V->Hp->Prop,(∃m,W 0 m (fg src σ) [] (upd H1 D (.lst [])))/\∀i m σ ys H,W i m σ ys H->H D=some (.lst ys) ∧
  ((J.stop i H/\Q (.ref D) H)\/(J.go i H/\ys.length<sizeLine/\∀x H',J.yld i H x H'->g x σ H' λσ2 H2=>tc σ2 H2 λb H3=>
   if b=true then te σ2 H3 λv H4=>H4 D=some (.lst ys)/\∃m',m'<m/\W (i+1) m' σ2 (ys++ [v]) (upd H4 D (.lst (ys++ [v])))else ∃m',m'<m/\W (i+1) m' σ2 ys H3))
def Bw (X:Cx)(ifs:List Expr)(t:TT):Prop:=
 ∀(pins:List (Addr×Obj)) (s:J9) (σ:St) (H:Hp) (Q:Bool->Hp->Prop),Inv X pins σ H s->t σ H Q →
  wpAny (model X.prog X.w) X.A (forIn ifs true λc r=>if r=true then do let ok <-isTrue c X.env (eval c X.env);pure (Mw ok)else pure (Mw r)) (TP X pins σ Q) X.xe s
def GN:TT:=λ_ H Q=>Q true H
theorem Cu:Bw X [] GN:=λ_ _ _ H _ I h=>wpAny_tests_nil ⟨H,I,h⟩
theorem ly:∀(names:List (Str×My)) (h:Heap) (acc:List (Str×Addr)),(∀x y c,acc.lookup x=some c->acc.lookup y=some c->x=y)->(∀x c,acc.lookup x=some c->c<h.objs.size) →
  (∀x c,(Me h.objs.size names acc).lookup x=some c->acc.lookup x=some c\/(h.objs.size<=c/\(OR h names).IsCell c none)) ∧
  (∀x y c,(Me h.objs.size names acc).lookup x=some c->(Me h.objs.size names acc).lookup y=some c->x=y) ∧
  (∀x,(x,Ll)∉names->(Me h.objs.size names acc).lookup x=acc.lookup x) ∧
  (∀x,((x,Ll)∈names\/∃c,acc.lookup x=some c)->∃c,(Me h.objs.size names acc).lookup x=some c) ∧
  (∀x c,(x,Ll)∈names->(Me h.objs.size names acc).lookup x=some c->h.objs.size<=c)
 | [],h,acc,hi,_=>⟨λ_ _ e=> .inl e,hi,λ_ _=>rfl,λx e=>e.elim (λz=>absurd z Li) id,λ_ _ z=>absurd z Li⟩
 | (n,k)::r,h,acc,hi,hl=>by
  unfold Me OR
  by_cases hk:k= .cell
  ·subst hk
   rw[if_pos (by rfl),if_pos (by rfl)]
   have hz:(h.push { cls:=.type "cell",data:=.cell none }).objs.size=h.objs.size+1:=LZ ..
   have lk:∀x,((n,h.objs.size)::acc).lookup x=if x=n then some h.objs.size else acc.lookup x:=λx=>by
    rw[KZ]
    by_cases e:x=n
    ·rw[if_pos e,beq_iff_eq.mpr e]
    ·rw[if_neg e,beq_eq_false_iff_ne.mpr e]
   obtain⟨c1,c2,c3,c4,c5⟩:=ly r (h.push { cls:=.type "cell",data:=.cell none }) ((n,h.objs.size)::acc) (λx y c e1 e2=>by
     rw[lk]at e1 e2
     by_cases q1:x=n
     ·by_cases q2:y=n
      ·rw[q1,q2]
      ·rw[if_pos q1]at e1;rw[if_neg q2]at e2
       cases e1;exact absurd (hl _ _ e2) (KI _)
     ·rw[if_neg q1]at e1
      by_cases q2:y=n
      ·rw[if_pos q2]at e2
       cases e2;exact absurd (hl _ _ e1) (KI _)
      ·rw[if_neg q2]at e2;exact hi x y c e1 e2) (λx c e=>by
     rw[lk]at e;rw[hz]
     by_cases q:x=n
     ·rw[if_pos q]at e;cases e;exact Oh _
     ·rw[if_neg q]at e;exact PP (hl x c e))
   rw[hz]at c1 c2 c3 c4 c5;refine⟨λx c e=> ?_,c2,λx hx=> ?_,λx hx=> ?_,λx c hx e=> ?_⟩
   ·rcases c1 x c e with z | z
    ·rw[lk]at z
     by_cases q:x=n
     ·rw[if_pos q]at z;cases z
      exact .inr ⟨Kj _,_,OS r _ _ _ (Kw _ rfl),rfl⟩
     ·rw[if_neg q]at z;exact .inl z
    ·exact .inr ⟨NW z.1,z.2⟩
   ·rw[c3 x λz=>hx (J6 _ z),lk,if_neg λz=>hx (by rw[z];exact Ke)]
   ·refine c4 x ?_
    rcases hx with hx | hx
    ·rcases Kf.mp hx with z | z
     ·cases z
      exact .inr ⟨_,by rw[lk,if_pos rfl]⟩
     ·exact .inl z
    ·by_cases q:x=n
     ·exact .inr ⟨_,by rw[lk,if_pos q]⟩
     ·exact .inr (by rw[lk,if_neg q];exact hx)
   ·rcases Kf.mp hx with z | z
    ·have q:x=n:=(QD z).1
     rcases c1 x c e with y | y
     ·rw[lk,if_pos q]at y;cases y;exact Kj _
     ·exact NW y.1
    ·exact NW (c5 x c z e)
  ·have hb:¬ (k == Ll)=true:=λz=>hk (by simpa using z)
   rw[if_neg hb,if_neg hb];obtain⟨c1,c2,c3,c4,c5⟩:=ly r h acc hi hl;exact⟨c1,c2,λx hx=>c3 x λz=>hx (J6 _ z),λx hx=>c4 x (hx.imp (λz=>(Kf.mp z).resolve_left λz=>hk (QD z).2.symm) id),λx c hx=>c5 x c ((Kf.mp hx).resolve_left λz=>hk (QD z).2.symm)⟩
theorem x6 {M:Model}{A:KP}{E:J7->J9->Prop}{s:J9}{scope:Nk}{globals:Addr}{cl:List (Str×Addr)}{qual:Str}{env:Env}{Q:Env->J9->Prop}
  (q:Q (newEnv scope s.heap.objs.size globals (Me (s.heap.objs.size+1) scope.names cl) qual none .none (some env) NY) { s with heap:=OR (s.heap.push { cls:=.type "dict",data:=.dict #[] }) scope.names }) :
  wpAny M A (newFunctionEnv scope globals cl [] qual none .none (some env)) Q E s:=by
 simp only[newFunctionEnv,Pp,if_true];refine Kb (wpAny_alloc (Kb (wpAny_layCells _ (λname kind cells=>by cases hkc:kind == Ll <;> simp[hkc]) _ _ _ _ ?_)))
 rw[show({ s with heap:=s.heap.push { cls:=.type "dict",data:=.dict #[] } }:J9).heap.objs.size=s.heap.objs.size+1 from LZ ..]
 rw[List.forIn_nil];exact Kb (Kp (Kp q))
theorem wI {elt tg iter:Expr}{ifs:List Expr}{scope:Nk}{pos fpos:Pos}{N':List Str}{src:List (Option Nat)}{wi:TI}{g:TG}{tc:TT}{te:TE}{use:Option (J7->Sem Unit)}{Qf:J7->J9->Prop}
  {pins:List (Addr×Obj)} {s:J9} {σ:St} {H:Hp} {Q:VK}
  (hc:X.calm=true) (S:LcScope X scope N' src) (hi:PI X tg iter wi)
  (block:∀cl C s₀ H₀ fp,PG (cu X scope cl N' C s₀ H₀ fp) tg g/\Bw (cu X scope cl N' C s₀ H₀ fp) ifs tc/\PE (cu X scope cl N' C s₀ H₀ fp) elt te)
  (hs:∀x,K6 iter X.env x=pure x) (I:Inv X pins σ H s) (h:GW X.K wi src g tc te σ H Q)
  (hend:∀(D C:Addr) (H':Hp) (s':J9),(∃m,s'.heap.Ns C m)->(∀h',Nc C s'.heap h'->Inv X pins σ H' { s' with heap:=h' })->(H' C=none/\C≠X.env.locals/\X.s₀.heap.objs.size<=C/\(∀x c,X.env.cells.lookup x=some c->c≠C)/\∀p∈X.pn++pins,p.1≠C)->Q (.ref D) H' →
   compPost (model X.prog X.w) X.A X.xe use Qf (.ref D) C (.ok .next) s') :
  wpAny (model X.prog X.w) X.A (comprehension (.ListComp elt [⟨tg,iter,ifs,0⟩] scope pos) scope X.env fpos (newList []) false (eval iter X.env) use) Qf X.xe s:=by
 have hcell:∀x,(x,KU)∈scope.names->∃c,X.env.cells.lookup x=some c:=λx hx=>I.ok.has x (S.free x hx)
 obtain⟨cl0,hcl,cl01,cl02⟩:=vA (env:=X.env) (scope:=scope) hcell;refine wpAny_comprehension_free (use:=use) rfl hs hcl S.kind S.loc (bN (hi pins s σ H _ I h) λv s1 h1=>bN h1 λitv s2 h2=> ?_)
 obtain⟨it,fp,tn,J,H2,e,I2,T,st2,f2,hq⟩:=h2;subst e
 -- the new list
 refine Lz ?_
 have hD:H2 s2.heap.objs.size=none:=I2.hok.fresh (Kj _)
 have hDK:X.K.lookup s2.heap.objs.size=none:=by
  cases q:X.K.lookup s2.heap.objs.size with
  | none=>rfl
  | some o=>exact absurd (Kl (I2.kIn _ o q)) (KI _)
 obtain⟨W,⟨m0,w0⟩,turn⟩:=hq s2.heap.objs.size hD hDK
 have I3:=I2.JM (its:=[]) (ys:=[]) (t':=s2.toks) .nil (LP _)
 generalize hs3:({ s2 with heap:=s2.heap.push { cls:=.type "list",data:=.seq ([]:List J7).toArray },toks:=s2.toks }:J9)=s3 at I3
 generalize hH3:upd H2 s2.heap.objs.size (.lst [])=H3 at I3 w0
 have hDsz:s2.heap.objs.size<s3.heap.objs.size:=by rw[<-hs3];simp[LZ]
 have fr3:∀b∈fp,H3 b=none:=λb hb=>by
  obtain⟨o,eo,_⟩:=T.obj _ _ st2 b hb;rw[<-hH3,aE (Lk (Kl eo))];exact(f2 b hb).1
 have st3:tn 0 s3.heap:=T.keep _ _ _ st2 λb hb o e=>by rw[<-hs3];exact Kg _ e
 have f3:∀b∈fp,oH X pins H3 b:=λb hb=>⟨fr3 b hb,(f2 b hb).2⟩
 have D3:H3 s2.heap.objs.size=some (.lst []):=by rw[<-hH3];exact aO
 generalize s2.heap.objs.size=D at*
 clear hs3 hH3 hD hDK
 -- the block's frame
 refine x6 ?_
 have old:∀b o,s3.heap.get? b=some o->(OR (s3.heap.push { cls:=.type "dict",data:=.dict #[] }) scope.names).get? b=some o:=λb o e=>OS _ _ b o (Kg _ e)
 have hns₁:(OR (s3.heap.push { cls:=.type "dict",data:=.dict #[] }) scope.names).Ns s3.heap.objs.size (λ_=>none):=(Heap.Ns.new s3.heap (.type "dict")).keeps (OS _ _)
 have hz3:(s3.heap.push { cls:=.type "dict",data:=.dict #[] }).objs.size=s3.heap.objs.size+1:=LZ ..
 have lt0:∀x c,cl0.lookup x=some c->c<s3.heap.objs.size:=λx c e=>let ⟨_,ic⟩:=I3.cell x c (cl01 x c e);ic.lt
 obtain⟨c1,c2,c3,c4,c5⟩:=ly scope.names (s3.heap.push { cls:=.type "dict",data:=.dict #[] }) cl0 (λx y c e1 e2=>I3.ok.inj x y c (cl01 x c e1) (cl01 y c e2)) λx c e=>by rw[hz3];exact PP (lt0 x c e)
 rw[hz3]at c1 c2 c3 c4 c5
 generalize hcl':Me (s3.heap.objs.size+1) scope.names cl0=cl at*
 generalize hh₁:OR (s3.heap.push { cls:=.type "dict",data:=.dict #[] }) scope.names=h₁ at*
 have below:∀b o,s3.heap.get? b=some o->b≠s3.heap.objs.size:=λb o e=>Lk (Kl e)
 -- a cell of the block's: one from around,or a new one
 have cl1:∀x c,cl.lookup x=some c->X.env.cells.lookup x=some c\/(s3.heap.objs.size<c/\h₁.IsCell c none):=λx c e=>(c1 x c e).imp (cl01 x c) id
 generalize hC:s3.heap.objs.size=C at*
 have stk:∀b,b≠X.env.locals->b∉X.fs->b∉oj X.stack:=λb h1 h2 z=>(Kf.mp (I3.JC b z)).elim h1 h2
 have apart:∀b∈fp,∀x c,cl.lookup x=some c->c≠b:=λb hb x c e=>by
  rcases cl1 x c e with z | z
  ·exact(f3 b hb).2.2.2.2.1 x c z
  ·obtain⟨o,eo,_⟩:=T.obj _ _ st3 b hb
   have h1:=Kl eo;rw[hC]at h1;exact NI (Nat.lt_trans h1 z.1)
 have I4:Inv (cu X scope cl N' C s3 H3 fp) pins (fg src σ) H3 { s3 with heap:=h₁ }:=by
  refine⟨⟨I3.ok.mod,S.kind,I3.ok.glob,I3.ok.blt,Nd hC,c2,λx hx=> ?_,λx c hx e=>MI (hC▸c5 x c (jc (beq_iff_eq.mp hx)) e),I3.ok.hd,I3.ok.frames,.inl rfl,
    λb hb=>⟨?_,λx c e=>apart b hb x c e⟩,I3.bs,KW I3.ok.bsz I3.sz,λb o e z=> ?_,λb hb=>stk b (f3 b hb).2.1 (f3 b hb).2.2.1,I3.stack,I3.Jr⟩,
   rfl,I3.bare,Un.kept old,⟨_,hns₁,λj x v e1 e2 e3=> ?_⟩,λx c e=> ?_,I3.hok.fresh (Nd hC),λx c e=>(cl1 x c e).elim (I3.freeC x c) λz=>I3.hok.fresh (by rw[hC];exact MI z.1),λp hp=> ?_,I3.hok.kept old,?_⟩
  ·have key:∀k,(relabel scope X.env).names.lookup x=some k->(k= .cell\/k= .free)->∃c,cl.lookup x=some c:=λk e hk=>by
    obtain⟨k',e',z⟩:=iF e
    have hk':k'= .cell\/k'= .free:=z.elim (λz=>z▸hk) .inr
    rcases hk' with q | q
    ·exact c4 x (.inl (q▸jc e'))
    ·exact c4 x (.inr (cl02 x (q▸jc e')))
   rcases hx with hx | hx
   ·exact key _ hx (.inl rfl)
   ·exact key _ hx (.inr rfl)
  ·obtain⟨o,eo,_⟩:=T.obj _ _ st3 b hb
   show b≠C
   exact below b o eo
  ·have z':b∈fp:=z
   obtain⟨_,_,_,z1,_⟩:=f3 b z';rcases z1 with z1 | z1
   ·exact I3.ok.noex b o e z1
   ·exact absurd (Ks (Kl (I3.ok.bs b o e).1) z1) (KI _)
  ·unfold fg at e2
   rw[Kz]at e2
   cases q:src[j]? with
   | none=>rw[q]at e2;simp at e2
   | some o=>
    rw[q]at e2
    cases o with
    | none=>simp at e2
    | some i=>
     have e2':(σ[i]?).join=some v:=by simpa using e2
     have e2'':σ[i]? =some (some v):=by
      cases q2:σ[i]? with
      | none=>rw[q2]at e2';simp at e2'
      | some z=>rw[q2]at e2';simp at e2';rw[e2']
     obtain⟨hN,hfree⟩:=S.from_ j i x q e1
     have hm:=jc hfree
     have hk:=S.free x hm;obtain⟨m,hn,hl⟩:=I3.loc
     have hv:kK X.env.scope x:=by
      rcases hk with z | z
      ·exact .inr (.inl z)
      ·exact .inr (.inr z)
     obtain⟨u,r,l⟩:=hl i x v hN e2'' hv;refine⟨u,r,.inr ⟨?_,?_⟩⟩
     ·exact gY hfree
     ·rcases l with⟨z,_⟩ | ⟨_,c,ec,ic⟩
      ·rcases hk with z' | z' <;> rw[z']at z <;> cases z
      ·obtain⟨c',ec0⟩:=cl02 x hm
       have ec':cl.lookup x=some c':=(c3 x λz=>by have:=S.cel _ z rfl;rw[hfree]at this;cases this).trans ec0
       have:=cl01 x c' ec0;rw[ec]at this;cases this;obtain⟨o,ho,hd⟩:=ic;exact⟨c,ec',o,old _ _ ho,hd⟩
  ·rcases cl1 x c e with z | z
   ·obtain⟨v,o,ho,hd⟩:=I3.cell x c z
    exact⟨v,o,old _ _ ho,hd⟩
   ·exact⟨none,z.2⟩
  ·obtain⟨e,n,ne,nf,d⟩:=I3.pin p hp
   exact⟨old _ _ e,n,below _ _ e,stk _ ne nf,d⟩
  ·show(fg src σ).length=N'.length
   unfold fg;rw[Kc];exact S.len
 obtain⟨bG,bI,bE⟩:=block cl C s3 H3 fp
 have stat:∀{H':Hp},(∀b∈fp,H' b=none)->∀b∈fp,oH (cu X scope cl N' C s3 H3 fp) pins H' b:=λhn b hb=>by
  obtain⟨o,eo,_⟩:=T.obj _ _ st3 b hb;exact⟨hn b hb,below b o eo,stk b (f3 b hb).2.1 (f3 b hb).2.2.1,.inl hb,apart b hb,(f3 b hb).2.2.2.2.2⟩
 have st4:tn 0 h₁:=T.keep _ _ _ st3 λb hb o e=>old b o e
 -- behind the block
 have after:∀(H':Hp) (s':J9) (σ':St),Inv (cu X scope cl N' C s3 H3 fp) pins σ' H' s'->Q (.ref D) H' →
   compPost (model X.prog X.w) X.A X.xe use Qf (.ref D) C (.ok .next) s':=λH' s' σ' I' q=>by
  obtain⟨m,hn,_⟩:=id I'.loc
  have fC:X.s₀.heap.objs.size<=C:=by rw[<-hC];exact I3.sz
  have ltC:∀b o,s3.heap.get? b=some o->b<C:=λb o e=>by rw[<-hC];exact Kl e
  refine hend D C H' s' ⟨m,hn⟩ (λh' hsb=> ?_) ⟨I'.free,?_,fC,λx c e z=> ?_,λp hp z=> ?_⟩ q
  rotate_left
  ·have:=I3.lt;rw[hC]at this;exact NI this
  ·obtain⟨v,ic⟩:=I3.cell x c e
   have:=ic.lt;rw[hC,z]at this;exact KI _ this
  ·have:=ltC _ _ (I3.pin p hp).1;rw[z]at this;exact KI _ this
  have u:Un (oj X.stack) fp H3 H' s3.heap s'.heap:=I'.base
  have lift:∀b o,s3.heap.get? b=some o->∀o',s'.heap.get? b=some o'->h'.get? b=some o':=λb o e o' e'=>hsb.extBut b o' (below b o e) e'
  have u':Un (oj X.stack) fp H3 H' s3.heap h':=
   ⟨λb o e n hb hx=>lift b o e o (u.keep b o e n hb hx),λb o e n hb hx=>by
     obtain⟨sl,z⟩:=u.slot b o e n hb hx;exact⟨sl,lift b o e _ z⟩,u.free,λb o e hx=>by
     obtain⟨o',z⟩:=u.there b o e hx;exact⟨o',lift b o e _ z⟩,u.tups,u.frzs,u.tbls⟩
  have hCn:H' C=none:=I'.free
  have hok':HOk X.prog X.w H' h':=λb ob e=>by
   refine(I'.hok b ob e).Jt (λc w' hc' q'=>(hsb.2 c ?_).trans q') (λ_ q=>q) λ_ _ q=>q
   rintro rfl
   rcases hc' with rfl | hc'
   ·rw[hCn]at e;cases e
   ·rw[hCn]at hc';cases hc'
  have I5:Inv X pins σ H' { s' with heap:=h' }:=I3.JE (s':={ s' with heap:=h' }) (ch:=fp) I'.os u' hok' I'.bare λb hb=>⟨(f3 b hb).2.2.2.1,(f3 b hb).2.1,(f3 b hb).2.2.2.2.1,(f3 b hb).2.2.2.2.2⟩
  exact I5
 have loop:codeAny (model X.prog X.w) X.A (.compLoop (.ListComp elt [⟨tg,iter,ifs,0⟩] scope pos) 0 (.ref it) (.ref D) (compEnvC scope cl C X.env))
   (compPost (model X.prog X.w) X.A X.xe use Qf (.ref D) C) { s3 with heap:=h₁ }:=by
  refine rX (λn s'=> ∃i σ' ys H',Inv (cu X scope cl N' C s3 H3 fp) pins σ' H' s'/\tn i s'.heap/\(∀b∈fp,H' b=none)/\W i n σ' ys H') ?_ m0 ⟨0,_,[],H3,I4,st4,fr3,w0⟩
  rintro n s5 ⟨i,σ5,ys,H5,I5,st5,fr5,w5⟩
  obtain⟨hDl,alt⟩:=turn i n σ5 ys H5 w5;rcases alt with⟨stop,qn⟩ | ⟨go,hlen,step⟩
  ·refine bN (T.done (cu X scope cl N' C s3 H3 fp) rfl rfl rfl hc i pins s5 σ5 H5 _ I5 (stat fr5) st5 stop) λr s6 ⟨hr,I6⟩=> ?_
   subst hr;exact after H5 s6 σ5 I6 qn
  ·refine bN (T.item (cu X scope cl N' C s3 H3 fp) rfl rfl rfl hc i pins s5 σ5 H5 _ I5 (stat fr5) st5 go) λr s6 ⟨u,hr,h6⟩=> ?_
   subst hr;refine bN h6 λ_ s7 hh_=> ?_
   obtain⟨x,H7,I7,r7,y7,st7,fr7⟩:=hh_
   have I7':=I7.pinned (stat fr7) (T.obj _ _ st7);refine bN (bG _ s7 σ5 H7 x u _ I7' r7 (step x H7 y7)) λ_ s8 hh_=> ?_
   obtain⟨σ8,H8,I8,q8⟩:=hh_;refine bN (bI _ s8 σ8 H8 _ I8 q8) λok s9 hh_=> ?_
   obtain⟨H9,I9,q9⟩:=hh_
   have again:∀{σx:St} {Hx:Hp} {sx:J9} {ys':List V},Inv (cu X scope cl N' C s3 H3 fp) (pins++nh fp s7.heap) σx Hx sx->(∃m',m'<n/\W (i+1) m' σx ys' Hx) →
     ∃m,m<n/\∃i σ' ys H',Inv (cu X scope cl N' C s3 H3 fp) pins σ' H' sx/\tn i sx.heap/\(∀b∈fp,H' b=none)/\W i m σ' ys H':=λ{σx Hx sx ys'} Ix nx=>by
    obtain⟨m',hm,wx⟩:=nx;refine⟨m',hm,i+1,σx,ys',Hx,Ix.Jq,T.keep _ _ _ st7 λb hb o e=>(Ix.pin (b,o) (Kr _ (Kr _ (gz hb e)))).1,λb hb=> ?_,wx⟩
    obtain⟨o,e,d⟩:=T.obj _ _ st7 b hb;exact(Ix.pin (b,o) (Kr _ (Kr _ (gz hb e)))).2.1
   cases ok with
   | false=>
    rw[if_neg Kt]at q9 ⊢
    exact again I9 q9
   | true=>
    rw[if_pos rfl]at q9 ⊢;refine bN (bE _ s9 σ8 H9 _ I9 q9) λv s10 hh_=> ?_
    obtain⟨y,H10,I10,r10,hD10,q10⟩:=hh_;refine bN (lb _ s10 σ8 H10 (.ref D) [y] (.ref D) [v] (λ_ H'=>H'=upd H10 D (.lst (ys++ [y]))) I10 rfl (.cons r10 .nil) ⟨D,ys,y,rfl,rfl,hD10,hlen,rfl⟩) λ_ s11 hh_=> ?_
    obtain⟨_,H11,I11,_,e11⟩:=hh_;subst e11;exact again I11 q10
 exact codeAny_compStart_list loop (T.self _ 0 _ _ _ st4 loop)
theorem zr {elt tg iter:Expr}{ifs:List Expr}{scope:Nk}{pos:Pos}{N':List Str}{src:List (Option Nat)}{wi:TI}{g:TG}{tc:TT}{te:TE}
  (hc:X.calm=true) (S:LcScope X scope N' src) (hi:PI X tg iter wi)
  (block:∀cl C s₀ H₀ fp,PG (cu X scope cl N' C s₀ H₀ fp) tg g/\Bw (cu X scope cl N' C s₀ H₀ fp) ifs tc/\PE (cu X scope cl N' C s₀ H₀ fp) elt te)
  (hs:autoParam (∀x,K6 iter X.env x=pure x) aqc._auto_1) :
  PE X (.ListComp elt [⟨tg,iter,ifs,0⟩] scope pos) (GW X.K wi src g tc te):=by
 intro pins s σ H Q I h;rw[eval_ListComp];exact wI (use:=none) hc S hi block hs I h λD C H' s' ⟨m,hn⟩ inv _ q=>⟨m,hn,λh' hsb=>⟨.ref D,H',inv h' hsb,rfl,q⟩⟩
theorem Hv {elt tg iter:Expr}{ifs:List Expr}{scope:Nk}{pos py spos:Pos}{N':List Str}{src:List (Option Nat)}{wi:TI}{g:TG}{tc:TT}{te:TE}{i:Nat}{y:Str}
  (hc:X.calm=true) (S:LcScope X scope N' src) (hi:PI X tg iter wi)
  (block:∀cl C s₀ H₀ fp,PG (cu X scope cl N' C s₀ H₀ fp) tg g/\Bw (cu X scope cl N' C s₀ H₀ fp) ifs tc/\PE (cu X scope cl N' C s₀ H₀ fp) elt te)
  (hN:X.N.Nodup) (hiy:X.N[i]? =some y) (hy:Loc X.env.scope y) (hsw:KM (.ListComp elt [⟨tg,iter,ifs,0⟩] scope pos) (some (.Name y py)) spos.line X.env=pure true)
  (hf:X.fn y=true\/X.env.scope.names.lookup y=some .local) (hs:autoParam (∀x,K6 iter X.env x=pure x) aqc._auto_1) :
  PS X (.Assign [.Name y py] (.ListComp elt [⟨tg,iter,ifs,0⟩] scope pos) spos) (BQ (GW X.K wi src g tc te) (Av i)):=by
 intro pins s σ H D I h;rw[exec_Assign_Name_used _ _ _ _ hsw];refine Kb (wpAny_standAt (Kb ?_))
 show wpAny (model X.prog X.w) X.A (do let _ <-comprehension (.ListComp elt [⟨tg,iter,ifs,0⟩] scope pos) scope X.env _ (newList []) false (eval iter X.env) (some (assign (.Name y py) X.env))) _ _ s
 refine Kb (bN (wI (use:=some (assign (.Name y py) X.env)) (Qf:=λ_ s'=>SP X pins D .next s') (Q:=λv H'=>D.nx (σ.set i (some v)) H') hc S hi block hs I h λL C H' s' ⟨m,hn⟩ inv ⟨c0,c1,c2,c3,c4⟩ q=> ?_) λ_ s' hq=>Kp (Kp hq))
 have I0:Inv X pins σ H' s':=inv s'.heap (Heap.SameBut.refl ..)
 show wpAny (model X.prog X.w) X.A (assign (.Name y py) X.env (.ref L)) _ _ s'
 refine PV (pC I0 hN hiy hy (v:=.ref L) rfl (λs2 I2 ⟨b,sb,hb⟩=> ?_) hf)
 have hbC:C≠b:=by
  rcases hb with z | z
  ·rw[z];exact c1
  ·exact λw=>c3 y b z w.symm
 refine⟨m,hn.sameBut sb hbC,λh' hsb=> ?_⟩
 exact⟨_,H',I2.turned (t':=s2.toks) (λb' o hb' e=>(hsb.2 b' hb').trans e) c0 c1 (.inr c2) c3 c4,q⟩
end
end L2
namespace Tr
open PySem PySem.Spec PyProof.Rows L2
def bj (K:J5)(c:Str):Addr:=match MH K KN c with
 | some (some (.ref C))=>C
 | _=>0
def DI:T->Option Key
 | .int i=>some (.inl i)
 | .str x=>some (.inr x)
 | _=>none
def n9:List T->Option (List Key)
 | [] =>some []
 | t::l=>match DI t,n9 l with
  | some k,some r=>some (k::r)
  | _,_=>none
def keyOf:T->Option (List Key)
 | .tup l=>n9 l
 | _=>none
inductive Rs (α:Type) where
 | ok (a:α) | err (c:Str) | bad
def Rs.bind {α β:Type}(x:Rs α)(f:α->Rs β):Rs β:=match x with
 | .ok a=>f a
 | .err c=> .err c
 | .bad=> .bad
instance:Monad Rs where
 pure:=Rs.ok
 bind:=Rs.bind
@[simp] theorem az {α β:Type} (a:α) (f:α->Rs β):(Rs.ok a >>= f)=f a:=rfl
@[simp] theorem IZ {α:Type} (a:α):(pure a:Rs α)=Rs.ok a:=rfl
@[simp] theorem IP {α β:Type} (f:α->Rs β):((Rs.bad:Rs α) >>= f)= .bad:=rfl
@[simp] theorem IK {α β:Type} (c:Str) (f:α->Rs β):((Rs.err c:Rs α) >>= f)= .err c:=rfl
abbrev Ow:=Addr->Prop
mutual
def Rep (K:J5)(O:Ow)(H:Hp):T->V->Prop
 | .non,v=>v= .non
 | .bl b,v=>v= .bl b
 | .int i,v=>v= .int i
 | .str x,v=>v= .str x
 | .tup l,v=> ∃a vs,v= .ref a/\¬ O a/\H a=some (.tup vs)/\Reps K O H l vs
 | .lst l,v=> ∃a vs,v= .ref a/\¬ O a/\H a=some (.lst vs)/\Reps K O H l vs
 | .scr l,v=> ∃a,v= .ref a/\¬ O a/\SqL K H a (l.map V.int)
 | .dct ks ts,v=> ∃a kvs,v= .ref a/\¬ O a/\Rd H a (.dT kvs)/\ks.map keyOf=kvs.map (λp=>some p.1)/\Reps K O H ts (kvs.map (·.2))
 | .ob C ns ts,v=> ∃a dx fs,v= .ref a/\¬ O a/\H a=some (.ins (bj K C) dx fs)/\fs.map (·.1)=ns/\Reps K O H ts (fs.map (·.2))
def Reps (K:J5)(O:Ow)(H:Hp):List T->List V->Prop
 | [],vs=>vs= []
 | t::r,vs=> ∃v ws,vs=v::ws/\Rep K O H t v/\Reps K O H r ws
end
def SameO (P:Ow)(H H':Hp):Prop:=∀b o,H b=some o->¬ P b->H' b=some o
theorem SameO.of {P:Ow}{H H':Hp}(h:Same H H'):SameO P H H':=λb o e _=>h b o e
theorem Rd.JL {P:Ow}{H H':Hp}{a:Addr}{u:HO}(h:SameO P H H')(n:¬ P a)(q:Rd H a u):Rd H' a u:=q.elim (λe=> .inl (h _ _ e n)) λ⟨o,e⟩=> .inr ⟨o,h _ _ e n⟩
theorem SqL.keep {K:J5}{P:Ow}{H H':Hp}{a:Addr}{vs:List V}(h:SameO P H H')(n:¬ P a)(q:SqL K H a vs):SqL K H' a vs:=by
 rcases q with(q | ⟨o,q⟩) | q
 ·exact .inl (.inl (h _ _ q n))
 ·exact .inl (.inr ⟨o,h _ _ q n⟩)
 ·exact .inr q
mutual
theorem Rep.keep {K:J5}{O P:Ow}{H H':Hp}(h:SameO P H H')(sub:∀a,P a->O a):∀{t:T} {v:V},Rep K O H t v->Rep K O H' t v
 | .non,_,r=>by unfold Rep at r ⊢;exact r
 | .bl _,_,r=>by unfold Rep at r ⊢;exact r
 | .int _,_,r=>by unfold Rep at r ⊢;exact r
 | .str _,_,r=>by unfold Rep at r ⊢;exact r
 | .tup l,_,r=>by
  unfold Rep at r ⊢;obtain⟨a,vs,e,n,q,z⟩:=r
  exact⟨a,vs,e,n,h _ _ q (λp=>n (sub a p)),Reps.keep h sub z⟩
 | .lst l,_,r=>by
  unfold Rep at r ⊢;obtain⟨a,vs,e,n,q,z⟩:=r
  exact⟨a,vs,e,n,h _ _ q (λp=>n (sub a p)),Reps.keep h sub z⟩
 | .scr l,_,r=>by
  unfold Rep at r ⊢;obtain⟨a,e,n,q⟩:=r
  exact⟨a,e,n,SqL.keep h (λp=>n (sub a p)) q⟩
 | .dct ks ts,_,r=>by
  unfold Rep at r ⊢;obtain⟨a,kvs,e,n,q,k,z⟩:=r
  exact⟨a,kvs,e,n,Rd.JL h (λp=>n (sub a p)) q,k,Reps.keep h sub z⟩
 | .ob C ns ts,_,r=>by
  unfold Rep at r ⊢;obtain⟨a,dx,fs,e,n,q,k,z⟩:=r;exact⟨a,dx,fs,e,n,h _ _ q (λp=>n (sub a p)),k,Reps.keep h sub z⟩
theorem Reps.keep {K:J5}{O P:Ow}{H H':Hp}(h:SameO P H H')(sub:∀a,P a->O a):∀{l:List T} {vs:List V},Reps K O H l vs->Reps K O H' l vs
 | [],_,r=>by unfold Reps at r ⊢;exact r
 | t::l,_,r=>by
  unfold Reps at r ⊢;obtain⟨v,ws,e,p,q⟩:=r;exact⟨v,ws,e,Rep.keep h sub p,Reps.keep h sub q⟩
end
mutual
theorem Rep.less {K:J5}{O O':Ow}{H:Hp}(sub:∀a,O' a->O a):∀{t:T} {v:V},Rep K O H t v->Rep K O' H t v
 | .non,_,r=>by unfold Rep at r ⊢;exact r
 | .bl _,_,r=>by unfold Rep at r ⊢;exact r
 | .int _,_,r=>by unfold Rep at r ⊢;exact r
 | .str _,_,r=>by unfold Rep at r ⊢;exact r
 | .tup l,_,r=>by
  unfold Rep at r ⊢;obtain⟨a,vs,e,n,q,z⟩:=r
  exact⟨a,vs,e,λp=>n (sub a p),q,Reps.less sub z⟩
 | .lst l,_,r=>by
  unfold Rep at r ⊢;obtain⟨a,vs,e,n,q,z⟩:=r
  exact⟨a,vs,e,λp=>n (sub a p),q,Reps.less sub z⟩
 | .scr l,_,r=>by
  unfold Rep at r ⊢;obtain⟨a,e,n,z⟩:=r
  exact⟨a,e,λp=>n (sub a p),z⟩
 | .dct ks ts,_,r=>by
  unfold Rep at r ⊢;obtain⟨a,kvs,e,n,q,k,z⟩:=r
  exact⟨a,kvs,e,λp=>n (sub a p),q,k,Reps.less sub z⟩
 | .ob C ns ts,_,r=>by
  unfold Rep at r ⊢;obtain⟨a,dx,fs,e,n,q,k,z⟩:=r;exact⟨a,dx,fs,e,λp=>n (sub a p),q,k,Reps.less sub z⟩
theorem Reps.less {K:J5}{O O':Ow}{H:Hp}(sub:∀a,O' a->O a):∀{l:List T} {vs:List V},Reps K O H l vs->Reps K O' H l vs
 | [],_,r=>by unfold Reps at r ⊢;exact r
 | t::l,_,r=>by
  unfold Reps at r ⊢;obtain⟨v,ws,e,p,q⟩:=r;exact⟨v,ws,e,Rep.less sub p,Reps.less sub q⟩
end
section
variable {K:J5}{O:Ow}{H H':Hp}{t:T}{v:V}{l:List T}{vs:List V}
theorem Rep.same (h:Same H H')(r:Rep K O H t v):Rep K O H' t v:=Rep.keep (P:=λ_=>False) (SameO.of h) (λ_ z=>z.elim) r
theorem Reps.same (h:Same H H')(r:Reps K O H l vs):Reps K O H' l vs:=Reps.keep (P:=λ_=>False) (SameO.of h) (λ_ z=>z.elim) r
theorem Rep.JJ:Rep K O H .non .non:=by unfold Rep;rfl
theorem Rep.bl_ (b:Bool):Rep K O H (.bl b) (.bl b):=by unfold Rep;rfl
theorem Rep.GT (i:Int):Rep K O H (.int i) (.int i):=by unfold Rep;rfl
theorem Rep.JT (x:Str):Rep K O H (.str x) (.str x):=by unfold Rep;rfl
theorem Rep.Fk:Rep K O H (.tup l) v↔ ∃a vs,v= .ref a/\¬ O a/\H a=some (.tup vs)/\Reps K O H l vs:=by unfold Rep;exact MN
theorem Rep.Do:Rep K O H (.lst l) v↔ ∃a vs,v= .ref a/\¬ O a/\H a=some (.lst vs)/\Reps K O H l vs:=by unfold Rep;exact MN
theorem Rep.Jo {ks ts:List T}:Rep K O H (.dct ks ts) v↔ ∃a kvs,v= .ref a/\¬ O a/\Rd H a (.dT kvs)/\ks.map keyOf=kvs.map (λp=>some p.1)/\Reps K O H ts (kvs.map (·.2)):=by unfold Rep;exact MN
theorem Rep.Ju {C:Str}{ns:List Str}{ts:List T}:Rep K O H (.ob C ns ts) v↔ ∃a dx fs,v= .ref a/\¬ O a/\H a=some (.ins (bj K C) dx fs)/\fs.map (·.1)=ns/\Reps K O H ts (fs.map (·.2)):=by unfold Rep;exact MN
theorem Rep.Da {i:Int}:Rep K O H (.int i) v↔v= .int i:=by unfold Rep;exact MN
theorem Rep.FM {b:Bool}:Rep K O H (.bl b) v↔v= .bl b:=by unfold Rep;exact MN
theorem Rep.GE {b:Str}:Rep K O H (.str b) v↔v= .str b:=by unfold Rep;exact MN
theorem Rep.Jn:Rep K O H .non v↔v= .non:=by unfold Rep;exact MN
theorem Reps.Gc:Reps K O H [] []:=by unfold Reps;rfl
theorem Reps.FS (r:Rep K O H t v)(q:Reps K O H l vs):Reps K O H (t::l) (v::vs):=by unfold Reps;exact⟨v,vs,rfl,r,q⟩
theorem Reps.AC:Reps K O H [] vs↔vs= []:=by unfold Reps;exact MN
theorem Reps.me:Reps K O H (t::l) vs↔ ∃v ws,vs=v::ws/\Rep K O H t v/\Reps K O H l ws:=by
 constructor
 ·intro h;unfold Reps at h;exact h
 ·intro h;unfold Reps;exact h
end
section
variable {K:J5}{O:Ow}{H H':Hp}
theorem Reps.length:∀{l:List T} {vs:List V},Reps K O H l vs->l.length=vs.length
 | [],vs,r=>by rw[Reps.AC.mp r];rfl
 | t::l,vs,r=>by
  obtain⟨v,ws,rfl,_,q⟩:=Reps.me.mp r;simp[q.length]
theorem Reps.get:∀{l:List T} {vs:List V} {i:Nat} {t:T},Reps K O H l vs->l[i]? =some t->∃v,vs[i]? =some v/\Rep K O H t v
 | [],_,_,_,_,e=>by simp at e
 | t::l,vs,i,u,r,e=>by
  obtain⟨v,ws,rfl,p,q⟩:=Reps.me.mp r
  cases i with
  | zero=>simp at e;subst e;exact⟨v,rfl,p⟩
  | succ i=>
   obtain⟨z,e1,e2⟩:=q.get (i:=i) (t:=u) (by simpa using e)
   exact⟨z,by simpa using e1,e2⟩
theorem Reps.append:∀{l m:List T} {vs ws:List V},Reps K O H l vs->Reps K O H m ws->Reps K O H (l++m) (vs++ws)
 | [],_,vs,_,r,s=>by rw[Reps.AC.mp r];exact s
 | t::l,m,vs,ws,r,s=>by
  obtain⟨v,us,rfl,p,q⟩:=Reps.me.mp r;exact Reps.FS p (q.append s)
theorem Reps.take:∀{l:List T} {vs:List V} (n:Nat),Reps K O H l vs->Reps K O H (l.take n) (vs.take n)
 | _,_,0,_=>Reps.Gc
 | [],vs,n+1,r=>by rw[Reps.AC.mp r];exact Reps.Gc
 | t::l,vs,n+1,r=>by
  obtain⟨v,us,rfl,p,q⟩:=Reps.me.mp r;exact Reps.FS p (q.take n)
theorem Reps.drop:∀{l:List T} {vs:List V} (n:Nat),Reps K O H l vs->Reps K O H (l.drop n) (vs.drop n)
 | _,_,0,r=>r
 | [],vs,n+1,r=>by rw[Reps.AC.mp r];exact Reps.Gc
 | t::l,vs,n+1,r=>by
  obtain⟨v,us,rfl,p,q⟩:=Reps.me.mp r;exact q.drop n
theorem Reps.ints:∀{ns:List Int},Reps K O H (ns.map T.int) (ns.map V.int)
 | [] =>Reps.Gc
 | n::r=>Reps.FS (Rep.GT n) Reps.ints
end
def RowsR (K:J5)(O:Ow)(H:Hp):List (List T×List T)->List Addr->Prop
 | [],as=>as= []
 | r::rs,as=> ∃b bs kvs,as=b::bs/\H b=some (.dT kvs)/\r.1.map keyOf=kvs.map (λp=>some p.1)/\Reps K O H r.2 (kvs.map (·.2))/\RowsR K O H rs bs
def LsR (K:J5)(O:Ow)(H:Hp):List (List T)->List Addr->Prop
 | [],as=>as= []
 | l::ls,as=> ∃b bs vs,as=b::bs/\H b=some (.lst vs)/\Reps K O H l vs/\LsR K O H ls bs
def ORep (K:J5)(O M:Ow)(H:Hp):OT->V->Prop
 | .lst l,v=> ∃a vs,v= .ref a/\(∀b,M b↔b=a)/\H a=some (.lst vs)/\Reps K O H l vs
 | .dct ks ts,v=> ∃a kvs,v= .ref a/\(∀b,M b↔b=a)/\H a=some (.dT kvs)/\ks.map keyOf=kvs.map (λp=>some p.1)/\Reps K O H ts (kvs.map (·.2))
 | .dd ks rows,v=> ∃a kvs as,v= .ref a/\(∀b,M b↔b=a\/b∈as)/\a∉as/\as.Nodup/\H a=some (.dT kvs)/\ks.map keyOf=kvs.map (λp=>some p.1)/\kvs.map (·.2)=as.map V.ref/\RowsR K O H rows as
 | .ob C ns ls,v=> ∃a dx as,v= .ref a/\(∀b,M b↔b=a\/b=dx\/b∈as)/\(a∉as/\dx∉as/\dx≠a/\as.Nodup)/\H a=some (.ins (bj K C) dx (ns.zip (as.map V.ref)))/\H dx=some (.own a)/\ns.length=as.length/\ns.Nodup/\LsR K O H ls as
inductive Sl where
 | em | va (t:T) | ow (o:OT)
abbrev En:=List Sl
abbrev Mn:=Nat->Ow
def Mn.u (M:Mn):Ow:=λa=> ∃i,M i a
def isO:HO->Bool
 | .ins _ _ _=>true
 | .own _=>true
 | _=>false
def Mtb (H:Hp)(a:Addr):Prop:=(∃vs,H a=some (.lst vs))\/(∃kvs,H a=some (.dT kvs))\/∃o,H a=some o/\isO o=true
theorem Mtb.some {H:Hp}{a:Addr}(h:Mtb H a):∃o,H a=some o:=by
 rcases h with⟨_,e⟩ | ⟨_,e⟩ | ⟨_,e,_⟩ <;> exact⟨_,e⟩
theorem Mtb.at {H H':Hp}{a:Addr}(s:∀o,H a=K4 o->H' a=K4 o)(h:Mtb H a):Mtb H' a:=by
 rcases h with⟨vs,e⟩ | ⟨k,e⟩ | ⟨o,e,q⟩
 ·exact .inl ⟨vs,s _ e⟩
 ·exact .inr (.inl ⟨k,s _ e⟩)
 ·exact .inr (.inr ⟨o,s _ e,q⟩)
theorem Mtb.same {H H':Hp}(s:Same H H'){a:Addr}(h:Mtb H a):Mtb H' a:=h.at λo e=>s a o e
structure EnvM (K:J5)(O:Ow)(M:Mn)(H:Hp)(Z:En)(σ:L2.St):Prop where
 len:Z.length=σ.length
 val:∀(i:Nat) (t:T),Z[i]? =some (.va t)->∃v,σ[i]? =some (some v)/\Rep K O H t v
 own:∀(i:Nat) (o:OT),Z[i]? =some (.ow o)->∃v,σ[i]? =some (some v)/\ORep K O (M i) H o v
 sub:∀(i:Nat) (a:Addr),M i a->O a
 dis:∀(i j:Nat) (a:Addr),M i a->M j a->i=j
 trk:∀(a:Addr),O a->Mtb H a
theorem RowsR.same {K:J5}{O:Ow}{H H':Hp}(h:Same H H'):∀{rs:List (List T×List T)} {as:List Addr},RowsR K O H rs as->RowsR K O H' rs as
 | [],_,r=>r
 | _::_,_,⟨b,bs,kvs,e1,e2,e3,e4,e5⟩=>⟨b,bs,kvs,e1,h _ _ e2,e3,e4.same h,e5.same h⟩
theorem LsR.same {K:J5}{O:Ow}{H H':Hp}(h:Same H H'):∀{ls:List (List T)} {as:List Addr},LsR K O H ls as->LsR K O H' ls as
 | [],_,r=>r
 | _::_,_,⟨b,bs,vs,e1,e2,e3,e4⟩=>⟨b,bs,vs,e1,h _ _ e2,e3.same h,e4.same h⟩
theorem ORep.same {K:J5}{O M:Ow}{H H':Hp}(h:Same H H'){o:OT}{v:V}(r:ORep K O M H o v):ORep K O M H' o v:=by
 cases o with
 | lst l=>obtain⟨a,vs,e1,e2,e3,e4⟩:=r;exact⟨a,vs,e1,e2,h _ _ e3,e4.same h⟩
 | dct ks ts=>obtain⟨a,kvs,e1,e2,e3,e4,e5⟩:=r;exact⟨a,kvs,e1,e2,h _ _ e3,e4,e5.same h⟩
 | dd ks rows=>obtain⟨a,kvs,as,e1,e2,e3,e4,e5,e6,e7,e8⟩:=r;exact⟨a,kvs,as,e1,e2,e3,e4,h _ _ e5,e6,e7,e8.same h⟩
 | ob C ns ls=>obtain⟨a,dx,as,e1,e2,e3,e4,e5,e6,e7,e8⟩:=r;exact⟨a,dx,as,e1,e2,e3,h _ _ e4,h _ _ e5,e6,e7,e8.same h⟩
theorem EnvM.same {K:J5}{O:Ow}{M:Mn}{H H':Hp}{Z:En}{σ:L2.St}(h:Same H H')(e:EnvM K O M H Z σ):EnvM K O M H' Z σ where
 len:=e.len
 val:=λi t q=>let ⟨v,e1,e2⟩:=e.val i t q;⟨v,e1,e2.same h⟩
 own:=λi o q=>let ⟨v,e1,e2⟩:=e.own i o q;⟨v,e1,e2.same h⟩
 sub:=e.sub
 dis:=e.dis
 trk:=λa q=>(e.trk a q).same h
def EnvO (K:J5)(O:Ow)(H:Hp)(Z:En)(σ:L2.St):Prop:=∃M,EnvM K O M H Z σ
section
variable {K:J5}{O:Ow}{H H':Hp}{Z:En}{σ:L2.St}
theorem EnvO.val (e:EnvO K O H Z σ)(i:Nat)(t:T)(q:Z[i]? =some (.va t)):∃v,σ[i]? =some (some v)/\Rep K O H t v:=e.elim λ_ e=>e.val i t q
theorem EnvO.mtb (e:EnvO K O H Z σ):∀a,O a->Mtb H a:=e.elim λ_ e=>e.trk
theorem EnvO.trk (e:EnvO K O H Z σ)(a:Addr)(z:O a):∃o,H a=some o:=(e.mtb a z).some
theorem EnvO.same (h:Same H H')(e:EnvO K O H Z σ):EnvO K O H' Z σ:=e.elim λM e=>⟨M,e.same h⟩
theorem EnvO.fresh (e:EnvO K O H Z σ){p:Addr}(h:H p=none):¬ O p:=λz=>by
 obtain⟨o,q⟩:=e.trk p z;rw[h]at q;cases q
end
def IV (h:Heap)(C e:Addr):Option Addr->Prop
 | none=> ∃oe vs,h.get? e=some oe/\oe.cls= .ref C/\oe.data= .fields vs/\vs[1]? =some .none
 | some T=>T≠e/\∃oe vs,h.get? e=some oe/\oe.cls= .ref C/\oe.data= .fields vs/\vs[1]? =some (.ref T)/\∃oT ts,h.get? T=some oT/\oT.data= .fields ts/\ts[3]? =some .none
def RzP (X:Cx)(pins:List (Addr×Obj))(P:Ow)(H:Hp)(c:Str)(ev:J7)(s':J9):Prop:=
 ∃e T C σ' H',ev= .ref e/\X.mg c=some (.ref C)/\Inv X pins σ' H' s'/\SameO P H H'/\H' e=none/\(X.ex= []->X.s₀.heap.get? e=none)/\IV s'.heap C e T/\(∀t,T=some t->H' t=none/\(X.ex= []->X.s₀.heap.get? t=none))/\∀p∈X.pn++pins,p.1≠e/\T≠some p.1
def Nw (K:J5)(H:Hp):Ow:=λa=>H a=none/\K.lookup a=none
theorem dk {K:J5}{P:Ow}{H H1:Hp}(h:SameO P H H1){a:Addr}(n:Nw K H1 a):P a\/Nw K H a:=by
 by_cases hp:P a
 ·exact .inl hp
 ·refine .inr ⟨?_,n.2⟩
  cases q:H a with
  | none=>rfl
  | some o=>have:=h a o q hp;rw[n.1]at this;cases this
theorem SameO.trans {K:J5}{P P1:Ow}{H H1 H2:Hp}(h:SameO P H H1)(h1:SameO P1 H1 H2)(sub:∀a,P1 a->P a\/Nw K H a):SameO P H H2:=λb o e n=>
 h1 b o (h b o e n) λz=>(sub b z).elim n λw=>by rw[w.1]at e;cases e
def XA (X:Cx)(P:Ow)(H:Hp)(c:Str):Prop:=∀pins ev s',RzP X pins P H c ev s'->X.xe ev s'
theorem XA.later {X:Cx}{P P1:Ow}{H H1:Hp}{c:Str}(h:XA X P H c)(s:SameO P H H1)(sub:∀a,P1 a->P a\/Nw X.K H a):XA X P1 H1 c:=λpins ev s' ⟨e,T,C,σ',H',a1,a2,a3,a4,a5⟩=>
 h pins ev s' ⟨e,T,C,σ',H',a1,a2,a3,s.trans a4 sub,a5⟩
abbrev jX:Ow:=λ_=>False
def Post {α:Type}(X:Cx)(H:Hp)(r:Rs α)(k:α->Hp->Prop):Prop:=match r with
 | .ok t=> ∀H',Same H H'->k t H'
 | .err c=>XA X jX H c
 | .bad=>False
theorem Post.mono {α:Type}{X:Cx}{H:Hp}{r:Rs α}{k k':α->Hp->Prop}(h:Post X H r k)(f:∀t H',Same H H'->k t H'->k' t H'):Post X H r k':=by
 cases r with
 | ok t=>exact λH' s=>f t H' s (h H' s)
 | err c=>exact h
 | bad=>exact h
theorem Post.later {α:Type}{X:Cx}{H H1:Hp}{r:Rs α}{k:α->Hp->Prop}(h:Post X H r k)(s:Same H H1):Post X H1 r k:=by
 cases r with
 | ok t=>exact λH' s'=>h H' (s.trans s')
 | err c=>exact XA.later h (SameO.of s) λ_ z=>z.elim
 | bad=>exact h
theorem Post.bind {α β:Type}{X:Cx}{H:Hp}{r:Rs α}{f:α->Rs β}{k:β->Hp->Prop}(h:Post X H (r >>= f) k):Post X H r λt H'=>Post X H' (f t) k:=by
 cases r with
 | ok t=>exact λH' s=>Post.later h s
 | err c=>exact h
 | bad=>exact h
def tP (X:Cx)(f:En->Rs T):TE:=λσ H Q=> ∃Z O,EnvO X.K O H Z σ/\Post X H (f Z) λt H'=> ∀v,Rep X.K O H' t v->Q v H'
def tPA (X:Cx)(f:En->Rs (List T)):TA:=λσ H Q=> ∃Z O,EnvO X.K O H Z σ/\Post X H (f Z) λt H'=> ∀v,Reps X.K O H' t v->Q v H'
def Bp (X:Cx)(f:En->Rs Bool):TT:=λσ H Q=> ∃Z O,EnvO X.K O H Z σ/\Post X H (f Z) λb H'=>Q b H'
abbrev b6 (X:Cx)(e:Expr)(f:En->Rs T):Prop:=PE X e (tP X f)
abbrev pv (X:Cx)(e:List Expr)(f:En->Rs (List T)):Prop:=PA X e (tPA X f)
abbrev uo (X:Cx)(e:Expr)(f:En->Rs Bool):Prop:=PT X e (Bp X f)
theorem PE.imp {X:Cx}{e:Expr}{t t':TE}(h:PE X e t)(w:∀σ H Q,t' σ H Q->t σ H Q):PE X e t':=λpins s σ H Q I q=>h pins s σ H Q I (w σ H Q q)
theorem PA.imp {X:Cx}{e:List Expr}{t t':TA}(h:PA X e t)(w:∀σ H Q,t' σ H Q->t σ H Q):PA X e t':=λpos pins s σ H Q I q=>h pos pins s σ H Q I (w σ H Q q)
theorem PT.imp {X:Cx}{e:Expr}{t t':TT}(h:PT X e t)(w:∀σ H Q,t' σ H Q->t σ H Q):PT X e t':=λpins s σ H Q I q=>h pins s σ H Q I (w σ H Q q)
theorem PS.imp {X:Cx}{e:Stmt}{t t':TS}(h:PS X e t)(w:∀D σ H,t' D σ H->t D σ H):PS X e t':=λpins s σ H D I q=>h pins s σ H D I (w D σ H q)
theorem PSs.imp {X:Cx}{e:List Stmt}{t t':TS}(h:PSs X e t)(w:∀D σ H,t' D σ H->t D σ H):PSs X e t':=λpins s σ H D I q=>h pins s σ H D I (w D σ H q)
section
variable {X:Cx}
theorem aW {σ:L2.St}{H:Hp}{Z:En}{O:Ow}{α:Type}{f:En->Rs T}{k:T->Rs α}{Q:α->Hp->Prop}(E:EnvO X.K O H Z σ)(h:Post X H (f Z >>= k) Q) :
  tP X f σ H λv H'=> ∃t,Rep X.K O H' t v/\Same H H'/\EnvO X.K O H' Z σ/\Post X H' (k t) Q:=
 ⟨Z,O,E,Post.mono h.bind λt H' s q v r=>⟨t,r,s,E.same s,q⟩⟩
theorem fw {σ:L2.St}{H:Hp}{Z:En}{O:Ow}{α:Type}{f:En->Rs (List T)}{k:List T->Rs α}{Q:α->Hp->Prop}(E:EnvO X.K O H Z σ)(h:Post X H (f Z >>= k) Q) :
  tPA X f σ H λv H'=> ∃t,Reps X.K O H' t v/\Same H H'/\EnvO X.K O H' Z σ/\Post X H' (k t) Q:=
 ⟨Z,O,E,Post.mono h.bind λt H' s q v r=>⟨t,r,s,E.same s,q⟩⟩
theorem j7 {σ:L2.St}{H:Hp}{Z:En}{O:Ow}{α:Type}{f:En->Rs Bool}{k:Bool->Rs α}{Q:α->Hp->Prop}(E:EnvO X.K O H Z σ)(h:Post X H (f Z >>= k) Q) :
  Bp X f σ H λb H'=>Same H H'/\EnvO X.K O H' Z σ/\Post X H' (k b) Q:=
 ⟨Z,O,E,Post.mono h.bind λt H' s q=>⟨s,E.same s,q⟩⟩
noncomputable def vr (i:Nat)(Z:En):Rs T:=match Z[i]? with
 | some (.va t)=> .ok t
 | _=> .bad
def cn (t:T)(_:En):Rs T:=.ok t
theorem Hf (i:Nat){x:Str}{pos:Pos}(hN:autoParam (X.N[i]? =some x) aqd._auto_1)(hv:autoParam (kK X.env.scope x) aqe._auto_1)(hd:autoParam ((x == ("__debug__" : Str))=false) aqb._auto_1)
  (hcd:autoParam ((x == ("__classdict__" : Str))=false) aqb._auto_1):b6 X (.Name x pos) (vr i):=PE.imp (dY hN hv hd hcd) λσ H Q hh_=>by
 obtain⟨Z,O,E,h⟩:=hh_;unfold vr at h
 split at h
 ·rename_i t e
  obtain⟨v,e1,e2⟩:=E.val i t e;exact⟨v,e1,h H (Same.refl H) v e2⟩
 ·exact h.elim
theorem Ho {i j pos}:b6 X (.Constant (.int i) j pos) (cn (.int i)):=PE.imp Fm λσ H Q ⟨Z,O,E,h⟩=>h H (Same.refl H) _ (Rep.GT i)
theorem q_bl {i j pos}:b6 X (.Constant (.bool i) j pos) (cn (.bl i)):=PE.imp Hz λσ H Q ⟨Z,O,E,h⟩=>h H (Same.refl H) _ (Rep.bl_ i)
theorem Hk {j pos}:b6 X (.Constant .none j pos) (cn .non):=PE.imp Fi λσ H Q ⟨Z,O,E,h⟩=>h H (Same.refl H) _ Rep.JJ
theorem Hh {i j pos}:b6 X (.Constant (.str i) j pos) (cn (.str i)):=PE.imp Ff λσ H Q ⟨Z,O,E,h⟩=>h H (Same.refl H) _ (Rep.JT i)
theorem EX {x:Str}{i:Int}{u:J7}{pos:Pos}(hm:X.mg x=some u)(r:RelV (.int i) u)(hg:autoParam (Gl X x) aqd._auto_1)(hd:autoParam ((x == ("__debug__" : Str))=false) aqb._auto_1):b6 X (.Name x pos) (cn (.int i)):=
 PE.imp (Cz hg hm r hd) λσ H Q ⟨Z,O,E,h⟩=>h H (Same.refl H) _ (Rep.GT i)
def aj (_:En):Rs (List T):=.ok []
def ae (f:En->Rs T)(g:En->Rs (List T))(Z:En):Rs (List T):=do
 let t <-f Z
 let r <-g Z
 .ok (t::r)
theorem EW:pv X [] aj:=PA.imp iw λσ H Q ⟨Z,O,E,h⟩=>h H (Same.refl H) _ Reps.Gc
theorem Cg {e:Expr}{es:List Expr}{f:En->Rs T}{g:En->Rs (List T)}(he:b6 X e f)(hr:pv X es g)(hs:autoParam (Kn (e::es) X.env=(false,eval e X.env)::Kn es X.env) aqd._auto_1):pv X (e::es) (ae f g):=by
 intro pos pins s σ H Q I h;obtain⟨Z,O,E,h⟩:=h;refine d9 he hr hs pos pins s σ H Q I ?_
 obtain⟨Z1,O1,E1,h1⟩:=aW E h;refine⟨Z1,O1,E1,Post.mono h1 λt H' s q v r=> ?_⟩
 obtain⟨t',r',s',E',q'⟩:=q v r;refine⟨Z,O,E',Post.mono q'.bind λts H2 s2 q2 vs rs=> ?_⟩
 exact q2 H2 (Same.refl H2) _ (Reps.FS (r'.same s2) rs)
end
section
variable {X:Cx}
def jA (l:List T):Rs T:=if l.length<=sizeLine then .ok (.tup l)else .bad
def jB (l:List T):Rs T:=if l.length<=sizeLine then .ok (.lst l)else .bad
def ba (f:En->Rs (List T))(Z:En):Rs T:=f Z >>= jA
def fj (f:En->Rs (List T))(Z:En):Rs T:=f Z >>= jB
theorem a8 {H:Hp}{p:Addr}(h:H p=none)(o:HO):Same H (upd H p o):=λb u q=>by rw[aE (bS q h)];exact q
theorem gn {K:J5}{O:Ow}{H:Hp}{p:Addr}{l:List T}{vs:List V}(h:H p=none)(n:¬ O p)(r:Reps K O H l vs):Rep K O (upd H p (.tup vs)) (.tup l) (.ref p):=
 Rep.Fk.mpr ⟨p,vs,rfl,n,aO,r.same (a8 h _)⟩
theorem kl {K:J5}{O:Ow}{H:Hp}{p:Addr}{l:List T}{vs:List V}(h:H p=none)(n:¬ O p)(r:Reps K O H l vs):Rep K O (upd H p (.lst vs)) (.lst l) (.ref p):=
 Rep.Do.mpr ⟨p,vs,rfl,n,aO,r.same (a8 h _)⟩
theorem Hg {es:List Expr}{x1:Nat}{pos:Pos}{f:En->Rs (List T)}(h:pv X es f):b6 X (.Tuple es x1 pos) (ba f):=by
 intro pins s σ H Q I ⟨Z,O,E,hq⟩;refine Fe h pins s σ H Q I ?_
 obtain⟨Z1,O1,E1,h1⟩:=fw E hq;refine⟨Z1,O1,E1,Post.mono h1 λts H1 s1 q vs r=> ?_⟩
 obtain⟨t',r',s',E',q'⟩:=q vs r;unfold jA at q'
 split at q'
 ·rename_i hz
  refine⟨by rw[<-r'.length];exact hz,λp hp=> ?_⟩
  exact q' _ (a8 hp _) _ (gn hp (E'.fresh hp) r')
 ·exact q'.elim
theorem Hm {es:List Expr}{pos:Pos}{f:En->Rs (List T)}(h:pv X es f):b6 X (.List es pos) (fj f):=by
 intro pins s σ H Q I ⟨Z,O,E,hq⟩;refine Fj h pins s σ H Q I ?_
 obtain⟨Z1,O1,E1,h1⟩:=fw E hq;refine⟨Z1,O1,E1,Post.mono h1 λts H1 s1 q vs r=> ?_⟩
 obtain⟨t',r',s',E',q'⟩:=q vs r;unfold jB at q'
 split at q'
 ·rename_i hz
  refine⟨by rw[<-r'.length];exact hz,λp hp=> ?_⟩
  exact q' _ (a8 hp _) _ (kl hp (E'.fresh hp) r')
 ·exact q'.elim
def OpT (X:Cx)(f:J7->J7->Sem J7)(g:T->T->Rs T):Prop:=
 ∀(pins:List (Addr×Obj)) (s:J9) (σ:L2.St) (H:Hp) (O:Ow) (x y:T) (vx vy:V) (ux uy:J7) (Q:VK),Inv X pins σ H s->(∀p,H p=none->¬ O p)->Rep X.K O H x vx->Rep X.K O H y vy->RelV vx ux->RelV vy uy →
  Post X H (g x y) (λt H'=> ∀v,Rep X.K O H' t v->Q v H')->wpAny (model X.prog X.w) X.A (f ux uy) (EP X pins σ Q) X.xe s
def o2 (g:T->T->Rs T)(fa fb:En->Rs T)(Z:En):Rs T:=do
 let x <-fa Z
 let y <-fb Z
 g x y
variable {a b c:Expr}{fa fb fc:En->Rs T}{pos:Pos}
theorem Ht {op:Operator}{g:T->T->Rs T}(ho:OpT X (LG op) g)(ha:b6 X a fa)(hb:b6 X b fb):b6 X (.BinOp a op b pos) (o2 g fa fb):=by
 intro pins s σ H Q I ⟨Z,O,E,hq⟩
 have h1:=aW E hq;refine wpAny_BinOp (bN (ha pins s σ H _ I h1) λv s1 hh_=> ?_)
 obtain⟨x,H1,I1,r1,t,rt,s',E',q1⟩:=hh_
 have h2:=aW (f:=fb) E' q1;refine bN (hb pins s1 σ H1 _ I1 h2) λu s2 hh_=> ?_
 obtain⟨y,H2,I2,r2,t2,rt2,s'',E'',q2⟩:=hh_;exact ho pins s2 σ H2 O t t2 x y v u Q I2 (λp=>E''.fresh) (rt.same s'') rt2 r1 r2 q2
theorem Hs {op:Qy}{g:T->T->Rs T}(ho:OpT X (K2 op) g)(ha:b6 X a fa)(hb:b6 X b fb)(hm:autoParam (Mo op b=false) aqd._auto_1):b6 X (.Compare a [op] [b] pos) (o2 g fa fb):=by
 intro pins s σ H Q I ⟨Z,O,E,hq⟩
 have h1:=aW E hq;refine wpAny_Compare1 (bN (ha pins s σ H _ I h1) λv s1 ⟨x,H1,I1,r1,t,rt,s',E',q1⟩=> ?_) hm
 have h2:=aW (f:=fb) E' q1;refine bN (hb pins s1 σ H1 _ I1 h2) λu s2 hh_=> ?_
 obtain⟨y,H2,I2,r2,t2,rt2,s'',E'',q2⟩:=hh_;exact ho pins s2 σ H2 O t t2 x y v u Q I2 (λp=>E''.fresh) (rt.same s'') rt2 r1 r2 q2
theorem OpT.of {f:J7->J7->Sem J7}{r:R2}(h:sd X f r){g:T->T->Rs T}
  (w:∀(H:Hp) (O:Ow) (x y:T) (vx vy:V) (Q:VK),(∀p,H p=none->¬ O p)->Rep X.K O H x vx->Rep X.K O H y vy->Post X H (g x y) (λt H'=> ∀v,Rep X.K O H' t v->Q v H')->r vx vy H Q):OpT X f g:=
 λpins s σ H O x y vx vy ux uy Q I hf rx ry r1 r2 hp=>h pins s σ H vx vy ux uy Q I r1 r2 (w H O x y vx vy Q hf rx ry hp)
def ji:T->T->Rs T
 | .int i,.int j=> .ok (.int (i - j))
 | _,_=> .bad
theorem ix:OpT X (LG .Sub) ji:=OpT.of Fs λH O x y vx vy Q hf rx ry hp=>by
 unfold ji at hp
 split at hp
 ·exact⟨_,_,Rep.Da.mp rx,Rep.Da.mp ry,hp H (Same.refl H) _ (Rep.GT _)⟩
 ·exact hp.elim
def kG:T->T->Rs T
 | .int i,.int j=>if 0<j/\j<1073741824 then .ok (.int (i / j))else .bad
 | _,_=> .bad
def kB:T->T->Rs T
 | .int i,.int j=>if 0<j then .ok (.int (i % j))else .bad
 | _,_=> .bad
theorem mF:OpT X (LG .FloorDiv) kG:=OpT.of CI λH O x y vx vy Q hf rx ry hp=>by
 unfold kG at hp
 split at hp
 ·split at hp
  ·rename_i h
   exact⟨_,_,Rep.Da.mp rx,Rep.Da.mp ry,h,hp H (Same.refl H) _ (Rep.GT _)⟩
  ·exact hp.elim
 ·exact hp.elim
theorem jJ:OpT X (LG .Mod) kB:=OpT.of Fv λH O x y vx vy Q hf rx ry hp=>by
 unfold kB at hp
 split at hp
 ·split at hp
  ·rename_i h
   exact⟨_,_,Rep.Da.mp rx,Rep.Da.mp ry,h,hp H (Same.refl H) _ (Rep.GT _)⟩
  ·exact hp.elim
 ·exact hp.elim
theorem zC:sd X (LG .Add) (λx y H Q=> ∃a b ys,x= .ref a/\y= .ref b/\SqT X.K H a []/\SqT X.K H b ys/\Q (.ref b) H):=by
 intro pins s σ H x y v u Q I rx ry h;obtain⟨a,b,ys,rfl,rfl,ha,hb,q⟩:=h;cases rx;cases ry;obtain⟨its,r1,p1,_⟩:=I.tuple ha;obtain⟨its2,r2,p2,_⟩:=I.tuple hb;obtain⟨⟨cls,dd,data,sl⟩,ho,hc,n,hd⟩:=id p1;obtain⟨⟨cls2,dd2,data2,sl2⟩,ho2,hc2,n2,hd2⟩:=id p2;simp only at hc hd hc2 hd2;subst hc hd hc2 hd2
 have e:its= []:=by cases r1;rfl
 subst e;exact HT_concat0 ho ho2 ⟨.ref b,H,I,rfl,q⟩
where
 HT_concat0 {prog:KA} {w:K1} {A:KP} {E:J7->J9->Prop} {s:J9} {t b:Addr} {ws:Array J7} {n n2:Nat} {dd dd2:Option Addr} {sl sl2:Array (Option J7)} {Q:J7->J9->Prop}
   (ho:s.heap.get? t=some { cls:=.type "tuple",dict:=dd,data:=.seq (([]:List J7).toArray) n,slots:=sl }) (ho2:s.heap.get? b=some { cls:=.type "tuple",dict:=dd2,data:=.seq ws n2,slots:=sl2 }) (h:Q (.ref b) s) :
   wpAny (model prog w) A (LG .Add (.ref t) (.ref b)) Q E s:=
  Ql ⟨_,ho,rfl⟩ ⟨_,ho2,rfl⟩ On PC MW MK (MG _ _)
   (tuple_addW0 t b _ _ n n2 dd dd2 sl sl2 (by simp)) ⟨ho,ho2,h⟩
def aM:T->T->Rs T
 | .int i,.int j=> .ok (.int (i+j))
 | .str i,.str j=>if i.length+j.length<=sizeLine then .ok (.str (i++j))else .bad
 | .tup l,.tup m=>jA (l++m)
 | .lst l,.lst m=>jB (l++m)
 | _,_=> .bad
theorem aH:OpT X (LG .Add) aM:=by
 intro pins s σ H O x y vx vy ux uy Q I hf rx ry r1 r2 hp;unfold aM at hp
 split at hp
 ·exact Fz pins s σ H vx vy ux uy Q I r1 r2 ⟨_,_,Rep.Da.mp rx,Rep.Da.mp ry,hp H (Same.refl H) _ (Rep.GT _)⟩
 ·split at hp
  ·rename_i h
   exact uV pins s σ H vx vy ux uy Q I r1 r2 ⟨_,_,Rep.GE.mp rx,Rep.GE.mp ry,h,hp H (Same.refl H) _ (Rep.JT _)⟩
  ·exact hp.elim
 ·rename_i l m
  unfold jA at hp
  split at hp
  ·rename_i h
   obtain⟨a,vs,e1,n1,q1,z1⟩:=Rep.Fk.mp rx;obtain⟨b,ws,e2,n2,q2,z2⟩:=Rep.Fk.mp ry
   have hl1:=z1.length
   have hl2:=z2.length;rw[Kh]at h
   cases vs with
   | nil=>
    have e:l= []:=by cases l with
     | nil=>rfl
     | cons _ _=>simp at hl1
    subst e
    exact zC pins s σ H vx vy ux uy Q I r1 r2 ⟨a,b,ws,e1,e2,SqT.of q1,SqT.of q2,hp H (Same.refl H) _ (Rep.Fk.mpr ⟨b,ws,rfl,n2,q2,z2⟩)⟩
   | cons v0 vr=>
    refine CJ pins s σ H vx vy ux uy Q I r1 r2 ⟨a,b,v0::vr,ws,e1,e2,SqT.of q1,SqT.of q2,by simp,by omega,λhw=> ?_,λ_ p hpn=> ?_⟩
    ·subst hw
     have e:m= []:=by cases m with
      | nil=>rfl
      | cons _ _=>simp at hl2
     subst e;rw[KO]at hp;exact hp H (Same.refl H) _ (Rep.Fk.mpr ⟨a,_,rfl,n1,q1,z1⟩)
    ·exact hp _ (a8 hpn _) _ (gn hpn (hf p hpn) (z1.append z2))
  ·exact hp.elim
 ·rename_i l m
  unfold jB at hp
  split at hp
  ·rename_i h
   obtain⟨a,vs,e1,n1,q1,z1⟩:=Rep.Do.mp rx;obtain⟨b,ws,e2,n2,q2,z2⟩:=Rep.Do.mp ry
   have hl1:=z1.length
   have hl2:=z2.length;rw[Kh]at h;exact Fy pins s σ H vx vy ux uy Q I r1 r2 ⟨a,b,vs,ws,e1,e2,q1,q2,by omega,λp hpn=>hp _ (a8 hpn _) _ (kl hpn (hf p hpn) (z1.append z2))⟩
  ·exact hp.elim
 ·exact hp.elim
def u7:T->T->Rs T
 | .int i,.int j=>if (-(2 ^ 64)<i/\i<2 ^ 64)\/(-(2 ^ 64)<j/\j<2 ^ 64)then .ok (.int (i*j))else .bad
 | .lst l,.int k=>if -(2 ^ 63)<=k/\k<2 ^ 63/\l.length*k.toNat<=sizeLine then .ok (.lst (Kx k.toNat l).flatten)else .bad
 | _,_=> .bad
theorem Reps.rep {K:J5}{O:Ow}{H:Hp}{l:List T}{vs:List V}(h:Reps K O H l vs):∀k:Nat,Reps K O H (Kx k l).flatten (Kx k vs).flatten
 | 0=>Reps.Gc
 | k+1=>by rw[Lw,Lw,L8,L8];exact h.append (h.rep k)
theorem Fq:OpT X (LG .Mult) u7:=by
 intro pins s σ H O x y vx vy ux uy Q I hf rx ry r1 r2 hp;unfold u7 at hp
 split at hp
 ·split at hp
  ·rename_i h
   exact Fu pins s σ H vx vy ux uy Q I r1 r2 ⟨_,_,Rep.Da.mp rx,Rep.Da.mp ry,h,hp H (Same.refl H) _ (Rep.GT _)⟩
  ·exact hp.elim
 ·split at hp
  ·rename_i l k h
   obtain⟨a,vs,e1,n1,q1,z1⟩:=Rep.Do.mp rx
   have hl1:=z1.length;exact Ft pins s σ H vx vy ux uy Q I r1 r2 ⟨a,k,vs,e1,Rep.Da.mp ry,q1,h.1,h.2.1,by rw[<-hl1];exact h.2.2,λp hpn=>hp _ (a8 hpn _) _ (kl hpn (hf p hpn) (z1.rep _))⟩
  ·exact hp.elim
 ·exact hp.elim
def mf:T->Rs T
 | .int i=> .ok (.int (-i))
 | _=> .bad
def o1 (g:T->Rs T)(fa:En->Rs T)(Z:En):Rs T:=fa Z >>= g
theorem Hl (ha:b6 X a fa):b6 X (.UnaryOp .USub a pos) (o1 mf fa):=by
 intro pins s σ H Q I ⟨Z,O,E,hq⟩;refine Hw El ha pins s σ H Q I ?_
 obtain⟨Z1,O1,E1,h1⟩:=aW E hq;refine⟨Z1,O1,E1,Post.mono h1 λts H1 s1 q vs r=> ?_⟩
 obtain⟨t',r',s',E',q'⟩:=q vs r;unfold mf at q'
 split at q'
 ·exact⟨_,Rep.Da.mp r',q' H1 (Same.refl H1) _ (Rep.GT _)⟩
 ·exact q'.elim
def vz (p:Int->Int->Bool):T->T->Rs T
 | .int i,.int j=> .ok (.bl (p i j))
 | _,_=> .bad
theorem wt {op:Qy}{p:Int->Int->Bool}(h:sd X (K2 op) (Ex λi j=> .bl (p i j))):OpT X (K2 op) (vz p):=OpT.of h λH O x y vx vy Q hf rx ry hp=>by
 unfold vz at hp
 split at hp
 ·exact⟨_,_,Rep.Da.mp rx,Rep.Da.mp ry,hp H (Same.refl H) _ (Rep.bl_ _)⟩
 ·exact hp.elim
abbrev GB:=vz λi j=>decide (i<j)
abbrev HV:=vz λi j=>decide (i<=j)
theorem zB:OpT X (K2 .Lt) GB:=wt HB
theorem wo:OpT X (K2 .LtE) HV:=wt HC
def T.isN:T->Bool
 | .non=>true
 | _=>false
theorem Rep.isN {K:J5}{O:Ow}{H:Hp}{t:T}{v:V}(r:Rep K O H t v):decide (v= .non)=t.isN:=by
 cases t with
 | non=>rw[Rep.Jn.mp r];rfl
 | bl _=>rw[Rep.FM.mp r];rfl
 | int _=>rw[Rep.Da.mp r];rfl
 | str _=>rw[Rep.GE.mp r];rfl
 | tup _=>obtain⟨a,vs,e,_⟩:=Rep.Fk.mp r;rw[e];rfl
 | lst _=>obtain⟨a,vs,e,_⟩:=Rep.Do.mp r;rw[e];rfl
 | scr _=>unfold Rep at r;obtain⟨a,e,_⟩:=r;rw[e];rfl
 | dct _ _=>obtain⟨a,_,e,_⟩:=Rep.Jo.mp r;rw[e];rfl
 | ob _ _ _=>obtain⟨a,_,_,e,_⟩:=Rep.Ju.mp r;rw[e];rfl
def mj:T->T->Rs T
 | x,.non=> .ok (.bl x.isN)
 | _,_=> .bad
def iy:T->T->Rs T
 | x,.non=> .ok (.bl (!x.isN))
 | _,_=> .bad
theorem wq:OpT X (K2 .Is) mj:=OpT.of Fw λH O x y vx vy Q hf rx ry hp=>by
 unfold mj at hp
 split at hp
 ·exact⟨Rep.Jn.mp ry,hp H (Same.refl H) _ (by rw[rx.isN];exact Rep.bl_ _)⟩
 ·exact hp.elim
theorem ko:OpT X (K2 .IsNot) iy:=OpT.of CH λH O x y vx vy Q hf rx ry hp=>by
 unfold iy at hp
 split at hp
 ·exact⟨Rep.Jn.mp ry,hp H (Same.refl H) _ (by rw[rx.isN];exact Rep.bl_ _)⟩
 ·exact hp.elim
end
end Tr
namespace Tr
open PySem PySem.Spec PyProof.Rows L2
open PySem.SeqAt
mutual
def ReV (s:J9):T->J7->Prop
 | .non,u=>u= .none
 | .bl b,u=>u= .bool b
 | .int i,u=> ∃t,u= .int i t
 | .str x,u=> ∃t,u= .str x t
 | .tup l,u=> ∃a its,u= .ref a/\s.heap.IsTuple a (Qd its)/\ReVs s l its
 | .lst l,u=> ∃a its,u= .ref a/\s.heap.IsList a (Qd its)/\ReVs s l its
 | .scr l,u=> ∃a its,u= .ref a/\s.heap.IsList a (Qd its)/\Nl its l
 | .dct _ _,_=>False
 | .ob _ _ _,_=>False
def ReVs (s:J9):List T->List J7->Prop
 | [],us=>us= []
 | t::r,us=> ∃u ws,us=u::ws/\ReV s t u/\ReVs s r ws
end
theorem ReVs.AC {s:J9}{us:List J7}:ReVs s [] us↔us= []:=by unfold ReVs;exact MN
theorem ReVs.me {s:J9}{t:T}{l:List T}{us:List J7}:ReVs s (t::l) us↔ ∃u ws,us=u::ws/\ReV s t u/\ReVs s l ws:=by
 constructor
 ·intro h;unfold ReVs at h;exact h
 ·intro h;unfold ReVs;exact h
theorem ReVs.length {s:J9}:∀{l:List T} {us:List J7},ReVs s l us->l.length=us.length
 | [],us,r=>by rw[ReVs.AC.mp r];rfl
 | t::l,us,r=>by
  obtain⟨v,ws,rfl,_,q⟩:=ReVs.me.mp r;simp[q.length]
theorem ReVs.get {s:J9}:∀{l:List T} {us:List J7} {i:Nat} {t:T},ReVs s l us->l[i]? =some t->∃v,us[i]? =some v/\ReV s t v
 | [],_,_,_,_,e=>by simp at e
 | t::l,vs,i,u,r,e=>by
  obtain⟨v,ws,rfl,p,q⟩:=ReVs.me.mp r
  cases i with
  | zero=>simp at e;subst e;exact⟨v,rfl,p⟩
  | succ i=>
   obtain⟨z,e1,e2⟩:=q.get (i:=i) (t:=u) (by simpa using e)
   exact⟨z,by simpa using e1,e2⟩
mutual
def T.nd:T->Bool
 | .dct _ _=>false
 | .ob _ _ _=>false
 | .tup l=>nds l
 | .lst l=>nds l
 | _=>true
def nds:List T->Bool
 | [] =>true
 | t::l=>t.nd&&nds l
end
theorem tK {t:T}{l:List T}(h:nds (t::l)=true):t.nd=true/\nds l=true:=by unfold nds at h;exact La.mp h
section
variable {X:Cx}{pins:List (Addr×Obj)}{σ:L2.St}{H:Hp}{s:J9}{O:Ow}
mutual
theorem Rep.val (I:Inv X pins σ H s):∀{t:T} {v:V} {u:J7},t.nd=true->Rep X.K O H t v->RelV v u->ReV s t u
 | .non,v,u,hn,r,q=>by cases Rep.Jn.mp r;unfold ReV;exact q
 | .bl b,v,u,hn,r,q=>by cases Rep.FM.mp r;unfold ReV;exact q
 | .int b,v,u,hn,r,q=>by cases Rep.Da.mp r;unfold ReV;exact q
 | .str b,v,u,hn,r,q=>by cases Rep.GE.mp r;unfold ReV;exact q
 | .tup l,v,u,hn,r,q=>by
  obtain⟨a,vs,rfl,_,z,w⟩:=Rep.Fk.mp r;cases q;obtain⟨its,rv,p,_⟩:=I.tuple (SqT.of z);unfold ReV
  exact⟨a,its,rfl,p,Reps.val I (by unfold T.nd at hn;exact hn) w rv⟩
 | .lst l,v,u,hn,r,q=>by
  obtain⟨a,vs,rfl,_,z,w⟩:=Rep.Do.mp r;cases q;obtain⟨its,rv,p,_⟩:=I.list (SqL.of z);unfold ReV
  exact⟨a,its,rfl,p.isList,Reps.val I (by unfold T.nd at hn;exact hn) w rv⟩
 | .scr l,v,u,hn,r,q=>by
  unfold Rep at r;obtain⟨a,rfl,_,z⟩:=r;cases q;obtain⟨its,rv,p,_⟩:=I.list z;unfold ReV
  exact⟨a,its,rfl,p.isList,vj rv⟩
 | .dct _ _,v,u,hn,r,q=>by cases hn
 | .ob _ _ _,v,u,hn,r,q=>by cases hn
theorem Reps.val (I:Inv X pins σ H s):∀{l:List T} {vs:List V} {us:List J7},nds l=true->Reps X.K O H l vs->Vals vs us->ReVs s l us
 | [],vs,us,hn,r,q=>by
  cases Reps.AC.mp r;cases q
  exact ReVs.AC.mpr rfl
 | t::l,vs,us,hn,r,q=>by
  obtain⟨v,ws,rfl,p,z⟩:=Reps.me.mp r
  cases q with
  | cons q1 q2=>exact ReVs.me.mpr ⟨_,_,rfl,Rep.val I (tK hn).1 p q1,Reps.val I (tK hn).2 z q2⟩
end
end
mutual
def T.dep:T->Nat
 | .tup l=>deps l+1
 | .lst l=>deps l+1
 | .scr _=>1
 | _=>0
def deps:List T->Nat
 | [] =>0
 | t::l=>max t.dep (deps l)
end
def Dk (i:Int):T->Bool
 | .int j=>i == j
 | .bl b=>i == (if b then 1 else 0)
 | _=>false
def jC:List Int->List T->Bool
 | [],[] =>true
 | i::r,t::l=>Dk i t&&jC r l
 | _,_=>false
mutual
def a6:T->T->Bool
 | .non,.non=>true
 | .bl a,.bl b=>a == b
 | .bl a,.int b=>(if a then 1 else 0) == b
 | .int a,.bl b=>a == (if b then 1 else 0)
 | .int a,.int b=>a == b
 | .str a,.str b=>a == b
 | .tup l,.tup m=>beqTs l m
 | .lst l,.lst m=>beqTs l m
 | .lst l,.scr m=>beqTs l (m.map .int)
 | .scr l,.lst m=>jC l m
 | .scr l,.scr m=>l == m
 | _,_=>false
def beqTs:List T->List T->Bool
 | [],[] =>true
 | t::l,u::m=>a6 t u&&beqTs l m
 | _,_=>false
end
theorem oG (n:Nat)(e:Nat->Bool):(K9 (n+1)).all e=(e 0&&(K9 n).all λj=>e (j+1)):=by
 rw[List.range_succ_eq_map,N8,List.all_map];rfl
theorem lz:∀(l m:List T) (e:Nat->Bool),(∀(j:Nat) t u,l[j]? =some t->m[j]? =some u->e j=a6 t u) →
  beqTs l m=((K9 (min l.length m.length)).all e&&l.length == m.length)
 | [],[],_,_=>by simp[beqTs]
 | [],_::_,_,_=>by simp[beqTs]
 | _::_,[],_,_=>by simp[beqTs]
 | t::l,u::m,e,h=>by
  have ih:=lz l m (λj=>e (j+1)) λj t' u' h1 h2=>h (j+1) t' u' (by simpa using h1) (by simpa using h2)
  rw[beqTs,ih]
  have h0:=h 0 t u rfl rfl;simp only[Kd];rw[Nat.succ_min_succ,oG,h0,Bool.and_assoc]
  congr 2
  simp
theorem p9:∀{l m:List T},l.length≠m.length->beqTs l m=false
 | [],[],h=>absurd rfl h
 | [],_::_,_=>by simp[beqTs]
 | _::_,[],_=>by simp[beqTs]
 | t::l,u::m,h=>by
  rw[beqTs,p9 (l:=l) (m:=m) (by intro z;exact h (by simp[z]))]
  simp
theorem iU:∀{l:List T} {i:Nat} {t:T},l[i]? =some t->t.dep<=deps l
 | [],_,_,e=>by simp at e
 | t::l,0,u,e=>by simp at e;subst e;unfold deps;exact Nat.le_max_left _ _
 | t::l,i+1,u,e=>by
  have:=iU (l:=l) (i:=i) (t:=u) (by simpa using e)
  unfold deps;exact KW this (Nat.le_max_right _ _)
theorem iJ {s:J9}{a:Addr}{x y:List J7}(h:s.heap.IsTuple a x.toArray)(h':s.heap.IsTuple a y.toArray):x=y:=by
 obtain⟨o,e,_,n,d⟩:=h;obtain⟨o',e',_,n',d'⟩:=h';rw[e]at e';cases e';rw[d]at d';injection d' with d1 _
 simpa using congrArg Ox d1
theorem cz {s:J9}{a:Addr}{x y:List J7}(h:s.heap.IsList a x.toArray)(h':s.heap.IsList a y.toArray):x=y:=by
 obtain⟨o,e,_,n,d⟩:=h;obtain⟨o',e',_,n',d'⟩:=h';rw[e]at e';cases e';rw[d]at d';injection d' with d1 _
 simpa using congrArg Ox d1
theorem yB {s:J9}{i:Int}{t:T}{k:Tok}(r:ReV s t (.int i k)):Dk i t=true:=by
 cases t with
 | non=>unfold ReV at r;cases r
 | bl b=>unfold ReV at r;cases r
 | int j=>unfold ReV at r;obtain⟨t,e⟩:=r;injection e with e1 _;subst e1;simp[Dk]
 | str x=>unfold ReV at r;obtain⟨t,e⟩:=r;cases e
 | tup l=>unfold ReV at r;obtain⟨a,its,e,_⟩:=r;cases e
 | lst l=>unfold ReV at r;obtain⟨a,its,e,_⟩:=r;cases e
 | scr l=>unfold ReV at r;obtain⟨a,its,e,_⟩:=r;cases e
 | dct _ _=>unfold ReV at r;exact r.elim
 | ob _ _ _=>unfold ReV at r;exact r.elim
theorem oF {s:J9}:∀{ns:List Int} {us:List J7} {l:List T},Nl us ns->ReVs s l us->jC ns l=true
 | [],us,l,h,r=>by
  cases h
  cases l with
  | nil=>rfl
  | cons t l=>obtain⟨_,_,e,_⟩:=ReVs.me.mp r;cases e
 | n::ns,us,l,h,r=>by
  cases h with
  | cons a b hh=>
   cases l with
   | nil=>have:=ReVs.AC.mp r;cases this
   | cons t l=>
    obtain⟨u,ws,e,p,q⟩:=ReVs.me.mp r;injection e with e1 e2
    subst e1 e2;rw[jC,yB p,oF hh q];rfl
theorem dw {s:J9}:∀{us:List J7} {ns:List Int},Nl us ns->ReVs s (ns.map T.int) us
 | _,_,.nil=>ReVs.AC.mpr rfl
 | _,_,.cons n t h=>ReVs.me.mpr ⟨_,_,rfl,by unfold ReV;exact⟨_,rfl⟩,dw h⟩
theorem iK:∀{us:List J7} {ns ms:List Int},Nl us ns->Nl us ms->ns=ms
 | _,_,_,.nil,.nil=>rfl
 | _,_,_,.cons n t h,.cons _ _ h'=>by rw[iK h h']
mutual
theorem ReV.refl {s:J9}:∀{t u:T} {v:J7},ReV s t v->ReV s u v->a6 t u=true
 | .non,u,v,r,q=>by
  unfold ReV at r;subst r
  cases u <;> (unfold ReV at q) <;> first | rfl | (cases q;done) | (obtain⟨_,e⟩:=q;cases e;done) | (obtain⟨_,_,e,_⟩:=q;cases e;done)
 | .bl b,u,v,r,q=>by
  unfold ReV at r;subst r
  cases u <;> (unfold ReV at q) <;> first | (cases q;done) | (cases q;simp[a6];done) | (obtain⟨_,e⟩:=q;cases e;done) | (obtain⟨_,_,e,_⟩:=q;cases e;done)
 | .int b,u,v,r,q=>by
  unfold ReV at r;obtain⟨k,rfl⟩:=r
  cases u <;> (unfold ReV at q) <;> first | (cases q;done) | (obtain⟨_,e⟩:=q;cases e;simp[a6];done) | (obtain⟨_,e⟩:=q;cases e;done) | (obtain⟨_,_,e,_⟩:=q;cases e;done)
 | .str b,u,v,r,q=>by
  unfold ReV at r;obtain⟨k,rfl⟩:=r
  cases u <;> (unfold ReV at q) <;> first | (cases q;done) | (obtain⟨_,e⟩:=q;cases e;simp[a6];done) | (obtain⟨_,e⟩:=q;cases e;done) | (obtain⟨_,_,e,_⟩:=q;cases e;done)
 | .tup l,u,v,r,q=>by
  unfold ReV at r;obtain⟨a,its,rfl,h1,h2⟩:=r
  cases u with
  | non=>unfold ReV at q;cases q
  | dct _ _=>unfold ReV at q;exact q.elim
  | ob _ _ _=>unfold ReV at q;exact q.elim
  | bl _=>unfold ReV at q;cases q
  | int _=>unfold ReV at q;obtain⟨_,e⟩:=q;cases e
  | str _=>unfold ReV at q;obtain⟨_,e⟩:=q;cases e
  | tup m=>
   unfold ReV at q;obtain⟨a',its',e,h1',h2'⟩:=q;injection e with e;subst e
   have:=iJ h1 h1';subst this;unfold a6
   exact ReVs.refl h2 h2'
  | lst m=>unfold ReV at q;obtain⟨a',its',e,h1',h2'⟩:=q;injection e with e;subst e;exact absurd rfl (ne_of_list_tuple h1' h1)
  | scr m=>unfold ReV at q;obtain⟨a',its',e,h1',h2'⟩:=q;injection e with e;subst e;exact absurd rfl (ne_of_list_tuple h1' h1)
 | .lst l,u,v,r,q=>by
  unfold ReV at r;obtain⟨a,its,rfl,h1,h2⟩:=r
  cases u with
  | non=>unfold ReV at q;cases q
  | dct _ _=>unfold ReV at q;exact q.elim
  | ob _ _ _=>unfold ReV at q;exact q.elim
  | bl _=>unfold ReV at q;cases q
  | int _=>unfold ReV at q;obtain⟨_,e⟩:=q;cases e
  | str _=>unfold ReV at q;obtain⟨_,e⟩:=q;cases e
  | lst m=>
   unfold ReV at q;obtain⟨a',its',e,h1',h2'⟩:=q;injection e with e;subst e
   have:=cz h1 h1';subst this;unfold a6
   exact ReVs.refl h2 h2'
  | tup m=>unfold ReV at q;obtain⟨a',its',e,h1',h2'⟩:=q;injection e with e;subst e;exact absurd rfl (ne_of_list_tuple h1 h1')
  | scr m=>
   unfold ReV at q;obtain⟨a',its',e,h1',h2'⟩:=q;injection e with e;subst e
   have:=cz h1 h1';subst this;unfold a6
   exact ReVs.refl h2 (dw h2')
 | .scr l,u,v,r,q=>by
  unfold ReV at r;obtain⟨a,its,rfl,h1,h2⟩:=r
  cases u with
  | non=>unfold ReV at q;cases q
  | dct _ _=>unfold ReV at q;exact q.elim
  | ob _ _ _=>unfold ReV at q;exact q.elim
  | bl _=>unfold ReV at q;cases q
  | int _=>unfold ReV at q;obtain⟨_,e⟩:=q;cases e
  | str _=>unfold ReV at q;obtain⟨_,e⟩:=q;cases e
  | lst m=>
   unfold ReV at q;obtain⟨a',its',e,h1',h2'⟩:=q;injection e with e;subst e
   have:=cz h1 h1';subst this;unfold a6
   exact oF h2 h2'
  | tup m=>unfold ReV at q;obtain⟨a',its',e,h1',h2'⟩:=q;injection e with e;subst e;exact absurd rfl (ne_of_list_tuple h1 h1')
  | scr m=>
   unfold ReV at q;obtain⟨a',its',e,h1',h2'⟩:=q;injection e with e;subst e
   have:=cz h1 h1';subst this;unfold a6
   have:=iK h2 h2'
   simp[this]
 | .dct _ _,u,v,r,q=>by unfold ReV at r;exact r.elim
 | .ob _ _ _,u,v,r,q=>by unfold ReV at r;exact r.elim
theorem ReVs.refl {s:J9}:∀{l m:List T} {us:List J7},ReVs s l us->ReVs s m us->beqTs l m=true
 | [],m,us,r,q=>by
  cases ReVs.AC.mp r
  cases m with
  | nil=>simp[beqTs]
  | cons _ _=>obtain⟨_,_,e,_⟩:=ReVs.me.mp q;cases e
 | t::l,m,us,r,q=>by
  obtain⟨v,ws,rfl,p,z⟩:=ReVs.me.mp r
  cases m with
  | nil=>cases ReVs.AC.mp q
  | cons u m=>
   obtain⟨v',ws',e,p',z'⟩:=ReVs.me.mp q;injection e with e1 e2
   subst e1 e2;rw[beqTs,ReV.refl p p',ReVs.refl z z'];rfl
end
theorem oE:∀(l:List Int) (m:List T),jC l m=beqTs (l.map T.int) m
 | [],[] =>by simp[jC,beqTs]
 | [],_::_=>by simp[jC,beqTs]
 | _::_,[] =>by simp[jC,beqTs]
 | i::l,t::m=>by
  rw[jC,Ka,beqTs,oE l m]
  congr 1
  cases t <;> simp[Dk,a6]
theorem qv:∀(l m:List Int),(l == m)=beqTs (l.map T.int) (m.map T.int)
 | [],[] =>by simp[beqTs]
 | [],_::_=>by simp[beqTs]
 | _::_,[] =>by simp[beqTs]
 | i::l,t::m=>by
  rw[Ka,Ka,beqTs,<-qv l m];simp[a6]
theorem ft:∀(l:List Int),deps (l.map T.int)=0
 | [] =>rfl
 | i::l=>by rw[Ka,deps,ft l];simp[T.dep]
def ja:T->T->Prop
 | .tup _,.tup _=>False
 | .lst _,.lst _=>False
 | .lst _,.scr _=>False
 | .scr _,.lst _=>False
 | .scr _,.scr _=>False
 | _,_=>True
theorem ua (A:KP)(s:J9)(x y:T)(u v:J7)(hn:ja x y)(hu:A.units<cLine)(rx:ReV s x u)(ry:ReV s y v):EqAt A s u v (a6 x y)/\RcAt A s u v (a6 x y)/\RcNeAt A s u v (!a6 x y):=by
 match x,y,hn,rx,ry with
 | .dct _ _,_,_,rx,_=>exact(by unfold ReV at rx;exact rx:False).elim
 | .ob _ _ _,_,_,rx,_=>exact(by unfold ReV at rx;exact rx:False).elim
 | _,.dct _ _,_,_,ry=>exact(by unfold ReV at ry;exact ry:False).elim
 | _,.ob _ _ _,_,_,ry=>exact(by unfold ReV at ry;exact ry:False).elim
 | .non,.non,hn,rx,ry=>
  obtain rfl:u=KR:=by unfold ReV at rx;exact rx
  obtain rfl:v=KR:=by unfold ReV at ry;exact ry
  exact⟨EqAt.same _,RcAt.none_none ,RcNeAt.none_none ⟩
 | .non,.bl b2,hn,rx,ry=>
  obtain rfl:u=KR:=by unfold ReV at rx;exact rx
  obtain rfl:v=Lc b2:=by unfold ReV at ry;exact ry
  exact⟨EqAt.none_bool b2,RcAt.none_bool b2,RcNeAt.none_bool b2⟩
 | .non,.int i2,hn,rx,ry=>
  obtain rfl:u=KR:=by unfold ReV at rx;exact rx
  obtain⟨k2,rfl⟩:∃k,v=Lq i2 k:=by unfold ReV at ry;exact ry
  exact⟨EqAt.none_int i2 k2,RcAt.none_int i2 k2,RcNeAt.none_int i2 k2⟩
 | .non,.str x2,hn,rx,ry=>
  obtain rfl:u=KR:=by unfold ReV at rx;exact rx
  obtain⟨k2,rfl⟩:∃k,v=Lr x2 k:=by unfold ReV at ry;exact ry
  exact⟨EqAt.none_str x2 k2,RcAt.none_str x2 k2,RcNeAt.none_str x2 k2⟩
 | .non,.tup l2,hn,rx,ry=>
  obtain rfl:u=KR:=by unfold ReV at rx;exact rx
  unfold ReV at ry;obtain⟨a2,us2,rfl,h2,q2⟩:=ry
  exact⟨EqAt.none_tuple h2 hu,RcAt.none_tuple h2 hu,RcNeAt.none_tuple h2 hu⟩
 | .non,.lst l2,hn,rx,ry=>
  obtain rfl:u=KR:=by unfold ReV at rx;exact rx
  unfold ReV at ry;obtain⟨a2,us2,rfl,h2,q2⟩:=ry
  exact⟨EqAt.none_list h2 hu,RcAt.none_list h2 hu,RcNeAt.none_list h2 hu⟩
 | .non,.scr l2,hn,rx,ry=>
  obtain rfl:u=KR:=by unfold ReV at rx;exact rx
  unfold ReV at ry;obtain⟨a2,us2,rfl,h2,q2⟩:=ry
  exact⟨EqAt.none_list h2 hu,RcAt.none_list h2 hu,RcNeAt.none_list h2 hu⟩
 | .bl b1,.non,hn,rx,ry=>
  obtain rfl:u=Lc b1:=by unfold ReV at rx;exact rx
  obtain rfl:v=KR:=by unfold ReV at ry;exact ry
  exact⟨EqAt.bool_none b1,RcAt.bool_none b1,RcNeAt.bool_none b1⟩
 | .bl b1,.bl b2,hn,rx,ry=>
  obtain rfl:u=Lc b1:=by unfold ReV at rx;exact rx
  obtain rfl:v=Lc b2:=by unfold ReV at ry;exact ry
  exact⟨EqAt.bool_bool b1 b2,RcAt.bool_bool b1 b2,RcNeAt.bool_bool b1 b2⟩
 | .bl b1,.int i2,hn,rx,ry=>
  obtain rfl:u=Lc b1:=by unfold ReV at rx;exact rx
  obtain⟨k2,rfl⟩:∃k,v=Lq i2 k:=by unfold ReV at ry;exact ry
  exact⟨EqAt.bool_int b1 i2 k2,RcAt.bool_int b1 i2 k2,RcNeAt.bool_int b1 i2 k2⟩
 | .bl b1,.str x2,hn,rx,ry=>
  obtain rfl:u=Lc b1:=by unfold ReV at rx;exact rx
  obtain⟨k2,rfl⟩:∃k,v=Lr x2 k:=by unfold ReV at ry;exact ry
  exact⟨EqAt.bool_str b1 x2 k2,RcAt.bool_str b1 x2 k2,RcNeAt.bool_str b1 x2 k2⟩
 | .bl b1,.tup l2,hn,rx,ry=>
  obtain rfl:u=Lc b1:=by unfold ReV at rx;exact rx
  unfold ReV at ry;obtain⟨a2,us2,rfl,h2,q2⟩:=ry
  exact⟨EqAt.bool_tuple b1 h2 hu,RcAt.bool_tuple b1 h2 hu,RcNeAt.bool_tuple b1 h2 hu⟩
 | .bl b1,.lst l2,hn,rx,ry=>
  obtain rfl:u=Lc b1:=by unfold ReV at rx;exact rx
  unfold ReV at ry;obtain⟨a2,us2,rfl,h2,q2⟩:=ry
  exact⟨EqAt.bool_list b1 h2 hu,RcAt.bool_list b1 h2 hu,RcNeAt.bool_list b1 h2 hu⟩
 | .bl b1,.scr l2,hn,rx,ry=>
  obtain rfl:u=Lc b1:=by unfold ReV at rx;exact rx
  unfold ReV at ry;obtain⟨a2,us2,rfl,h2,q2⟩:=ry
  exact⟨EqAt.bool_list b1 h2 hu,RcAt.bool_list b1 h2 hu,RcNeAt.bool_list b1 h2 hu⟩
 | .int i1,.non,hn,rx,ry=>
  obtain⟨k1,rfl⟩:∃k,u=Lq i1 k:=by unfold ReV at rx;exact rx
  obtain rfl:v=KR:=by unfold ReV at ry;exact ry
  exact⟨EqAt.int_none i1 k1,RcAt.int_none i1 k1,RcNeAt.int_none i1 k1⟩
 | .int i1,.bl b2,hn,rx,ry=>
  obtain⟨k1,rfl⟩:∃k,u=Lq i1 k:=by unfold ReV at rx;exact rx
  obtain rfl:v=Lc b2:=by unfold ReV at ry;exact ry
  exact⟨EqAt.int_bool i1 k1 b2,RcAt.int_bool i1 k1 b2,RcNeAt.int_bool i1 k1 b2⟩
 | .int i1,.int i2,hn,rx,ry=>
  obtain⟨k1,rfl⟩:∃k,u=Lq i1 k:=by unfold ReV at rx;exact rx
  obtain⟨k2,rfl⟩:∃k,v=Lq i2 k:=by unfold ReV at ry;exact ry
  exact⟨EqAt.int_int i1 k1 i2 k2,RcAt.int_int i1 k1 i2 k2,RcNeAt.int_int i1 k1 i2 k2⟩
 | .int i1,.str x2,hn,rx,ry=>
  obtain⟨k1,rfl⟩:∃k,u=Lq i1 k:=by unfold ReV at rx;exact rx
  obtain⟨k2,rfl⟩:∃k,v=Lr x2 k:=by unfold ReV at ry;exact ry
  exact⟨EqAt.int_str i1 k1 x2 k2,RcAt.int_str i1 k1 x2 k2,RcNeAt.int_str i1 k1 x2 k2⟩
 | .int i1,.tup l2,hn,rx,ry=>
  obtain⟨k1,rfl⟩:∃k,u=Lq i1 k:=by unfold ReV at rx;exact rx
  unfold ReV at ry;obtain⟨a2,us2,rfl,h2,q2⟩:=ry
  exact⟨EqAt.int_tuple i1 k1 h2 hu,RcAt.int_tuple i1 k1 h2 hu,RcNeAt.int_tuple i1 k1 h2 hu⟩
 | .int i1,.lst l2,hn,rx,ry=>
  obtain⟨k1,rfl⟩:∃k,u=Lq i1 k:=by unfold ReV at rx;exact rx
  unfold ReV at ry;obtain⟨a2,us2,rfl,h2,q2⟩:=ry
  exact⟨EqAt.int_list i1 k1 h2 hu,RcAt.int_list i1 k1 h2 hu,RcNeAt.int_list i1 k1 h2 hu⟩
 | .int i1,.scr l2,hn,rx,ry=>
  obtain⟨k1,rfl⟩:∃k,u=Lq i1 k:=by unfold ReV at rx;exact rx
  unfold ReV at ry;obtain⟨a2,us2,rfl,h2,q2⟩:=ry
  exact⟨EqAt.int_list i1 k1 h2 hu,RcAt.int_list i1 k1 h2 hu,RcNeAt.int_list i1 k1 h2 hu⟩
 | .str x1,.non,hn,rx,ry=>
  obtain⟨k1,rfl⟩:∃k,u=Lr x1 k:=by unfold ReV at rx;exact rx
  obtain rfl:v=KR:=by unfold ReV at ry;exact ry
  exact⟨EqAt.str_none x1 k1,RcAt.str_none x1 k1,RcNeAt.str_none x1 k1⟩
 | .str x1,.bl b2,hn,rx,ry=>
  obtain⟨k1,rfl⟩:∃k,u=Lr x1 k:=by unfold ReV at rx;exact rx
  obtain rfl:v=Lc b2:=by unfold ReV at ry;exact ry
  exact⟨EqAt.str_bool x1 k1 b2,RcAt.str_bool x1 k1 b2,RcNeAt.str_bool x1 k1 b2⟩
 | .str x1,.int i2,hn,rx,ry=>
  obtain⟨k1,rfl⟩:∃k,u=Lr x1 k:=by unfold ReV at rx;exact rx
  obtain⟨k2,rfl⟩:∃k,v=Lq i2 k:=by unfold ReV at ry;exact ry
  exact⟨EqAt.str_int x1 k1 i2 k2,RcAt.str_int x1 k1 i2 k2,RcNeAt.str_int x1 k1 i2 k2⟩
 | .str x1,.str x2,hn,rx,ry=>
  obtain⟨k1,rfl⟩:∃k,u=Lr x1 k:=by unfold ReV at rx;exact rx
  obtain⟨k2,rfl⟩:∃k,v=Lr x2 k:=by unfold ReV at ry;exact ry
  exact⟨EqAt.str_str x1 k1 x2 k2,RcAt.str_str x1 k1 x2 k2,RcNeAt.str_str x1 k1 x2 k2⟩
 | .str x1,.tup l2,hn,rx,ry=>
  obtain⟨k1,rfl⟩:∃k,u=Lr x1 k:=by unfold ReV at rx;exact rx
  unfold ReV at ry;obtain⟨a2,us2,rfl,h2,q2⟩:=ry
  exact⟨EqAt.str_tuple x1 k1 h2 hu,RcAt.str_tuple x1 k1 h2 hu,RcNeAt.str_tuple x1 k1 h2 hu⟩
 | .str x1,.lst l2,hn,rx,ry=>
  obtain⟨k1,rfl⟩:∃k,u=Lr x1 k:=by unfold ReV at rx;exact rx
  unfold ReV at ry;obtain⟨a2,us2,rfl,h2,q2⟩:=ry
  exact⟨EqAt.str_list x1 k1 h2 hu,RcAt.str_list x1 k1 h2 hu,RcNeAt.str_list x1 k1 h2 hu⟩
 | .str x1,.scr l2,hn,rx,ry=>
  obtain⟨k1,rfl⟩:∃k,u=Lr x1 k:=by unfold ReV at rx;exact rx
  unfold ReV at ry;obtain⟨a2,us2,rfl,h2,q2⟩:=ry
  exact⟨EqAt.str_list x1 k1 h2 hu,RcAt.str_list x1 k1 h2 hu,RcNeAt.str_list x1 k1 h2 hu⟩
 | .tup l1,.non,hn,rx,ry=>
  unfold ReV at rx;obtain⟨a1,us1,rfl,h1,q1⟩:=rx;obtain rfl:v=KR:=by unfold ReV at ry;exact ry
  exact⟨EqAt.tuple_none h1 hu,RcAt.tuple_none h1 hu,RcNeAt.tuple_none h1 hu⟩
 | .tup l1,.bl b2,hn,rx,ry=>
  unfold ReV at rx;obtain⟨a1,us1,rfl,h1,q1⟩:=rx;obtain rfl:v=Lc b2:=by unfold ReV at ry;exact ry
  exact⟨EqAt.tuple_bool b2 h1 hu,RcAt.tuple_bool b2 h1 hu,RcNeAt.tuple_bool b2 h1 hu⟩
 | .tup l1,.int i2,hn,rx,ry=>
  unfold ReV at rx;obtain⟨a1,us1,rfl,h1,q1⟩:=rx;obtain⟨k2,rfl⟩:∃k,v=Lq i2 k:=by unfold ReV at ry;exact ry
  exact⟨EqAt.tuple_int i2 k2 h1 hu,RcAt.tuple_int i2 k2 h1 hu,RcNeAt.tuple_int i2 k2 h1 hu⟩
 | .tup l1,.str x2,hn,rx,ry=>
  unfold ReV at rx;obtain⟨a1,us1,rfl,h1,q1⟩:=rx;obtain⟨k2,rfl⟩:∃k,v=Lr x2 k:=by unfold ReV at ry;exact ry
  exact⟨EqAt.tuple_str x2 k2 h1 hu,RcAt.tuple_str x2 k2 h1 hu,RcNeAt.tuple_str x2 k2 h1 hu⟩
 | .tup _,.tup _,hn,_,_=>exact hn.elim
 | .tup l1,.lst l2,hn,rx,ry=>
  unfold ReV at rx;obtain⟨a1,us1,rfl,h1,q1⟩:=rx;unfold ReV at ry;obtain⟨a2,us2,rfl,h2,q2⟩:=ry
  exact⟨EqAt.tuple_list h1 h2 hu,RcAt.tuple_list h1 h2 hu,RcNeAt.tuple_list h1 h2 hu⟩
 | .tup l1,.scr l2,hn,rx,ry=>
  unfold ReV at rx;obtain⟨a1,us1,rfl,h1,q1⟩:=rx;unfold ReV at ry;obtain⟨a2,us2,rfl,h2,q2⟩:=ry
  exact⟨EqAt.tuple_list h1 h2 hu,RcAt.tuple_list h1 h2 hu,RcNeAt.tuple_list h1 h2 hu⟩
 | .lst l1,.non,hn,rx,ry=>
  unfold ReV at rx;obtain⟨a1,us1,rfl,h1,q1⟩:=rx;obtain rfl:v=KR:=by unfold ReV at ry;exact ry
  exact⟨EqAt.list_none h1 hu,RcAt.list_none h1 hu,RcNeAt.list_none h1 hu⟩
 | .lst l1,.bl b2,hn,rx,ry=>
  unfold ReV at rx;obtain⟨a1,us1,rfl,h1,q1⟩:=rx;obtain rfl:v=Lc b2:=by unfold ReV at ry;exact ry
  exact⟨EqAt.list_bool b2 h1 hu,RcAt.list_bool b2 h1 hu,RcNeAt.list_bool b2 h1 hu⟩
 | .lst l1,.int i2,hn,rx,ry=>
  unfold ReV at rx;obtain⟨a1,us1,rfl,h1,q1⟩:=rx;obtain⟨k2,rfl⟩:∃k,v=Lq i2 k:=by unfold ReV at ry;exact ry
  exact⟨EqAt.list_int i2 k2 h1 hu,RcAt.list_int i2 k2 h1 hu,RcNeAt.list_int i2 k2 h1 hu⟩
 | .lst l1,.str x2,hn,rx,ry=>
  unfold ReV at rx;obtain⟨a1,us1,rfl,h1,q1⟩:=rx;obtain⟨k2,rfl⟩:∃k,v=Lr x2 k:=by unfold ReV at ry;exact ry
  exact⟨EqAt.list_str x2 k2 h1 hu,RcAt.list_str x2 k2 h1 hu,RcNeAt.list_str x2 k2 h1 hu⟩
 | .lst l1,.tup l2,hn,rx,ry=>
  unfold ReV at rx;obtain⟨a1,us1,rfl,h1,q1⟩:=rx;unfold ReV at ry;obtain⟨a2,us2,rfl,h2,q2⟩:=ry
  exact⟨EqAt.list_tuple h1 h2 hu,RcAt.list_tuple h1 h2 hu,RcNeAt.list_tuple h1 h2 hu⟩
 | .lst _,.lst _,hn,_,_=>exact hn.elim
 | .lst _,.scr _,hn,_,_=>exact hn.elim
 | .scr l1,.non,hn,rx,ry=>
  unfold ReV at rx;obtain⟨a1,us1,rfl,h1,q1⟩:=rx;obtain rfl:v=KR:=by unfold ReV at ry;exact ry
  exact⟨EqAt.list_none h1 hu,RcAt.list_none h1 hu,RcNeAt.list_none h1 hu⟩
 | .scr l1,.bl b2,hn,rx,ry=>
  unfold ReV at rx;obtain⟨a1,us1,rfl,h1,q1⟩:=rx;obtain rfl:v=Lc b2:=by unfold ReV at ry;exact ry
  exact⟨EqAt.list_bool b2 h1 hu,RcAt.list_bool b2 h1 hu,RcNeAt.list_bool b2 h1 hu⟩
 | .scr l1,.int i2,hn,rx,ry=>
  unfold ReV at rx;obtain⟨a1,us1,rfl,h1,q1⟩:=rx;obtain⟨k2,rfl⟩:∃k,v=Lq i2 k:=by unfold ReV at ry;exact ry
  exact⟨EqAt.list_int i2 k2 h1 hu,RcAt.list_int i2 k2 h1 hu,RcNeAt.list_int i2 k2 h1 hu⟩
 | .scr l1,.str x2,hn,rx,ry=>
  unfold ReV at rx;obtain⟨a1,us1,rfl,h1,q1⟩:=rx;obtain⟨k2,rfl⟩:∃k,v=Lr x2 k:=by unfold ReV at ry;exact ry
  exact⟨EqAt.list_str x2 k2 h1 hu,RcAt.list_str x2 k2 h1 hu,RcNeAt.list_str x2 k2 h1 hu⟩
 | .scr l1,.tup l2,hn,rx,ry=>
  unfold ReV at rx;obtain⟨a1,us1,rfl,h1,q1⟩:=rx;unfold ReV at ry;obtain⟨a2,us2,rfl,h2,q2⟩:=ry
  exact⟨EqAt.list_tuple h1 h2 hu,RcAt.list_tuple h1 h2 hu,RcNeAt.list_tuple h1 h2 hu⟩
 | .scr _,.lst _,hn,_,_=>exact hn.elim
 | .scr _,.scr _,hn,_,_=>exact hn.elim
theorem C7:∀(n:Nat) (A:KP) (s:J9) (x y:T) (u v:J7),(x.dep<=n\/y.dep<=n)->A.units+n<cLine->ReV s x u->ReV s y v->EqAt A s u v (a6 x y)/\RcAt A s u v (a6 x y)/\RcNeAt A s u v (!a6 x y):=by
 intro n
 induction n with
 | zero=>
  intro A s x y u v hd hu rx ry
  exact ua A s x y u v (by cases x <;> cases y <;> simp_all [ja,T.dep]) (by omega) rx ry
 | succ n ih=>
  intro A s x y u v hd hu rx ry
  have hin:A.in1.units+n<cLine:=by show A.units+1+n<cLine;omega
  have items:∀(l m:List T) (us vs:List J7),(deps l<=n\/deps m<=n)->ReVs s l us->ReVs s m vs->∃e:Nat->Bool,(∀j (h1:j<us.toArray.size) (h2:j<vs.toArray.size),EqAt A.in1 s us.toArray[j] vs.toArray[j] (e j)) ∧
    (∀(j:Nat) t u,l[j]? =some t->m[j]? =some u->e j=a6 t u):=λl m us vs hd r1 r2=>by
   refine⟨λj=>a6 (l.getD j .non) (m.getD j .non),λj h1 h2=> ?_,λj t u e1 e2=>by simp[List.getD,e1,e2]⟩
   have l1:=r1.length
   have l2:=r2.length
   have h1':j<l.length:=by rw[l1];simpa using h1
   have h2':j<m.length:=by rw[l2];simpa using h2
   have e1:l[j]? =some l[j]:=by simp
   have e2:m[j]? =some m[j]:=by simp
   obtain⟨u1,z1,w1⟩:=r1.get e1;obtain⟨u2,z2,w2⟩:=r2.get e2
   have q1:us.toArray[j] =u1:=by
    have:us[j]? =some us.toArray[j]:=by simp
    rw[z1]at this;exact(KS this).symm
   have q2:vs.toArray[j] =u2:=by
    have:vs[j]? =some vs.toArray[j]:=by simp
    rw[z2]at this;exact(KS this).symm
   rw[q1,q2]
   have g1:l.getD j .non=l[j]:=by simp[List.getD,e1]
   have g2:m.getD j .non=m[j]:=by simp[List.getD,e2]
   show EqAt A.in1 s u1 u2 (a6 (l.getD j .non) (m.getD j .non))
   rw[g1,g2];refine(ih A.in1 s l[j] m[j] u1 u2 ?_ hin w1 w2).1
   rcases hd with hd | hd
   ·exact .inl (KW (iU e1) hd)
   ·exact .inr (KW (iU e2) hd)
  have lists:∀(l m:List T) (a b:Addr) (us vs:List J7),(deps l<=n\/deps m<=n)->ReVs s l us->ReVs s m vs->s.heap.IsList a us.toArray->s.heap.IsList b vs.toArray →
    EqAt A s (.ref a) (.ref b) (beqTs l m)/\RcAt A s (.ref a) (.ref b) (beqTs l m)/\RcNeAt A s (.ref a) (.ref b) (!beqTs l m):=λl m a b us vs hd r1 r2 h1 h2=>by
   have l1:=r1.length
   have l2:=r2.length
   have key:RcAt A s (.ref a) (.ref b) (beqTs l m)/\RcNeAt A s (.ref a) (.ref b) (!beqTs l m):=by
    by_cases hl:l.length=m.length
    ·obtain⟨e,he,hb⟩:=items l m us vs hd r1 r2
     have q:=lz l m e hb
     have q2:beqTs l m=(K9 us.toArray.size).all e:=by
      rw[q,hl,Nat.min_self];simp[l2.symm,hl.symm,l1]
     rw[q2]
     have hsz:us.toArray.size=vs.toArray.size:=by simp;omega
     exact⟨RcAt.lists h1 h2 hsz (by omega) he,RcNeAt.lists h1 h2 hsz (by omega) he⟩
    ·rw[p9 hl]
     have hsz:(us.toArray.size != vs.toArray.size)=true:=by simp;omega
     exact⟨RcAt.lists_lengths h1 h2 hsz (by omega),RcNeAt.lists_lengths h1 h2 hsz (by omega)⟩
   refine⟨?_,key⟩
   by_cases hab:a=b
   ·subst hab
    have:=cz h1 h2;subst this;rw[ReVs.refl r1 r2];exact EqAt.same _
   ·exact EqAt.of_refs hab key.1
  cases x with
  | tup l=>
   cases y with
   | tup m=>
    unfold ReV at rx ry;obtain⟨a,us,rfl,h1,r1⟩:=rx;obtain⟨b,vs,rfl,h2,r2⟩:=ry
    have hd':deps l<=n\/deps m<=n:=by
     simp only[T.dep]at hd;omega
    have l1:=r1.length
    have l2:=r2.length;obtain⟨e,he,hb⟩:=items l m us vs hd' r1 r2
    have q:=lz l m e hb
    have q2:beqTs l m=((K9 (min us.toArray.size vs.toArray.size)).all e&&us.toArray.size == vs.toArray.size):=by
     rw[q];simp[l1,l2]
    have key:RcAt A s (.ref a) (.ref b) (beqTs l m)/\RcNeAt A s (.ref a) (.ref b) (!beqTs l m):=by
     rw[q2];exact⟨RcAt.tuples h1 h2 (by omega) he,RcNeAt.tuples h1 h2 (by omega) he⟩
    unfold a6;refine⟨?_,key⟩
    by_cases hab:a=b
    ·subst hab
     have:=iJ h1 h2;subst this;rw[ReVs.refl r1 r2];exact EqAt.same _
    ·exact EqAt.of_refs hab key.1
   | _=>exact ua A s _ _ u v (by simp[ja]) (by omega) rx ry
  | lst l=>
   cases y with
   | lst m=>
    unfold ReV at rx ry;obtain⟨a,us,rfl,h1,r1⟩:=rx;obtain⟨b,vs,rfl,h2,r2⟩:=ry;unfold a6
    exact lists l m a b us vs (by simp only[T.dep]at hd;omega) r1 r2 h1 h2
   | scr m=>
    unfold ReV at rx ry;obtain⟨a,us,rfl,h1,r1⟩:=rx;obtain⟨b,vs,rfl,h2,r2⟩:=ry;unfold a6
    exact lists l (m.map T.int) a b us vs (by rw[ft];omega) r1 (dw r2) h1 h2
   | _=>exact ua A s _ _ u v (by simp[ja]) (by omega) rx ry
  | scr l=>
   cases y with
   | lst m=>
    unfold ReV at rx ry;obtain⟨a,us,rfl,h1,r1⟩:=rx;obtain⟨b,vs,rfl,h2,r2⟩:=ry;unfold a6;rw[oE]
    exact lists (l.map T.int) m a b us vs (by rw[ft];omega) (dw r1) r2 h1 h2
   | scr m=>
    unfold ReV at rx ry;obtain⟨a,us,rfl,h1,r1⟩:=rx;obtain⟨b,vs,rfl,h2,r2⟩:=ry;unfold a6;rw[qv]
    exact lists (l.map T.int) (m.map T.int) a b us vs (by rw[ft];omega) (dw r1) (dw r2) h1 h2
   | _=>exact ua A s _ _ u v (by simp[ja]) (by omega) rx ry
  | _=>exact ua A s _ _ u v (by simp[ja]) (by omega) rx ry
mutual
def T.nf:T->T
 | .tup l=> .tup (nfs l)
 | .lst l=> .lst (nfs l)
 | .scr l=> .lst (l.map .int)
 | .non=> .non
 | .bl b=> .bl b
 | .int b=> .int b
 | .str b=> .str b
 | .dct a b=> .dct a b
 | .ob a b c=> .ob a b c
def nfs:List T->List T
 | [] => []
 | t::l=>t.nf::nfs l
end
theorem tI:∀(l:List Int),nfs (l.map T.int)=l.map T.int
 | [] =>rfl
 | i::l=>by rw[Ka,nfs,tI l];simp[T.nf]
mutual
theorem kJ:∀(t x:T),a6 t.nf x=a6 t x
 | .non,x=>by simp[T.nf]
 | .bl _,x=>by simp[T.nf]
 | .int _,x=>by simp[T.nf]
 | .str _,x=>by simp[T.nf]
 | .tup l,x=>by cases x <;> simp[T.nf,a6,beqTs_nf l]
 | .lst l,x=>by cases x <;> simp[T.nf,a6,beqTs_nf l]
 | .scr l,x=>by cases x <;> simp[T.nf,a6,oE,qv]
 | .dct _ _,x=>by simp[T.nf]
 | .ob _ _ _,x=>by simp[T.nf]
theorem beqTs_nf:∀(l m:List T),beqTs (nfs l) m=beqTs l m
 | [],m=>by simp[nfs]
 | t::l,m=>by cases m <;> simp[nfs,beqTs,kJ t,beqTs_nf l]
end
theorem F8 {s:J9}{t:T}{i:Int}{k:Tok}(r:ReV s t (.int i k)):t.nf= .int i:=by
 cases t with
 | non=>unfold ReV at r;cases r
 | bl b=>unfold ReV at r;cases r
 | int j=>unfold ReV at r;obtain⟨t,e⟩:=r;injection e with e1 _;subst e1;rfl
 | str x=>unfold ReV at r;obtain⟨t,e⟩:=r;cases e
 | tup l=>unfold ReV at r;obtain⟨a,its,e,_⟩:=r;cases e
 | lst l=>unfold ReV at r;obtain⟨a,its,e,_⟩:=r;cases e
 | scr l=>unfold ReV at r;obtain⟨a,its,e,_⟩:=r;cases e
 | dct _ _=>unfold ReV at r;exact r.elim
 | ob _ _ _=>unfold ReV at r;exact r.elim
theorem wZ {s:J9}:∀{l:List T} {us:List J7} {ns:List Int},ReVs s l us->Nl us ns->nfs l=ns.map T.int
 | [],us,ns,r,h=>by cases ReVs.AC.mp r;cases h;rfl
 | t::l,us,ns,r,h=>by
  obtain⟨u,ws,rfl,p,q⟩:=ReVs.me.mp r
  cases h with
  | cons a b hh=>rw[nfs,F8 p,wZ q hh];rfl
mutual
theorem ReV.nf {s:J9}:∀{t u:T} {v:J7},ReV s t v->ReV s u v->t.nf=u.nf
 | .non,u,v,r,q=>by
  unfold ReV at r;subst r
  cases u <;> (unfold ReV at q) <;> first | rfl | (cases q;done) | (obtain⟨_,e⟩:=q;cases e;done) | (obtain⟨_,_,e,_⟩:=q;cases e;done)
 | .bl b,u,v,r,q=>by
  unfold ReV at r;subst r
  cases u <;> (unfold ReV at q) <;> first | (cases q;done) | (cases q;rfl) | (obtain⟨_,e⟩:=q;cases e;done) | (obtain⟨_,_,e,_⟩:=q;cases e;done)
 | .int b,u,v,r,q=>by
  unfold ReV at r;obtain⟨k,rfl⟩:=r
  cases u <;> (unfold ReV at q) <;> first | (cases q;done) | (obtain⟨_,e⟩:=q;cases e;done) | (obtain⟨_,e⟩:=q;cases e;rfl) | (obtain⟨_,_,e,_⟩:=q;cases e;done)
 | .str b,u,v,r,q=>by
  unfold ReV at r;obtain⟨k,rfl⟩:=r
  cases u <;> (unfold ReV at q) <;> first | (cases q;done) | (obtain⟨_,e⟩:=q;cases e;done) | (obtain⟨_,e⟩:=q;cases e;rfl) | (obtain⟨_,_,e,_⟩:=q;cases e;done)
 | .tup l,u,v,r,q=>by
  unfold ReV at r;obtain⟨a,its,rfl,h1,h2⟩:=r
  cases u with
  | non=>unfold ReV at q;cases q
  | dct _ _=>unfold ReV at q;exact q.elim
  | ob _ _ _=>unfold ReV at q;exact q.elim
  | bl _=>unfold ReV at q;cases q
  | int _=>unfold ReV at q;obtain⟨_,e⟩:=q;cases e
  | str _=>unfold ReV at q;obtain⟨_,e⟩:=q;cases e
  | tup m=>
   unfold ReV at q;obtain⟨a',its',e,h1',h2'⟩:=q;injection e with e;subst e
   have:=iJ h1 h1';subst this;unfold T.nf
   rw[ReVs.nf h2 h2']
  | lst m=>unfold ReV at q;obtain⟨a',its',e,h1',h2'⟩:=q;injection e with e;subst e;exact absurd rfl (ne_of_list_tuple h1' h1)
  | scr m=>unfold ReV at q;obtain⟨a',its',e,h1',h2'⟩:=q;injection e with e;subst e;exact absurd rfl (ne_of_list_tuple h1' h1)
 | .lst l,u,v,r,q=>by
  unfold ReV at r;obtain⟨a,its,rfl,h1,h2⟩:=r
  cases u with
  | non=>unfold ReV at q;cases q
  | dct _ _=>unfold ReV at q;exact q.elim
  | ob _ _ _=>unfold ReV at q;exact q.elim
  | bl _=>unfold ReV at q;cases q
  | int _=>unfold ReV at q;obtain⟨_,e⟩:=q;cases e
  | str _=>unfold ReV at q;obtain⟨_,e⟩:=q;cases e
  | lst m=>
   unfold ReV at q;obtain⟨a',its',e,h1',h2'⟩:=q;injection e with e;subst e
   have:=cz h1 h1';subst this;unfold T.nf
   rw[ReVs.nf h2 h2']
  | tup m=>unfold ReV at q;obtain⟨a',its',e,h1',h2'⟩:=q;injection e with e;subst e;exact absurd rfl (ne_of_list_tuple h1 h1')
  | scr m=>
   unfold ReV at q;obtain⟨a',its',e,h1',h2'⟩:=q;injection e with e;subst e
   have:=cz h1 h1';subst this;unfold T.nf
   rw[ReVs.nf h2 (dw h2'),tI]
 | .scr l,u,v,r,q=>by
  unfold ReV at r;obtain⟨a,its,rfl,h1,h2⟩:=r
  cases u with
  | non=>unfold ReV at q;cases q
  | dct _ _=>unfold ReV at q;exact q.elim
  | ob _ _ _=>unfold ReV at q;exact q.elim
  | bl _=>unfold ReV at q;cases q
  | int _=>unfold ReV at q;obtain⟨_,e⟩:=q;cases e
  | str _=>unfold ReV at q;obtain⟨_,e⟩:=q;cases e
  | lst m=>
   unfold ReV at q;obtain⟨a',its',e,h1',h2'⟩:=q;injection e with e;subst e
   have:=cz h1 h1';subst this
   have z:=wZ h2' h2;unfold T.nf
   rw[z]
  | tup m=>unfold ReV at q;obtain⟨a',its',e,h1',h2'⟩:=q;injection e with e;subst e;exact absurd rfl (ne_of_list_tuple h1 h1')
  | scr m=>
   unfold ReV at q;obtain⟨a',its',e,h1',h2'⟩:=q;injection e with e;subst e
   have:=cz h1 h1';subst this
   rw[iK h2 h2']
 | .dct _ _,u,v,r,q=>by unfold ReV at r;exact r.elim
 | .ob _ _ _,u,v,r,q=>by unfold ReV at r;exact r.elim
theorem ReVs.nf {s:J9}:∀{l m:List T} {us:List J7},ReVs s l us->ReVs s m us->nfs l=nfs m
 | [],m,us,r,q=>by
  cases ReVs.AC.mp r
  cases m with
  | nil=>rfl
  | cons _ _=>obtain⟨_,_,e,_⟩:=ReVs.me.mp q;cases e
 | t::l,m,us,r,q=>by
  obtain⟨v,ws,rfl,p,z⟩:=ReVs.me.mp r
  cases m with
  | nil=>cases ReVs.AC.mp q
  | cons u m=>
   obtain⟨v',ws',e,p',z'⟩:=ReVs.me.mp q;injection e with e1 e2
   subst e1 e2;rw[nfs,nfs,ReV.nf p p',ReVs.nf z z']
end
section
variable {X:Cx}{a b c:Expr}{fa fb fc:En->Rs T}{pos:Pos}
def fI (x y:T):Bool:=(decide (x.dep<=60)||decide (y.dep<=60))&&(x.nd&&y.nd)
def lx (x y:T):Rs T:=if fI x y=true then .ok (.bl (a6 x y))else .bad
def kM (x y:T):Rs T:=if fI x y=true then .ok (.bl (!a6 x y))else .bad
theorem iN {x y:T}(h:x.dep<=60)(hx:x.nd=true)(hy:y.nd=true):fI x y=true:=by unfold fI;rw[decide_eq_true h,hx,hy];rfl
theorem tW {x y:T}(h:y.dep<=60)(hx:x.nd=true)(hy:y.nd=true):fI x y=true:=by unfold fI;rw[decide_eq_true h,hx,hy,Bool.or_true];rfl
theorem jf {x y:T}(h:fI x y=true):x.nd=true/\y.nd=true:=by
 unfold fI at h;exact La.mp (La.mp h).2
theorem pT {x y:T}(h:fI x y=true):x.dep<=60\/y.dep<=60:=by
 unfold fI at h
 replace h:=(La.mp h).1
 rcases Bool.or_eq_true_iff.mp h with h | h
 ·exact .inl (of_decide_eq_true h)
 ·exact .inr (of_decide_eq_true h)
theorem ni (hu:X.A.units+60<cLine):OpT X (K2 .Eq) lx:=by
 intro pins s σ H O x y vx vy ux uy Q I hf rx ry r1 r2 hp;unfold lx at hp
 split at hp
 ·rename_i h
  have z:=C7 60 X.A s x y ux uy (pT h) hu (Rep.val I (jf h).1 rx r1) (Rep.val I (jf h).2 ry r2);exact z.2.1 _ _ _ _ ⟨.bl _,H,I,rfl,hp H (Same.refl H) _ (Rep.bl_ _)⟩
 ·exact hp.elim
theorem lM (hu:X.A.units+60<cLine):OpT X (K2 .NotEq) kM:=by
 intro pins s σ H O x y vx vy ux uy Q I hf rx ry r1 r2 hp;unfold kM at hp
 split at hp
 ·rename_i h
  have z:=C7 60 X.A s x y ux uy (pT h) hu (Rep.val I (jf h).1 rx r1) (Rep.val I (jf h).2 ry r2);exact z.2.2 _ _ _ _ ⟨.bl _,H,I,rfl,hp H (Same.refl H) _ (Rep.bl_ _)⟩
 ·exact hp.elim
def T.items:T->Option (List T)
 | .tup l=>some l
 | .lst l=>some l
 | .scr l=>some (l.map T.int)
 | _=>none
def qb (x:T)(l:List T):Bool:=l.any λy=>a6 y x
def GD (x y:T):Rs T:=match y.items with
 | some l=>if (x.dep<=60\/deps l<=60)/\x.nd=true/\y.nd=true then .ok (.bl (qb x l))else .bad
 | none=> .bad
theorem CS {A:KP}{s:J9}{x:T}{ux:J7}(rx:ReV s x ux)(hu:A.units+60<cLine){l:List T}{us:List J7}(hd:x.dep<=60\/deps l<=60)(r:ReVs s l us) :
  ∃e:J7->Bool,(∀y∈us,EqAt A s y ux (e y))/\us.any e=qb x l:=by
 classical
 have ex:∀y∈us,∃t∈l,ReV s t y:=λy hy=>by
  obtain⟨i,hi,rfl⟩:=Mh hy
  have hl:=r.length
  have e1:l[i]? =some l[i]:=by simp
  obtain⟨u,q1,q2⟩:=r.get e1
  have:us[i]? =some us[i]:=by simp
  rw[this]at q1;cases q1;exact⟨l[i],LH _,q2⟩
 let e:J7->Bool:=λy=>decide (∃t∈l,ReV s t y/\a6 t x=true)
 have dep:∀t∈l,t.dep<=60\/x.dep<=60:=λt ht=>by
  rcases hd with h | h
  ·exact .inr h
  ·obtain⟨i,hi,rfl⟩:=Mh ht
   exact .inl (KW (iU (i:=i) (by simp)) h)
 have uniq:∀y t t',ReV s t y->ReV s t' y->a6 t x=a6 t' x:=λy t t' z z'=>by
  rw[<-kJ t,<-kJ t',ReV.nf z z']
 have agree:∀y t,t∈l->ReV s t y->e y=a6 t x:=λy t h z=>by
  show decide (∃t∈l,ReV s t y/\a6 t x=true)=a6 t x
  cases q:a6 t x with
  | true=>exact decide_eq_true ⟨t,h,z,q⟩
  | false=>
   refine decide_eq_false ?_
   rintro ⟨t',h',z',q'⟩
   rw[<-uniq y t t' z z',q]at q';cases q'
 refine⟨e,λy hy=> ?_,?_⟩
 ·obtain⟨t,h,z⟩:=ex y hy
  rw[agree y t h z];exact(C7 60 A s t x y ux (dep t h) hu z rx).1
 ·have go:∀(l':List T) (us':List J7),(∀t∈l',t∈l)->ReVs s l' us'->us'.any e=l'.any λy=>a6 y x:=by
   intro l'
   induction l' with
   | nil=>intro us' _ r';rw[ReVs.AC.mp r'];rfl
   | cons t l' ih=>
    intro us' sub r';obtain⟨u,ws,rfl,p,q⟩:=ReVs.me.mp r';rw[Mi,Mi,ih ws (λt ht=>sub t (J6 _ ht)) q,agree u t (sub t Ke) p]
  exact go l us (λ_ h=>h) r
theorem yj {s:J9}{y:T}{u:J7}{l:List T}(r:ReV s y u)(h:y.items=some l):∃a us,u= .ref a/\ReVs s l us/\(s.heap.IsTuple a us.toArray\/s.heap.IsList a us.toArray):=by
 cases y with
 | tup m=>cases h;unfold ReV at r;obtain⟨a,us,e,h1,h2⟩:=r;exact⟨a,us,e,h2,.inl h1⟩
 | lst m=>cases h;unfold ReV at r;obtain⟨a,us,e,h1,h2⟩:=r;exact⟨a,us,e,h2,.inr h1⟩
 | scr m=>cases h;unfold ReV at r;obtain⟨a,us,e,h1,h2⟩:=r;exact⟨a,us,e,dw h2,.inr h1⟩
 | _=>cases h
theorem HA (hu:X.A.units+61<cLine):OpT X (K2 .In) GD:=by
 intro pins s σ H O x y vx vy ux uy Q I hf rx ry r1 r2 hp;unfold GD at hp
 split at hp
 ·rename_i l hl
  split at hp
  ·rename_i hd3
   obtain⟨hd,hnx,hny⟩:=hd3;obtain⟨a,us,rfl,rs,hh⟩:=yj (Rep.val I hny ry r2) hl;obtain⟨e,he,ha⟩:=CS (A:=X.A.in1) (Rep.val I hnx rx r1) (by show X.A.units+1+60<cLine;omega) hd rs
   have q:=hp H (Same.refl H) _ (Rep.bl_ (qb x l))
   have he':∀y,y∈us.toArray->EqAt X.A.in1 s y ux (e y):=λy hy=>he y (by simpa using hy)
   have ha':us.toArray.any e=qb x l:=by simpa using ha
   rcases hh with hh | hh
   ·exact in_tupleAt e hh he' (by rw[ha'];exact⟨.bl _,H,I,rfl,q⟩)
   ·exact in_listAt e hh he' (by rw[ha'];exact⟨.bl _,H,I,rfl,q⟩)
  ·exact hp.elim
 ·exact hp.elim
def ch (g g':T->T->Rs T)(fa fb fc:En->Rs T)(Z:En):Rs T:=do
 let x <-fa Z
 let y <-fb Z
 let z <-g x y
 match z with
 | .bl true=>do
  let w <-fc Z
  g' y w
 | .bl false=> .ok (.bl false)
 | _=> .bad
theorem Ck {op op':Qy}{g g':T->T->Rs T}(ho:OpT X (K2 op) g)(ho':OpT X (K2 op') g')(ha:b6 X a fa)(hb:b6 X b fb)(hc:b6 X c fc)
  (hm:autoParam (lastMarks [op,op'] [b,c] =false) aqf._auto_1):b6 X (.Compare a [op,op'] [b,c] pos) (ch g g' fa fb fc):=by
 intro pins s σ H Q I ⟨Z,O,E,hq⟩
 have h1:=aW E hq;refine Compare_chain (bN (ha pins s σ H _ I h1) λv s1 ⟨x,H1,I1,r1,t,rt,s',E',q1⟩=>chain_link ?_) hm
 have h2:=aW (f:=fb) E' q1;refine bN (hb pins s1 σ H1 _ I1 h2) λu s2 hh_=> ?_
 obtain⟨y,H2,I2,r2,t2,rt2,s'',E'',q2⟩:=hh_
 refine bN (ho pins s2 σ H2 O t t2 x y v u (λv' H'=> ∃t',Rep X.K O H' t' v'/\Same H2 H'/\Post X H' (match t' with
  | .bl true=>fc Z >>= λw=>g' t2 w
  | .bl false=> .ok (.bl false)
  | _=> .bad) (λt H'=> ∀v,Rep X.K O H' t v->Q v H')) I2 (λp=>E''.fresh) (rt.same s'') rt2 r1 r2 (Post.mono q2.bind λt' H' s3 q v rv=>⟨t',rv,s3,q⟩)) λd s3 ⟨z,H3,I3,r3,t3,rt3,sm3,q3⟩=> ?_
 have E3:=E''.same sm3
 split at q3
 ·cases Rep.FM.mp rt3
  cases r3;refine Le (ite_tt (chain_last ?_))
  have h4:=aW (f:=fc) E3 q3;refine bN (hc pins s3 σ H3 _ I3 h4) λw' s4 ⟨z',H4,I4,r4,t4,rt4,s4',E4,q4⟩=> ?_
  exact ho' pins s4 σ H4 O t2 t4 y z' u w' Q I4 (λp=>E4.fresh) ((rt2.same sm3).same s4') rt4 r2 r4 q4
 ·cases Rep.FM.mp rt3
  cases r3;refine Le (ite_ff ⟨.bl false,H3,I3,rfl,q3 H3 (Same.refl H3) _ (Rep.bl_ false)⟩)
 ·exact q3.elim
def tb (f:En->Rs T)(Z:En):Rs Bool:=do
 let x <-f Z
 match x with
 | .bl k=> .ok k
 | _=> .bad
def bt (f:En->Rs Bool)(Z:En):Rs T:=do
 let k <-f Z
 .ok (.bl k)
theorem EA {e:Expr}{f:En->Rs T}(h:b6 X e f)(he:autoParam (∀whole,isTrue e X.env whole=(do let v <-whole;standAt e.pos;holding [v] (truthy v))) aqc._auto_1):uo X e (tb f):=by
 intro pins s σ H Q I ⟨Z,O,E,hq⟩;refine E6 h he pins s σ H Q I ?_
 obtain⟨Z1,O1,E1,h1⟩:=aW E hq;refine⟨Z1,O1,E1,Post.mono h1 λts H1 s1 q vs r=> ?_⟩
 obtain⟨t',r',s',E',q'⟩:=q vs r
 split at q'
 ·exact⟨_,Rep.FM.mp r',q' H1 (Same.refl H1)⟩
 ·exact q'.elim
theorem EC {op:Qy}{g:T->T->Rs T}(ho:OpT X (K2 op) g)(ha:b6 X a fa)(hb:b6 X b fb)(hm:autoParam (Mo op b=false) aqd._auto_1):uo X (.Compare a [op] [b] pos) (tb (o2 g fa fb)):=by
 intro pins s σ H Q I ⟨Z,O,E,hq⟩
 have hq':Post X H (o2 g fa fb Z) λt H'=> ∀v,Rep X.K O H' t v->∃k,v= .bl k/\Q k H':=Post.mono hq.bind λt H' s' q v r=>by
  split at q
  ·exact⟨_,Rep.FM.mp r,q H' (Same.refl H')⟩
  ·exact q.elim
 have h1:=aW E hq';refine Ni (bN (ha pins s σ H _ I h1) λv s1 ⟨x,H1,I1,r1,t,rt,s',E',q1⟩=> ?_) hm
 have h2:=aW (f:=fb) E' q1;refine bN (hb pins s1 σ H1 _ I1 h2) λu s2 hh_=> ?_
 obtain⟨y,H2,I2,r2,t2,rt2,s'',E'',q2⟩:=hh_;refine bN (ho pins s2 σ H2 O t t2 x y v u _ I2 (λp=>E''.fresh) (rt.same s'') rt2 r1 r2 q2) λd s3 hh_=> ?_
 obtain⟨z,H3,I3,r3,k,e,q3⟩:=hh_;subst e;cases r3;exact Le ⟨H3,I3,q3⟩
def r8 (f g:En->Rs Bool)(Z:En):Rs Bool:=do
 let k <-f Z
 if k then g Z else .ok false
def qS (f g:En->Rs Bool)(Z:En):Rs Bool:=do
 let k <-f Z
 if k then .ok true else g Z
def dH (f:En->Rs Bool)(Z:En):Rs Bool:=do
 let k <-f Z
 .ok (!k)
variable {f g:En->Rs Bool}{bA:List Expr}
abbrev D2 (X:Cx)(e:Expr)(f:En->Rs Bool):Prop:=PW X e (Bp X f)
theorem B2 (ha:uo X a f):D2 X (.BoolOp .And [a] pos) f:=Cn ha
theorem Ey (ha:uo X a f):D2 X (.BoolOp .Or [a] pos) f:=zh ha
theorem Ez (ha:uo X a f)(hb:D2 X (.BoolOp .And (b::bA) pos) g):D2 X (.BoolOp .And (a::b::bA) pos) (r8 f g):=by
 intro wh pins s σ H Q I ⟨Z,O,E,hq⟩;refine E5 ha hb wh pins s σ H Q I ?_
 obtain⟨Z1,O1,E1,h1⟩:=j7 E hq;refine⟨Z1,O1,E1,Post.mono h1 λk H1 s1 q=> ?_⟩
 obtain⟨s',E',q'⟩:=q
 cases k with
 | true=>rw[if_pos rfl];exact⟨Z,O,E',by simpa using q'⟩
 | false=>rw[if_neg Kt];exact q' H1 (Same.refl H1)
theorem G9 (ha:uo X a f)(hb:D2 X (.BoolOp .Or (b::bA) pos) g):D2 X (.BoolOp .Or (a::b::bA) pos) (qS f g):=by
 intro wh pins s σ H Q I ⟨Z,O,E,hq⟩;refine DF ha hb wh pins s σ H Q I ?_
 obtain⟨Z1,O1,E1,h1⟩:=j7 E hq;refine⟨Z1,O1,E1,Post.mono h1 λk H1 s1 q=> ?_⟩
 obtain⟨s',E',q'⟩:=q
 cases k with
 | true=>rw[if_pos rfl];exact q' H1 (Same.refl H1)
 | false=>rw[if_neg Kt];exact⟨Z,O,E',by simpa using q'⟩
theorem qt_w {e:Expr}(h:D2 X e f):uo X e f:=h.pt
theorem EB (ha:uo X a f):uo X (.UnaryOp .Not a pos) (dH f):=by
 intro pins s σ H Q I ⟨Z,O,E,hq⟩;refine E7 ha pins s σ H Q I ?_
 obtain⟨Z1,O1,E1,h1⟩:=j7 E hq;exact⟨Z1,O1,E1,Post.mono h1 λk H1 s1 ⟨s',E',q'⟩=>q' H1 (Same.refl H1)⟩
def cD (f g:En->Rs T)(Z:En):Rs T:=do
 let x <-f Z
 match x with
 | .bl true=>g Z
 | .bl false=> .ok (.bl false)
 | _=> .bad
def Br (f g:En->Rs T)(Z:En):Rs T:=do
 let x <-f Z
 match x with
 | .bl true=> .ok (.bl true)
 | .bl false=>g Z
 | _=> .bad
def CM:T->Rs T
 | .bl k=> .ok (.bl (!k))
 | _=> .bad
theorem Hi {op}(h:b6 X a fa):b6 X (.BoolOp op [a] pos) fa:=Fg h
theorem Hu (ha:b6 X a fa)(hb:b6 X (.BoolOp .And (b::bA) pos) fb):b6 X (.BoolOp .And (a::b::bA) pos) (cD fa fb):=by
 intro pins s σ H Q I ⟨Z,O,E,hq⟩;refine Fp ha hb pins s σ H Q I ?_
 obtain⟨Z1,O1,E1,h1⟩:=aW E hq;refine⟨Z1,O1,E1,Post.mono h1 λts H1 s1 q vs r=> ?_⟩
 obtain⟨t',r',s',E',q'⟩:=q vs r
 split at q'
 ·exact⟨true,Rep.FM.mp r',by rw[if_pos rfl];exact⟨Z,O,E',q'⟩⟩
 ·exact⟨false,Rep.FM.mp r',by rw[if_neg Kt];exact q' H1 (Same.refl H1) _ (Rep.bl_ false)⟩
 ·exact q'.elim
theorem q_or (ha:b6 X a fa)(hb:b6 X (.BoolOp .Or (b::bA) pos) fb):b6 X (.BoolOp .Or (a::b::bA) pos) (Br fa fb):=by
 intro pins s σ H Q I ⟨Z,O,E,hq⟩;refine Hy ha hb pins s σ H Q I ?_
 obtain⟨Z1,O1,E1,h1⟩:=aW E hq;refine⟨Z1,O1,E1,Post.mono h1 λts H1 s1 q vs r=> ?_⟩
 obtain⟨t',r',s',E',q'⟩:=q vs r
 split at q'
 ·exact⟨true,Rep.FM.mp r',by rw[if_pos rfl];exact q' H1 (Same.refl H1) _ (Rep.bl_ true)⟩
 ·exact⟨false,Rep.FM.mp r',by rw[if_neg Kt];exact⟨Z,O,E',q'⟩⟩
 ·exact q'.elim
theorem Hj (ha:b6 X a fa):b6 X (.UnaryOp .Not a pos) (o1 CM fa):=by
 intro pins s σ H Q I ⟨Z,O,E,hq⟩;refine Fh ha pins s σ H Q I ?_
 obtain⟨Z1,O1,E1,h1⟩:=aW E hq;refine⟨Z1,O1,E1,Post.mono h1 λts H1 s1 q vs r=> ?_⟩
 obtain⟨t',r',s',E',q'⟩:=q vs r;unfold CM at q'
 split at q'
 ·exact⟨_,Rep.FM.mp r',q' H1 (Same.refl H1) _ (Rep.bl_ _)⟩
 ·exact q'.elim
def GF (f:En->Rs Bool)(fa fb:En->Rs T)(Z:En):Rs T:=do
 let k <-f Z
 if k then fa Z else fb Z
theorem q_if (hc:uo X c f)(ha:b6 X a fa)(hb:b6 X b fb):b6 X (.IfExp c a b pos) (GF f fa fb):=by
 intro pins s σ H Q I ⟨Z,O,E,hq⟩;refine zu hc ha hb pins s σ H Q I ?_
 obtain⟨Z1,O1,E1,h1⟩:=j7 E hq;refine⟨Z1,O1,E1,Post.mono h1 λk H1 s1 q=> ?_⟩
 obtain⟨s',E',q'⟩:=q
 cases k with
 | true=>rw[if_pos rfl];exact⟨Z,O,E',by simpa using q'⟩
 | false=>rw[if_neg Kt];exact⟨Z,O,E',by simpa using q'⟩
end
end Tr
namespace HT
open PySem PyProof.Rows
section
variable {prog:KA}{w:K1}{A:KP}{E:J7->J9->Prop}{s:J9}
theorem jq {t:Addr}{items:Array J7}{Q:Bool->J9->Prop}(ht:Q6 s.heap t items)(h:Q true s):wpAny (model prog w) A (NB (.ref t)) Q E s:=by
 unfold NB;refine Kb (NM ht.typeIs (Kp ?_))
 exact h
theorem getItem_tuple_whole {t sl:Addr}{items:Array J7}{vl vu:J7}{lo hi:Option Int}{Q:J7->J9->Prop}(ht:Q6 s.heap t items)(hs:s.heap.IsSliceOf sl vl vu .none)(pl:PD vl lo)(pu:PD vu hi)
  (hw:sIx items.size 0 lo=0/\sIx items.size items.size hi=items.size) (h:Q (.ref t) s):wpAny (model prog w) A (getItem (.ref t) (.ref sl)) Q E s:=by
 obtain⟨os,hos,hcs,hds⟩:=id hs
 have hTs:s.TypeIs (.ref sl) "slice":=⟨os,hos,hcs⟩;unfold getItem
 try with_reducible refine Of ?_
 first | refine Kb (Kp ?_) | skip
 refine Kb (PX ht.typeIs (by decide) ?_)
 refine Kb (LK (name:=Kk "__getitem__") ht.typeIs K3
  (ME K3 ht.typeIs Pj ?_ (PF _ _)))
 show wpAny _ _ (NA (.ref t) >>= _) _ _ s
 refine Kb (PH ht ?_)
 refine Kb (NM hTs ?_)
 rw[if_pos (by decide)]
 refine Kb (gk hs pl pu ?_)
 have hyes:(((sIx items.size 0 lo:Nat):Int) == 0&&(1:Int) == 1&&(sIx items.size items.size hi - sIx items.size 0 lo) == items.size)=true:=by
  rw[hw.1,hw.2];simp
 show wpAny _ _ (if (((sIx items.size 0 lo:Nat):Int) == 0&&(1:Int) == 1&&(sIx items.size items.size hi - sIx items.size 0 lo) == items.size)=true then _ else _) _ _ s
 rw[if_pos hyes]
 first
  | refine Kb (jq ht ?_)
  | refine jq ht ?_
 try rw[if_pos rfl]
 first
  | exact Kb (PZ (Kp ⟨_,rfl,Kp h⟩))
  | exact Kb (PZ (Kb (Kp (Kp ⟨_,rfl,Kp h⟩))))
end
end HT
namespace Tr
open PySem PySem.Spec PyProof.Rows L2
section
variable {X:Cx}{a b c:Expr}{fa fb fc:En->Rs T}{pos:Pos}
theorem Reps.atI {K:J5}{O:Ow}{H:Hp}{l:List T}{vs:List V}{i:Int}{t:T}(r:Reps K O H l vs)(e:L2.atI l i=some t):∃v,L2.atI vs i=some v/\Rep K O H t v:=by
 unfold L2.atI at e ⊢;rw[r.length]at e
 cases q:ixN vs.length i with
 | none=>rw[q]at e;cases e
 | some j=>
  rw[q]at e;obtain⟨v,e1,e2⟩:=r.get (i:=j) (t:=t) e;exact⟨v,e1,e2⟩
def aQ (x y:T):Rs T:=match x.items,y with
 | some l,.int i=>match L2.atI l i with
  | some t=> .ok t
  | none=> .bad
 | _,_=> .bad
theorem q_ix (ha:b6 X a fa)(hb:b6 X b fb)(hs:autoParam (xy b) aqg._auto_1):b6 X (.Subscript a b pos) (o2 aQ fa fb):=by
 intro pins s σ H Q I ⟨Z,O,E,hq⟩
 have h1:=aW E hq;refine Subscript_ (bN (ha pins s σ H _ I h1) λv s1 hh_=> ?_)
 obtain⟨x,H1,I1,r1,t,rt,s',E',q1⟩:=hh_
 have h2:=aW (f:=fb) E' q1;refine bN (hb pins s1 σ H1 _ I1 h2) λu s2 hh_=> ?_
 obtain⟨y,H2,I2,r2,t2,rt2,s'',E'',q2⟩:=hh_
 have rt':=rt.same s'';unfold aQ at q2
 split at q2
 ·rename_i l i hl
  split at q2
  ·rename_i z hz
   have hy:=Rep.Da.mp rt2;refine F6 a b pins s2 σ H2 x y v u Q I2 r1 r2 ?_ (hs _ _)
   cases t with
   | tup m=>
    cases hl;obtain⟨p,vs,e,n,q,rr⟩:=Rep.Fk.mp rt';obtain⟨w,ew,rw'⟩:=rr.atI hz
    exact .inr (.inl ⟨p,vs,i,w,e,hy,SqT.of q,ew,q2 H2 (Same.refl H2) _ rw'⟩)
   | lst m=>
    cases hl;obtain⟨p,vs,e,n,q,rr⟩:=Rep.Do.mp rt';obtain⟨w,ew,rw'⟩:=rr.atI hz
    exact .inl ⟨p,vs,i,w,e,hy,SqL.of q,ew,q2 H2 (Same.refl H2) _ rw'⟩
   | scr m=>
    cases hl;unfold Rep at rt';obtain⟨p,e,n,q⟩:=rt';obtain⟨w,ew,rw'⟩:=(Reps.ints (K:=X.K) (O:=O) (H:=H2) (ns:=m)).atI hz
    exact .inl ⟨p,_,i,w,e,hy,q,ew,q2 H2 (Same.refl H2) _ rw'⟩
   | _=>cases hl
  ·exact q2.elim
 ·exact q2.elim
def mn (l:List T)(lo hi:Option Int):List T:=(l.drop (HT.sIx l.length 0 lo)).take (HT.sIx l.length l.length hi - HT.sIx l.length 0 lo)
theorem Reps.cut {K:J5}{O:Ow}{H:Hp}{l:List T}{vs:List V}(r:Reps K O H l vs)(lo hi:Option Int):Reps K O H (mn l lo hi) (uj vs lo hi):=by
 unfold mn uj;rw[r.length];exact(r.drop _).take _
theorem yx {l:List T}{lo hi:Option Int}(h:HT.sIx l.length 0 lo=0/\HT.sIx l.length l.length hi=l.length):mn l lo hi=l:=by
 unfold mn;rw[h.1,h.2];simp
theorem sl_tup_whole:SlR X (λx lo hi H Q=> ∃a xs,x= .ref a/\SqT X.K H a xs/\(HT.sIx xs.length 0 lo=0/\HT.sIx xs.length xs.length hi=xs.length)/\Q (.ref a) H):=by
 intro pins s σ H x v vl vu lo hi sl Q I rx hs pl pu h;obtain⟨a,xs,rfl,hx,hw,q⟩:=h;cases rx;obtain⟨its,r,ht,hz⟩:=I.tuple hx
 have hlen:its.toArray.size=xs.length:=by rw[Ko];exact r.length.symm
 refine⟨"tuple",_,K3.lookup,ht.typeIs,?_⟩
 exact HT.getItem_tuple_whole ht hs pl pu (by rw[hlen];exact hw) ⟨.ref a,H,I,rfl,q⟩
def pN (_:En):Rs (Option Int):=.ok none
def pS (f:En->Rs T)(Z:En):Rs (Option Int):=do
 let x <-f Z
 match x with
 | .int i=> .ok (some i)
 | _=> .bad
def tPO (X:Cx)(f:En->Rs (Option Int)):TO:=λσ H Q=> ∃Z O,EnvO X.K O H Z σ/\Post X H (f Z) λb H'=>Q b H'
abbrev IS (X:Cx)(e:Option Expr)(f:En->Rs (Option Int)):Prop:=PO X e (tPO X f)
theorem Ca:IS X none pN:=by
 intro pins s σ H Q I ⟨Z,O,E,hq⟩;exact Cr pins s σ H Q I (hq H (Same.refl H))
theorem B9 (ha:b6 X a fa):IS X (some a) (pS fa):=by
 intro pins s σ H Q I ⟨Z,O,E,hq⟩;refine Cq ha pins s σ H Q I ?_
 obtain⟨Z1,O1,E1,h1⟩:=aW E hq;refine⟨Z1,O1,E1,Post.mono h1 λts H1 s1 q vs r=> ?_⟩
 obtain⟨t',r',s',E',q'⟩:=q vs r
 split at q'
 ·exact⟨_,Rep.Da.mp r',q' H1 (Same.refl H1)⟩
 ·exact q'.elim
def slT (x:T)(lo hi:Option Int):Rs T:=match x with
 | .tup l=> .ok (.tup (mn l lo hi))
 | .lst l=> .ok (.lst (mn l lo hi))
 | _=> .bad
def sl (fe:En->Rs T)(fl fu:En->Rs (Option Int))(Z:En):Rs T:=do
 let x <-fe Z
 let l <-fl Z
 let u <-fu Z
 slT x l u
theorem sA {σ:L2.St}{H:Hp}{Z:En}{O:Ow}{α:Type}{f:En->Rs (Option Int)}{k:Option Int->Rs α}{Q:α->Hp->Prop}(E:EnvO X.K O H Z σ)(h:Post X H (f Z >>= k) Q) :
  tPO X f σ H λb H'=>Same H H'/\EnvO X.K O H' Z σ/\Post X H' (k b) Q:=
 ⟨Z,O,E,Post.mono h.bind λt H' s q=>⟨s,E.same s,q⟩⟩
theorem Ci {lo hi:Option Expr}{p2:Pos}{fl fu:En->Rs (Option Int)}(ha:b6 X a fa)(hl:IS X lo fl)(hu:IS X hi fu):b6 X (.Subscript a (.Slice lo hi none p2) pos) (sl fa fl fu):=by
 intro pins s σ H Q I ⟨Z,O,E,hq⟩;refine zq (sl_tup.or (sl_tup_whole.or BU)) ha hl hu pins s σ H Q I ?_
 obtain⟨Z1,O1,E1,h1⟩:=aW E hq;refine⟨Z1,O1,E1,Post.mono h1 λts H1 s1 q vs r=> ?_⟩
 obtain⟨t',r',s',E',q'⟩:=q vs r;obtain⟨Z2,O2,E2,h2⟩:=sA E' q';refine⟨Z2,O2,E2,Post.mono h2 λo1 H2 s2 q=> ?_⟩
 obtain⟨s2',E2',q2⟩:=q;obtain⟨Z3,O3,E3,h3⟩:=sA E2' q2;refine⟨Z3,O3,E3,Post.mono h3 λo2 H3 s3 q=> ?_⟩
 obtain⟨s3',E3',q3⟩:=q
 have rt:=(r'.same s2').same s3';unfold slT at q3
 split at q3
 ·rename_i l
  obtain⟨p,ws,e,n,q,rr⟩:=Rep.Fk.mp rt
  have hlen:=rr.length
  by_cases hw:HT.sIx ws.length 0 o1=0/\HT.sIx ws.length ws.length o2=ws.length
  ·refine .inr (.inl ⟨p,ws,e,SqT.of q,hw,?_⟩)
   rw[<-hlen]at hw;refine q3 H3 (Same.refl H3) _ ?_
   rw[yx hw];exact Rep.Fk.mpr ⟨p,ws,rfl,n,q,rr⟩
  ·exact .inl ⟨p,ws,e,SqT.of q,hw,λp' hp=>q3 _ (a8 hp _) _ (gn hp (E3'.fresh hp) (rr.cut o1 o2))⟩
 ·rename_i l
  obtain⟨p,ws,e,n,q,rr⟩:=Rep.Do.mp rt;exact .inr (.inr ⟨p,ws,e,SqL.of q,λp' hp=>q3 _ (a8 hp _) _ (kl hp (E3'.fresh hp) (rr.cut o1 o2))⟩)
 ·exact q3.elim
def CallT (X:Cx)(f:J7)(g:List T->Rs T):Prop:=
 ∀(pins:List (Addr×Obj)) (s:J9) (σ:L2.St) (H:Hp) (O:Ow) (ts:List T) (vs:List V) (us:List J7) (Q:VK),Inv X pins σ H s->(∀p,H p=none->¬ O p)->Reps X.K O H ts vs->Vals vs us →
  Post X H (g ts) (λt H'=> ∀v,Rep X.K O H' t v->Q v H')->wpAny (model X.prog X.w) X.A (call f us) (EP X pins σ Q) X.xe s
theorem CallT.of {f:J7}{r:List V->Hp->VK->Prop}(h:CallR X f r){g:List T->Rs T}
  (w:∀(H:Hp) (O:Ow) (ts:List T) (vs:List V) (Q:VK),(∀p,H p=none->¬ O p)->Reps X.K O H ts vs->Post X H (g ts) (λt H'=> ∀v,Rep X.K O H' t v->Q v H')->r vs H Q):CallT X f g:=
 λpins s σ H O ts vs us Q I hf rs rv hp=>h pins s σ H vs us Q I rv (w H O ts vs Q hf rs hp)
def cl (g:List T->Rs T)(fs:En->Rs (List T))(Z:En):Rs T:=fs Z >>= g
variable {e:Expr}{es:List Expr}{fs:En->Rs (List T)}{x:Str}{p:Pos}{id:String}{g:List T->Rs T}
theorem Cm (hc:CallT X (.builtin id) g)(hm:X.mg x=none)(hv:KQ x=some (.builtin id))(ha:pv X (e::es) fs)(hg:autoParam (Gl X x) aqd._auto_1)(hn:autoParam (x≠ "__name__") aqb._auto_1)(hdb:autoParam ((x == ("__debug__" : Str))=false) aqb._auto_1)
  (he:autoParam (Kn (e::es) X.env=(false,eval e X.env)::Kn es X.env) aqd._auto_1) (hpl:autoParam ((backTo pos (Kn es X.env)).any (·.1)=false) aqd._auto_1):b6 X (.Call (.Name x p) (e::es) [] pos) (cl g fs):=by
 intro pins s σ H Q I ⟨Z,O,E,hq⟩;refine Lf (gC I hg hm hv ?_ hn hdb)
 have h1:=fw E hq;exact Na (bN (ha pos pins s σ H _ I h1) λus s1 ⟨vs,H1,I1,r1,ts,rs,s',E',q1⟩=>hc pins s1 σ H1 O ts vs us Q I1 (λp=>E'.fresh) rs r1 q1) he hpl
theorem zg {Ty:String}(hc:CallT X (.type Ty) g)(hm:X.mg x=none)(hv:KQ x=some (.type Ty))(ha:pv X (e::es) fs)(hg:autoParam (Gl X x) aqd._auto_1)(hn:autoParam (x≠ "__name__") aqb._auto_1)(hdb:autoParam ((x == ("__debug__" : Str))=false) aqb._auto_1)
  (he:autoParam (Kn (e::es) X.env=(false,eval e X.env)::Kn es X.env) aqd._auto_1) (hpl:autoParam ((backTo pos (Kn es X.env)).any (·.1)=false) aqd._auto_1):b6 X (.Call (.Name x p) (e::es) [] pos) (cl g fs):=by
 intro pins s σ H Q I ⟨Z,O,E,hq⟩;refine Lf (gC I hg hm hv ?_ hn hdb)
 have h1:=fw E hq;exact Lb (bN (ha pos pins s σ H _ I h1) λus s1 ⟨vs,H1,I1,r1,ts,rs,s',E',q1⟩=>hc pins s1 σ H1 O ts vs us Q I1 (λp=>E'.fresh) rs r1 q1) he hpl
theorem Reps.one {K:J5}{O:Ow}{H:Hp}{t:T}{vs:List V}(r:Reps K O H [t] vs):∃v,vs= [v]/\Rep K O H t v:=by
 obtain⟨v,ws,rfl,p,q⟩:=Reps.me.mp r;cases Reps.AC.mp q;exact⟨v,rfl,p⟩
theorem Rep.sq {K:J5}{O:Ow}{H:Hp}{t:T}{v:V}{l:List T}(r:Rep K O H t v)(h:t.items=some l):∃a vs,v= .ref a/\¬ O a/\Reps K O H l vs/\(SqL K H a vs\/SqT K H a vs):=by
 cases t with
 | tup m=>cases h;obtain⟨a,vs,e,n,q,z⟩:=Rep.Fk.mp r;exact⟨a,vs,e,n,z,.inr (SqT.of q)⟩
 | lst m=>cases h;obtain⟨a,vs,e,n,q,z⟩:=Rep.Do.mp r;exact⟨a,vs,e,n,z,.inl (SqL.of q)⟩
 | scr m=>cases h;unfold Rep at r;obtain⟨a,e,n,q⟩:=r;exact⟨a,_,e,n,Reps.ints,.inl q⟩
 | _=>cases h
def cG:List T->Rs T
 | [.str x] =>if x.length<=sizeLine then .ok (.int x.length)else .bad
 | [x] =>match x.items with
  | some l=> .ok (.int l.length)
  | none=> .bad
 | _=> .bad
theorem cv:CallT X (.builtin "len") cG:=CallT.of (call_len_seq.or rY) λH O ts vs Q hf rs hp=>by
 unfold cG at hp
 split at hp
 ·obtain⟨v,rfl,r⟩:=rs.one
  split at hp
  ·rename_i h
   exact .inr ⟨_,by rw[Rep.GE.mp r],h,hp H (Same.refl H) _ (Rep.GT _)⟩
  ·exact hp.elim
 ·obtain⟨v,rfl,r⟩:=rs.one
  split at hp
  ·rename_i l hl
   obtain⟨a,vs,rfl,n,z,q⟩:=r.sq hl;exact .inl ⟨a,vs,rfl,q,hp H (Same.refl H) _ (by rw[<-z.length];exact Rep.GT _)⟩
  ·exact hp.elim
 ·exact hp.elim
def jG:List T->Rs T
 | [.tup l] => .ok (.tup l)
 | [.lst l] => .ok (.tup l)
 | _=> .bad
theorem oy:CallT X (.type "tuple") jG:=CallT.of pj λH O ts vs Q hf rs hp=>by
 unfold jG at hp
 split at hp
 ·obtain⟨v,rfl,r⟩:=rs.one
  obtain⟨a,ws,rfl,n,q,z⟩:=Rep.Fk.mp r;exact⟨a,ws,rfl,.inr ⟨SqT.of q,hp H (Same.refl H) _ (Rep.Fk.mpr ⟨a,ws,rfl,n,q,z⟩)⟩⟩
 ·obtain⟨v,rfl,r⟩:=rs.one
  obtain⟨a,ws,rfl,n,q,z⟩:=Rep.Do.mp r;exact⟨a,ws,rfl,.inl ⟨SqL.of q,λl hl=>hp _ (a8 hl _) _ (gn hl (hf l hl) z)⟩⟩
 ·exact hp.elim
def An:List T->Rs T
 | [.int i] => .ok (.int i)
 | [.bl k] => .ok (.int (if k then 1 else 0))
 | _=> .bad
theorem Gw:CallT X (.type "int") An:=CallT.of yA λH O ts vs Q hf rs hp=>by
 unfold An at hp
 split at hp
 ·obtain⟨v,rfl,r⟩:=rs.one
  exact .inl ⟨_,by rw[Rep.Da.mp r],hp H (Same.refl H) _ (Rep.GT _)⟩
 ·obtain⟨v,rfl,r⟩:=rs.one
  exact .inr ⟨_,by rw[Rep.FM.mp r],hp H (Same.refl H) _ (Rep.GT _)⟩
 ·exact hp.elim
def oC:List T->Option (List Bool)
 | [] =>some []
 | .bl k::r=>(oC r).map (k:: ·)
 | _=>none
def pq:List T->Rs T
 | [.lst l] =>match oC l with
  | some ks=> .ok (.bl (ks.all λk=>k))
  | none=> .bad
 | _=> .bad
theorem oB {K:J5}{O:Ow}{H:Hp}:∀{l:List T} {ks:List Bool} {vs:List V} {us:List J7},oC l=some ks->Reps K O H l vs->Vals vs us->us=ks.map Lc
 | [],ks,vs,us,e,r,v=>by cases e;cases Reps.AC.mp r;cases v;rfl
 | t::l,ks,vs,us,e,r,v=>by
  obtain⟨w,ws,rfl,p,q⟩:=Reps.me.mp r
  cases t with
  | bl k=>
   unfold oC at e
   cases z:oC l with
   | none=>rw[z]at e;cases e
   | some ks'=>
    rw[z]at e;cases e
    cases v with
    | cons v1 v2=>
     cases Rep.FM.mp p;cases v1
     rw[oB z q v2];rfl
  | _=>cases e
theorem rW (hc:X.calm=true):CallT X (.builtin "all") pq:=by
 intro pins s σ H O ts vs us Q I hf rs rv hp;unfold pq at hp
 split at hp
 ·obtain⟨v,rfl,r⟩:=rs.one
  split at hp
  ·rename_i ks hk
   obtain⟨a,ws,rfl,n,q,z⟩:=Rep.Do.mp r;obtain⟨u,rfl,ru⟩:=jo rv;cases ru;obtain⟨its,r',pl,hz⟩:=I.list (SqL.of q)
   have hits:=oB hk z r';refine call_all_walk (N0 pl.isList ?_)
   have hne:a≠s.heap.objs.size:=λe=>by
    obtain⟨o,ho,_⟩:=pl.isList;rw[e]at ho;exact absurd (Kl ho) (KI _)
   refine⟨s.heap.objs.size,_,_,_,_,_,λi=>(ks[i]?).getD true,rfl,Walks.list (A:=X.A.in1) (I.ok.hd hc) s.heap.objs.size a hne its.toArray,⟨⟨_,Kw _ rfl,rfl,rfl⟩,?_⟩,?_,?_⟩
   ·obtain⟨o,ho,hh⟩:=pl.isList
    exact⟨o,Kg _ ho,hh⟩
   ·intro i v s' Q' E' hP hQ'
    subst hits
    dsimp only at hQ'
    have hP':(ks.map Lc)[i]? =some v:=by simpa using hP
    rw[Kz]at hP'
    cases e:ks[i]? with
    | none=>rw[e]at hP';cases hP'
    | some k=>
     rw[e]at hP' hQ';cases hP';exact Le hQ'
   ·intro h' tk hk'
    have hlen:its.toArray.size=ks.length:=by rw[hits];simp
    have e:((K9 its.toArray.size).all λi=>(ks[i]?).getD true)=(ks.all λk=>k):=by
     rw[hlen];rw[Bool.eq_iff_iff,KF,KF]
     constructor
     ·intro h x hx
      obtain⟨i,hi,rfl⟩:=Mh hx
      have:=h i (LB.mpr hi)
      simpa [hi]using this
     ·intro h i hi
      have hi':=LB.mp hi
      have:=h ks[i] (LH hi')
      simpa [hi']using this
    rw[e]
    have I1:Inv X pins σ H { s with heap:=s.heap.push { cls:=.type "list_iterator",data:=.fields #[.ref a,.int 0 0] } }:=I.kept (t':=s.toks) λb o e=>Kg _ e
    have I2:Inv X pins σ H { s with heap:=h',toks:=tk }:=by
     have:=I1.turned (h':=h') (t':=tk) (it:=s.heap.objs.size) (λb o hb e=>hk' b o (by simpa using hb) e) (I.hok.fresh (Kj _))
      (NI I.lt) (.inr I.sz) (λx c e z=> ?_) (λp hp z=> ?_)
     ·exact this
     ·obtain⟨v,q⟩:=I.cell x c e
      exact absurd (Ks q.lt (Nd z.symm)) (KI _)
     ·exact absurd (Ks (Kl (I.pin p hp).1) (Nd z.symm)) (KI _)
    exact⟨.bl _,H,I2,rfl,hp H (Same.refl H) _ (Rep.bl_ _)⟩
  ·exact hp.elim
 ·exact hp.elim
end
def T.ty:T->Option String
 | .non=>some "NoneType"
 | .bl _=>some "bool"
 | .int _=>some "int"
 | .str _=>some "str"
 | .tup _=>some "tuple"
 | .lst _=>some "list"
 | .scr _=>none
 | .dct _ _=>none
 | .ob _ _ _=>none
def tY (i b t l s:Bool)(Ty:String):Option Bool:=match Ty with
 | "int" =>some i | "bool" =>some b | "tuple" =>some t | "list" =>some l | "str" =>some s
 | _=>none
def wX (n Ty:String):Option Bool:=match n with
 | "NoneType" =>tY false false false false false Ty
 | "bool" =>tY true true false false false Ty
 | "int" =>tY true false false false false Ty
 | "str" =>tY false false false false true Ty
 | "tuple" =>tY false false true false false Ty
 | "list" =>tY false false false true false Ty
 | _=>none
theorem ym (K:J5){n Ty:String}{b:Bool}(h:wX n Ty=some b):PySem.W.kitOne K (.type n) (.type Ty)=some b:=by
 unfold wX at h
 split at h <;> first | (cases h;done) | (unfold tY at h;split at h <;> first | (cases h;done) | (cases h;kernel_rfl))
def C1 (Ty:String)(t:T):Rs T:=match t.ty with
 | some n=>match wX n Ty with
  | some b=> .ok (.bl b)
  | none=> .bad
 | none=> .bad
theorem Rep.J2 {K:J5}{O:Ow}{H:Hp}{t:T}{v:V}{n:String}(r:Rep K O H t v)(h:t.ty=some n):lD K H v (.type n):=by
 cases t with
 | non=>cases h;cases Rep.Jn.mp r;exact .non
 | bl b=>cases h;cases Rep.FM.mp r;exact .bl b
 | int b=>cases h;cases Rep.Da.mp r;exact .int b
 | str b=>cases h;cases Rep.GE.mp r;exact .str b
 | tup l=>cases h;obtain⟨a,vs,rfl,_,q,_⟩:=Rep.Fk.mp r;exact .tup q
 | lst l=>cases h;obtain⟨a,vs,rfl,_,q,_⟩:=Rep.Do.mp r;exact .lst q
 | scr l=>cases h
 | dct _ _=>cases h
 | ob _ _ _=>cases h
section
variable {X:Cx}{a b c e:Expr}{es:List Expr}{fa fb fc:En->Rs T}{fs:En->Rs (List T)}{pos p p2:Pos}{x:Str}
theorem mq:KQ "isinstance" =some (.builtin "isinstance"):=by decide+kernel
theorem Hn {tn:Str}{Ty:String}(hm:X.mg "isinstance" =none)(hmt:X.mg tn=none)(hv:KQ tn=some (.type Ty))(ha:b6 X a fa)(hg:autoParam (Gl X "isinstance") aqd._auto_1)(hgt:autoParam (Gl X tn) aqd._auto_1)
  (hn:autoParam (tn≠ "__name__") aqb._auto_1) (hd:autoParam ((tn == ("__debug__" : Str))=false) aqb._auto_1)
  (he:autoParam (Kn [a,.Name tn p2] X.env=(false,eval a X.env)::Kn [.Name tn p2] X.env) aqd._auto_1) (hpl:autoParam ((backTo pos (Kn [.Name tn p2] X.env)).any (·.1)=false) aqd._auto_1)
  (hs:autoParam (Kn [.Name tn p2] X.env=(false,eval (.Name tn p2) X.env)::Kn [] X.env) aqd._auto_1) :
  b6 X (.Call (.Name "isinstance" p) [a,.Name tn p2] [] pos) (o1 (C1 Ty) fa):=by
 intro pins s σ H Q I ⟨Z,O,E,hq⟩;refine Lf (gC I hg hm mq ?_ (by decide) (by decide))
 have hA:PA X [a,.Name tn p2] (yW (tP X fa) (yW (tC (.ty Ty)) GS)):=d9 ha (d9 (CC (v:=.ty Ty) hgt hmt hv rfl hn hd) iw hs) he;obtain⟨Z1,O1,E1,h1⟩:=aW E hq;refine Na (bN (hA pos pins s σ H (λvs H'=> ∃v t,vs= [v,.ty Ty]/\Rep X.K O H' t v/\Post X H' (C1 Ty t) (λt H'=> ∀v,Rep X.K O H' t v->Q v H')) I ?_) λus s1 ⟨vs,H1,I1,r1,v,t,e1,rt,q⟩=> ?_) he hpl
 ·refine⟨Z1,O1,E1,Post.mono h1 λts H1 s1 q vs r=> ?_⟩
  obtain⟨t',r',s',E',q'⟩:=q vs r;exact⟨vs,t',rfl,r',q'⟩
 ·subst e1
  obtain⟨u,w',rfl,ru,rw'⟩:=DC r1;cases rw';unfold C1 at q
  split at q
  ·rename_i n hn'
   split at q
   ·rename_i bb hb
    exact yk I1 ru (rt.J2 hn') (ym _ hb) λtk=>⟨.bl bb,H1,I1.tok _,rfl,q H1 (Same.refl H1) _ (Rep.bl_ _)⟩
   ·exact q.elim
  ·exact q.elim
def spP (K:J5)(n:Nat)(g:List T->Rs T):Sp:=λvs H Q _=> ∃ts O,Reps K O H ts vs/\(∀a,O a->Mtb H a)/\ts.length=n ∧
 match g ts with
 | .ok t=> ∀v H',Same H H'->Rep K O H' t v->Q v H'
 | _=>False
def Jg (P:KA)(w:K1)(mg:Str->Option J7)(outer:List Env)(H:Hp)(s:J9)(c:Str)(ev:J7)(s':J9):Prop:=
 ∃e T C H',ev= .ref e/\mg c=some (.ref C)/\s'.os=s.os/\Od s'.gens/\Un (oj outer) [] H H' s.heap s'.heap/\HOk P w H' s'.heap/\Same H H'/\H' e=none/\s.heap.get? e=none/\IV s'.heap C e (some T)/\H' T=none/\s.heap.get? T=none
def FnX (P:KA)(w:K1)(K:J5)(mg:Str->Option J7)(base:Heap)(k:Nat)(f:Addr)(fd:KY)(ps:List Str)(n:Nat)(g:List T->Rs T):Prop:=
 ∀(A:KP) (outer:List Env) (s:J9) (H:Hp) (args:Args) (us:List J7) (vs:List V) (O:Ow) (ts:List T) (c:Str) (R:Qj->J9->Prop),Room k A->Env0 P w K mg base A outer s H->Oe s fd args (ps.zip us)->Vals vs us →
  Reps K O H ts vs->(∀a,O a->Mtb H a)->ts.length=n->g ts= .err c->(∀ev s',Jg P w mg outer H s c ev s'->R (.error ev) s')->codeAny (model P w) A (.call (.ref f) args) R s
structure Bx (P:KA)(w:K1)(K:J5)(mg:Str->Option J7)(base:Heap)(k:Nat)(f:Addr)(fd:KY)(ps:List Str)(n:Nat)(g:List T->Rs T):Prop where
 h:FnOk P w K mg base CX0 k f fd ps (spP K n g)
 x:FnX P w K mg base k f fd ps n g
theorem zE {P:KA}{w:K1}{H:Hp}{h:Heap}{a:Addr}{o:HO}(x:ObjOk P w H h a o):∃u,h.get? a=some u:=by
 cases o with
 | lst xs=>obtain⟨_,_,_,_,e⟩:=x;exact⟨_,e⟩
 | tup xs=>obtain⟨_,_,_,ob,e,_⟩:=x;exact⟨_,e⟩
 | dK kvs=>obtain⟨_,_,_,_,o,_,_,e,_⟩:=x;exact⟨_,e⟩
 | dT kvs=>obtain⟨_,_,_,_,o,_,_,e,_⟩:=x;exact⟨_,e⟩
 | set S n=>obtain⟨o,_,_,_,e,_⟩:=x;exact⟨_,e⟩
 | ins C dx fs=>obtain⟨_,_,_,e,_⟩:=x;exact⟨_,e⟩
 | own y=>obtain⟨_,e⟩:=x;exact⟨_,e⟩
 | xd fs=>obtain⟨_,⟨_,_,_,e,_⟩,_⟩:=x;exact⟨_,e⟩
 | rng lo hi=>obtain⟨_,_,_,e⟩:=x;exact⟨_,e⟩
 | frz ob u=>obtain⟨e,_⟩:=x;exact⟨_,e⟩
 | tbl ps=>exact⟨_,(show h.get? a=some _ from x)⟩
 | met f y=>exact⟨_,(show h.get? a=some _ from x)⟩
 | ext φ=>obtain⟨_,⟨_,e⟩,_⟩:=x;exact⟨_,e⟩
theorem kx {X:Cx}{pins:List (Addr×Obj)}{σ:L2.St}{H:Hp}{s:J9}(I:Inv X pins σ H s){e:Addr}(n:s.heap.get? e=none):H e=none:=by
 cases z:H e with
 | none=>rfl
 | some o=>
  obtain⟨o',ho'⟩:=zE (I.hok e o z);rw[n]at ho';cases ho'
theorem fW {X:Cx}{pins:List (Addr×Obj)}{σ:L2.St}{H:Hp}{s:J9}(I:Inv X pins σ H s)(hex:X.ex= []){e:Addr}(n:s.heap.get? e=none):X.s₀.heap.get? e=none:=by
 cases z:X.s₀.heap.get? e with
 | none=>rfl
 | some o=>
  obtain⟨o',ho'⟩:=I.base.there e o z (by rw[hex];simp)
  rw[n]at ho';cases ho'
theorem EZ {n k:Nat}{f:Addr}{fd:KY}{ps:List Str}{g:List T->Rs T}(F:Bx X.prog X.w X.K X.mg X.base k f fd ps n g)(hr:Room k X.A)(hm:X.mg x=some (.ref f))(hk:LW X.K (.ref f)=true)(hb:Binds X.K fd ps [])(hps:ps.length=n)
  (hl:∀Z ts,fs Z= .ok ts->ts.length=n) (ha:pv X (e::es) fs) (hg:autoParam (Gl X x) aqd._auto_1) (hdb:autoParam ((x == ("__debug__" : Str))=false) aqb._auto_1) (he:autoParam (Kn (e::es) X.env=(false,eval e X.env)::Kn es X.env) aqd._auto_1) (hpl:autoParam ((backTo pos (Kn es X.env)).any (·.1)=false) aqd._auto_1) :
  b6 X (.Call (.Name x p) (e::es) [] pos) (cl g fs):=by
 intro pins s σ H Q I ⟨Z,O,E,hq⟩
 have hq':Post X H (fs Z >>= g) λt H'=> ∀v,Rep X.K O H' t v->Q v H':=hq
 cases q:fs Z with
 | bad=>rw[q]at hq';exact hq'.elim
 | err c=>
  rw[q]at hq';refine wg (E:=E0) F.h hr hg hm hk hb .nil sV ha hdb he hpl pins s σ H Q I ⟨Z,O,E,?_⟩
  rw[q]
  exact hq'
 | ok ts=>
  rw[q]at hq'
  have hq2:Post X H (g ts) λt H'=> ∀v,Rep X.K O H' t v->Q v H':=hq'
  cases q2:g ts with
  | bad=>rw[q2]at hq2;exact hq2.elim
  | ok t=>
   rw[q2]at hq2;refine wg (E:=E0) F.h hr hg hm hk hb .nil sV ha hdb he hpl pins s σ H Q I ⟨Z,O,E,?_⟩
   rw[q];intro H1 s1 vs rs;rw[KO];refine⟨ts,O,rs,(E.same s1).mtb,hl Z ts q,?_⟩
   rw[q2]
   exact λv H' s2 r=>hq2 H' (s1.trans s2) v r
  | err c=>
   rw[q2]at hq2;refine Lf (gB I hg hm ?_ hdb)
   refine Ms (h₀:=X.base) I.ok.mod.kin hk (bN (ha pos pins s σ H (λvs H'=>Same H H'/\Reps X.K O H' ts vs) I ⟨Z,O,E,?_⟩) (λus s1 ⟨vs,H1,I1,r,sm,rs⟩=>⟨I1.kIn,?_⟩)) he hpl
   ·rw[q];exact λH' sm vs rs=>⟨sm,rs⟩
   ·have hlen:us.length=ps.length:=by rw[<-r.length,<-rs.length,hl Z ts q,hps]
    have hb':=hb s1 us I1.kIn (by rw[KO];exact hlen)
    rw[KO]at hb';refine OW (MJ (F.x X.A X.stack s1 H1 ⟨us,[]⟩ us vs O ts c (λr s'=>match r with | .error ev=>X.xe ev s' | _=>False) hr I1.JI hb' r rs (E.same sm).mtb (hl Z ts q) q2 λev s' w=> ?_) λr s' hq=> ?_)
    ·obtain⟨ea,T,C,H',rfl,hmc,ho,hbare,hun,hok,sm2,hea,heo,fl,hT,hTo⟩:=w
     have I2:Inv X pins σ H' s':=I1.JE ho hun hok hbare (λb z=>absurd z (by simp))
     exact hq2 pins _ _ ⟨ea,some T,C,σ,H',rfl,hmc,I2,λb o q _=>sm2 b o (sm b o q),hea,λhex=>fW I1 hex heo,fl,(λt zt=>by cases zt;exact⟨hT,λhex=>fW I1 hex hTo⟩),λpp hpp=>⟨λzz=>(by have:=(I1.pin pp hpp).1;rw[zz,heo]at this;cases this),λzz=>(by cases zz;have:=(I1.pin pp hpp).1;rw[hTo]at this;cases this)⟩⟩
    ·cases r with
     | error ev=>exact hq
     | ok fl=>exact hq.elim
def DD (X:Cx)(g:T->En->Rs En):TG:=λv σ H Q=> ∃Z O M t,EnvM X.K O M H Z σ/\Rep X.K O H t v/\match g t Z with
 | .ok Z'=> ∀σ',EnvM X.K O M H Z' σ'->Q σ' H
 | _=>False
abbrev D5 (X:Cx)(tg:Expr)(g:T->En->Rs En):Prop:=PG X tg (DD X g)
def tPGs (X:Cx)(g:List T->En->Rs En):Dq:=λvs σ H Q=> ∃Z O M ts,EnvM X.K O M H Z σ/\Reps X.K O H ts vs/\match g ts Z with
 | .ok Z'=> ∀σ',EnvM X.K O M H Z' σ'->Q σ' H
 | _=>False
abbrev Bh (X:Cx)(tg:List Expr)(g:List T->En->Rs En):Prop:=PGs X tg (tPGs X g)
theorem PG.imp {X:Cx}{e:Expr}{t t':TG}(h:PG X e t)(w:∀v σ H Q,t' v σ H Q->t v σ H Q):PG X e t':=λpins s σ H v u Q I r q=>h pins s σ H v u Q I r (w v σ H Q q)
theorem PGs.imp {X:Cx}{e:List Expr}{t t':Dq}(h:PGs X e t)(w:∀v σ H Q,t' v σ H Q->t v σ H Q):PGs X e t':=λpins s σ H v u Q I r q=>h pins s σ H v u Q I r (w v σ H Q q)
def gN (i:Nat)(t:T)(Z:En):Rs En:=if i<Z.length then .ok (Z.set i (.va t))else .bad
theorem EnvM.set {K:J5}{O:Ow}{M:Mn}{H:Hp}{Z:En}{σ:L2.St}{i:Nat}{t:T}{v:V}(E:EnvM K O M H Z σ)(hi:i<Z.length)(r:Rep K O H t v):EnvM K O M H (Z.set i (.va t)) (σ.set i (some v)) where
 len:=by rw[Lm,Lm];exact E.len
 val:=λj u e=>by
  by_cases hj:i=j
  ·subst hj
   rw[KB hi]at e
   cases e;exact⟨v,KB (by rw[<-E.len];exact hi),r⟩
  ·rw[Kv hj]at e
   obtain⟨w,e1,e2⟩:=E.val j u e;exact⟨w,by rw[Kv hj];exact e1,e2⟩
 own:=λj o e=>by
  by_cases hj:i=j
  ·subst hj
   rw[KB hi]at e
   cases e
  ·rw[Kv hj]at e
   obtain⟨w,e1,e2⟩:=E.own j o e;exact⟨w,by rw[Kv hj];exact e1,e2⟩
 sub:=E.sub
 dis:=E.dis
 trk:=E.trk
theorem Cf (i:Nat)(hN:X.N.Nodup)(hi:autoParam (X.N[i]? =some x) aqd._auto_1)(hx:autoParam (Loc X.env.scope x) aqh._auto_1)(hf:autoParam (X.fn x=true\/X.env.scope.names.lookup x=some .local) aqa._auto_1):D5 X (.Name x pos) (gN i):=
 PG.imp (wb hN hi hx hf) λv σ H Q hh_=>by
  obtain⟨Z,O,M,t,E,r,h⟩:=hh_;unfold gN at h
  split at h
  ·rename_i Z' e
   split at e
   ·rename_i hl
    cases e;exact h _ (E.set hl r)
   ·cases e
  ·exact h.elim
def Bt (ts:List T)(Z:En):Rs En:=match ts with
 | [] => .ok Z
 | _=> .bad
def tU (g:T->En->Rs En)(gs:List T->En->Rs En)(ts:List T)(Z:En):Rs En:=match ts with
 | t::r=>do
  let Z1 <-g t Z
  gs r Z1
 | [] => .bad
theorem Cd:Bh X [] Bt:=PGs.imp Cy λvs σ H Q hh_=>by
 obtain⟨Z,O,M,ts,E,r,h⟩:=hh_;unfold Bt at h
 cases ts with
 | nil=>exact⟨Reps.AC.mp r,h σ E⟩
 | cons _ _=>exact h.elim
theorem ze {g:T->En->Rs En}{gs:List T->En->Rs En}(h1:D5 X e g)(h2:Bh X es gs)
  (hs:autoParam ((Ly (e::es) X.env).map (·.2)=assign e X.env::(Ly es X.env).map (·.2)) aqd._auto_1):Bh X (e::es) (tU g gs):=
 PGs.imp (zp h1 h2 hs) λvs σ H Q hh_=>by
  obtain⟨Z,O,M,ts,E,r,h⟩:=hh_
  cases ts with
  | nil=>exact h.elim
  | cons t ts=>
   obtain⟨v,ws,rfl,p,q⟩:=Reps.me.mp r;refine⟨v,ws,rfl,Z,O,M,t,E,p,?_⟩
   unfold tU at h
   cases e1:g t Z with
   | bad=>simp[e1]at h
   | err c=>simp[e1]at h
   | ok Z1=>
    intro σ1 E1;refine⟨Z1,O,M,ts,E1,q,?_⟩
    simp only[e1,az]at h
    cases e2:gs ts Z1 with
    | bad=>simp[e2]at h
    | err c=>simp[e2]at h
    | ok Z2=>
     simp only[e2]at h;exact λσ2 E2=>h σ2 E2
def gT (n:Nat)(gs:List T->En->Rs En)(t:T)(Z:En):Rs En:=match t with
 | .tup l=>if l.length=n then gs l Z else .bad
 | _=> .bad
theorem EV {k n:Nat}{gs:List T->En->Rs En}(hc:X.calm=true)(h:Bh X es gs)(hn:autoParam ((Ly es X.env).length=n) aqd._auto_1)(hst:autoParam ((Ly es X.env).findIdx? (·.1)=none) aqd._auto_1):D5 X (.Tuple es k pos) (gT n gs):=
 PG.imp (Fd hc h hn hst) λv σ H Q hh_=>by
  obtain⟨Z,O,M,t,E,r,h⟩:=hh_;unfold gT at h
  cases t with
  | tup l=>
   obtain⟨a,vs,rfl,n',q,z⟩:=Rep.Fk.mp r
   by_cases hl:l.length=n
   ·simp only[if_pos hl]at h
    exact⟨a,vs,rfl,SqT.of q,by rw[<-z.length];exact hl,Z,O,M,l,E,z,h⟩
   ·simp only[if_neg hl]at h
  | _=>exact h.elim
theorem SqL.nn {K:J5}{H:Hp}{a:Addr}{vs:List V}(q:SqL K H a vs):¬ Nw K H a:=λ⟨h1,h2⟩=>by
 rcases q with(q | ⟨o,q⟩) | ⟨o,_,_,q,_⟩
 ·rw[h1]at q;cases q
 ·rw[h1]at q;cases q
 ·rw[h2]at q;cases q
mutual
theorem Rep.more {K:J5}{O O':Ow}{H:Hp}(sub:∀a,O' a->O a\/Nw K H a):∀{t:T} {v:V},Rep K O H t v->Rep K O' H t v
 | .non,_,r=>by unfold Rep at r ⊢;exact r
 | .bl _,_,r=>by unfold Rep at r ⊢;exact r
 | .int _,_,r=>by unfold Rep at r ⊢;exact r
 | .str _,_,r=>by unfold Rep at r ⊢;exact r
 | .tup l,_,r=>by
  unfold Rep at r ⊢;obtain⟨a,vs,e,n,q,z⟩:=r
  exact⟨a,vs,e,λp=>(sub a p).elim n λw=>(by rw[w.1]at q;cases q),q,Reps.more sub z⟩
 | .lst l,_,r=>by
  unfold Rep at r ⊢;obtain⟨a,vs,e,n,q,z⟩:=r
  exact⟨a,vs,e,λp=>(sub a p).elim n λw=>(by rw[w.1]at q;cases q),q,Reps.more sub z⟩
 | .scr l,_,r=>by
  unfold Rep at r ⊢;obtain⟨a,e,n,q⟩:=r
  exact⟨a,e,λp=>(sub a p).elim n λw=>Tr.SqL.nn q w,q⟩
 | .dct ks ts,_,r=>by
  unfold Rep at r ⊢;obtain⟨a,kvs,e,n,q,k,z⟩:=r
  exact⟨a,kvs,e,λp=>(sub a p).elim n λw=>(by rcases q with q | ⟨_,q⟩ <;> rw[w.1]at q <;> cases q),q,k,Reps.more sub z⟩
 | .ob C ns ts,_,r=>by
  unfold Rep at r ⊢;obtain⟨a,dx,fs,e,n,q,k,z⟩:=r;exact⟨a,dx,fs,e,λp=>(sub a p).elim n λw=>(by rw[w.1]at q;cases q),q,k,Reps.more sub z⟩
theorem Reps.more {K:J5}{O O':Ow}{H:Hp}(sub:∀a,O' a->O a\/Nw K H a):∀{l:List T} {vs:List V},Reps K O H l vs->Reps K O' H l vs
 | [],_,r=>by unfold Reps at r ⊢;exact r
 | t::l,_,r=>by
  unfold Reps at r ⊢;obtain⟨v,ws,e,p,q⟩:=r;exact⟨v,ws,e,Rep.more sub p,Reps.more sub q⟩
end
theorem Rep.move {K:J5}{O O' P:Ow}{H H':Hp}{t:T}{v:V}(hP:∀a,P a->O a\/Nw K H a)(hO:∀a,O' a->O a\/Nw K H a)(h:SameO P H H')(r:Rep K O H t v):Rep K O' H' t v:=
 Rep.less (O:=λa=>O' a\/P a) (λ_ z=> .inl z) (Rep.keep h (λ_ z=> .inr z) (Rep.more (λa z=>z.elim (hO a) (hP a)) r))
theorem Reps.move {K:J5}{O O' P:Ow}{H H':Hp}{t:List T}{v:List V}(hP:∀a,P a->O a\/Nw K H a)(hO:∀a,O' a->O a\/Nw K H a)(h:SameO P H H')(r:Reps K O H t v):Reps K O' H' t v:=
 Reps.less (O:=λa=>O' a\/P a) (λ_ z=> .inl z) (Reps.keep h (λ_ z=> .inr z) (Reps.more (λa z=>z.elim (hO a) (hP a)) r))
def ItT (K:J5)(O:Ow)(H:Hp)(ts:List T)(J:It):Prop:=∀(P O':Ow),(∀a,P a->O a\/Nw K H a)->(∀a,O' a->O a\/Nw K H a)->∀(i:Nat) (Hc:Hp),SameO P H Hc->(∀a,O' a->∃o,Hc a=some o) →
 (ts.length<=i->J.stop i Hc)/\(∀t,ts[i]? =some t->J.go i Hc/\∀x Hc',J.yld i Hc x Hc'->Same Hc Hc'/\Rep K O' Hc' t x)
def tPI (X:Cx)(f:En->Rs (List T)):TI:=λσ H R=> ∃Z O,EnvO X.K O H Z σ/\Post X H (f Z) λts H'=> ∀J,ItT X.K O H' ts J->R J H'
abbrev Bg (X:Cx)(tg iter:Expr)(f:En->Rs (List T)):Prop:=PI X tg iter (tPI X f)
theorem PI.imp {tg iter:Expr}{t t':TI}(h:PI X tg iter t)(w:∀σ H R,t' σ H R->t σ H R):PI X tg iter t':=λpins s σ H R I q=>h pins s σ H R I (w σ H R q)
def iL (f:En->Rs T)(Z:En):Rs (List T):=do
 let x <-f Z
 match x with
 | .lst l=> .ok l
 | _=> .bad
def iT (f:En->Rs T)(Z:En):Rs (List T):=do
 let x <-f Z
 match x with
 | .tup l=> .ok l
 | _=> .bad
theorem v7 {tg:Expr}(ha:b6 X a fa):Bg X tg a (iL fa):=PI.imp (Cv ha) λσ H R hh_=>by
 obtain⟨Z,O,E,h⟩:=hh_;obtain⟨Z1,O1,E1,h1⟩:=aW E h;refine⟨Z1,O1,E1,Post.mono h1 λts H1 s1 q vs r=> ?_⟩
 obtain⟨t',r',s',E',q'⟩:=q vs r
 split at q'
 ·rename_i l
  obtain⟨a,ws,rfl,n,q,z⟩:=Rep.Do.mp r';refine⟨a,rfl,⟨ws,SqL.of q⟩,q' H1 (Same.refl H1) _ λP O' hP hO i Hc hs ht=> ?_⟩
  have hnP:¬ P a:=λz=>(hP a z).elim n λw=>by rw[w.1]at q;cases q
  refine⟨λhi=>⟨ws,SqL.of (hs _ _ q hnP),by rw[<-z.length];exact hi⟩,λt ht'=> ?_⟩
  obtain⟨v,e1,e2⟩:=z.get ht';refine⟨⟨ws,v,SqL.of (hs _ _ q hnP),e1⟩,λx Hc' y=> ?_⟩
  obtain⟨e,y⟩:=y;subst e
  have:=y ws (SqL.of (hs _ _ q hnP));rw[e1]at this;cases this;exact⟨Same.refl _,e2.move hP hO hs⟩
 ·exact q'.elim
theorem ES {tg:Expr}(ha:b6 X a fa):Bg X tg a (iT fa):=PI.imp (Fc ha) λσ H R hh_=>by
 obtain⟨Z,O,E,h⟩:=hh_;obtain⟨Z1,O1,E1,h1⟩:=aW E h;refine⟨Z1,O1,E1,Post.mono h1 λts H1 s1 q vs r=> ?_⟩
 obtain⟨t',r',s',E',q'⟩:=q vs r
 split at q'
 ·rename_i l
  obtain⟨a,ws,rfl,n,q,z⟩:=Rep.Fk.mp r';refine⟨a,rfl,⟨ws,SqT.of q⟩,q' H1 (Same.refl H1) _ λP O' hP hO i Hc hs ht=> ?_⟩
  have hnP:¬ P a:=λz=>(hP a z).elim n λw=>by rw[w.1]at q;cases q
  refine⟨λhi=>⟨ws,SqT.of (hs _ _ q hnP),by rw[<-z.length];exact hi⟩,λt ht'=> ?_⟩
  obtain⟨v,e1,e2⟩:=z.get ht';refine⟨⟨ws,v,SqT.of (hs _ _ q hnP),e1⟩,λx Hc' y=> ?_⟩
  obtain⟨e,y⟩:=y;subst e
  have:=y ws (SqT.of (hs _ _ q hnP));rw[e1]at this;cases this;exact⟨Same.refl _,e2.move hP hO hs⟩
 ·exact q'.elim
def rng (lo hi:Int):List T:=(K9 (hi - lo).toNat).map λ(k:Nat)=>T.int (lo+(k:Int))
def Bs (i:Int):Bool:=decide (-(2 ^ 62)<=i)&&decide (i<2 ^ 62)
def iR (f:En->Rs (List T))(Z:En):Rs (List T):=do
 let x <-f Z
 match x with
 | [.int j] =>if Bs j then .ok (rng 0 j)else .bad
 | [.int i,.int j] =>if Bs i&&Bs j then .ok (rng i j)else .bad
 | _=> .bad
theorem rO {i:Int}(h:Bs i=true) : -(2 ^ 62)<=i/\i<2 ^ 62:=by
 unfold Bs at h;rw[J8]at h;exact⟨of_decide_eq_true h.1,of_decide_eq_true h.2⟩
theorem wW {K:J5}{O:Ow}{H:Hp}(lo hi:Int):ItT K O H (rng lo hi) (Itr lo (hi - lo).toNat):=λP O' hP hO i Hc hs ht=>by
 refine⟨λh=> ?_,λt h=> ?_⟩
 ·show(hi - lo).toNat<=i
  unfold rng at h;rw[Kc,L9]at h;exact h
 ·unfold rng at h
  rw[Kz]at h
  by_cases hi':i<(hi - lo).toNat
  ·rw[List.getElem?_range hi']at h
   cases h;refine⟨hi',λx Hc' y=> ?_⟩
   obtain⟨e,y⟩:=y;subst e y;exact⟨Same.refl _,Rep.GT _⟩
  ·rw[Nf (by simpa using hi')]at h
   cases h
theorem xS {tg:Expr}(hm:X.mg "range" =none)(ha:pv X [a] fs)(hg:autoParam (Gl X "range") aqd._auto_1)(hs:autoParam (Kn [a] X.env= [(false,eval a X.env)]) aqd._auto_1):Bg X tg (.Call (.Name "range" p) [a] [] pos) (iR fs):=by
 intro pins s σ H R I ⟨Z,O,E,h⟩
 have h1:=fw E h;refine Call_ (gC I hg hm boot_range (Lb (bN (ha pos pins s σ H _ I h1) λus s1 ⟨vs,H1,I1,r1,ts,rs,s',E',q1⟩=> ?_) hs rfl))
 split at q1
 ·obtain⟨v,rfl,r⟩:=rs.one
  split at q1
  ·rename_i j hj
   obtain⟨b1,b2⟩:=rO hj;cases Rep.Da.mp r
   cases r1 with
   | cons r rr=>
    cases rr;obtain⟨t,rfl⟩:=r;exact call_range_1 (sT I1 (by omega) (by omega) b1 b2 (q1 H1 (Same.refl H1) _ (wW 0 j)))
  ·exact q1.elim
 ·obtain⟨v,ws,rfl,p1,q⟩:=Reps.me.mp rs
  obtain⟨v2,rfl,r⟩:=q.one
  split at q1
  ·rename_i i j hj
   rw[J8]at hj;obtain⟨b1,b2⟩:=rO hj.1;obtain⟨b3,b4⟩:=rO hj.2;cases Rep.Da.mp p1;cases Rep.Da.mp r
   cases r1 with
   | cons r rr=>
    cases rr with
    | cons r' rr=>
     cases rr;obtain⟨t,rfl⟩:=r;obtain⟨t',rfl⟩:=r';exact call_range_2 (sT I1 b1 b2 b3 b4 (q1 H1 (Same.refl H1) _ (wW i j)))
  ·exact q1.elim
 ·exact q1.elim
end
section
variable {X:Cx}{a b c e:Expr}{es:List Expr}{fa fb fc:En->Rs T}{fs:En->Rs (List T)}{pos p p2:Pos}{x:Str}
def dg (src:List (Option Nat))(Z:En):En:=src.map λo=>match o with
 | some i=>match Z[i]? with
  | some (.va t)=> .va t
  | _=> .em
 | none=> .em
def dM (tgt:T->En->Rs En)(fc:En->Rs Bool)(fe:En->Rs T):List T->En->Rs (List T)
 | [],_=> .ok []
 | t::r,Z=>do
  let Z1 <-tgt t Z
  let k <-fc Z1
  if k then do
   let y <-fe Z1
   let ys <-dM tgt fc fe r Z1
   .ok (y::ys)
  else dM tgt fc fe r Z1
def gu (fi:En->Rs (List T))(src:List (Option Nat))(tgt:T->En->Rs En)(fc:En->Rs Bool)(fe:En->Rs T)(Z:En):Rs T:=do
 let ts <-fi Z
 if ts.length<=sizeLine then match dM tgt fc fe ts (dg src Z)with
  | .ok ys=> .ok (.lst ys)
  | _=> .bad
 else .bad
def bT (_:En):Rs Bool:=.ok true
def tP0 (K:J5)(f:En->Rs T):TE:=λσ H Q=> ∃Z O,EnvO K O H Z σ/\match f Z with
 | .ok t=> ∀H',Same H H'->∀v,Rep K O H' t v->Q v H'
 | _=>False
def tPT0 (K:J5)(f:En->Rs Bool):TT:=λσ H Q=> ∃Z O,EnvO K O H Z σ/\match f Z with
 | .ok t=> ∀H',Same H H'->Q t H'
 | _=>False
theorem tP0.up {f:En->Rs T}{σ:L2.St}{H:Hp}{Q:VK}(h:tP0 X.K f σ H Q):tP X f σ H Q:=by
 obtain⟨Z,O,E,h⟩:=h;refine⟨Z,O,E,?_⟩
 cases q:f Z with
 | ok t=>rw[q]at h;exact h
 | err c=>rw[q]at h;exact h.elim
 | bad=>rw[q]at h;exact h.elim
theorem tPT0.up {f:En->Rs Bool}{σ:L2.St}{H:Hp}{Q:Bool->Hp->Prop}(h:tPT0 X.K f σ H Q):Bp X f σ H Q:=by
 obtain⟨Z,O,E,h⟩:=h;refine⟨Z,O,E,?_⟩
 cases q:f Z with
 | ok t=>rw[q]at h;exact h
 | err c=>rw[q]at h;exact h.elim
 | bad=>rw[q]at h;exact h.elim
theorem Cb:Bw X [] (Bp X bT):=λpins s σ H Q I ⟨Z,O,E,h⟩=>Cu pins s σ H Q I (h H (Same.refl H))
abbrev noM:Mn:=λ_ _=>False
theorem yg {src:List (Option Nat)}{Z:En}{j:Nat}{o:OT}(e:(dg src Z)[j]? =some (.ow o)):False:=by
 unfold dg at e;rw[Kz]at e
 cases q:src[j]? with
 | none=>rw[q]at e;cases e
 | some o'=>
  rw[q]at e
  cases o' with
  | none=>cases e
  | some i=>
   have e':(match Z[i]? with | some (Sl.va t)=>Sl.va t | _=>Sl.em)=Sl.ow o:=KS e
   split at e' <;> cases e'
theorem zX {K:J5}{O:Ow}{H:Hp}{Z:En}{σ:L2.St}(E:EnvO K O H Z σ)(src:List (Option Nat)):EnvM K O noM H (dg src Z) (fg src σ) where
 len:=by unfold dg fg;rw[Kc,Kc]
 val:=λj t e=>by
  unfold dg at e;unfold fg;rw[Kz]at e ⊢
  cases q:src[j]? with
  | none=>rw[q]at e;cases e
  | some o=>
   rw[q]at e
   cases o with
   | none=>cases e
   | some i=>
    have e':(match Z[i]? with | some (Sl.va t)=>Sl.va t | _=>Sl.em)=Sl.va t:=KS e
    cases q2:Z[i]? with
    | none=>rw[q2]at e';cases e'
    | some z=>
     rw[q2]at e'
     cases z with
     | em=>cases e'
     | ow l=>cases e'
     | va t'=>
      cases e';obtain⟨v,e1,e2⟩:=E.val i _ q2;exact⟨v,by simp[e1],e2⟩
 own:=λj o e=>(yg e).elim
 sub:=λ_ _ z=>z.elim
 dis:=λ_ _ _ z=>z.elim
 trk:=E.mtb
theorem ORep.no {K:J5}{O:Ow}{H:Hp}{o:OT}{v:V}(r:ORep K O jX H o v):False:=by
 cases o with
 | lst l=>obtain⟨a,_,_,e,_⟩:=r;exact(e a).mpr rfl
 | dct ks ts=>obtain⟨a,_,_,e,_⟩:=r;exact(e a).mpr rfl
 | dd ks rows=>obtain⟨a,_,_,_,e,_⟩:=r;exact(e a).mpr (.inl rfl)
 | ob C ns ls=>obtain⟨a,_,_,_,e,_⟩:=r;exact(e a).mpr (.inl rfl)
theorem EnvM.move {K:J5}{O O' P:Ow}{H H':Hp}{Z:En}{σ:L2.St}(E:EnvM K O noM H Z σ)(hP:∀a,P a->O a\/Nw K H a)(hO:∀a,O' a->O a\/Nw K H a)(h:SameO P H H')(trk:∀a,O' a->Mtb H' a):EnvM K O' noM H' Z σ where
 len:=E.len
 val:=λi t e=>let ⟨v,e1,e2⟩:=E.val i t e;⟨v,e1,e2.move hP hO h⟩
 own:=λi o e=>let ⟨_,_,r⟩:=E.own i o e;r.no.elim
 sub:=λ_ _ z=>z.elim
 dis:=λ_ _ _ z=>z.elim
 trk:=trk
def GC (fi:En->Rs (List T))(src:List (Option Nat))(tgt:T->En->Rs En)(fc:En->Rs Bool)(fe:En->Rs T)(Z:En):Rs (List T):=fi Z >>= λts=>if ts.length<=sizeLine then(match dM tgt fc fe ts (dg src Z)with | .ok ys=>Rs.ok ys | _=> .bad)else .bad
theorem zW {src:List (Option Nat)}{fi:En->Rs (List T)}{tgt:T->En->Rs En}{fc:En->Rs Bool}{fe:En->Rs T}{Z:En}:gu fi src tgt fc fe Z=GC fi src tgt fc fe Z >>= λl=> .ok (.lst l):=by
 unfold gu GC
 cases fi Z with
 | bad=>rfl
 | err c=>rfl
 | ok ts=>
  rw[az,az]
  by_cases hz:ts.length<=sizeLine
  ·rw[if_pos hz,if_pos hz]
   cases dM tgt fc fe ts (dg src Z) <;> rfl
  ·rw[if_neg hz,if_neg hz];rfl
theorem zV {src:List (Option Nat)}{fi:En->Rs (List T)}{tgt:T->En->Rs En}{fc:En->Rs Bool}{fe:En->Rs T}{σ:L2.St}{H:Hp}{Q:VK}{Z:En}{O:Ow}(E:EnvO X.K O H Z σ)
  (hq1:Post X H (GC fi src tgt fc fe Z) λall H1=> ∀D ys H',Nw X.K H1 D->Same H1 H'->H' D=some (.lst ys)->Reps X.K (λa=>O a\/a=D) H' all ys->Q (.ref D) H'):GW X.K (tPI X fi) src (DD X tgt) (tPT0 X.K fc) (tP0 X.K fe) σ H Q:=by
 unfold GC at hq1;refine⟨Z,O,E,Post.mono hq1.bind λts H1 s1 q1 J hJ D hD hK=> ?_⟩
 have E1:=E.same s1
 by_cases hz:ts.length<=sizeLine
 ·rw[if_pos hz]at q1
  cases hall:dM tgt fc fe ts (dg src Z)with
  | bad=>rw[hall]at q1;exact q1.elim
  | err c=>rw[hall]at q1;exact q1.elim
  | ok all=>
   rw[hall]at q1
   have q2:∀D ys H',Nw X.K H1 D->Same H1 H'->H' D=some (.lst ys)->Reps X.K (λa=>O a\/a=D) H' all ys->Q (.ref D) H':=q1 H1 (Same.refl H1)
   have nD:Nw X.K H1 D:=⟨hD,hK⟩
   let O':Ow:=λa=>O a\/a=D
   have subO:∀a,O' a->O a\/Nw X.K H1 a:=λa z=>z.elim .inl λw=> .inr (w▸nD)
   -- the walk's word
   refine⟨λi m σ' ys H'=>m=ts.length - i/\i<=ts.length/\ys.length<=i/\H' D=some (.lst ys)/\SameO (λa=>a=D) (upd H1 D (.lst [])) H' ∧
    ∃Z' yts zs,EnvM X.K O' noM H' Z' σ'/\Reps X.K O' H' yts ys/\dM tgt fc fe (ts.drop i) Z'= .ok zs/\yts++zs=all,⟨ts.length,?_⟩,?_⟩
   ·have sN:Same H1 (upd H1 D (.lst [])):=a8 hD _
    refine⟨by omega,LP _,Kj _,aO,λb o e _=>e,dg src Z,[],all,?_,Reps.Gc,by simpa using hall,rfl⟩
    have E2:EnvM X.K O noM H1 (dg src Z) (fg src σ):=zX E1 src
    exact E2.move (P:=λa=>a=D) (λa z=> .inr (z▸nD)) subO (λb o e _=>sN b o e) λa z=>by
     rcases z with z | z
     ·exact(E1.mtb a z).same sN
     ·rw[z];exact .inl ⟨_,aO⟩
   ·rintro i m σ' ys H' ⟨rfl,hi',hyl,hDl,hsm,Z',yts,zs,E',ry,hl,hyz⟩
    refine⟨hDl,?_⟩
    have sm1:SameO (λa=>a=D) H1 H':=λb o e nb=>hsm b o (by rw[aE nb];exact e) nb
    have it:=hJ (λa=>a=D) O' (λa z=> .inr (z▸nD)) subO i H' sm1 (λa z=>(E'.trk a z).some)
    by_cases hlt:i<ts.length
    ·refine .inr ?_
     have hti:ts[i]? =some ts[i]:=by simp
     obtain⟨go,yl⟩:=it.2 ts[i] hti;refine⟨go,by omega,λxx Hc y=> ?_⟩
     obtain⟨sc,rx⟩:=yl xx Hc y
     have Ec:=E'.same sc;rw[L0 hlt]at hl;unfold dM at hl;refine⟨Z',O',noM,ts[i],Ec,rx,?_⟩
     cases e1:tgt ts[i] Z' with
     | bad=>rw[e1]at hl;cases hl
     | err cc=>rw[e1]at hl;cases hl
     | ok Z1=>
      rw[e1,az]at hl;intro σ1 Eg;refine⟨Z1,O',⟨noM,Eg⟩,?_⟩
      cases e2:fc Z1 with
      | bad=>rw[e2]at hl;cases hl
      | err cc=>rw[e2]at hl;cases hl
      | ok k=>
       rw[e2,az]at hl;intro H3 s3
       have E3:=Eg.same s3
       have tot:Same H' H3:=sc.trans s3
       have D3:H3 D=some (.lst ys):=tot _ _ hDl
       have sm3:SameO (λa=>a=D) (upd H1 D (.lst [])) H3:=λb o e nb=>tot _ _ (hsm b o e nb)
       cases k with
       | false=>
        refine L2.iteF ?_
        have hl':dM tgt fc fe (ts.drop (i+1)) Z1= .ok zs:=by simpa using hl
        exact⟨ts.length - (i+1),by omega,rfl,hlt,by omega,D3,sm3,Z1,yts,zs,E3,ry.same tot,hl',hyz⟩
       | true=>
        refine L2.iteT ?_
        have hl':(fe Z1 >>= λy=>dM tgt fc fe (ts.drop (i+1)) Z1 >>= λys=>Rs.ok (y::ys))= .ok zs:=by simpa using hl
        refine⟨Z1,O',⟨noM,E3⟩,?_⟩
        cases e3:fe Z1 with
        | bad=>rw[e3]at hl';cases hl'
        | err cc=>rw[e3]at hl';cases hl'
        | ok yt=>
         rw[e3,az]at hl'
         cases e4:dM tgt fc fe (ts.drop (i+1)) Z1 with
         | bad=>rw[e4]at hl';cases hl'
         | err cc=>rw[e4]at hl';cases hl'
         | ok zs'=>
          rw[e4,az]at hl'
          have hzs:yt::zs'=zs:=by injection hl'
          intro H4 s4 v rv
          have D4:H4 D=some (.lst ys):=s4 _ _ D3
          have E4:=E3.same s4
          have tot4:Same H' H4:=tot.trans s4
          have smD:SameO (λa=>a=D) H4 (upd H4 D (.lst (ys++ [v]))):=λb o e nb=>by rw[aE nb];exact e
          have inO:∀a,a=D->O' a\/Nw X.K H4 a:=λa z=> .inl (.inr z)
          refine⟨D4,ts.length - (i+1),by omega,rfl,hlt,?_,aO,λb o e nb=>smD b o (s4 _ _ (sm3 b o e nb)) nb,Z1,yts++ [yt],zs',?_,?_,e4,?_⟩
          ·rw[Kh,LC];omega
          ·exact E4.move inO (λa z=> .inl z) smD λaa z=>by
            by_cases hz:aa=D
            ·rw[hz];exact .inl ⟨_,aO⟩
            ·unfold Mtb;rw[aE hz];exact E4.trk aa z
          ·have r1:Reps X.K O' H4 (yts++ [yt]) (ys++ [v]):=(ry.same tot4).append (Reps.FS rv Reps.Gc)
           exact r1.move inO (λa z=> .inl z) smD
          ·rw[Ld,List.singleton_append,hzs];exact hyz
    ·refine .inl ⟨it.1 (by omega),?_⟩
     have hi2:i=ts.length:=by omega
     subst hi2;rw[Oi]at hl
     have hzs:zs= []:=by unfold dM at hl;injection hl with hl;exact hl.symm
     subst hzs;rw[KO]at hyz;subst hyz
     have sF:Same H1 H':=λb o e=>sm1 b o e λz=>by rw[z,hD]at e;cases e
     exact q2 D ys H' nD sF hDl ry
 ·rw[if_neg hz]at q1
  exact q1.elim
theorem wH {src:List (Option Nat)}{fi:En->Rs (List T)}{tgt:T->En->Rs En}{fc:En->Rs Bool}{fe:En->Rs T}{σ:L2.St}{H:Hp}{Q:VK}(h0:tP X (gu fi src tgt fc fe) σ H Q):GW X.K (tPI X fi) src (DD X tgt) (tPT0 X.K fc) (tP0 X.K fe) σ H Q:=by
 obtain⟨Z,O,E,hq⟩:=h0;refine zV E ?_
 have e:gu fi src tgt fc fe Z=GC fi src tgt fc fe Z >>= λl=> .ok (.lst l):=zW
 rw[e]at hq
 cases q:GC fi src tgt fc fe Z with
 | bad=>rw[q]at hq;exact hq.elim
 | err c=>rw[q]at hq;exact hq
 | ok l=>
  rw[q,az]at hq;intro H1 s1 D ys H' nD sD eD rD;exact hq H' (s1.trans sD) _ (Rep.Do.mpr ⟨D,ys,rfl,λz=>(E.same s1).fresh nD.1 z,eD,rD.less λa z=> .inl z⟩)
theorem q_lc {elt tg iter:Expr}{ifs:List Expr}{scope:Nk}{N':List Str}{src:List (Option Nat)}{fi:En->Rs (List T)}{tgt:T->En->Rs En}{fc:En->Rs Bool}{fe:En->Rs T}
  (hc:X.calm=true) (S:LcScope X scope N' src) (hi:Bg X tg iter fi)
  (block:∀cl C s₀ H₀ fp,D5 (cu X scope cl N' C s₀ H₀ fp) tg tgt/\Bw (cu X scope cl N' C s₀ H₀ fp) ifs (Bp (cu X scope cl N' C s₀ H₀ fp) fc)/\b6 (cu X scope cl N' C s₀ H₀ fp) elt fe)
  (hs:autoParam (∀x,K6 iter X.env x=pure x) aqc._auto_1) :
  b6 X (.ListComp elt [⟨tg,iter,ifs,0⟩] scope pos) (gu fi src tgt fc fe):=by
 have hPG:∀cl C s₀ H₀ fp,PG (cu X scope cl N' C s₀ H₀ fp) tg (DD X tgt):=λcl C s₀ H₀ fp=>(block cl C s₀ H₀ fp).1
 have hPI:∀cl C s₀ H₀ fp,Bw (cu X scope cl N' C s₀ H₀ fp) ifs (tPT0 X.K fc):=λcl C s₀ H₀ fp pins s σ H Q I h=>(block cl C s₀ H₀ fp).2.1 pins s σ H Q I (tPT0.up (X:=cu X scope cl N' C s₀ H₀ fp) h)
 have hPE:∀cl C s₀ H₀ fp,PE (cu X scope cl N' C s₀ H₀ fp) elt (tP0 X.K fe):=λcl C s₀ H₀ fp pins s σ H Q I h=>(block cl C s₀ H₀ fp).2.2 pins s σ H Q I (tP0.up (X:=cu X scope cl N' C s₀ H₀ fp) h)
 exact PE.imp (zr (g:=DD X tgt) (tc:=tPT0 X.K fc) (te:=tP0 X.K fe) hc S hi (λcl C s₀ H₀ fp=>⟨hPG cl C s₀ H₀ fp,hPI cl C s₀ H₀ fp,hPE cl C s₀ H₀ fp⟩) hs) λσ H Q h=>wH h
inductive Fl where
 | nx (Z:En) | rt (t:T) | bk (Z:En) | ct (Z:En)
def OO (B:Ow)(M:Mn):Ow:=λa=>B a\/M.u a
structure Ev (K:J5)(B:Ow)(M:Mn)(H:Hp)(Z:En)(σ:L2.St):Prop where
 env:EnvM K (OO B M) M H Z σ
 mine:∀a,M.u a->¬ B a
theorem Ev.same {K:J5}{B:Ow}{M:Mn}{H H':Hp}{Z:En}{σ:L2.St}(h:Same H H')(e:Ev K B M H Z σ):Ev K B M H' Z σ:=⟨e.env.same h,e.mine⟩
theorem Ev.o {K:J5}{B:Ow}{M:Mn}{H:Hp}{Z:En}{σ:L2.St}(e:Ev K B M H Z σ):EnvO K (OO B M) H Z σ:=⟨M,e.env⟩
def PostF (X:Cx)(B P:Ow)(H:Hp)(r:Rs Fl)(D:kL):Prop:=match r with
 | .ok (.nx Z')=> ∀σ' H' M',SameO P H H'->Ev X.K B M' H' Z' σ'->(∀a,M'.u a->P a\/Nw X.K H a)->D.nx σ' H'
 | .ok (.rt t)=> ∀v H',SameO P H H'->Rep X.K B H' t v->D.rt v H'
 | .ok (.bk Z')=> ∀σ' H' M',SameO P H H'->Ev X.K B M' H' Z' σ'->(∀a,M'.u a->P a\/Nw X.K H a)->D.bk σ' H'
 | .ok (.ct Z')=> ∀σ' H' M',SameO P H H'->Ev X.K B M' H' Z' σ'->(∀a,M'.u a->P a\/Nw X.K H a)->D.ct σ' H'
 | .err c=>XA X P H c
 | .bad=>False
def IX (X:Cx)(F:En->Rs Fl):TS:=λD σ H=> ∃Z B M,Ev X.K B M H Z σ/\PostF X B M.u H (F Z) D
abbrev lE (X:Cx)(s:Stmt)(F:En->Rs Fl):Prop:=PS X s (IX X F)
abbrev jV (X:Cx)(s:List Stmt)(F:En->Rs Fl):Prop:=PSs X s (IX X F)
theorem PostF.later {B P P1:Ow}{H H1:Hp}{r:Rs Fl}{D:kL}(h:PostF X B P H r D)(s:SameO P H H1)(sub:∀a,P1 a->P a\/Nw X.K H a):PostF X B P1 H1 r D:=by
 have back:∀a,P1 a\/Nw X.K H1 a->P a\/Nw X.K H a:=λa z=>z.elim (sub a) (dk s)
 cases r with
 | bad=>exact h
 | err c=>exact XA.later h s sub
 | ok f=>
  cases f with
  | nx Z'=>exact λσ' H' M' s' E' o'=>h σ' H' M' (s.trans s' sub) E' λa z=>back a (o' a z)
  | rt t=>exact λv H' s' r=>h v H' (s.trans s' sub) r
  | bk Z'=>exact λσ' H' M' s' E' o'=>h σ' H' M' (s.trans s' sub) E' λa z=>back a (o' a z)
  | ct Z'=>exact λσ' H' M' s' E' o'=>h σ' H' M' (s.trans s' sub) E' λa z=>back a (o' a z)
theorem PostF.xa {B P:Ow}{H:Hp}{c:Str}{D:kL}(h:PostF X B P H (.err c) D):XA X jX H c:=XA.later (P:=P) h (λ_ _ e _=>e) λ_ z=>z.elim
def sN (Z:En):Rs Fl:=.ok (.nx Z)
def aF (F G:En->Rs Fl)(Z:En):Rs Fl:=do
 let f <-F Z
 match f with
 | .nx Z'=>G Z'
 | f=> .ok f
theorem EG:jV X [] sN:=PSs.imp v8 λD σ H ⟨Z,B,M,E,h⟩=>h σ H M (λ_ _ e _=>e) E λa z=> .inl z
theorem B8 {st:Stmt}{bA:List Stmt}{F G:En->Rs Fl}(h1:lE X st F)(h2:jV X bA G):jV X (st::bA) (aF F G):=PSs.imp (ng h1 h2) λD σ H hh_=>by
 obtain⟨Z,B,M,E,h⟩:=hh_;refine⟨Z,B,M,E,?_⟩
 unfold aF at h
 cases q:F Z with
 | bad=>rw[q]at h;exact h.elim
 | err c=>rw[q]at h;exact h
 | ok f=>
  rw[q,az]at h
  cases f with
  | nx Z'=>exact λσ' H' M' s' E' o'=>⟨Z',B,M',E',h.later s' o'⟩
  | rt t=>exact h
  | bk Z'=>exact h
  | ct Z'=>exact h
theorem EF {st:Stmt}{F:En->Rs Fl}(h:lE X st F):jV X [st] F:=qL h
def aK (f:En->Rs T)(Z:En):Rs Fl:=do
 let t <-f Z
 .ok (.rt t)
theorem ED (ha:b6 X a fa):lE X (.Return (some a) pos) (aK fa):=PS.imp (uQ ha) λD σ H hh_=>by
 obtain⟨Z,B,M,E,h⟩:=hh_;refine⟨Z,OO B M,E.o,?_⟩
 unfold aK at h
 cases q:fa Z with
 | bad=>rw[q]at h;exact h.elim
 | err c=>rw[q]at h;exact PostF.xa h
 | ok t=>
  rw[q,az]at h;exact λH' s v r=>h v H' (SameO.of s) (r.less λ_ z=> .inl z)
def gV (f:En->Rs Bool)(F G:En->Rs Fl)(Z:En):Rs Fl:=do
 let k <-f Z
 if k then F Z else G Z
theorem Hd {f:En->Rs Bool}{A B:List Stmt}{F G:En->Rs Fl}(hc:uo X c f)(ha:jV X A F)(hb:jV X B G):lE X (.If c A B pos) (gV f F G):=PS.imp (zk hc ha hb) λD σ H hh_=>by
 obtain⟨Z,B,M,E,h⟩:=hh_;refine⟨Z,OO B M,E.o,?_⟩
 unfold gV at h
 cases q:f Z with
 | bad=>rw[q]at h;exact h.elim
 | err c=>rw[q]at h;exact PostF.xa h
 | ok k=>
  rw[q,az]at h;intro H' s
  have E':Ev X.K B M H' Z σ:=E.same s
  cases k with
  | true=>refine L2.iteT ?_;exact⟨Z,B,M,E',PostF.later (by simpa using h) (SameO.of s) λa z=> .inl z⟩
  | false=>refine L2.iteF ?_;exact⟨Z,B,M,E',PostF.later (by simpa using h) (SameO.of s) λa z=> .inl z⟩
def dj (f:En->Rs T)(g:T->En->Rs En)(Z:En):Rs Fl:=do
 let t <-f Z
 match g t Z with
 | .ok Z'=> .ok (.nx Z')
 | _=> .bad
theorem y9 {B:Ow}{M:Mn}{Z:En}{σ:L2.St}{H:Hp}{D:kL}{g:T->En->Rs En}{f:En->Rs T}(E:Ev X.K B M H Z σ)(h:PostF X B M.u H (dj f g Z) D):BQ (tP X f) (DD X g) D σ H:=by
 refine⟨Z,OO B M,E.o,?_⟩
 unfold dj at h
 cases q:f Z with
 | bad=>rw[q]at h;exact h.elim
 | err c=>rw[q]at h;exact PostF.xa h
 | ok t=>
  rw[q,az]at h;intro H' s v r;refine⟨Z,OO B M,M,t,E.env.same s,r,?_⟩
  cases q2:g t Z with
  | bad=>rw[q2]at h;exact h.elim
  | err c=>rw[q2]at h;exact h.elim
  | ok Z'=>
   rw[q2]at h;exact λσ' E'=>h σ' H' M (SameO.of s) ⟨E',E.mine⟩ λa z=> .inl z
theorem vX {f:En->Rs T}{σ:L2.St}{H:Hp}{Q Q':VK}(h:tP X f σ H Q)(w:∀v H',Q v H'->Q' v H'):tP X f σ H Q':=by
 obtain⟨Z,O,E,q⟩:=h;exact⟨Z,O,E,Post.mono q λt H' _ z v r=>w v H' (z v r)⟩
theorem Hb {elt tg iter:Expr}{ifs:List Expr}{scope:Nk}{spos py:Pos}{N':List Str}{src:List (Option Nat)}{fi:En->Rs (List T)}{tgt:T->En->Rs En}{fc:En->Rs Bool}{fe:En->Rs T}(i:Nat){y:Str}
  (hc:X.calm=true) (S:LcScope X scope N' src) (hi:Bg X tg iter fi)
  (block:∀cl C s₀ H₀ fp,D5 (cu X scope cl N' C s₀ H₀ fp) tg tgt/\Bw (cu X scope cl N' C s₀ H₀ fp) ifs (Bp (cu X scope cl N' C s₀ H₀ fp) fc)/\b6 (cu X scope cl N' C s₀ H₀ fp) elt fe)
  (hN:X.N.Nodup) (hiy:autoParam (X.N[i]? =some y) aqd._auto_1) (hy:autoParam (Loc X.env.scope y) aqh._auto_1) (hsw:autoParam (KM (.ListComp elt [⟨tg,iter,ifs,0⟩] scope pos) (some (.Name y py)) spos.line X.env=pure true) aqd._auto_1)
  (hf:autoParam (X.fn y=true\/X.env.scope.names.lookup y=some .local) aqa._auto_1) (hs:autoParam (∀x,K6 iter X.env x=pure x) aqc._auto_1) :
  lE X (.Assign [.Name y py] (.ListComp elt [⟨tg,iter,ifs,0⟩] scope pos) spos) (dj (gu fi src tgt fc fe) (gN i)):=by
 have hPG:∀cl C s₀ H₀ fp,PG (cu X scope cl N' C s₀ H₀ fp) tg (DD X tgt):=λcl C s₀ H₀ fp=>(block cl C s₀ H₀ fp).1
 have hPI:∀cl C s₀ H₀ fp,Bw (cu X scope cl N' C s₀ H₀ fp) ifs (tPT0 X.K fc):=λcl C s₀ H₀ fp pins s σ H Q I h=>(block cl C s₀ H₀ fp).2.1 pins s σ H Q I (tPT0.up (X:=cu X scope cl N' C s₀ H₀ fp) h)
 have hPE:∀cl C s₀ H₀ fp,PE (cu X scope cl N' C s₀ H₀ fp) elt (tP0 X.K fe):=λcl C s₀ H₀ fp pins s σ H Q I h=>(block cl C s₀ H₀ fp).2.2 pins s σ H Q I (tP0.up (X:=cu X scope cl N' C s₀ H₀ fp) h)
 refine PS.imp (Hv (g:=DD X tgt) (tc:=tPT0 X.K fc) (te:=tP0 X.K fe) (i:=i) hc S hi (λcl C s₀ H₀ fp=>⟨hPG cl C s₀ H₀ fp,hPI cl C s₀ H₀ fp,hPE cl C s₀ H₀ fp⟩) hN hiy hy hsw hf hs) λD σ H ⟨Z,B,M,E,h⟩=>wH (vX (y9 E h) λv H' z=> ?_)
 obtain⟨Z',O,M',t,E',r,q⟩:=z;unfold gN at q
 split at q
 ·rename_i Z2 e
  split at e
  ·rename_i hl
   cases e;exact q _ (E'.set hl r)
  ·cases e
 ·exact q.elim
theorem EN {tg:Expr}{g:T->En->Rs En}(ha:b6 X a fa)(hg:D5 X tg g)(hs:autoParam (Py [tg] a pos.line X.env=pure false) aqd._auto_1)(hw:autoParam (Pz [tg] a X.env=pure none) aqd._auto_1)
  (h1:autoParam ((Ly [tg] X.env).map (·.2)= [assign tg X.env]) aqd._auto_1):lE X (.Assign [tg] a pos) (dj fa g):=PS.imp (E8 ha hg hs hw h1) λD σ H ⟨Z,B,M,E,h⟩=>y9 E h
def uO (f:En->Rs T)(Z:En):Rs Fl:=do
 let _ <-f Z
 .ok (.nx Z)
theorem B7 (ha:b6 X a fa)(hs:autoParam (KM a none pos.line X.env=pure false) aqd._auto_1):lE X (.Expr a pos) (uO fa):=PS.imp (km ha hs) λD σ H hh_=>by
 obtain⟨Z,B,M,E,h⟩:=hh_;refine⟨Z,OO B M,E.o,?_⟩
 unfold uO at h
 cases q:fa Z with
 | bad=>rw[q]at h;exact h.elim
 | err c=>rw[q]at h;exact PostF.xa h
 | ok t=>
  rw[q,az]at h;exact λH' s v r=>h σ H' M (SameO.of s) (E.same s) λa z=> .inl z
def bp (g:T->En->Rs En)(F:En->Rs Fl):List T->En->Rs Fl
 | [],Z=> .ok (.nx Z)
 | t::r,Z=>do
  let Z1 <-g t Z
  let f <-F Z1
  match f with
  | .nx Z2=>bp g F r Z2
  | .ct Z2=>bp g F r Z2
  | .bk Z2=> .ok (.nx Z2)
  | .rt t=> .ok (.rt t)
def fV (fi:En->Rs (List T))(g:T->En->Rs En)(F:En->Rs Fl)(Z:En):Rs Fl:=do
 let ts <-fi Z
 match bp g F ts Z with
 | .ok f=> .ok f
 | _=> .bad
theorem kW {α:Type}{t:Sem α}{Q:α->J9->Prop}{s:J9}{E:J7->J9->Prop}{P:KA}{w:K1}{A:KP}(h:wpAny (model P w) A t Q (λ_ _=>False) s):wpAny (model P w) A t Q E s:=LV h (λ_ _ q=>q) λ_ _ z=>z.elim
theorem v9 {tg iter:Expr}{body:List Stmt}{wi:TI}{g:TG}{tb:TS}{pos:Pos}(hc:X.calm=true)(hi:PI X tg iter wi)(hg:PG X.nox tg g)(hb:PSs X.nox body tb)
  (hs:autoParam (∀x,K6 iter X.env x=pure x) aqc._auto_1):PS X (.For tg iter body [] pos) (tFor wi g tb):=by
 intro pins s σ H D I h;refine wpAny_For (bN (hi pins s σ H _ I h) λv s1 h1=>bN h1 λitv s2 h2=> ?_) hs
 obtain⟨it,fp,tn,J,H2,e,I2,T,st2,f2,W,⟨m0,w0⟩,turn⟩:=h2;subst e
 have stat:∀{H':Hp},(∀b∈fp,H' b=none)->∀b∈fp,oH X pins H' b:=λhn b hb=>⟨hn b hb,(f2 b hb).2⟩
 refine codeAny_forLoop_any (λn s'=> ∃i σ' H',Inv X pins σ' H' s'/\tn i s'.heap/\(∀b∈fp,H' b=none)/\W i n σ' H') ?_ m0 ⟨0,σ,H2,I2,st2,λb hb=>(f2 b hb).1,w0⟩
 rintro n s3 ⟨i,σ3,H3,I3,st3,fr3,w3⟩
 rcases turn i n σ3 H3 w3 with⟨stop,qn⟩ | ⟨go,N,hN,step⟩
 ·refine kW (bN (T.done X.nox rfl rfl rfl hc i pins s3 σ3 H3 _ (I3.FB _) (stat fr3) st3 stop) λr s4 ⟨hr,I4⟩=> ?_)
  subst hr;exact MR ⟨σ3,H3,I4.FB _,qn⟩
 ·refine kW (bN (T.item X.nox rfl rfl rfl hc i pins s3 σ3 H3 _ (I3.FB _) (stat fr3) st3 go) λr s4 ⟨u,hr,h4⟩=> ?_)
  subst hr;refine kW (bN h4 λ_ s5 hh_=> ?_)
  obtain⟨x,H5,I5,r5,y5,st5,fr5⟩:=hh_
  have I5':=Inv.pinned (X:=X.nox) I5 (stat fr5) (T.obj _ _ st5);refine kW (bN (hg _ s5 σ3 H5 x u _ I5' r5 (step x H5 y5)) λ_ s6 hh_=> ?_)
  obtain⟨σ6,H6,I6,q6⟩:=hh_;refine kW (bN (hb _ s6 σ6 H6 _ I6 q6) λf s7 q7=> ?_)
  have again:∀{σ7:L2.St} {H7:Hp},Inv X.nox (pins++nh fp s5.heap) σ7 H7 s7->N σ7 H7->∃m,m<n/\∃i σ' H',Inv X pins σ' H' s7/\tn i s7.heap/\(∀b∈fp,H' b=none)/\W i m σ' H':=λ{σ7 H7} I7 n7=>by
   obtain⟨m',hm,w7⟩:=hN σ7 H7 n7;refine⟨m',hm,i+1,σ7,H7,(Inv.Jq (X:=X.nox) I7).FB _,T.keep _ _ _ st5 λb hb o e=>(I7.pin (b,o) (Kr _ (Kr _ (gz hb e)))).1,λb hb=> ?_,w7⟩
   obtain⟨o,e,d⟩:=T.obj _ _ st5 b hb;exact(I7.pin (b,o) (Kr _ (Kr _ (gz hb e)))).2.1
  cases f with
  | next=>obtain⟨σ7,H7,I7,n7⟩:=q7;exact again I7 n7
  | cont=>obtain⟨σ7,H7,I7,n7⟩:=q7;exact again I7 n7
  | brk=>obtain⟨σ7,H7,I7,q7⟩:=q7;exact⟨σ7,H7,(Inv.Jq (X:=X.nox) I7).FB _,q7⟩
  | ret v=>obtain⟨x7,σ7,H7,I7,r7,q7⟩:=q7;exact⟨x7,σ7,H7,(Inv.Jq (X:=X.nox) I7).FB _,r7,q7⟩
theorem EJ {tg iter:Expr}{body:List Stmt}{fi:En->Rs (List T)}{g:T->En->Rs En}{F:En->Rs Fl}(hc:X.calm=true)(hi:Bg X tg iter fi)(hg:D5 X.nox tg g)(hb:jV X.nox body F)
  (hs:autoParam (∀x,K6 iter X.env x=pure x) aqc._auto_1):lE X (.For tg iter body [] pos) (fV fi g F):=PS.imp (v9 hc hi hg hb hs) λD σ H hh_=>by
 obtain⟨Z,B,M,E,h⟩:=hh_;refine⟨Z,OO B M,E.o,?_⟩
 unfold fV at h
 cases q:fi Z with
 | bad=>rw[q]at h;exact h.elim
 | err c=>rw[q]at h;exact PostF.xa h
 | ok ts=>
  rw[q,az]at h
  cases qq:bp g F ts Z with
  | bad=>rw[qq]at h;exact h.elim
  | err c=>rw[qq]at h;exact h.elim
  | ok fin=>
  rw[qq]at h;intro H1 s1 J hJ
  have E1:Ev X.K B M H1 Z σ:=E.same s1
  have h1:PostF X B M.u H1 (.ok fin) D:=PostF.later h (SameO.of s1) λa z=> .inl z
  refine⟨λi m σ' H'=>m=ts.length - i/\i<=ts.length/\SameO M.u H1 H'/\∃Z' M',Ev X.K B M' H' Z' σ'/\(∀a,M'.u a->M.u a\/Nw X.K H1 a)/\bp g F (ts.drop i) Z'= .ok fin,
   ⟨ts.length,by omega,LP _,λ_ _ e _=>e,Z,M,E1,λa z=> .inl z,by simpa using qq⟩,?_⟩
  rintro i m σ' H' ⟨rfl,hi',sm,Z',M',E',ow,hl⟩
  have it:=hJ M.u (OO B M') (λa z=> .inl (.inr z)) (λa z=>z.elim (λw=> .inl (.inl w)) λw=>(ow a w).elim (λy=> .inl (.inr y)) .inr) i H' sm (λa z=>(E'.env.trk a z).some)
  by_cases hlt:i<ts.length
  ·have hti:ts[i]? =some ts[i]:=by simp
   obtain⟨go,yl⟩:=it.2 ts[i] hti;rw[L0 hlt]at hl;unfold bp at hl;refine .inr ⟨go,λσ2 H2=> ∃m',m'<ts.length - i/\(m'=ts.length - (i+1)/\i+1<=ts.length/\SameO M.u H1 H2/\∃Z2 M2,Ev X.K B M2 H2 Z2 σ2/\(∀a,M2.u a->M.u a\/Nw X.K H1 a)/\bp g F (ts.drop (i+1)) Z2= .ok fin),λσ2 H2 z=>z,λx Hc y=> ?_⟩
   obtain⟨sc,rx⟩:=yl x Hc y;refine⟨Z',OO B M',M',ts[i],E'.env.same sc,rx,?_⟩
   cases e1:g ts[i] Z' with
   | bad=>rw[e1]at hl;cases hl
   | err cc=>rw[e1]at hl;cases hl
   | ok Z1=>
    rw[e1,az]at hl;intro σ1 Eg
    have E2:Ev X.K B M' Hc Z1 σ1:=⟨Eg,E'.mine⟩;refine⟨Z1,B,M',E2,?_⟩
    have smc:SameO M.u H1 Hc:=λb o e n=>sc _ _ (sm b o e n)
    have onward:∀{σ3:L2.St} {H3:Hp} {Z3:En} {M3:Mn},SameO M'.u Hc H3->Ev X.K B M3 H3 Z3 σ3->(∀a,M3.u a->M'.u a\/Nw X.K Hc a)->bp g F (ts.drop (i+1)) Z3= .ok fin →
      ∃m',m'<ts.length - i/\(m'=ts.length - (i+1)/\i+1<=ts.length/\SameO M.u H1 H3/\∃Z2 M2,Ev X.K B M2 H3 Z2 σ3/\(∀a,M2.u a->M.u a\/Nw X.K H1 a)/\bp g F (ts.drop (i+1)) Z2= .ok fin):=
     λ{σ3 H3 Z3 M3} s3 E3 o3 p3=>⟨_,by omega,rfl,hlt,smc.trans s3 ow,Z3,M3,E3,λa z=>(o3 a z).elim (ow a) (dk smc),p3⟩
    cases e2:F Z1 with
    | bad=>rw[e2]at hl;cases hl
    | err cc=>rw[e2]at hl;cases hl
    | ok f=>
     rw[e2,az]at hl
     cases f with
     | nx Z2=>exact λσ3 H3 M3 s3 E3 o3=>onward s3 E3 o3 hl
     | ct Z2=>exact λσ3 H3 M3 s3 E3 o3=>onward s3 E3 o3 hl
     | bk Z2=>
      cases hl
      exact λσ3 H3 M3 s3 E3 o3=>h1 σ3 H3 M3 (smc.trans s3 ow) E3 λa z=>(o3 a z).elim (ow a) (dk smc)
     | rt t=>
      cases hl;exact λv H3 s3 r=>h1 v H3 (smc.trans s3 ow) r
  ·refine .inl ⟨it.1 (by omega),?_⟩
   have hi2:i=ts.length:=by omega
   subst hi2;rw[Oi]at hl;cases hl;exact h1 σ' H' M' sm E' ow
def bH (c:En->Rs Bool)(F:En->Rs Fl):Nat->En->Rs Fl
 | 0,_=> .bad
 | n+1,Z=>match c Z with
  | .ok false=> .ok (.nx Z)
  | .ok true=>match F Z with
   | .ok (.nx Z')=>bH c F n Z'
   | .ok (.ct Z')=>bH c F n Z'
   | .ok (.bk Z')=> .ok (.nx Z')
   | .ok (.rt t)=> .ok (.rt t)
   | _=> .bad
  | _=> .bad
theorem zc {c:Expr}{body:List Stmt}{fc:En->Rs Bool}{F:En->Rs Fl}(n:Nat)(hc:uo X.nox c fc)(hb:jV X.nox body F):lE X (.While c body [] pos) (bH fc F n):=by
 have base:PS X.nox (.While c body [] pos) (uG (Bp X.nox fc) (IX X.nox F)):=zj PassesOwn.never hc hb;intro pins s σ H D I ⟨Z,B,M,E,h⟩
 cases qq:bH fc F n Z with
 | bad=>rw[qq]at h;exact h.elim
 | err c=>
  exfalso
  have:∀n Z,bH fc F n Z≠ .err c:=by
   intro n
   induction n with
   | zero=>intro Z z;cases z
   | succ n ih=>
    intro Z z;unfold bH at z
    split at z
    ·cases z
    ·split at z <;> first | exact ih _ z | cases z
    ·cases z
  exact this n Z qq
 | ok fin=>
  rw[qq]at h
  have goal:uG (Bp X.nox fc) (IX X.nox F) D σ H:=by
   refine⟨λm σ' H'=>SameO M.u H H'/\∃Z' M',Ev X.K B M' H' Z' σ'/\(∀a,M'.u a->M.u a\/Nw X.K H a)/\bH fc F m Z'= .ok fin,⟨n,λ_ _ e _=>e,Z,M,E,λa z=> .inl z,qq⟩,?_⟩
   rintro m σ' H' ⟨sm,Z',M',E',ow,hl⟩
   cases m with
   | zero=>cases hl
   | succ m=>
    refine⟨Z',OO B M',E'.o,?_⟩
    unfold bH at hl
    cases e1:fc Z' with
    | bad=>rw[e1]at hl;cases hl
    | err cc=>rw[e1]at hl;cases hl
    | ok k=>
     rw[e1]at hl;intro H2 s2
     have E2:Ev X.K B M' H2 Z' σ':=E'.same s2
     have sm2:SameO M.u H H2:=λb o e n=>s2 _ _ (sm b o e n)
     cases k with
     | false=>
      cases hl;refine L2.iteF ?_
      exact h σ' H2 M' sm2 E2 ow
     | true=>
      refine L2.iteT ?_
      refine⟨λσ3 H3=>SameO M.u H H3/\∃Z3 M3,Ev X.K B M3 H3 Z3 σ3/\(∀a,M3.u a->M.u a\/Nw X.K H a)/\bH fc F m Z3= .ok fin,λσ3 H3 z=>⟨m,Oh m,z⟩,Z',B,M',E2,?_⟩
      have hl':(match F Z' with | .ok (.nx Z')=>bH fc F m Z' | .ok (.ct Z')=>bH fc F m Z' | .ok (.bk Z')=> .ok (.nx Z') | .ok (.rt t)=> .ok (.rt t) | _=> .bad)= .ok fin:=hl
      cases e2:F Z' with
      | bad=>rw[e2]at hl';cases hl'
      | err cc=>rw[e2]at hl';cases hl'
      | ok f=>
       rw[e2]at hl'
       cases f with
       | nx Z2=>exact λσ3 H3 M3 s3 E3 o3=>⟨sm2.trans s3 ow,Z2,M3,E3,λa z=>(o3 a z).elim (ow a) (dk sm2),hl'⟩
       | ct Z2=>exact λσ3 H3 M3 s3 E3 o3=>⟨sm2.trans s3 ow,Z2,M3,E3,λa z=>(o3 a z).elim (ow a) (dk sm2),hl'⟩
       | bk Z2=>
        cases hl'
        exact λσ3 H3 M3 s3 E3 o3=>h σ3 H3 M3 (sm2.trans s3 ow) E3 λa z=>(o3 a z).elim (ow a) (dk sm2)
       | rt t=>
        cases hl';exact λv H3 s3 r=>h v H3 (sm2.trans s3 ow) r
  refine kW (bN (base pins s σ H D (I.FB _) goal) λf s' q=> ?_)
  cases f with
  | next=>obtain⟨σ7,H7,I7,n7⟩:=q;exact⟨σ7,H7,I7.FB _,n7⟩
  | cont=>obtain⟨σ7,H7,I7,n7⟩:=q;exact⟨σ7,H7,I7.FB _,n7⟩
  | brk=>obtain⟨σ7,H7,I7,n7⟩:=q;exact⟨σ7,H7,I7.FB _,n7⟩
  | ret v=>obtain⟨x7,σ7,H7,I7,r7,q7⟩:=q;exact⟨x7,σ7,H7,I7.FB _,r7,q7⟩
def DE (Z:En):Rs Fl:=.ok (.ct Z)
end
def bw (F:En->Rs Fl)(Z:En):Rs T:=do
 let f <-F Z
 match f with
 | .nx _=> .ok .non
 | .rt t=> .ok t
 | _=> .bad
def aI (n:Nat)(ts:List T):En:=ts.map Sl.va++Kx (n - ts.length) Sl.em
theorem xK {n:Nat}{ts:List T}{i:Nat}{o:OT}(e:(aI n ts)[i]? =some (.ow o)):False:=by
 unfold aI at e
 by_cases hi:i<ts.length
 ·rw[KL (by simpa using hi),Kz,Kq hi]at e
  cases e
 ·rw[Lo (by simpa using hi),K8]at e
  split at e <;> cases e
theorem i7 {K:J5}{O:Ow}{H:Hp}{N:List Str}{ts:List T}{vs:List V}(r:Reps K O H ts vs)(hl:ts.length<=N.length)(trk:∀a,O a->Mtb H a):Ev K O noM H (aI N.length ts) (start N vs):=by
 have hlen:=r.length
 have sub:∀a,OO O noM a->O a:=λa z=>z.elim id λ⟨_,w⟩=>w.elim
 refine⟨⟨by unfold aI L2.start;simp;omega,λi t e=> ?_,λi o e=>(xK e).elim,λ_ _ z=>z.elim,λ_ _ _ z=>z.elim,λa z=>trk a (sub a z)⟩,λa ⟨_,z⟩=>z.elim⟩
 unfold aI at e;unfold L2.start
 by_cases hi:i<ts.length
 ·rw[KL (by simpa using hi),Kz,Kq hi]at e
  have e':ts[i] =t:=by injection e with e;injection e
  obtain⟨v,e1,e2⟩:=r.get (i:=i) (t:=t) (by rw[<-e'];simp)
  refine⟨v,?_,e2.less sub⟩
  rw[KL (by simp;omega),Kz,e1];rfl
 ·rw[Lo (by simpa using hi),K8]at e
  split at e <;> cases e
section
variable {P:KA}{w:K1}{K:J5}{mg:Str->Option J7}{base:Heap}
theorem IE {x qual:Str}{st:Stmt}{f:Addr}{fd:KY}{N ps:List Str}{k n:Nat}{g:List T->Rs T}(Fn:L2.Fun K x qual st f fd)(S:ay N ps (ai st))(hn:ps.length=n)
  (hbody:∀(cdv:J7) (A:KP) (outer:List Env) (s:J9) (H:Hp) (E:XK),Room k (A.deeper (envOfC qual (ai st) s.heap.objs.size f cdv)) →
   ∃F,jV (fm CX0 P w K mg base N qual (ai st) f cdv A outer s H E).nox (bu st) F/\∀ts,ts.length=n->∀t,g ts= .ok t->bw F (aI N.length ts)= .ok t):FnOk P w K mg base CX0 (k+1) f fd ps (spP K n g):=by
 have hpl:ps.length<=N.length:=by have:=congrArg LQ S.pre;rw[Lh]at this;omega
 refine Fn.ok S (λvs H Q E h=> ?_) (λcdv A outer s H vs Q E hr h=> ?_)
 ·obtain⟨ts,O,r,_,hl,_⟩:=h
  rw[<-r.length,hl,hn]
 ·obtain⟨ts,O,r,trk,hl,h⟩:=h
  obtain⟨F,hF,hv⟩:=hbody cdv A outer s H E hr;refine⟨_,hF,aI N.length ts,O,noM,i7 r (by omega) trk,?_⟩
  have no:∀a,¬noM.u a:=λa ⟨_,z⟩=>z
  cases q:g ts with
  | bad=>rw[q]at h;exact h.elim
  | err c=>rw[q]at h;exact h.elim
  | ok t=>
   rw[q]at h
   have hb:=hv ts hl t q;unfold bw at hb
   cases q2:F (aI N.length ts)with
   | bad=>rw[q2]at hb;cases hb
   | err c=>rw[q2]at hb;cases hb
   | ok fl=>
    rw[q2,az]at hb
    have sameOf:∀H',SameO noM.u H H'->Same H H':=λH' s b o e=>s b o e (no b)
    cases fl with
    | nx Z'=>cases hb;exact λσ' H' M' s' E' o'=>h .non H' (sameOf H' s') Rep.JJ
    | rt t'=>cases hb;exact λv H' s' r'=>h v H' (sameOf H' s') r'
    | bk Z'=>cases hb
    | ct Z'=>cases hb
end
end Tr
namespace Enu
open PySem
open AutoSeq1 (wpAny_loadPart')
section
variable {prog:KA}{w:K1}{A:KP}{E:J7->J9->Prop}{s:J9}
theorem BO {it tt:Addr}{k:Nat}{its:Array J7}{x:J7}{Q:J7->J9->Prop}(hi:s.heap.IsTupleIter it tt k)(ht:s.heap.IsTuple tt its)(hx:its[k]? =some x)
  (hQ:∀h',h'.IsTupleIter it tt (k+1)->Nc it s.heap h'->Q x { s with heap:=h' }):wpAny (model prog w) A (LY (.ref it)) Q E s:=by
 obtain⟨ob,g1,g2,g3⟩:=id hi;obtain⟨ot,k1,_,m,k3⟩:=ht;unfold LY;refine Kb (LK (name:=Kk "__next__") hi.typeIs LS (ME LS hi.typeIs Nx ?_ (Nn _)))
 show wpAny (model prog w) _ (field (.ref it) 0 >>= _) _ _ s
 refine Kb (L3 g1 g3 (x:=.ref tt) rfl ?_)
 show wpAny (model prog w) _ (if (KG tt == KR)=true then _ else _) _ _ s
 rw[if_neg (show ¬((KG tt == KR)=true)by exact Kt)]
 show wpAny (model prog w) _ (field (.ref it) 1 >>= _) _ _ s
 refine Kb (L3 g1 g3 (x:=.int k 0) rfl ?_)
 show wpAny (model prog w) _ (seqItems? (.ref tt) >>= _) _ _ s
 refine Kb (O9 k1 k3 ?_)
 simp only[hx,Lv];refine Kb (Pa g1 g3 (by simp) (Kp ⟨x,rfl,Kp (hQ _ ?_ (Pb ..))⟩))
 refine⟨_,Oz _ g1 (OA (MO g3 _)),(Obj.cls_mapFields ..).trans g2,?_⟩
 rw[MO g3];simp[rawInt]
theorem tupStop {it tt:Addr}{k:Nat}{its:Array J7}{Q:J7->J9->Prop}(hh:A.handled=none)(hi:s.heap.IsTupleIter it tt k)(ht:s.heap.IsTuple tt its)(hx:its[k]? =none)
  (hE:∀h' e,Heap.ExtBut it s.heap h'->(∃o,h'.get? e=some o/\o.cls= .type "StopIteration")->E (.ref e) { s with heap:=h' }):wpAny (model prog w) A (LY (.ref it)) Q E s:=by
 obtain⟨ob,g1,g2,g3⟩:=id hi;obtain⟨ot,k1,_,m,k3⟩:=ht;unfold LY;refine Kb (LK (name:=Kk "__next__") hi.typeIs LS (ME LS hi.typeIs Nx ?_ (Nn _)))
 show wpAny (model prog w) _ (field (.ref it) 0 >>= _) _ _ s
 refine Kb (L3 g1 g3 (x:=.ref tt) rfl ?_)
 show wpAny (model prog w) _ (if (KG tt == KR)=true then _ else _) _ _ s
 rw[if_neg (show ¬((KG tt == KR)=true)by exact Kt)]
 show wpAny (model prog w) _ (field (.ref it) 1 >>= _) _ _ s
 refine Kb (L3 g1 g3 (x:=.int k 0) rfl ?_)
 show wpAny (model prog w) _ (seqItems? (.ref tt) >>= _) _ _ s
 refine Kb (O9 k1 k3 ?_)
 simp only[hx,Lv];refine Kb (PZ (Kb (Pa g1 g3 (by simp) ?_)))
 show wpAny (model prog w) _ (newExc (.type "StopIteration") [] >>= _) _ _ _
 refine Kb ?_
 simp only[newTuple,newExc];refine Kb (Lz ?_ (by size_fits))
 refine Kb (m:=firstArgMember _ _) (wpAny_of_eq (a:=KR) (by first | (simp only[firstArgMember];rfl) | rfl) ?_)
 refine Lz ?_ (by size_fits)
 simp only[raiseNew];refine Kb (wpAny_handled ?_)
 first | rw[hh] | rw[show A.in1.handled=none from hh]
 refine Kb (Kp (wpAny_throw ?_))
 refine hE _ _ (((Pb ..).extBut.push _).push _) ⟨_,Kw _ rfl,rfl⟩
end
theorem tupDraws {prog:KA}{w:K1}{A:KP}(hh:A.handled=none)(it tt:Addr)(hne:tt≠it)(its:Array J7) :
  Draws prog w A it [it,tt] its.size (λi v=>its[i]? =some v) (λi h=>h.IsTupleIter it tt i/\h.IsTuple tt its) where
 live:=λ_ _ st=>by obtain⟨o,ho,_⟩:=st.1;exact⟨o,ho⟩
 frame:=λ_ _ _ st hk=>by
  obtain⟨⟨o,e,r⟩,⟨o',e',r'⟩⟩:=st;exact⟨⟨o,hk it (by simp) o e,r⟩,⟨o',hk tt (by simp) o' e',r'⟩⟩
 item:=λi s Q E hi st hQ=>by
  refine BO st.1 st.2 (x:=its[i]) (by simp[hi]) λh' hit' hs'=> ?_
  obtain⟨o',e',r'⟩:=st.2;exact hQ _ h' s.toks (by simp[hi]) ⟨hit',⟨o',(hs'.2 tt hne).trans e',r'⟩⟩ hs'
 done:=λs Q E st hE=>tupStop hh st.1 st.2 (by simp) hE
theorem newT (l:Addr)(items:Array J7)(n:Nat)(dct:Option Addr)(sl:Array (Option J7)) :
  Meets (Builtin.«enumerate.__new__» ⟨[.type "enumerate",.ref l],[]⟩) (λ_ R s=>s.heap.get? l=some { cls:=.type "tuple",dict:=dct,data:=.seq items n,slots:=sl } ∧
   R (.ok (.ret (.ref (s.heap.push { cls:=.type "tuple_iterator",data:=.fields #[.ref l,.int 0 0] }).objs.size)))
    { s with heap:=(s.heap.push { cls:=.type "tuple_iterator",data:=.fields #[.ref l,.int 0 0] }).push { cls:=.type "enumerate",data:=.fields #[.none,.bool false,.ref s.heap.objs.size,rawInt 0,.none,.none] } }):=
 .of_wp λprog w A R s h=>by
  obtain⟨hp,g,d,tk,os⟩:=s;obtain⟨hl,h⟩:=h
  have hsub:=sub_enumerate
  have hT:Heap.IsTuple (Shared.heap ⟨hp,g,d,tk,os⟩) l items:=⟨_,hl,rfl,n,rfl⟩
  wp_walk using Mf hl
  refine wpAny_stack_any λst=>Kp ?_
  split
  ·rename_i c _ _ _ _ _
   cases (c == Np "enumerate")
   ·wp_walk using Mf hl,MT hT
    exact⟨_,rfl,h⟩
   ·wp_walk using Mf hl,MT hT
    exact⟨_,rfl,h⟩
  ·wp_walk using Mf hl,MT hT
   exact⟨_,rfl,h⟩
theorem callT {prog:KA}{w:K1}{A:KP}{E:J7->J9->Prop}{s:J9}{l:Addr}{items:Array J7}{Q:J7->J9->Prop}(hL:s.heap.IsTuple l items)
  (h:∀h',IsEnum h' (s.heap.objs.size+1) s.heap.objs.size 0 .none->h'.IsTupleIter s.heap.objs.size l 0->h'.objs.size=s.heap.objs.size+2 →
   (∀b o,s.heap.get? b=some o->h'.get? b=some o)->Q (.ref (s.heap.objs.size+1)) { s with heap:=h' }):wpAny (model prog w) A (call (.type "enumerate") [.ref l]) Q E s:=by
 obtain⟨⟨cc,dc,dd,ss⟩,hl,hc,n,hd⟩:=hL
 replace hc:cc= .type "tuple":=hc
 replace hd:dd= .seq items n:=hd
 subst hc hd;refine callType_new F.called_enumerate (by decide) (F.typeCall_enumerate_1 _) (F.newCall_enumerate_1 _) (λobj=>F.args_object_init_2 obj _) F.entry_enumerate_new (newT l items n dc ss) ⟨hl,?_⟩
 have hz:(s.heap.push { cls:=.type "tuple_iterator",data:=.fields #[.ref l,.int 0 0] }).objs.size=s.heap.objs.size+1:=LZ ..
 show _/\_
 rw[hz]
 have he:IsEnum ((s.heap.push { cls:=.type "tuple_iterator",data:=.fields #[.ref l,.int 0 0] }).push
   { cls:=.type "enumerate",data:=.fields #[.none,.bool false,.ref s.heap.objs.size,rawInt 0,.none,.none] }) (s.heap.objs.size+1) s.heap.objs.size 0 .none:=by
  have q:=Kw (s.heap.push { cls:=.type "tuple_iterator",data:=.fields #[.ref l,.int 0 0] })
   (o:={ cls:=.type "enumerate",data:=.fields #[.none,.bool false,.ref s.heap.objs.size,rawInt 0,.none,.none] }) rfl
  rw[hz]at q;exact q
 refine⟨⟨_,he,rfl⟩,h _ he ⟨_,Kg _ (Kw _ rfl),rfl,rfl⟩ (by rw[LZ,hz]) λb o x=>Kg _ (Kg _ x)⟩
end Enu
namespace L2
open PySem PySem.Spec PyProof.Rows
section
variable {X:Cx}{pins:List (Addr×Obj)}{σ:L2.St}{H:Hp}{s:J9}{h':Heap}
theorem Inv.JK {t':Nat}{fp:List Addr}{Tp:Addr}{xs:List V}(I:Inv X pins σ H s)(hf:∀b∈fp,oH X pins H b)(k:∀b o,b∉fp->s.heap.get? b=some o->h'.get? b=some o)
  (ht:∀b∈fp,∃o,h'.get? b=some o) (hT:s.heap.objs.size<=Tp) (new:ObjOk X.prog X.w (upd H Tp (.tup xs)) h' Tp (.tup xs)):Inv X pins σ (upd H Tp (.tup xs)) { s with heap:=h',toks:=t' }:=by
 have hn:H Tp=none:=I.hok.fresh hT
 have kM:∀b o,s.heap.get? b=some o->b≠Tp:=λb o e=>Lk (Ks (Kl e) hT)
 have nf:∀b u,H b=some u->b∉fp:=λb u e z=>by rw[(hf b z).1]at e;cases e
 refine I.step (g':=s.gens) (d':=s.drawn) (ch:=fp) (λb hb=>⟨(hf b hb).2.2.2.1,(hf b hb).2.1,(hf b hb).2.2.2.2.1,(hf b hb).2.2.2.2.2⟩) (λb o _ _ hc e _=>k b o hc e) (λb o _ _ hc e _=>⟨o.slots,k b o hc e⟩)
  (λb o _ e n=>by rw[aE (kM b o e)];exact n) (λb o hc e=>⟨o,k b o hc e⟩) (λb ys e=>by rw[aE (bS e hn)];exact e) (λb o u e=>by rw[aE (bS e hn)];exact e)
  (λb ps e=>⟨#[],by rw[aE (bS e hn),e];simp⟩) (λm hm=> ?_) (λb u e=> ?_) I.bare
 ·obtain⟨o,es,ep,ho,r⟩:=hm
  exact⟨o,es,ep,k _ o (λz=>(hf _ z).2.1 rfl) ho,r⟩
 ·by_cases hb:b=Tp
  ·subst hb;rw[aO]at e;cases e;exact new
  ·rw[aE hb]at e
   refine(I.hok b u e).Jt (λc v hc q=>k c v ?_ q) (λc q=>by rw[aE (bS q hn)];exact q) λc ys q=>by rw[aE (bS q hn)];exact q
   rcases hc with z | z
   ·rw[z];exact nf b u e
   ·exact nf c _ z
theorem Inv.Jz {t':Nat}{fp:List Addr}(I:Inv X pins σ H s)(hf:∀b∈fp,oH X pins H b)(k:∀b o,b∉fp->s.heap.get? b=some o->h'.get? b=some o):Inv X pins σ H { s with heap:=h',toks:=t' }:=by
 have nf:∀b u,H b=some u->b∉fp:=λb u e z=>by rw[(hf b z).1]at e;cases e
 refine I.step (g':=s.gens) (d':=s.drawn) (ch:=fp) (λb hb=>⟨(hf b hb).2.2.2.1,(hf b hb).2.1,(hf b hb).2.2.2.2.1,(hf b hb).2.2.2.2.2⟩) (λb o _ _ hc e _=>k b o hc e) (λb o _ _ hc e _=>⟨o.slots,k b o hc e⟩)
  (λb o _ e n=>n) (λb o hc e=>⟨o,k b o hc e⟩) (λb ys e=>e) (λb o u e=>e)
  (λb ps e=>⟨#[],by rw[e];simp⟩) (λm hm=> ?_) (λb u e=> ?_) I.bare
 ·obtain⟨o,es,ep,ho,r⟩:=hm
  exact⟨o,es,ep,k _ o (λz=>(hf _ z).2.1 rfl) ho,r⟩
 ·refine(I.hok b u e).Jt (λc v hc q=>k c v ?_ q) (λc q=>q) λc ys q=>q
  rcases hc with z | z
  ·rw[z];exact nf b u e
  ·exact nf c _ z
end
def Bu (K:J5)(H:Hp)(a:Addr)(tt:Bool)(xs:List V):Prop:=if tt then SqT K H a xs else SqL K H a xs
def Jm (K:J5)(a:Addr)(tt:Bool):It:=
 ⟨λi H=> ∃xs x,Bu K H a tt xs/\xs[i]? =some x,λi H x H'=> ∃p v,x= .ref p/\H p=none/\H'=upd H p (.tup [.int (i:Nat),v])/\∀xs,Bu K H a tt xs->xs[i]? =some v,λi H=> ∃xs,Bu K H a tt xs/\xs.length<=i⟩
def itAt (tt:Bool)(h:Heap)(it a:Addr)(i:Nat):Prop:=if tt then h.IsTupleIter it a i else h.IsListIter it a i
theorem itAt.obj {tt:Bool}{h:Heap}{it a:Addr}{i:Nat}(st:itAt tt h it a i):∃o,h.get? it=some o/\∀v,o.data≠ .cell v:=by
 cases tt with
 | true=>obtain⟨o,e,c,d⟩:=(show h.IsTupleIter it a i from st);exact⟨o,e,λv z=>by rw[d]at z;cases z⟩
 | false=>obtain⟨o,e,c,d⟩:=(show h.IsListIter it a i from st);exact⟨o,e,λv z=>by rw[d]at z;cases z⟩
theorem itAt.keep {tt:Bool}{h h':Heap}{it a:Addr}{i:Nat}(st:itAt tt h it a i)(k:∀o,h.get? it=some o->h'.get? it=some o):itAt tt h' it a i:=by
 cases tt with
 | true=>obtain⟨o,e,r⟩:=(show h.IsTupleIter it a i from st);exact(show h'.IsTupleIter it a i from⟨o,k o e,r⟩)
 | false=>obtain⟨o,e,r⟩:=(show h.IsListIter it a i from st);exact(show h'.IsListIter it a i from⟨o,k o e,r⟩)
theorem xI {P:KA}{w:K1}{K:J5}{elts:List Expr}{kk:Nat}{pos:Pos}(tt:Bool)(a e it:Addr)(hei:e≠it) :
  yC P w K (.Tuple elts kk pos) (Jm K a tt) [e,it] e (λi h=>(∃old,IsEnum h e it i old)/\itAt tt h it a i) where
 mem:=by simp
 obj:=λi h st b hb=>by
  obtain⟨⟨old,he⟩,hi⟩:=st;rcases Kf.mp hb with rfl | hb
  ·exact⟨_,he,λv z=>by have z':QK _=Data.cell v:=z;cases z'⟩
  ·rw[Km.mp hb];exact hi.obj
 keep:=λi h h' st k=>by
  obtain⟨⟨old,he⟩,hi⟩:=st;exact⟨⟨old,k e (by simp) _ he⟩,hi.keep λo q=>k it (by simp) o q⟩
 item:=by
  intro X hP hw hK hc i pins s σ H E I hf st hg;subst hP hw hK;obtain⟨xs,x,hq,hx⟩:=hg;obtain⟨⟨old,he⟩,hi⟩:=st
  -- by what is walked
  have key:∀(its:List J7),Vals xs its->(∀ys,Bu X.K H a tt ys->ys=xs)->∀(fp0:List Addr) (St:Nat->Heap->Prop),Draws X.prog X.w X.A.in1 it fp0 its.toArray.size (λi v=>its.toArray[i]? =some v) St->e∉fp0->it∈fp0->St i s.heap →
    (∀h',St (i+1) h'->itAt tt h' it a (i+1)) →
    wpAny (model X.prog X.w) X.A (pyNext (.ref e)) (λr s1=> ∃u,r=some u/\wpAny (model X.prog X.w) X.A (MS (.Tuple elts kk pos) (.ref e) u) (λ_ s2=> ∃x' H',Inv X pins σ H' s2/\RelV x' u/\(Jm X.K a tt).yld i H x' H' ∧
     ((∃old,IsEnum s2.heap e it (i+1:Nat) old)/\itAt tt s2.heap it a (i+1))/\∀b∈ [e,it],H' b=none) E s1) E s:=by
   intro its rv uniq fp0 St D hef hif hst hnext;obtain⟨u,hu,ru⟩:=rv.get hx
   have hlt:i<its.toArray.size:=by
    have:=(Ki.mp hu).1
    simpa using this
   have W:=WalksT.enumerateD D e hei hef hif;refine W.item i s _ _ hlt ⟨⟨old,he⟩,hst⟩ λTp vals h1 tk hPt hTsz hTup hMid hk=>⟨.ref Tp,rfl,?_⟩
   refine W.go elts kk pos i Tp { s with heap:=h1,toks:=tk } _ _ hMid λh2 hst2 hk2=> ?_
   obtain⟨t,x',hPx,hvals⟩:=hPt;subst hvals
   have hxe:x'=u:=by
    have h1':its.toArray[i]? =some x':=hPx
    have h2':its.toArray[i]? =some u:=by simpa using hu
    rw[h1']at h2';exact KS h2'
   subst hxe
   have hTw:=W.apart i Tp h1 hMid;obtain⟨oT,eT,rT⟩:=hTup
   have eT2:h2.get? Tp=some oT:=hk2 Tp oT hTw eT
   have kAll:∀b o,b∉ [e,it]->s.heap.get? b=some o->h2.get? b=some o:=λb o hb q=>hk2 b o hb (hk b o hb q)
   obtain⟨⟨old2,he2⟩,hs2⟩:=hst2
   have hit2:=hnext h2 hs2
   have there:∀b∈ [e,it],∃o,h2.get? b=some o:=λb hb=>by
    rcases Kf.mp hb with rfl | hb
    ·exact⟨_,he2⟩
    ·rw[Km.mp hb];obtain⟨o,q,_⟩:=hit2.obj;exact⟨o,q⟩
   have hn:H Tp=none:=I.hok.fresh hTsz
   have new:ObjOk X.prog X.w (upd H Tp (.tup [.int (i:Nat),x])) h2 Tp (.tup [.int (i:Nat),x]):=
    ⟨by show 2<=sizeLine;decide,[.int (i:Nat) t,x'],.cons ⟨t,rfl⟩ (.cons ru .nil),⟨oT,eT2,rT⟩⟩
   have I2:=I.JK (t':=tk) hf kAll there hTsz new;refine⟨.ref Tp,_,I2,rfl,⟨Tp,x,rfl,hn,rfl,λys hy=>by rw[uniq ys hy];exact hx⟩,⟨⟨old2,he2⟩,hit2⟩,λb hb=> ?_⟩
   have hbT:b≠Tp:=λz=>by
    obtain⟨o,q⟩:∃o,s.heap.get? b=some o:=by
     rcases Kf.mp hb with rfl | hb
     ·exact⟨_,he⟩
     ·rw[Km.mp hb];obtain⟨o,q,_⟩:=hi.obj;exact⟨o,q⟩
    exact absurd (Ks (Kl q) hTsz) (by rw[z];exact KI _)
   rw[aE hbT];exact(hf b hb).1
  have hne:∀b∈ [e,it],a≠b:=λb hb z=>by
   have hb':=(hf b hb).1;rw[<-z]at hb'
   have hbs:=hf b hb
   cases tt with
   | true=>
    have hq':SqT X.K H a xs:=hq;rcases hq' with(q | ⟨o,q⟩) | ⟨o,its,n,q,_⟩
    ·rw[hb']at q;cases q
    ·rw[hb']at q;cases q
    ·rcases hbs.2.2.2.1 with z1 | z1
     ·exact I.ok.noex a o (I.ok.mod.kin a o q) (z▸z1)
     ·exact absurd (Ks (Kl (I.ok.bs a o (I.ok.mod.kin a o q)).1) (z▸z1)) (KI _)
   | false=>
    have hq':SqL X.K H a xs:=hq;rcases hq' with(q | ⟨o,q⟩) | ⟨o,its,n,q,_⟩
    ·rw[hb']at q;cases q
    ·rw[hb']at q;cases q
    ·rcases hbs.2.2.2.1 with z1 | z1
     ·exact I.ok.noex a o (I.ok.mod.kin a o q) (z▸z1)
     ·exact absurd (Ks (Kl (I.ok.bs a o (I.ok.mod.kin a o q)).1) (z▸z1)) (KI _)
  have hea:e≠a:=λz=>hne e (by simp) z.symm
  have hia:it≠a:=λz=>hne it (by simp) z.symm
  cases tt with
  | true=>
   have hq':SqT X.K H a xs:=hq;obtain⟨its,rv,p,hz⟩:=I.tuple hq'
   exact key its rv (λys hy=>I.Jy hy hq') _ _ (Enu.tupDraws (A:=X.A.in1) (I.ok.hd hc) it a (Mv hia) its.toArray) (by simp[hei,hea]) (by simp) ⟨hi,p⟩ λh' z=>z.1
  | false=>
   have hq':SqL X.K H a xs:=hq;obtain⟨its,rv,p,hz⟩:=I.list hq';exact key its rv (λys hy=>I.Jx hy hq') _ _ (Draws.list (A:=X.A.in1) (I.ok.hd hc) it a (Mv hia) its.toArray) (by simp[hei,hea]) (by simp) ⟨hi,p.isList⟩ λh' z=>z.1
 done:=by
  intro X hP hw hK hc i pins s σ H E I hf st hg;subst hP hw hK;obtain⟨xs,hq,hx⟩:=hg;obtain⟨⟨old,he⟩,hi⟩:=st
  have fin:∀h',Heap.ExtBut it s.heap h'->(none:Option J7)=none/\Inv X pins σ H { s with heap:=h' }:=λh' eb=>⟨rfl,I.Jz (t':=s.toks) hf λb o hb q=>eb b o (λz=>hb (by simp[z])) q⟩
  cases tt with
  | true=>
   have hq':SqT X.K H a xs:=hq;obtain⟨its,rv,p,hz⟩:=I.tuple hq'
   have hl:=rv.length
   have hnone:its.toArray[i]? =none:=by simp;omega
   have hT:s.TypeIs (.ref e) "enumerate":=⟨_,he,rfl⟩;unfold pyNext;refine Kb (wpAny_attempt (LK (name:=Kk "__next__") hT OB (ME OB hT F.entry_enumerate_next ?_ (F.args_enumerate_next_1 _))))
   show wpAny (model X.prog X.w) _ (field (.ref e) 2 >>= _) _ _ _
   refine Kb (L3 he rfl (x:=.ref it) rfl ?_)
   refine Kb (Enu.tupStop (I.ok.hd hc) hi p hnone λh' x he' hx'=> ?_)
   obtain⟨o,ho,hcl⟩:=hx'
   exact Kb (wpAny_isInstance (T:="StopIteration") (b:=true) ⟨o,ho,hcl⟩ isSubtype_stop (Kp (fin h' he')))
  | false=>
   have hq':SqL X.K H a xs:=hq;obtain⟨its,rv,p,hz⟩:=I.list hq'
   have hl:=rv.length
   have hnone:its.toArray[i]? =none:=by simp;omega
   exact wpAny_pyNext_enum_end (I.ok.hd hc) he hi p.isList hnone fin
 self:=λ_ _ _ _ _ st h=>by
  obtain⟨⟨old,he⟩,_⟩:=st;exact P4 he h
section
variable {X:Cx}{elts:List Expr}{kk:Nat}{tpos:Pos}
theorem oA:KQ "enumerate" =some (.type "enumerate"):=by decide+kernel
def iEnu (K:J5)(tl:TA):TI:=λσ H R=>tl σ H λvs H1=> ∃a tt,vs= [.ref a]/\(∃xs,Bu K H1 a tt xs)/\R (Jm K a tt) H1
theorem Cw {l:Expr}{tl:TA}{p pos:Pos}(hg:Gl X "enumerate")(hm:X.mg "enumerate" =none)(hl:PA X [l] tl)(hs:autoParam (Kn [l] X.env= [(false,eval l X.env)]) aqd._auto_1):PI X (.Tuple elts kk tpos) (.Call (.Name "enumerate" p) [l] [] pos) (iEnu X.K tl):=by
 intro pins s σ H R I h;refine Call_ (gC I hg hm oA (Lb (bN (hl pos pins s σ H _ I h) λus s1 ⟨vs,H1,I1,r1,q1⟩=> ?_) hs rfl))
 obtain⟨a,tt,e,⟨xs,hq⟩,q⟩:=q1;subst e;obtain⟨u,rfl,ru⟩:=jo r1;cases ru
 have fin:∀h',IsEnum h' (s1.heap.objs.size+1) s1.heap.objs.size 0 .none->itAt tt h' s1.heap.objs.size a 0->h'.objs.size=s1.heap.objs.size+2->(∀b o,s1.heap.get? b=some o->h'.get? b=some o) →
   wpAny (model X.prog X.w) X.A (pyIter (.ref (s1.heap.objs.size+1))) (PIE X pins σ (.Tuple elts kk tpos) R) X.xe { s1 with heap:=h' }:=λh' he hi hsz hk=>by
  refine P4 he ?_
  have I2:Inv X pins σ H1 { s1 with heap:=h' }:=I1.kept (t':=s1.toks) hk
  refine⟨s1.heap.objs.size+1,[s1.heap.objs.size+1,s1.heap.objs.size],_,_,H1,rfl,I2,xI tt a (s1.heap.objs.size+1) s1.heap.objs.size (Nat.succ_ne_self _),⟨⟨_,he⟩,hi⟩,λb hb=> ?_,q⟩
  rcases Kf.mp hb with rfl | hb
  ·exact I1.JD (by omega) (I1.hok.fresh (by omega))
  ·rw[Km.mp hb];exact I1.JD (Kj _) (I1.hok.fresh (Kj _))
 cases tt with
 | true=>
  have hq':SqT X.K H1 a xs:=hq;obtain⟨its,rv,pl,hz⟩:=I1.tuple hq'
  exact Enu.callT pl λh' he hi hsz hk=>fin h' he hi hsz hk
 | false=>
  have hq':SqL X.K H1 a xs:=hq;obtain⟨its,rv,pl,hz⟩:=I1.list hq';exact call_enumerate_list pl.isList λh' he hi hsz hk=>fin h' he hi hsz hk
end
end L2
namespace Tr
open PySem PySem.Spec PyProof.Rows L2
section
variable {X:Cx}{a:Expr}{fa:En->Rs T}{fs:En->Rs (List T)}{p pos:Pos}
def iS (f:En->Rs T)(Z:En):Rs (List T):=do
 let x <-f Z
 match x with
 | .lst l=> .ok l
 | .tup l=> .ok l
 | _=> .bad
theorem ET {tg:Expr}(ha:b6 X a fa):Bg X tg a (iS fa):=by
 intro pins s σ H R I ⟨Z,O,E,h⟩;unfold iS at h
 cases q:fa Z with
 | bad=>rw[q]at h;exact h.elim
 | err c=>exact v7 ha pins s σ H R I ⟨Z,O,E,by unfold iL;rw[q]at h ⊢;exact h⟩
 | ok x=>
  rw[q,az]at h
  cases x with
  | lst l=>exact v7 ha pins s σ H R I ⟨Z,O,E,by unfold iL;rw[q];exact h⟩
  | tup l=>exact ES ha pins s σ H R I ⟨Z,O,E,by unfold iT;rw[q];exact h⟩
  | _=>exact h.elim
def cJ:Nat->List T->List T
 | _,[] => []
 | n,t::r=> .tup [.int n,t] ::cJ (n+1) r
theorem pW:∀(l:List T) (n i:Nat),(cJ n l)[i]? =(l[i]?).map λt=>T.tup [.int ((n+i:Nat):Int),t]
 | [],n,i=>by simp[cJ]
 | t::l,n,0=>by simp[cJ]
 | t::l,n,i+1=>by
  rw[cJ,Ln,pW l (n+1) i,Ln]
  congr 2
  funext t
  congr 4
  omega
theorem pV:∀(l:List T) (n:Nat),(cJ n l).length=l.length
 | [],n=>rfl
 | t::l,n=>by rw[cJ,Kd,Kd,pV l]
def iE (f:En->Rs (List T))(Z:En):Rs (List T):=do
 let xs <-f Z
 match xs with
 | [x] =>match x.items with
  | some l=> .ok (cJ 0 l)
  | none=> .bad
 | _=> .bad
theorem Cc {elts:List Expr}{kk:Nat}{tpos:Pos}(hm:X.mg "enumerate" =none)(ha:pv X [a] fs)(hg:autoParam (Gl X "enumerate") aqd._auto_1)(hs:autoParam (Kn [a] X.env= [(false,eval a X.env)]) aqd._auto_1) :
  Bg X (.Tuple elts kk tpos) (.Call (.Name "enumerate" p) [a] [] pos) (iE fs):=PI.imp (Cw hg hm ha hs) λσ H R hh_=>by
 obtain⟨Z,O,E,h⟩:=hh_;obtain⟨Z1,O1,E1,h1⟩:=fw E h;refine⟨Z1,O1,E1,Post.mono h1 λts H1 s1 q vs r=> ?_⟩
 obtain⟨t',r',s',E',q'⟩:=q vs r
 split at q'
 ·rename_i x0
  obtain⟨v,rfl,rv⟩:=r'.one
  split at q'
  ·rename_i l hl
   have main:∀(aa:Addr) (tt:Bool) (ws:List V),v= .ref aa->¬ O aa->Reps X.K O H1 l ws->Bu X.K H1 aa tt ws->(∀P Hc,SameO P H1 Hc->¬ P aa->Bu X.K Hc aa tt ws)->¬ Nw X.K H1 aa →
     ∃a tt,[v] = [V.ref a]/\(∃xs,Bu X.K H1 a tt xs)/\R (Jm X.K a tt) H1:=λaa tt ws e n z sq mv nn=>by
    refine⟨aa,tt,by rw[e],⟨ws,sq⟩,q' H1 (Same.refl H1) _ λP O' hP hO i Hc hsm htr=> ?_⟩
    have hnP:¬ P aa:=λy=>(hP aa y).elim n nn
    have sqc:=mv P Hc hsm hnP;refine⟨λhi=>⟨ws,sqc,by rw[<-z.length,<-pV l 0];exact hi⟩,λt ht=> ?_⟩
    rw[pW]at ht
    cases e1:l[i]? with
    | none=>rw[e1]at ht;cases ht
    | some t0=>
     rw[e1]at ht;cases ht;obtain⟨v0,f1,f2⟩:=z.get e1;refine⟨⟨ws,v0,sqc,f1⟩,λx Hc' y=> ?_⟩
     obtain⟨pp,vv,e2,hpn,e3,hy⟩:=y
     have:=hy ws sqc;rw[f1]at this;cases this;subst e2 e3;refine⟨a8 hpn _,gn hpn (λzz=> ?_) (Reps.FS (by simpa using Rep.GT _) (Reps.FS (f2.move hP hO hsm) Reps.Gc))⟩
     obtain⟨o,w⟩:=htr pp zz;rw[hpn]at w;cases w
   cases x0 with
   | tup m=>
    cases hl;obtain⟨aa,ws,e,n,qq,z⟩:=Rep.Fk.mp rv
    exact main aa true ws e n z (show SqT X.K H1 aa ws from SqT.of qq) (λP Hc hsm hn=>show SqT X.K Hc aa ws from SqT.of (hsm _ _ qq hn)) λw=>by rw[w.1]at qq;cases qq
   | lst m=>
    cases hl;obtain⟨aa,ws,e,n,qq,z⟩:=Rep.Do.mp rv
    exact main aa false ws e n z (show SqL X.K H1 aa ws from SqL.of qq) (λP Hc hsm hn=>show SqL X.K Hc aa ws from SqL.of (hsm _ _ qq hn)) λw=>by rw[w.1]at qq;cases qq
   | scr m=>
    cases hl;unfold Rep at rv;obtain⟨aa,e,n,qq⟩:=rv
    exact main aa false _ e n Reps.ints (show SqL X.K H1 aa _ from qq) (λP Hc hsm hn=>show SqL X.K Hc aa _ from Tr.SqL.keep hsm hn qq) (Tr.SqL.nn qq)
   | _=>cases hl
  ·exact q'.elim
 ·exact q'.elim
end
end Tr
namespace Tm
open PySem PyProof.Rows
theorem kY:fillsNumberSlot (.type "tuple") "mul" =pure false:=
 PySem.fillsNumberSlot_seq (id:="tuple.__mul__") (r:=some (.builtin "tuple.__rmul__")) Oj.lookup (by decide+kernel) PR.lookup (by decide+kernel)
theorem qH:seqRepeat? (.type "tuple")=pure (some (.builtin "tuple.__mul__")):=by
 unfold seqRepeat?;rw[Qs (T:="tuple") (name:="__mul__") (id:="tuple.__mul__") Oj.lookup (by decide+kernel),Qs (T:="tuple") (name:="__rmul__") (id:="tuple.__rmul__") PR.lookup (by decide+kernel)]
 rfl
theorem uP (a:Int)(t:Tok)(l:Addr)(items:Array J7)(n:Nat)(dd:Option Addr)(sl:Array (Option J7)) :
  Meets (Builtin.«int.__rmul__» ⟨[.int a t,.ref l],[]⟩) (λ_ R s=>s.heap.get? l=some { cls:=.type "tuple",dict:=dd,data:=.seq items n,slots:=sl }/\R (.ok (.ret Value.notImplemented)) s):=
 .of_wp λprog w A R s h=>by obtain⟨hp,g,d,tk,os⟩:=s;obtain⟨hl,h⟩:=h;wp_walk;exact⟨_,rfl,h⟩
open AutoSeq1 (wpAny_loadPart')
theorem zM (l:Addr)(items:Array J7)(n:Nat)(dd:Option Addr)(sl:Array (Option J7))(x:Int)(u:Tok)(h1:1<x)(h2:x<2 ^ 31)(hne:items.isEmpty=false)(hz:items.size*x.toNat<=sizeLine)
  (hz2:(NV (λa b=>a++b) #[] (Kx x.toNat items)).size<=sizeLine) :
  Meets (Builtin.«tuple.__mul__» ⟨[.ref l,.int x u],[]⟩) (λ_ R s=>s.heap.get? l=some { cls:=.type "tuple",dict:=dd,data:=.seq items n,slots:=sl } ∧
   R (.ok (.ret (KG s.heap.objs.size))) { s with heap:=s.heap.push { cls:=Np "tuple",data:=Data.seq (NV (λa b=>a++b) #[] (Kx x.toNat items)) } }):=
 .of_wp λprog w A R s h=>by
  obtain⟨hp,g,d,tk,os⟩:=s;obtain⟨hl,h⟩:=h
  have hT:Q6 hp l items:=⟨_,hl,rfl,n,rfl⟩
  have hx:((items.size:Nat):Int)*x=((items.size*x.toNat:Nat):Int):=by
   have e:x=((x.toNat:Nat):Int):=by omega
   rw[Int.natCast_mul,<-e]
  wp_walk using Mf hl
  rw[if_neg (by simp;omega)]
  refine Kb (PH (s:=⟨hp,g,d,tk,os⟩) hT ?_)
  dsimp only
  rw[if_neg (by rw[hne];simp;omega),if_neg (by rw[hne];simp;omega),hx,if_neg (by have:(sizeLine:Nat)<=1000000000:=(by decide);omega),if_neg (by unfold Builtin.Tuple.tupleTooMany;rw[decide_eq_true_iff];omega)]
  refine Kb (m:=LF _) (Lz ?_ hz2)
  exact Kp ⟨_,rfl,h⟩
section
variable {prog:KA}{w:K1}{A:KP}{E:J7->J9->Prop}{s:J9}
theorem mul_tuple {t:Addr}{vs:List J7}{k:Int}{tk:Tok}{Q:J7->J9->Prop}(ht:Q6 s.heap t vs.toArray)(h1:1<k)(h2:k<2 ^ 31)(hv:vs≠ [])(hz:vs.length*k.toNat<=sizeLine)
  (h:Q (.ref s.heap.objs.size) { s with heap:=s.heap.push { cls:=.type "tuple",data:=.seq (Kx k.toNat vs).flatten.toArray } }) :
  wpAny (model prog w) A (LG .Mult (.ref t) (.int k tk)) Q E s:=by
 obtain⟨⟨cls,dd,data,sl⟩,ho,hc,n,hd⟩:=id ht;simp only at hc hd;subst hc hd
 have e:NV (λa b=>a++b) #[] (Kx k.toNat vs.toArray)=(Kx k.toNat vs).flatten.toArray:=by
  have q:=L2.foldl_rep vs k.toNat []
  simpa using q
 refine NP (T:="tuple") (U:="int") (by decide) ⟨_,ho,rfl⟩ (λs'=>OY s' k tk) kY QQ Nv qH Qq.lookup
  (M5 Nv (OY s k tk) Qr (PN _ _) (uP k tk t vs.toArray n dd sl)
   ⟨ho,rfl,⟨_,ho,rfl⟩,M5 Oj ⟨_,ho,rfl⟩ F.entry_tuple_mul (F.args_tuple_mul_2 _ _) (zM t vs.toArray n dd sl k tk h1 h2 (by simpa using hv) (by simpa using hz) (by rw[e,Ko,L2.len_rep,Qc];exact hz)) ⟨ho,?_⟩⟩)
 rw[e];exact h
end
end Tm
namespace Tr
open PySem PySem.Spec PyProof.Rows L2
section
variable {X:Cx}
def bL (x y:T):Rs T:=match x,y with
 | .tup l,.int k=>if 1<k/\k<2 ^ 31/\l≠ []/\l.length*k.toNat<=sizeLine then .ok (.tup (Kx k.toNat l).flatten)else .bad
 | x,y=>u7 x y
instance (l:List T):Decidable (l≠ []):=by cases l <;> simp <;> infer_instance
theorem cy:OpT X (LG .Mult) bL:=by
 intro pins s σ H O x y vx vy ux uy Q I hf rx ry r1 r2 hp;unfold bL at hp
 split at hp
 ·rename_i l k
  split at hp
  ·rename_i h
   obtain⟨a,vs,e1,n1,q1,z1⟩:=Rep.Fk.mp rx;subst e1;cases Rep.Da.mp ry;cases r1;obtain⟨tk,rfl⟩:=r2;obtain⟨its,rv,pl,hz⟩:=I.tuple (SqT.of q1)
   have hl1:=z1.length
   have hl2:=rv.length
   have hne:its≠ []:=λz=>h.2.2.1 (List.eq_nil_of_length_eq_zero (by rw[hl1,hl2,z];rfl))
   refine Tm.mul_tuple pl h.1 h.2.1 hne (by rw[<-hl2,<-hl1];exact h.2.2.2) ?_
   have hn:=I.hok.fresh (Kj _);refine⟨.ref _,_,I.laid (t':=s.toks) (o:=.tup (Kx k.toNat vs).flatten) (λb ob q=>Kg _ q) (Kj _) ?_,rfl,hp _ (a8 hn _) _ (gn hn (hf _ hn) (z1.rep _))⟩
   refine⟨?_,_,rv.rep k.toNat,QP _ _⟩
   rw[len_rep,Qc,<-hl1];exact h.2.2.2
  ·exact hp.elim
 ·exact Fq pins s σ H O _ _ vx vy ux uy Q I hf rx ry r1 r2 hp
end
def HW (outer:List (Str×My))(N:List Str)(names:List (Str×My))(N':List Str)(src:List (Option Nat)):Bool:=
 names.all (λy=>y.2 != .cell||names.lookup y.1 == some .cell)&&names.all (λy=>y.2 != .local||names.lookup y.1 == some .local)&&src.length == N'.length&&
 (K9 N'.length).all (λj=>match src[j]? with
  | some (some i)=>match N'[j]? with
   | some x=>N[i]? == some x&&names.lookup x == some .free
   | none=>true
  | _=>true)&&
 names.all (λy=>y.2 != .free||(outer.lookup y.1 == some .cell||outer.lookup y.1 == some .free))
theorem LcScope.by {X:Cx}{scope:Nk}{N N':List Str}{src:List (Option Nat)}{names:List (Str×My)}(hN:X.N=N)(hs:X.env.scope.names=names)(hk:scope.kind= .function)(h:HW names N scope.names N' src=true):LcScope X scope N' src:=by
 unfold HW at h;simp only[J8]at h;obtain⟨⟨⟨⟨h1,h2⟩,h3⟩,h4⟩,h5⟩:=h
 have a1:=KF.mp h1
 have a2:=KF.mp h2
 have a4:=KF.mp h4
 have a5:=KF.mp h5;refine⟨hk,λy hy hl=>by have:=a1 y hy;rw[hl]at this;simpa using this,λy hy hl=> ?_,by simpa using h3,λj i x e1 e2=> ?_,λx hx=> ?_⟩
 ·have:=a2 y hy
  rw[hl]at this
  simpa using this
 ·have hj:j<N'.length:=(Ki.mp e2).1
  have:=a4 j (LB.mpr hj);rw[e1]at this;simp only[e2]at this;rw[J8]at this;rw[hN];exact⟨by simpa using this.1,by simpa using this.2⟩
 ·have:=a5 _ hx
  simp only[bne_self_eq_false,Pq,QU]at this
  show X.env.scope.names.lookup x=_\/X.env.scope.names.lookup x=_
  rw[hs];rcases this with z | z
  ·exact .inl (by simpa using z)
  ·exact .inr (by simpa using z)
def a9:Expr->Bool
 | .Starred .. =>false
 | _=>true
def bq:List Expr->Bool
 | [] =>true
 | e::r=>a9 e&&bq r
theorem a7 {e:Expr}{es:List Expr}{env:Env}(h:a9 e=true):Kn (e::es) env=(false,eval e env)::Kn es env:=by
 cases e <;> first | rfl | cases h
theorem eE {pos:Pos}{env:Env}:∀{es:List Expr},bq es=true->(backTo pos (Kn es env)).any (·.1)=false
 | [],_=>rfl
 | e::r,h=>by
  unfold bq at h;rw[J8]at h;rw[a7 h.1]
  have ih:=eE (pos:=pos) (env:=env) h.2
  show(false||(backTo pos (Kn r env)).any (·.1))=false
  rw[ih];rfl
section
variable {X:Cx}{a b e:Expr}{es:List Expr}{fa:En->Rs T}{fs:En->Rs (List T)}{pos p p2:Pos}{x:Str}
theorem qa_c {f:En->Rs T}{g:En->Rs (List T)}(he:b6 X e f)(hr:pv X es g)(hn:autoParam (a9 e=true) aqd._auto_1):pv X (e::es) (ae f g):=Cg he hr (a7 hn)
theorem q_cB {id:String}{g:List T->Rs T}(hc:CallT X (.builtin id) g)(hm:X.mg x=none)(hv:KQ x=some (.builtin id))(ha:pv X (e::es) fs)(hn:autoParam (bq (e::es)=true) aqd._auto_1)(hg:autoParam (Gl X x) aqd._auto_1)(h1:autoParam (x≠ "__name__") aqb._auto_1)(h2:autoParam ((x == ("__debug__" : Str))=false) aqb._auto_1) :
  b6 X (.Call (.Name x p) (e::es) [] pos) (cl g fs):=by
 unfold bq at hn;rw[J8]at hn;exact Cm hc hm hv ha hg h1 h2 (a7 hn.1) (eE hn.2)
theorem q_cT {Ty:String}{g:List T->Rs T}(hc:CallT X (.type Ty) g)(hm:X.mg x=none)(hv:KQ x=some (.type Ty))(ha:pv X (e::es) fs)(hn:autoParam (bq (e::es)=true) aqd._auto_1)(hg:autoParam (Gl X x) aqd._auto_1)(h1:autoParam (x≠ "__name__") aqb._auto_1)(h2:autoParam ((x == ("__debug__" : Str))=false) aqb._auto_1) :
  b6 X (.Call (.Name x p) (e::es) [] pos) (cl g fs):=by
 unfold bq at hn;rw[J8]at hn;exact zg hc hm hv ha hg h1 h2 (a7 hn.1) (eE hn.2)
theorem q_c {n k:Nat}{f:Addr}{fd:KY}{ps:List Str}{g:List T->Rs T}(F:Bx X.prog X.w X.K X.mg X.base k f fd ps n g)(hr:Room k X.A)(hm:X.mg x=some (.ref f))(hk:LW X.K (.ref f)=true)(hb:Binds X.K fd ps [])
  (hl:∀Z ts,fs Z= .ok ts->ts.length=n) (ha:pv X (e::es) fs) (hps:autoParam (ps.length=n) aqd._auto_1) (hn:autoParam (bq (e::es)=true) aqd._auto_1) (hg:autoParam (Gl X x) aqd._auto_1) (h2:autoParam ((x == ("__debug__" : Str))=false) aqb._auto_1):b6 X (.Call (.Name x p) (e::es) [] pos) (cl g fs):=by
 unfold bq at hn;rw[J8]at hn;exact EZ F hr hm hk hb hps hl ha hg h2 (a7 hn.1) (eE hn.2)
theorem q_is {tn:Str}{Ty:String}(hm:X.mg "isinstance" =none)(hmt:X.mg tn=none)(hv:KQ tn=some (.type Ty))(ha:b6 X a fa)(hn:autoParam (a9 a=true) aqd._auto_1)(hg:autoParam (Gl X "isinstance") aqd._auto_1)(hgt:autoParam (Gl X tn) aqd._auto_1)
  (h1:autoParam (tn≠ "__name__") aqb._auto_1) (h2:autoParam ((tn == ("__debug__" : Str))=false) aqb._auto_1):b6 X (.Call (.Name "isinstance" p) [a,.Name tn p2] [] pos) (o1 (C1 Ty) fa):=
 Hn hm hmt hv ha hg hgt h1 h2 (a7 hn) (eE rfl) (a7 rfl)
end
theorem xw (Z:En)(ts:List T)(h:aj Z= .ok ts):ts.length=0:=by cases h;rfl
theorem xv {n:Nat}{f:En->Rs T}{g:En->Rs (List T)}(hg:∀Z ts,g Z= .ok ts->ts.length=n)(Z:En)(ts:List T)(h:ae f g Z= .ok ts):ts.length=n+1:=by
 unfold ae at h
 cases q:f Z with
 | bad=>rw[q]at h;cases h
 | err c=>rw[q]at h;cases h
 | ok t=>
  rw[q,az]at h
  cases q2:g Z with
  | bad=>rw[q2]at h;cases h
  | err c=>rw[q2]at h;cases h
  | ok r=>
   rw[q2,az]at h;cases h;rw[Kd,hg Z r q2]
theorem jR {k:Nat}{A:KP}(h:Room k A):A.units+60<cLine:=by have:=h.un;omega
theorem Iy {k:Nat}{A:KP}(h:Room k A):A.units+61<cLine:=by have:=h.un;omega
structure Fn (K:J5)(mg:Str->Option J7)(x:Str)(st:Stmt)(ps:List Str)(f:Addr)(fd:KY):Prop where
 fn:L2.Fun K x x st f fd
 bd:Binds K fd ps []
 mg:mg x=some (.ref f)
def val (n m:Nat)(F:En->Rs Fl)(ts:List T):Rs T:=if ts.length=n then bw F (aI m ts)else .bad
theorem Ek {n m:Nat}{F:En->Rs Fl}{ts:List T}{t:T}(h:val n m F ts= .ok t):bw F (aI m ts)= .ok t:=by
 unfold val at h
 split at h
 ·exact h
 ·cases h
theorem sp_script {K:J5}{H:Hp}{a:Addr}{ns:List Int}{g:List T->Rs T}{E:XK}(hS:SqL K H a (ns.map V.int))(h:g [.scr ns] = .ok (.bl true)):spP K 1 g [.ref a] H (λv _=>v= .bl true) E:=by
 refine⟨[.scr ns],λ_=>False,Reps.FS ?_ Reps.Gc,λ_ z=>z.elim,rfl,?_⟩
 ·unfold Rep;exact⟨a,rfl,λz=>z,hS⟩
 ·rw[h];exact λv H' _ r=>Rep.FM.mp r
theorem sI {α:Type}{l:List α}{i:Nat}{z:α}(h:l[i]? =some z):l.set i z=l:=by
 obtain⟨hi,rfl⟩:=Ki.mp h
 exact Ng hi
def Mn.set (M:Mn)(i:Nat)(m:Ow):Mn:=λj=>if j=i then m else M j
theorem Mn.GM {M:Mn}{i:Nat}{m:Ow}{a:Addr}(h:(M.set i m).u a):m a\/M.u a:=by
 obtain⟨j,h⟩:=h;unfold Mn.set at h
 by_cases z:j=i
 ·rw[if_pos z]at h;exact .inl h
 ·rw[if_neg z]at h;exact .inr ⟨j,h⟩
theorem Mn.Jv {M:Mn}{i:Nat}{m:Ow}:M.set i m i=m:=by unfold Mn.set;rw[if_pos rfl]
theorem Mn.JA {M:Mn}{i j:Nat}{m:Ow}(h:j≠i):M.set i m j=M j:=by unfold Mn.set;rw[if_neg h]
theorem RowsR.move {K:J5}{O O' P:Ow}{H H':Hp}(hP:∀a,P a->O a\/Nw K H a)(hO:∀a,O' a->O a\/Nw K H a)(h:SameO P H H'):∀{rs:List (List T×List T)} {as:List Addr},(∀b∈as,¬P b)->RowsR K O H rs as->RowsR K O' H' rs as
 | [],_,_,r=>r
 | _::_,_,hb,⟨b,bs,kvs,e1,e2,e3,e4,e5⟩=>by
  subst e1;exact⟨b,bs,kvs,rfl,h _ _ e2 (hb b Ke),e3,e4.move hP hO h,e5.move hP hO h λc hc=>hb c (J6 _ hc)⟩
theorem LsR.move {K:J5}{O O' P:Ow}{H H':Hp}(hP:∀a,P a->O a\/Nw K H a)(hO:∀a,O' a->O a\/Nw K H a)(h:SameO P H H'):∀{rs:List (List T)} {as:List Addr},(∀b∈as,¬P b)->LsR K O H rs as->LsR K O' H' rs as
 | [],_,_,r=>r
 | _::_,_,hb,⟨b,bs,vs,e1,e2,e4,e5⟩=>by
  subst e1;exact⟨b,bs,vs,rfl,h _ _ e2 (hb b Ke),e4.move hP hO h,e5.move hP hO h λc hc=>hb c (J6 _ hc)⟩
theorem ORep.move {K:J5}{O O' P M:Ow}{H H':Hp}{o:OT}{v:V}(hP:∀a,P a->O a\/Nw K H a)(hO:∀a,O' a->O a\/Nw K H a)(h:SameO P H H')(hM:∀a,M a->¬ P a)(r:ORep K O M H o v):ORep K O' M H' o v:=by
 cases o with
 | lst l=>obtain⟨a,vs,e1,e2,e3,e4⟩:=r;exact⟨a,vs,e1,e2,h _ _ e3 (hM a ((e2 a).mpr rfl)),e4.move hP hO h⟩
 | dct ks ts=>obtain⟨a,kvs,e1,e2,e3,e4,e5⟩:=r;exact⟨a,kvs,e1,e2,h _ _ e3 (hM a ((e2 a).mpr rfl)),e4,e5.move hP hO h⟩
 | dd ks rows=>
  obtain⟨a,kvs,as,e1,e2,e3,e4,e5,e6,e7,e8⟩:=r
  exact⟨a,kvs,as,e1,e2,e3,e4,h _ _ e5 (hM a ((e2 a).mpr (.inl rfl))),e6,e7,e8.move hP hO h λb hb=>hM b ((e2 b).mpr (.inr hb))⟩
 | ob C ns ls=>
  obtain⟨a,dx,as,e1,e2,e3,e4,e5,e6,e7,e8⟩:=r;exact⟨a,dx,as,e1,e2,e3,h _ _ e4 (hM a ((e2 a).mpr (.inl rfl))),h _ _ e5 (hM dx ((e2 dx).mpr (.inr (.inl rfl)))),e6,e7,e8.move hP hO h λb hb=>hM b ((e2 b).mpr (.inr (.inr hb)))⟩
theorem RowsR.mtb {K:J5}{O:Ow}{H:Hp}:∀{rs:List (List T×List T)} {as:List Addr},RowsR K O H rs as->∀b∈as,∃kvs,H b=some (.dT kvs)
 | [],_,r,b,hb=>by unfold RowsR at r;subst r;simp at hb
 | _::_,_,⟨b0,bs,kvs,e1,e2,e3,e4,e5⟩,b,hb=>by
  subst e1;rcases Kf.mp hb with rfl | hb
  ·exact⟨kvs,e2⟩
  ·exact e5.mtb b hb
theorem LsR.mtb {K:J5}{O:Ow}{H:Hp}:∀{rs:List (List T)} {as:List Addr},LsR K O H rs as->∀b∈as,∃vs,H b=some (.lst vs)
 | [],_,r,b,hb=>by unfold LsR at r;subst r;simp at hb
 | _::_,_,⟨b0,bs,kvs,e1,e2,e4,e5⟩,b,hb=>by
  subst e1;rcases Kf.mp hb with rfl | hb
  ·exact⟨kvs,e2⟩
  ·exact e5.mtb b hb
def LO (H:Hp)(a:Addr):Prop:=(∃vs,H a=some (.lst vs))\/∃o,H a=some o/\isO o=true
def OT.isD:OT->Bool
 | .lst _=>false
 | .ob _ _ _=>false
 | _=>true
theorem ORep.kind {K:J5}{O M:Ow}{H:Hp}{o:OT}{v:V}(r:ORep K O M H o v):∀a,M a->if o.isD then ∃kvs,H a=some (.dT kvs)else LO H a:=λa z=>by
 cases o with
 | lst l=>obtain⟨b,vs,e1,e2,e3,e4⟩:=r;cases (e2 a).mp z;exact .inl ⟨vs,e3⟩
 | dct ks ts=>obtain⟨b,kvs,e1,e2,e3,e4,e5⟩:=r;cases (e2 a).mp z;exact⟨kvs,e3⟩
 | dd ks rows=>
  obtain⟨b,kvs,as,e1,e2,e3,e4,e5,e6,e7,e8⟩:=r
  rcases(e2 a).mp z with z | z
  ·cases z;exact⟨kvs,e5⟩
  ·exact e8.mtb a z
 | ob C ns ls=>
  obtain⟨b,dx,as,e1,e2,e3,e4,e5,e6,e7,e8⟩:=r
  rcases(e2 a).mp z with z | z | z
  ·cases z;exact .inr ⟨_,e4,rfl⟩
  ·cases z;exact .inr ⟨_,e5,rfl⟩
  ·exact .inl (e8.mtb a z)
theorem ORep.mtb {K:J5}{O M:Ow}{H:Hp}{o:OT}{v:V}(r:ORep K O M H o v)(a:Addr)(z:M a):Mtb H a:=by
 have:=r.kind a z
 split at this
 ·exact .inr (.inl this)
 ·exact this.imp_right .inr
theorem sR {K:J5}{O:Ow}{H:Hp}:∀{rs:List (List T×List T)} {as:List Addr},(∀b∈as,¬O b)->RowsR K O H rs as->Reps K O H (rs.map λr=>T.dct r.1 r.2) (as.map V.ref)
 | [],_,_,r=>by unfold RowsR at r;subst r;exact Reps.Gc
 | _::_,_,hn,⟨b,bs,kvs,e1,e2,e3,e4,e5⟩=>by
  subst e1;exact Reps.FS (Rep.Jo.mpr ⟨b,kvs,rfl,hn b Ke,.inl e2,e3,e4⟩) (sR (λc hc=>hn c (J6 _ hc)) e5)
theorem RowsR.less {K:J5}{O O':Ow}{H:Hp}(sub:∀a,O' a->O a):∀{rs:List (List T×List T)} {as:List Addr},RowsR K O H rs as->RowsR K O' H rs as
 | [],_,r=>r
 | _::_,_,⟨b,bs,kvs,e1,e2,e3,e4,e5⟩=>⟨b,bs,kvs,e1,e2,e3,e4.less sub,e5.less sub⟩
theorem LsR.less {K:J5}{O O':Ow}{H:Hp}(sub:∀a,O' a->O a):∀{rs:List (List T)} {as:List Addr},LsR K O H rs as->LsR K O' H rs as
 | [],_,r=>r
 | _::_,_,⟨b,bs,kvs,e1,e2,e4,e5⟩=>⟨b,bs,kvs,e1,e2,e4.less sub,e5.less sub⟩
theorem LsR.rep {K:J5}{O:Ow}{H:Hp}:∀{rs:List (List T)} {as:List Addr},(∀b∈as,¬O b)->LsR K O H rs as->Reps K O H (rs.map T.lst) (as.map V.ref)
 | [],_,_,r=>by unfold LsR at r;subst r;exact Reps.Gc
 | _::_,_,hn,⟨b,bs,kvs,e1,e2,e4,e5⟩=>by
  subst e1;exact Reps.FS (Rep.Do.mpr ⟨b,kvs,rfl,hn b Ke,e2,e4⟩) (LsR.rep (λc hc=>hn c (J6 _ hc)) e5)
theorem mC {α β:Type}:∀{l:List α} {m:List β},l.length=m.length->(l.zip m).map (·.1)=l
 | [],[],_=>rfl
 | a::l,b::m,h=>by
  have h':l.length=m.length:=by simpa using h
  show a::(l.zip m).map (·.1)=_
  rw[mC h']
theorem vS {α β:Type}:∀{l:List α} {m:List β},l.length=m.length->(l.zip m).map (·.2)=m
 | [],[],_=>rfl
 | a::l,b::m,h=>by
  have h':l.length=m.length:=by simpa using h
  show b::(l.zip m).map (·.2)=_
  rw[vS h']
theorem ORep.rep {K:J5}{O O' M:Ow}{H:Hp}{o:OT}{v:V}(sub:∀a,O' a->O a)(hn:∀a,M a->¬ O' a)(r:ORep K O M H o v):Rep K O' H o.view v:=by
 cases o with
 | lst l=>obtain⟨a,vs,e1,e2,e3,e4⟩:=r;exact Rep.Do.mpr ⟨a,vs,e1,hn a ((e2 a).mpr rfl),e3,e4.less sub⟩
 | dct ks ts=>obtain⟨a,kvs,e1,e2,e3,e4,e5⟩:=r;exact Rep.Jo.mpr ⟨a,kvs,e1,hn a ((e2 a).mpr rfl),.inl e3,e4,e5.less sub⟩
 | dd ks rows=>
  obtain⟨a,kvs,as,e1,e2,e3,e4,e5,e6,e7,e8⟩:=r;refine Rep.Jo.mpr ⟨a,kvs,e1,hn a ((e2 a).mpr (.inl rfl)),.inl e5,e6,?_⟩
  rw[e7]
  exact sR (λb hb=>hn b ((e2 b).mpr (.inr hb))) (e8.less sub)
 | ob C ns ls=>
  obtain⟨a,dx,as,e1,e2,e3,e4,e5,e6,e7,e8⟩:=r
  have hl:ns.length=(as.map V.ref).length:=by rw[Kc];exact e6
  refine Rep.Ju.mpr ⟨a,dx,_,e1,hn a ((e2 a).mpr (.inl rfl)),e4,mC hl,?_⟩
  rw[vS hl];exact(e8.less sub).rep λb hb=>hn b ((e2 b).mpr (.inr (.inr hb)))
section
variable {K:J5}{B:Ow}{M:Mn}{H H':Hp}{Z:En}{σ:L2.St}{i:Nat}{o o':OT}{v:V}{m:Ow}
theorem Ev.new (E:Ev K B M H Z σ)(hl:i<Z.length)(hm:∀a,m a->Nw K H a)(s:Same H H')(r:ORep K (OO B (M.set i m)) m H' o v) :
  Ev K B (M.set i m) H' (Z.set i (.ow o)) (σ.set i (some v))/\∀a,(M.set i m).u a->M.u a\/Nw K H a:=by
 have hls:i<σ.length:=by rw[<-E.env.len];exact hl
 have sub:∀a,(M.set i m).u a->M.u a\/Nw K H a:=λa z=>(Mn.GM z).elim (λw=> .inr (hm a w)) .inl
 have subO:∀a,OO B (M.set i m) a->OO B M a\/Nw K H a:=λa z=>z.elim (λw=> .inl (.inl w)) λw=>(sub a w).elim (λy=> .inl (.inr y)) .inr
 have dH:∀a,Nw K H a->¬ OO B M a:=λa w z=>by
  obtain⟨o,e⟩:=(E.env.trk a z).some;rw[w.1]at e;cases e
 refine⟨⟨⟨by rw[Lm,Lm];exact E.env.len,λj t e=> ?_,λj o' e=> ?_,λj a z=> .inr ⟨j,z⟩,λj k a z1 z2=> ?_,λa z=> ?_⟩,λa z=> ?_⟩,sub⟩
 ·by_cases hj:i=j
  ·subst hj;rw[KB hl]at e;cases e
  ·rw[Kv hj]at e
   obtain⟨w,e1,e2⟩:=E.env.val j t e;exact⟨w,by rw[Kv hj];exact e1,(e2.more subO).same s⟩
 ·by_cases hj:i=j
  ·subst hj
   rw[KB hl]at e
   cases e;exact⟨v,KB hls,by rw[Mn.Jv];exact r⟩
  ·rw[Kv hj]at e
   obtain⟨w,e1,e2⟩:=E.env.own j o' e;refine⟨w,by rw[Kv hj];exact e1,?_⟩
   rw[Mn.JA (λz=>hj z.symm)]
   exact(e2.move (P:=jX) (λ_ z=>z.elim) subO (λb u q _=>q) λ_ _ z=>z).same s
 ·unfold Mn.set at z1 z2
  by_cases hj:j=i
  ·by_cases hk:k=i
   ·exact hj.trans hk.symm
   ·rw[if_pos hj]at z1;rw[if_neg hk]at z2
    exact(dH a (hm a z1) (.inr ⟨k,z2⟩)).elim
  ·by_cases hk:k=i
   ·rw[if_neg hj]at z1;rw[if_pos hk]at z2
    exact(dH a (hm a z2) (.inr ⟨j,z1⟩)).elim
   ·rw[if_neg hj]at z1;rw[if_neg hk]at z2
    exact E.env.dis j k a z1 z2
 ·rcases z with z | z
  ·exact(E.env.trk a (.inl z)).same s
  ·rcases Mn.GM z with w | w
   ·exact r.mtb a w
   ·exact(E.env.trk a (.inr w)).same s
 ·intro hb
  rcases Mn.GM z with w | w
  ·exact dH a (hm a w) (.inl hb)
  ·exact E.mine a w hb
theorem Ev.put (E:Ev K B M H Z σ)(hi:Z[i]? =some (.ow o))(hs:σ[i]? =some (some v))(s:SameO (M i) H H')(r:ORep K (OO B M) (M i) H' o' v):Ev K B M H' (Z.set i (.ow o')) σ/\SameO M.u H H':=by
 have hl:i<Z.length:=(Ki.mp hi).1
 have inO:∀a,M i a->OO B M a\/Nw K H a:=λa z=> .inl (.inr ⟨i,z⟩)
 have idO:∀a,OO B M a->OO B M a\/Nw K H a:=λa z=> .inl z
 refine⟨⟨⟨by rw[Lm];exact E.env.len,λj t e=> ?_,λj o2 e=> ?_,E.env.sub,E.env.dis,λa z=> ?_⟩,E.mine⟩,λb u e n=>s b u e λz=>n ⟨i,z⟩⟩
 ·by_cases hj:i=j
  ·subst hj;rw[KB hl]at e;cases e
  ·rw[Kv hj]at e
   obtain⟨w,e1,e2⟩:=E.env.val j t e;exact⟨w,e1,e2.move inO idO s⟩
 ·by_cases hj:i=j
  ·subst hj
   rw[KB hl]at e
   cases e;exact⟨v,hs,r⟩
  ·rw[Kv hj]at e
   obtain⟨w,e1,e2⟩:=E.env.own j o2 e;exact⟨w,e1,e2.move inO idO s λa z y=>hj (E.env.dis i j a y z)⟩
 ·by_cases hz:M i a
  ·exact r.mtb a hz
  ·exact(E.env.trk a z).at λo e=>s _ _ e hz
def disown (i:Nat)(Z:En):En:=match Z[i]? with
 | some (.ow o)=>Z.set i (.va o.view)
 | _=>Z
theorem EnvM.disown {O O':Ow}{Z:En}(E:EnvM K O M H Z σ)(i:Nat)(sub:∀a,O' a->O a)(hn:∀a,M i a->¬ O' a)(hin:∀j a,j≠i->M j a->O' a):EnvM K O' (M.set i jX) H (disown i Z) σ:=by
 have base:EnvM K O' (M.set i jX) H (Z.set i (match Z[i]? with | some (.ow o)=> .va o.view | some x=>x | none=> .em)) σ:=by
  refine⟨by rw[Lm];exact E.len,λj t e=> ?_,λj o e=> ?_,λj a z=> ?_,λj k a z1 z2=> ?_,λa z=>E.trk a (sub a z)⟩
  ·by_cases hj:i=j
   ·subst hj
    by_cases hl:i<Z.length
    ·rw[KB hl]at e
     cases q:Z[i]? with
     | none=>rw[q]at e;cases e
     | some z=>
      rw[q]at e
      cases z with
      | em=>cases e
      | va t'=>cases e;obtain⟨w,e1,e2⟩:=E.val i _ q;exact⟨w,e1,e2.less sub⟩
      | ow o=>cases e;obtain⟨w,e1,e2⟩:=E.own i _ q;exact⟨w,e1,e2.rep sub hn⟩
    ·rw[Nf (by rw[Lm];omega)]at e;cases e
   ·rw[Kv hj]at e
    obtain⟨w,e1,e2⟩:=E.val j t e;exact⟨w,e1,e2.less sub⟩
  ·by_cases hj:i=j
   ·subst hj
    by_cases hl:i<Z.length
    ·rw[KB hl]at e
     cases q:Z[i]? with
     | none=>rw[q]at e;cases e
     | some z=>
      rw[q]at e
      cases z with
      | em=>cases e
      | va t'=>cases e
      | ow o=>cases e
    ·rw[Nf (by rw[Lm];omega)]at e;cases e
   ·rw[Kv hj]at e
    obtain⟨w,e1,e2⟩:=E.own j o e;refine⟨w,e1,?_⟩
    rw[Mn.JA (λz=>hj z.symm)]
    exact e2.move (P:=jX) (λ_ z=>z.elim) (λa z=> .inl (sub a z)) (λb u q _=>q) λ_ _ z=>z
  ·unfold Mn.set at z
   by_cases hj:j=i
   ·rw[if_pos hj]at z;exact z.elim
   ·rw[if_neg hj]at z;exact hin j a hj z
  ·unfold Mn.set at z1 z2
   by_cases hj:j=i
   ·rw[if_pos hj]at z1;exact z1.elim
   ·by_cases hk:k=i
    ·rw[if_pos hk]at z2;exact z2.elim
    ·rw[if_neg hj]at z1;rw[if_neg hk]at z2;exact E.dis j k a z1 z2
 unfold Tr.disown
 cases q:Z[i]? with
 | none=>rw[q,List.set_eq_of_length_le (List.getElem?_eq_none_iff.mp q)]at base;exact base
 | some z=>
  rw[q]at base
  cases z with
  | em=>rw[sI q]at base;exact base
  | va t=>rw[sI q]at base;exact base
  | ow o=>exact base
theorem Ev.disown (E:Ev K B M H Z σ)(i:Nat):Ev K B (M.set i jX) H (disown i Z) σ/\∀a,(M.set i jX).u a->M.u a:=by
 have sub:∀a,(M.set i jX).u a->M.u a:=λa z=>(Mn.GM z).elim (λw=>w.elim) id
 refine⟨⟨E.env.disown i (λa z=>z.elim .inl λw=> .inr (sub a w)) (λa z y=> ?_) λj a hj z=> .inr ⟨j,by rw[Mn.JA hj];exact z⟩,λa z=>E.mine a (sub a z)⟩,sub⟩
 rcases y with y | ⟨j,y⟩
 ·exact E.mine a ⟨i,z⟩ y
 ·unfold Mn.set at y
  by_cases hj:j=i
  ·rw[if_pos hj]at y;exact y
  ·rw[if_neg hj]at y;exact hj (E.env.dis j i a y z)
end
section
variable {X:Cx}{a:Expr}{es:List Expr}{fa:En->Rs T}{pos p2 p3:Pos}{x:Str}
theorem Ev.subO {K:J5}{B:Ow}{M:Mn}{H:Hp}{i:Nat}{m:Ow}(hm:∀a,m a->Nw K H a)(a:Addr)(z:OO B (M.set i m) a):OO B M a\/Nw K H a:=
 z.elim (λw=> .inl (.inl w)) λw=>(Mn.GM w).elim (λy=> .inr (hm a y)) λy=> .inl (.inr y)
theorem i9 {K:J5}{H H1:Hp}(s:Same H H1){a:Addr}(n:Nw K H1 a):Nw K H a:=(dk (SameO.of (P:=jX) s) n).elim (λz=>z.elim) id
def GV (X:Cx)(t:TA):TE:=λσ H Q=>t σ H λxs H1=>xs.length<=sizeLine/\∀p,Nw X.K H1 p->Q (.ref p) (upd H1 p (.lst xs))
theorem wc {t:TA}(h:PA X es t):PE X (.List es pos) (GV X t):=by
 intro pins s σ H Q I hq;refine PB (bN (h pos pins s σ H _ I hq) λus s1 ⟨xs,H1,I1,r,z,q⟩=>⟨by rw[<-r.length];exact z,?_⟩)
 have hf:H1 s1.heap.objs.size=none:=I1.hok.fresh (Kj _)
 have hk:X.K.lookup s1.heap.objs.size=none:=by
  cases q:X.K.lookup s1.heap.objs.size with
  | none=>rfl
  | some o=>exact absurd (Kl (I1.kIn _ o q)) (KI _)
 refine⟨.ref s1.heap.objs.size,upd H1 s1.heap.objs.size (.lst xs),I1.laid (t':=s1.toks) (λb u e=>Kg _ e) (Kj _) ?_,rfl,q _ ⟨hf,hk⟩⟩
 exact⟨z,us,0,r,Kw _ rfl⟩
def jy (i:Nat)(f:En->Rs (List T))(Z:En):Rs Fl:=do
 let l <-f Z
 if i<Z.length/\l.length<=sizeLine then .ok (.nx (Z.set i (.ow (.lst l))))else .bad
theorem B3 (i:Nat){f:En->Rs (List T)}(hN:X.N.Nodup)(ha:pv X es f)(hi:autoParam (X.N[i]? =some x) aqd._auto_1)(hx:autoParam (Loc X.env.scope x) aqh._auto_1)(hs:autoParam (KM (.List es p2) (some (.Name x p3)) pos.line X.env=pure false) aqd._auto_1)
  (hf:autoParam (X.fn x=true\/X.env.scope.names.lookup x=some .local) aqa._auto_1):lE X (.Assign [.Name x p3] (.List es p2) pos) (jy i f):=PS.imp (kR hN hi hx (wc ha) hs hf) λD σ H hh_=>by
 obtain⟨Z,B,M,E,h⟩:=hh_;refine⟨Z,OO B M,E.o,?_⟩
 unfold jy at h
 cases q:f Z with
 | bad=>rw[q]at h;exact h.elim
 | err c=>rw[q]at h;exact PostF.xa h
 | ok l=>
  rw[q,az]at h;intro H1 s1 vs rs
  by_cases hl:i<Z.length/\l.length<=sizeLine
  ·rw[if_pos hl]at h
   refine⟨by rw[<-rs.length];exact hl.2,λp hp=> ?_⟩
   have hm:∀a,a=p->Nw X.K H1 a:=λa z=>z▸hp
   obtain⟨E2,sub⟩:=(E.same s1).new (m:=λa=>a=p) (o:=.lst l) (v:=.ref p) (H':=upd H1 p (.lst vs)) hl.1 hm (a8 hp.1 _) ⟨p,vs,rfl,λb=>MN,aO,(rs.more (Ev.subO hm)).same (a8 hp.1 _)⟩
   exact h _ _ _ (SameO.of (s1.trans (a8 hp.1 _))) E2 λa z=>(sub a z).imp_right (i9 s1)
  ·rw[if_neg hl]at h
   exact h.elim
def oQ (i:Nat)(f:En->Rs T)(Z:En):Rs Fl:=match Z[i]? with
 | some (.ow (.lst l))=>f Z >>= λt=>if l.length<sizeLine then .ok (.nx (Z.set i (.ow (.lst (l++ [t])))))else .bad
 | _=> .bad
theorem Ev.putL {K:J5}{B:Ow}{M:Mn}{H:Hp}{Z:En}{σ:L2.St}{i:Nat}{o:OT}{l':List T}{b:Addr}{vs':List V}(E:Ev K B M H Z σ)(hi:Z[i]? =some (.ow o))(hs:σ[i]? =some (some (.ref b)))(hM:∀c,M i c↔c=b)(r:Reps K (OO B M) H l' vs') :
  Ev K B M (upd H b (.lst vs')) (Z.set i (.ow (.lst l'))) σ/\SameO M.u H (upd H b (.lst vs')):=by
 have sm:SameO (M i) H (upd H b (.lst vs')):=λc u e nb=>by rw[aE (λz=>nb ((hM c).mpr z))];exact e
 exact E.put hi hs sm ⟨b,vs',rfl,hM,aO,r.move (P:=M i) (λa z=> .inl (.inr ⟨i,z⟩)) (λa z=> .inl z) sm⟩
theorem ER (i:Nat){apos cpos:Pos}(ha:b6 X a fa)(hN:autoParam (X.N[i]? =some x) aqd._auto_1)(hv:autoParam (kK X.env.scope x) aqe._auto_1)(hn:autoParam (a9 a=true) aqd._auto_1)
  (hbase:autoParam (KH (.Name x p2) "append" X.env (eval (.Name x p2) X.env)=eval (.Name x p2) X.env) aqd._auto_1) (hline:autoParam ((apos.endLine == cpos.line)=true) aqd._auto_1)
  (hd:autoParam ((x == ("__debug__" : Str))=false) aqb._auto_1) (hcd:autoParam ((x == ("__classdict__" : Str))=false) aqb._auto_1)
  (hsw:autoParam (KM (.Call (.Attribute (.Name x p2) "append" apos) [a] [] cpos) none pos.line X.env=pure false) aqd._auto_1):lE X (.Expr (.Call (.Attribute (.Name x p2) "append" apos) [a] [] cpos) pos) (oQ i fa):=by
 have h1:Kn [a] X.env=(false,eval a X.env)::Kn [] X.env:=a7 hn;refine PS.imp (km (zx LI NS NT lb (dY hN hv hd hcd) (d9 ha iw h1) hbase ?_ hline h1 rfl) hsw) λD σ H ⟨Z,B,M,E,h⟩=> ?_
 ·rw[h1];rfl
 unfold oQ at h
 split at h
 ·rename_i l hl
  obtain⟨v0,e1,b,vs,rfl,hM,e3,e4⟩:=E.env.own i _ hl;refine⟨.ref b,e1,.inl ⟨rfl,vs,SqL.of e3⟩,Z,OO B M,E.o,?_⟩
  cases q:fa Z with
  | bad=>rw[q]at h;exact h.elim
  | err c=>rw[q]at h;exact PostF.xa h
  | ok t=>
   rw[q,az]at h
   split at h
   ·rename_i hz
    intro H1 s1 v r
    have e3':=s1 _ _ e3;refine⟨b,vs,v,rfl,rfl,e3',by rw[<-e4.length];exact hz,?_⟩
    obtain⟨g1,g2⟩:=(E.same s1).putL (l':=l++ [t]) (vs':=vs++ [v]) hl e1 hM ((e4.same s1).append (Reps.FS r Reps.Gc));exact h σ _ M (λc o e nb=>g2 c o (s1 _ _ e) nb) g1 λc z=> .inl z
   ·exact h.elim
 ·exact h.elim
def Gd (i:Nat)(l:List T)(Z:En):T->Rs Fl
 | .lst m=>if l.length+m.length<=sizeLine then .ok (.nx (Z.set i (.ow (.lst (l++m)))))else .bad
 | _=> .bad
def m7 (i:Nat)(f:En->Rs T)(Z:En):Rs Fl:=match Z[i]? with
 | some (.ow (.lst l))=>f Z >>= Gd i l Z
 | _=> .bad
theorem EK (i:Nat){apos cpos:Pos}(ha:b6 X a fa)(hN:autoParam (X.N[i]? =some x) aqd._auto_1)(hv:autoParam (kK X.env.scope x) aqe._auto_1)(hn:autoParam (a9 a=true) aqd._auto_1)
  (hbase:autoParam (KH (.Name x p2) "extend" X.env (eval (.Name x p2) X.env)=eval (.Name x p2) X.env) aqd._auto_1) (hline:autoParam ((apos.endLine == cpos.line)=true) aqd._auto_1)
  (hd:autoParam ((x == ("__debug__" : Str))=false) aqb._auto_1) (hcd:autoParam ((x == ("__classdict__" : Str))=false) aqb._auto_1)
  (hsw:autoParam (KM (.Call (.Attribute (.Name x p2) "extend" apos) [a] [] cpos) none pos.line X.env=pure false) aqd._auto_1):lE X (.Expr (.Call (.Attribute (.Name x p2) "extend" apos) [a] [] cpos) pos) (m7 i fa):=by
 have h1:Kn [a] X.env=(false,eval a X.env)::Kn [] X.env:=a7 hn;refine PS.imp (km (zx LI PySem.F.slot_list_extend PySem.F.type_list_extend x9 (dY hN hv hd hcd) (d9 ha iw h1) hbase ?_ hline h1 rfl) hsw) λD σ H ⟨Z,B,M,E,h⟩=> ?_
 ·rw[h1];rfl
 unfold m7 at h
 split at h
 ·rename_i l hl
  obtain⟨v0,e1,b,vs,rfl,hM,e3,e4⟩:=E.env.own i _ hl;refine⟨.ref b,e1,.inl ⟨rfl,vs,SqL.of e3⟩,Z,OO B M,E.o,?_⟩
  cases q:fa Z with
  | bad=>rw[q]at h;exact h.elim
  | err c=>rw[q]at h;exact PostF.xa h
  | ok t=>
   rw[q,az]at h;unfold Gd at h
   split at h
   ·rename_i m
    split at h
    ·rename_i hz
     intro H1 s1 v r;obtain⟨c,ws,rfl,nO,hc,rm⟩:=Rep.Do.mp r
     have e3':=s1 _ _ e3;refine⟨b,c,vs,ws,rfl,rfl,e3',hc,by rw[<-e4.length,<-rm.length];exact hz,?_⟩
     obtain⟨g1,g2⟩:=(E.same s1).putL (l':=l++m) (vs':=vs++ws) hl e1 hM ((e4.same s1).append rm);exact h σ _ M (λc o e nb=>g2 c o (s1 _ _ e) nb) g1 λc z=> .inl z
    ·exact h.elim
   ·exact h.elim
 ·exact h.elim
def qD (i:Nat)(F:En->Rs Fl)(Z:En):Rs Fl:=F (disown i Z)
theorem EM (i:Nat){st:Stmt}{F:En->Rs Fl}(h:lE X st F):lE X st (qD i F):=PS.imp h λD σ H hh_=>by
 obtain⟨Z,B,M,E,q⟩:=hh_;obtain⟨E',sub⟩:=E.disown i;exact⟨disown i Z,B,_,E',PostF.later q (λ_ _ e _=>e) λa z=> .inl (sub a z)⟩
mutual
def T.nk (D:Bool):T->Bool
 | .scr _=>false
 | .dct _ ts=> !D&&nks D ts
 | .ob _ _ _=>false
 | .lst l=>D&&nks D l
 | .tup l=>nks D l
 | _=>true
def nks (D:Bool):List T->Bool
 | [] =>true
 | t::l=>t.nk D&&nks D l
end
mutual
theorem Rep.lend {K:J5}{O O':Ow}{H:Hp}{D:Bool}(hk:∀a,O a->O' a\/if D then ∃kvs,Rd H a (.dT kvs)else LO H a):∀{t:T} {v:V},t.nk D=true->Rep K O' H t v->Rep K O H t v
 | .non,_,_,r=>by unfold Rep at r ⊢;exact r
 | .bl _,_,_,r=>by unfold Rep at r ⊢;exact r
 | .int _,_,_,r=>by unfold Rep at r ⊢;exact r
 | .str _,_,_,r=>by unfold Rep at r ⊢;exact r
 | .tup l,_,h,r=>by
  unfold Rep at r ⊢;unfold T.nk at h;obtain⟨a,vs,e,n,q,z⟩:=r;refine⟨a,vs,e,λp=>(hk a p).elim n λw=> ?_,q,Reps.lend hk h z⟩
  split at w
  ·obtain⟨_,w | ⟨_,w⟩⟩:=w <;> rw[q]at w <;> cases w
  ·rcases w with⟨_,w⟩ | ⟨_,w,y⟩ <;> rw[q]at w <;> cases w <;> cases y
 | .lst l,_,h,r=>by
  unfold Rep at r ⊢;unfold T.nk at h;rw[J8]at h;obtain⟨h1,h2⟩:=h;subst h1;obtain⟨a,vs,e,n,q,z⟩:=r;refine⟨a,vs,e,λp=>(hk a p).elim n λw=> ?_,q,Reps.lend hk h2 z⟩
  rw[if_pos rfl]at w;obtain⟨_,w | ⟨_,w⟩⟩:=w <;> rw[q]at w <;> cases w
 | .scr l,_,h,r=>by unfold T.nk at h;cases h
 | .dct ks ts,_,h,r=>by
  unfold Rep at r ⊢;unfold T.nk at h;rw[J8]at h;obtain⟨h1,h2⟩:=h
  cases D with
  | true=>cases h1
  | false=>
   obtain⟨a,kvs,e,n,q,k,z⟩:=r;refine⟨a,kvs,e,λp=>(hk a p).elim n λw=> ?_,q,k,Reps.lend hk h2 z⟩
   rw[if_neg Kt]at w;rcases w with⟨_,w⟩ | ⟨_,w,y⟩ <;> rcases q with q | ⟨_,q⟩ <;> rw[q]at w <;> cases w <;> cases y
 | .ob _ _ _,_,h,r=>by unfold T.nk at h;cases h
theorem Reps.lend {K:J5}{O O':Ow}{H:Hp}{D:Bool}(hk:∀a,O a->O' a\/if D then ∃kvs,Rd H a (.dT kvs)else LO H a):∀{l:List T} {vs:List V},nks D l=true->Reps K O' H l vs->Reps K O H l vs
 | [],_,_,r=>by unfold Reps at r ⊢;exact r
 | t::l,_,h,r=>by
  unfold Reps at r ⊢;unfold nks at h;rw[J8]at h;obtain⟨v,ws,e,p,q⟩:=r;exact⟨v,ws,e,Rep.lend hk h.1 p,Reps.lend hk h.2 q⟩
end
def ln (i:Nat)(f:En->Rs T)(Z:En):Rs T:=match Z[i]? with
 | some (.ow o)=>f (disown i Z) >>= λt=>if t.nk o.isD=true then .ok t else .bad
 | _=>f Z
def ye (i:Nat)(f:En->Rs Bool)(Z:En):Rs Bool:=f (disown i Z)
theorem qd {K:J5}{O:Ow}{M:Mn}{H:Hp}{Z:En}{σ:L2.St}(E:EnvM K O M H Z σ)(i:Nat):EnvM K (λa=>O a/\¬ M i a) (M.set i jX) H (disown i Z) σ:=
 E.disown i (λa z=>z.1) (λa z y=>y.2 z) λj a hj z=>⟨E.sub j a z,λy=>hj (E.dis j i a z y)⟩
theorem q_ln (i:Nat){e:Expr}{f:En->Rs T}(h:b6 X e f):b6 X e (ln i f):=PE.imp h λσ H Q ⟨Z,O,⟨M,E⟩,q⟩=>by
 unfold ln at q
 split at q
 ·rename_i o hi
  refine⟨disown i Z,_,⟨_,qd E i⟩,?_⟩
  obtain⟨w,e1,r⟩:=E.own i o hi;refine Post.mono (Post.bind q) λt H' s q2 v rv=> ?_
  split at q2
  ·rename_i hk
   have kd:=(r.same s).kind;refine q2 H' (Same.refl _) v (Rep.lend (λa z=> ?_) hk rv)
   by_cases hm:M i a
   ·refine .inr ?_
    have this:=kd a hm
    by_cases hD:o.isD=true
    ·rw[if_pos hD]at this ⊢;exact this.imp λ_ z=> .inl z
    ·rw[if_neg hD]at this ⊢;exact this
   ·exact .inl ⟨z,hm⟩
  ·exact q2.elim
 ·exact⟨Z,O,⟨M,E⟩,q⟩
theorem Ha (i:Nat){e:Expr}{f:En->Rs Bool}(h:uo X e f):uo X e (ye i f):=PT.imp h λσ H Q ⟨Z,O,⟨M,E⟩,q⟩=>⟨disown i Z,_,⟨_,qd E i⟩,q⟩
end
end Tr
namespace Tr
open PySem L2
def ph:List T->List T->List Key->Option T
 | k'::ks,v::vs,k=>if keyOf k'=some k then some v else ph ks vs k
 | _,_,_=>none
def gF (k v:T):List T->List T->List T×List T
 | k'::ks,v'::vs=>if keyOf k'=keyOf k then(k'::ks,v::vs)else(k'::(gF k v ks vs).1,v'::(gF k v ks vs).2)
 | _,_=>([k],[v])
def ug (x y:T):Rs T:=match x,keyOf y with
 | .dct ks vs,some k=>match ph ks vs k with
  | some t=> .ok t
  | none=> .bad
 | _,_=> .bad
def gZ (x y:T):Rs T:=match x,keyOf y with
 | .dct ks vs,some k=>match ph ks vs k with
  | some t=> .ok t
  | none=> .ok .non
 | _,_=> .bad
def oD (g:T->T->Rs T)(fa fb:En->Rs T)(Z:En):Rs T:=fa Z >>= λx=>match x with
 | .dct ks vs=>fb Z >>= g (.dct ks vs)
 | _=> .bad
def oL (g:T->T->Rs T)(fa fb:En->Rs T)(Z:En):Rs T:=fa Z >>= λx=>match x with
 | .lst l=>fb Z >>= g (.lst l)
 | _=> .bad
def GA:List T->Option (List (T×T))
 | [] =>some []
 | .tup [k,v] ::l=>match keyOf k,GA l with
  | some _,some r=>some ((k,v)::r)
  | _,_=>none
 | _=>none
def iQ:List (T×T)->List T×List T->List T×List T
 | [],d=>d
 | (k,v)::r,d=>iQ r (gF k v d.1 d.2)
def xi:List T->Rs T
 | [.lst l] =>match GA l with
  | some ps=>if l.length<=1000 then .ok (.dct (iQ ps ([],[])).1 (iQ ps ([],[])).2)else .bad
  | none=> .bad
 | _=> .bad
def pF (i:Nat)(f:En->Rs T)(Z:En):Rs Fl:=f Z >>= λt=>xi [t] >>= λd=>match d with
 | .dct ks vs=>if i<Z.length then .ok (.nx (Z.set i (.ow (.dct ks vs))))else .bad
 | _=> .bad
def xN (i:Nat)(fk fv:En->Rs T)(Z:En):Rs Fl:=match Z[i]? with
 | some (.ow (.dct ks vs))=>fv Z >>= λv=>fk Z >>= λk=>match keyOf k with
  | some _=>if ks.length<1000 then .ok (.nx (Z.set i (.ow (.dct (gF k v ks vs).1 (gF k v ks vs).2))))else .bad
  | none=> .bad
 | _=> .bad
def wu:List T->Option (List Int)
 | [] =>some []
 | .int i::l=>(wu l).map (i:: ·)
 | _=>none
def jQ (i:Int):List Int->Int
 | [] =>i
 | j::l=>jQ (if j<i then j else i) l
def CO:List T->Rs T
 | [.lst l] =>match wu l with
  | some (i::ns)=> .ok (.int (jQ i ns))
  | _=> .bad
 | [.int i,.int j] => .ok (.int (jQ i [j]))
 | _=> .bad
def jg (x:T):List T->Nat->Option Nat
 | [],_=>none
 | t::l,n=>if a6 t x then some n else jg x l (n+1)
def fQ (y x:T):Rs T:=match y with
 | .lst l=>if (x.dep<=60\/deps l<=60)/\x.nd=true/\nds l=true then match jg x l 0 with
   | some n=> .ok (.int n)
   | none=> .bad
  else .bad
 | _=> .bad
def FU:Nat:=1000000000000
end Tr
namespace Tr
open PySem PySem.Spec PyProof.Rows L2
theorem fX {h b b':Heap}:∀{l:List Env},h.FunFrames b l->(∀a∈l.filterMap (·.frame),b'.get? a=none)->h.FunFrames b' l
 | [],_,_=>trivial
 | env::bA,⟨hk,⟨L,o,hf,hn,ho,hd⟩,hr⟩,q=>by
  rw[Ls,hf]at q;exact⟨hk,⟨L,o,hf,q L Ke,ho,hd⟩,fX hr λa ha=>q a (J6 _ ha)⟩
section
variable {M:Model}{A:KP}{E:J7->J9->Prop}{s:J9}
structure Dv (fs:List Addr)(C e:Addr)(T:Option Addr)(h h':Heap)(T':Addr):Prop where
 flt:IV h' C e (some T')
 new:T=some T'\/h.get? T'=none
 keep:∀b o,b∉fs->b≠e->T≠some b->h.get? b=some o->h'.get? b=some o
 slot:∀b o,b∈fs->h.get? b=some o->∃sl,h'.get? b=some { o with slots:=sl }
theorem zU {base:Heap}{env:Env}{outer:List Env}{L C e:Addr}{T:Option Addr}{Q:Unit->J9->Prop}(hfr:A.frames=some (env::outer))(hl:s.heap.FunFrames base (env::outer))(hf:env.frame=some L)
  (F:IV s.heap C e T) (h:∀h' T',Dv ((env::outer).filterMap (·.frame)) C e T s.heap h' T'->Q () { s with heap:=h' }):wpAny M A (leaving env (.ref e)) Q E s:=by
 generalize hB:Ou s.heap (e::(T.toList++(env::outer).filterMap (·.frame)))=B
 have bm:∀b,b∈e::(T.toList++(env::outer).filterMap (·.frame))->B.get? b=none:=λb m=>by rw[<-hB];exact Nm _ m
 have hl':s.heap.FunFrames B (env::outer):=fX hl λa ha=>bm a (J6 _ (Kr _ ha))
 have hst:B.StaysIn s.heap:=λb o q=>by rw[<-hB]at q;exact NG _ q
 have hen:B.get? e=none:=bm e Ke
 have main:∀h',Heap.Left B (env::outer) e (.ref C) s.heap h'->Q () { s with heap:=h' }:=λh' ⟨x1,x2,⟨oe,vs,T',oT,ts,he,hc,hd,h1,hnT,hTe,hT,hdT,h3⟩,x4⟩=>by
  refine h h' T' ⟨⟨hTe,oe,vs,he,hc,hd,h1,oT,ts,hT,hdT,h3⟩,?_,λb o n1 n2 n3 q=> ?_,λb o m q=> ?_⟩
  ·cases q:s.heap.get? T' with
   | none=>exact .inr rfl
   | some o=>
    left
    by_cases z:T'∈e::(T.toList++(env::outer).filterMap (·.frame))
    ·rcases Kf.mp z with z | z
     ·exact absurd z hTe
     ·rcases Ky.mp z with z | z
      ·cases T with
       | none=>simp at z
       | some t=>simp at z;rw[z]
      ·obtain⟨_,o',ho',hnf⟩:=x2.mem z
       rw[hT]at ho';cases ho';exact absurd hdT (hnf ts)
    ·rw[<-hB,Mg _ q z]at hnT;cases hnT
  ·refine x1 b o ?_
   rw[<-hB];refine Mg _ q λz=> ?_
   rcases Kf.mp z with z | z
   ·exact n2 z
   ·rcases Ky.mp z with z | z
    ·cases T with
     | none=>simp at z
     | some t=>simp at z;exact n3 (by rw[z])
    ·exact n1 z
  ·obtain⟨_,o',ho',hnf⟩:=hl.mem m
   rw[q]at ho';cases ho';exact x4 b o q hnf
 cases T with
 | none=>
  obtain⟨oe,vs,he,hc,hd,h1⟩:=F;refine wpAny_leaving_first hfr hl' hf he hst hen hd h1 λh' x=>main h' ?_
  rw[hc]at x;exact x
 | some t=>
  obtain⟨hte,oe,vs,he,hc,hd,h1,oT,ts,hT,hdT,h3⟩:=F;exact wpAny_leaving_next hfr hl' hf ⟨oe,vs,t,oT,ts,he,hc,hd,h1,bm t (J6 _ (KD _ (by simp))),hte,hT,hdT,h3⟩ hst hen main
end
abbrev vC:List J7:=[.type "ValueError",.type "Exception",.type "BaseException",.type "object"]
structure OwnExc (K:J5)(C:Addr)(bm:List J7):Prop where
 at_:∀h:Heap,K.In h->∃nm q N bs hdct sn sub ab col dd k0 k1 k2 k3 k5 mN,h.get? C=some (MF nm q C N bs bm hdct sn sub ab col dd k0 k1 k2 k3 k5 "ValueError.__new__")/\h.Ns N mN/\mN "__init__" =none/\OwnTail h vC bm
theorem OwnExc.base {K:J5}{C:Addr}{bm:List J7}(O:OwnExc K C bm){h:Heap}(k:K.In h):bm.contains (.type "BaseException")=true:=by
 obtain⟨_,_,_,_,_,_,_,_,_,_,_,_,_,_,_,_,_,_,_,T⟩:=O.at_ h k;exact T.hasType (by decide)
def xO (c:Str)(_:En):Rs Fl:=.err c
section
variable {X:Cx}
theorem zd {c:Str}{msg:Str}{C:Addr}{bm:List J7}{np p1 cpos pos:Pos}{j:Nat}(O:OwnExc X.K C bm)(hc:X.calm=true)(hm:X.mg c=some (.ref C))(hg:autoParam (Gl X c) aqd._auto_1)(hd:autoParam ((c == ("__debug__" : Str))=false) aqb._auto_1) :
  lE X (.Raise (some (.Call (.Name c np) [.Constant (.str msg) j p1] [] cpos)) none pos) (xO c):=by
 intro pins s σ H D I ⟨Z,B,M,E,k⟩
 have k:XA X M.u H c:=k;obtain⟨nm,q,N,bs,hdct,sn,sub,ab,col,dd,k0,k1,k2,k3,k5,mN,hC,hN,hni,T⟩:=O.at_ s.heap I.kIn;refine wpAny_Raise_call_subU (C:=C) (mN:=mN) (nm:=nm) (q:=q) (N:=N) (bs:=bs) (hdct:=hdct) (sn:=sn) (sub:=sub) (ab:=ab) (col:=col) (dd:=dd) (k0:=k0) (k1:=k1) (k2:=k2) (k3:=k3) (k5:=k5) NC (Bn:="ValueError") (by decide) NC (O.base I.kIn) (I.ok.hd hc) (by rfl) hni (gB I hg hm ⟨rfl,?_⟩ hd)
 show wpAny _ _ (evalArgs (.ref C) true ((false,eval (.Constant (.str msg) j p1) X.env)::backTo cpos (Kn [] X.env)) []) _ _ s
 refine MB (ML (Pm (M0 ?_)))
 refine⟨rfl,by show 1<=sizeLine;decide,hC,hN,T,λh' e hm'=>k pins _ _ ?_⟩
 obtain⟨t,ht,ht2,ht3⟩:=hm'.there
 have I':Inv X pins σ H { s with heap:=h',toks:=s.toks+1 }:=I.kept (t':=s.toks+1) λb o z=>hm'.keeps b o z
 refine⟨e,none,C,σ,H,rfl,hm,I',λb o z _=>z,?_,?_,⟨_,_,ht,rfl,rfl,rfl⟩,(λt z=>by cases z),λp hp=>⟨λz=> ?_,λz=>by cases z⟩⟩
 ·exact kx I hm'.new
 ·exact λhex=>fW I hex hm'.new
 ·have:=(I.pin p hp).1
  rw[z,show s.heap.get? e=none from hm'.new]at this
  cases this
end
section
variable {P:KA}{w:K1}{K:J5}{mg:Str->Option J7}{base:Heap}
theorem F9 {x qual:Str}{st:Stmt}{f:Addr}{fd:KY}{N ps:List Str}{k n:Nat}{g:List T->Rs T}(Fn:L2.Fun K x qual st f fd)(S:ay N ps (ai st))(hn:ps.length=n)
  (hbody:∀(cdv:J7) (A:KP) (outer:List Env) (s:J9) (H:Hp) (E:XK),Room k (A.deeper (envOfC qual (ai st) s.heap.objs.size f cdv)) →
   ∃F,(∀xe,jV ((fm CX0 P w K mg base N qual (ai st) f cdv A outer s H E).FB xe) (bu st) F)/\∀ts,ts.length=n->∀c,g ts= .err c->F (aI N.length ts)= .err c):FnX P w K mg base (k+1) f fd ps n g:=by
 intro A outer s H args us vs O ts c R hr e0 hb r rs trk hl hg hR
 have hpl:ps.length<=N.length:=by have:=congrArg LQ S.pre;rw[Lh]at this;omega
 obtain⟨oc,od,kV,doc,pm,an,cdv,ct,osl,rfl,lk,hcd⟩:=Fn.ex
 have hlen:vs.length=ps.length:=by rw[<-rs.length,hl,hn]
 have KX:K.In s.heap:=e0.mod.kin.keeps λb o e=>(e0.bs b o e).1
 have lim:s.heap.NoLimit:=e0.mod.nolimit.keeps λb o e=>(e0.bs b o e).1
 have hkind:∀y∈ps.zip us,(ai st).names.lookup y.1=some .local\/((ai st).names.lookup y.1=some .cell/\((Me (s.heap.objs.size+1) (ai st).names []).lookup y.1).isSome=true):=λ⟨n,v⟩ hy=>by
  rcases S.par n (MM hy).1 with q | q
  ·exact .inl q
  ·exact .inr ⟨q,Mq _ _ _ (.inl q)⟩
 refine Nh hr.depth (KX _ _ lk) rfl S.co S.gen rfl (NH KX hcd) (hb _ _ _ _ ?_)
 refine MA S.kind hkind λenv he s1 x=> ?_
 subst he;refine⟨lim.keeps x.toInCall.keep,Qk ?_⟩
 obtain⟨F,hF,hv⟩:=hbody cdv A outer s H E0 (hr.deeper _)
 let xe:J7->J9->Prop:=λev s'=>wpAny (model P w) (A.deeper (envOfC qual (ai st) s.heap.objs.size f cdv)) (leaving (envOfC qual (ai st) s.heap.objs.size f cdv) ev) (λ_ s''=>R (.error ev) s'') (λe' s''=>R (.error e') s'') s'
 have I:Inv ((fm CX0 P w K mg base N qual (ai st) f cdv A outer s H E0).FB xe) [] (start N vs) H s1:=(lu S hr.hd e0 hlen r x).FB _
 have no:∀a,¬noM.u a:=λa ⟨_,z⟩=>z
 refine LV (hF xe [] s1 (start N vs) H { nx:=λ_ _=>False,rt:=λ_ _=>False,bk:=λ_ _=>False,ct:=λ_ _=>False } I ⟨aI N.length ts,O,noM,i7 rs (by omega) trk,?_⟩) (λfl s' z=> ?_) λe s' hs=>hs
 rotate_left
 ·cases fl with
  | next=>obtain⟨_,_,_,z⟩:=z;exact z.elim
  | cont=>obtain⟨_,_,_,z⟩:=z;exact z.elim
  | brk=>obtain⟨_,_,_,z⟩:=z;exact z.elim
  | ret v=>obtain⟨_,_,_,_,_,z⟩:=z;exact z.elim
 rw[hv ts hl c hg];intro pins ev s' w'
 show wpAny _ _ _ _ _ _
 obtain⟨e,T,C,σ',H',rfl,hm,I',sm,he,heo,fl,hT,_⟩:=w'
 have heo:=heo rfl
 have hT:∀t,T=some t->H' t=none/\s.heap.get? t=none:=λt z=>⟨(hT t z).1,(hT t z).2 rfl⟩
 refine zU (base:=base) (outer:=outer) (L:=s.heap.objs.size) I'.ok.frames I'.stack rfl fl λh' T' g=>hR _ _ ?_
 have hex:((fm CX0 P w K mg base N qual (ai st) f cdv A outer s H E0).FB xe).ex= []:=rfl
 have Tn:H' T'=none/\s.heap.get? T'=none:=by
  rcases g.new with z | z
  ·exact hT T' z
  ·exact⟨kx I' z,fW I' hex z⟩
 have out:∀b o,s.heap.get? b=some o->b≠s.heap.objs.size:=λb o q z=>by
  have:=Kl q;rw[z]at this;exact absurd this (KI _)
 have mem:∀b,b∈oj ((envOfC qual (ai st) s.heap.objs.size f cdv)::outer)->b=s.heap.objs.size\/b∈oj outer:=λb z=>by
  have z':b∈s.heap.objs.size::oj outer:=z;exact Kf.mp z'
 have ne:∀b o,s.heap.get? b=some o->b≠e/\T≠some b:=λb o q=>⟨λz=>(by subst z;rw[show s.heap.get? b=none from heo]at q;cases q),λz=>(by rw[show s.heap.get? b=none from(hT b z).2]at q;cases q)⟩
 have keepH:∀b u,H' b≠none->s'.heap.get? b=some u->h'.get? b=some u:=λb u hb q=>by
  refine g.keep b u (λz=>hb (I'.Jr b z)) (λz=>hb (by rw[z];exact he)) (λz=>hb (hT b z).1) q
 refine⟨e,T',C,H',rfl,hm,I'.os,I'.bare,⟨λb o q n hb hx=> ?_,λb o q n hb hx=> ?_,λb o q n hx=>I'.base.free b o q n hx,λb o q hx=> ?_,I'.base.tups,I'.base.frzs,I'.base.tbls⟩,λa o q=> ?_,λb o q=>sm b o q (no b),he,heo,g.flt,Tn.1,Tn.2⟩
 ·exact g.keep b o (λz=>(mem b z).elim (out b o q) hb) (ne b o q).1 (ne b o q).2 (I'.base.keep b o q n hb hx)
 ·obtain⟨sl,q1⟩:=I'.base.slot b o q n hb hx
  obtain⟨sl',q2⟩:=g.slot b _ (J6 _ hb) q1;exact⟨sl',q2⟩
 ·obtain⟨o',q1⟩:=I'.base.there b o q hx
  by_cases z:b∈oj ((envOfC qual (ai st) s.heap.objs.size f cdv)::outer)
  ·obtain⟨sl,q2⟩:=g.slot b o' z q1
   exact⟨_,q2⟩
  ·exact⟨o',g.keep b o' z (ne b o q).1 (ne b o q).2 q1⟩
 ·refine(I'.hok a o q).Jt (λb u hb z=>keepH b u ?_ z) (λ_ z=>z) λ_ _ z=>z
  rcases hb with rfl | hb
  ·rw[q];simp
  ·rw[hb];simp
end
theorem BN {n m:Nat}{F:En->Rs Fl}{ts:List T}{c:Str}(h:val n m F ts= .err c):F (aI m ts)= .err c:=by
 unfold val at h
 split at h
 ·unfold bw at h
  cases z:F (aI m ts)with
  | bad=>rw[z]at h;cases h
  | err c'=>rw[z]at h;cases h;rfl
  | ok f=>
   rw[z,az]at h;cases f <;> cases h
 ·cases h
section
variable {P:KA}{w:K1}{K:J5}{mg:Str->Option J7}{base:Heap}
theorem Gb {x qual:Str}{st:Stmt}{f:Addr}{fd:KY}{N ps:List Str}{k n:Nat}{F:En->Rs Fl}(Fn:L2.Fun K x qual st f fd)(S:ay N ps (ai st))(hn:ps.length=n)
  (hbody:∀(cdv:J7) (A:KP) (outer:List Env) (s:J9) (H:Hp) (E:XK),Room k (A.deeper (envOfC qual (ai st) s.heap.objs.size f cdv)) →
   ∀xe,jV ((fm CX0 P w K mg base N qual (ai st) f cdv A outer s H E).FB xe) (bu st) F):Bx P w K mg base (k+1) f fd ps n (val n N.length F):=
 ⟨IE Fn S hn λcdv A outer s H E hr=>⟨F,hbody cdv A outer s H E hr _,λts _ _ h=>Ek h⟩,F9 Fn S hn λcdv A outer s H E hr=>⟨F,hbody cdv A outer s H E hr,λts _ c h=>BN h⟩⟩
end
section
variable {X:Cx}{k n:Nat}{f:Addr}{fd:KY}{ps:List Str}{g:List T->Rs T}{pins:List (Addr×Obj)}{σ:L2.St}{H:Hp}{s:J9}{us:List J7}{vs:List V}{ts:List T}{O:Ow}{Q:VK}
theorem G3 (F:Bx X.prog X.w X.K X.mg X.base k f fd ps n g)(hr:Room k X.A)(hb:Binds X.K fd ps [])(hps:ps.length=n)(I:Inv X pins σ H s)(r:Vals vs us)(rs:Reps X.K O H ts vs)(mt:∀a,O a->Mtb H a)(hl:ts.length=n)
  (hq:Post X H (g ts) λt H'=> ∀v,Rep X.K O H' t v->Q v H'):wpAny (model X.prog X.w) X.A (call (.ref f) us) (EP X pins σ Q) X.xe s:=by
 cases q2:g ts with
 | bad=>rw[q2]at hq;exact hq.elim
 | ok t=>
  rw[q2]at hq;refine qE (E:=E0) (dvs:=[]) (ds:=[]) F.h hr hb .nil sV I r ⟨ts,O,by simpa using rs,mt,hl,?_⟩
  rw[q2]
  exact λv H' s2 rr=>hq H' s2 v rr
 | err c=>
  rw[q2]at hq
  have hlen:us.length=ps.length:=by rw[<-r.length,<-rs.length,hl,hps]
  have hb':=hb s us I.kIn (by rw[KO];exact hlen)
  rw[KO]at hb';refine OW (MJ (F.x X.A X.stack s H ⟨us,[]⟩ us vs O ts c (λr s'=>match r with | .error ev=>X.xe ev s' | _=>False) hr I.JI hb' r rs mt hl q2 λev s' w=> ?_) λr s' hq=> ?_)
  ·obtain⟨ea,T,C,H',rfl,hmc,ho,hbare,hun,hok,sm2,hea,heo,fl,hT,hTo⟩:=w
   have I2:Inv X pins σ H' s':=I.JE ho hun hok hbare (λb z=>absurd z (by simp))
   exact hq pins _ _ ⟨ea,some T,C,σ,H',rfl,hmc,I2,λb o q _=>sm2 b o q,hea,λhex=>fW I hex heo,fl,(λt zt=>by cases zt;exact⟨hT,λhex=>fW I hex hTo⟩),λpp hpp=>⟨λzz=>(by have:=(I.pin pp hpp).1;rw[zz,heo]at this;cases this),λzz=>(by cases zz;have:=(I.pin pp hpp).1;rw[hTo]at this;cases this)⟩⟩
  ·cases r with
   | error ev=>exact hq
   | ok fl=>exact hq.elim
end
section
variable {X:Cx}{a:Expr}{fa:En->Rs T}{pos p:Pos}{x:Str}
theorem He:lE X (.Continue pos) DE:=PS.imp sU λD σ H ⟨Z,B,M,E,h⟩=>h σ H M (λ_ _ e _=>e) E λa z=> .inl z
end
inductive OTail (h:Heap):List J7->Prop
 | base:OTail h vC
 | own {A:Addr} {c0:J7} {dd:Option Addr} {cd:ClassData} {sl:Array (Option J7)} {mA:Str->Option J7} {tl:List J7} :
   h.get? A=some { cls:=c0,dict:=dd,data:=.cls cd,slots:=sl }->h.Ns cd.ns mA->(∀n∈calmNames,mA n=none)->OTail h tl->OTail h (.ref A::tl)
theorem OTail.tail {h:Heap}{tl:List J7}(T:OTail h tl):OwnTail h vC tl:=by
 induction T with
 | base=>exact .base
 | own hA hN hq _ ih=>exact .own hA hN (hq _ (.head _)) ih
structure OX (K:J5)(C:Addr)(bm:List J7):Prop where
 at_:∀h:Heap,K.In h->∃nm q N bs hdct sn sub ab col dd k0 k1 k2 k3 k5 mN,h.get? C=some (MF nm q C N bs bm hdct sn sub ab col dd k0 k1 k2 k3 k5 "ValueError.__new__")/\h.Ns N mN/\(∀n∈calmNames,mN n=none)/\OTail h bm
theorem OX.own {K:J5}{C:Addr}{bm:List J7}(O:OX K C bm):OwnExc K C bm:=⟨λh k=>by
 obtain⟨nm,q,N,bs,hdct,sn,sub,ab,col,dd,k0,k1,k2,k3,k5,mN,h1,h2,h3,h4⟩:=O.at_ h k;exact⟨nm,q,N,bs,hdct,sn,sub,ab,col,dd,k0,k1,k2,k3,k5,mN,h1,h2,h3 _ (.head _),h4.tail⟩⟩
section
variable {M:Model}{A:KP}{E:J7->J9->Prop}{s:J9}
theorem HI {base:Heap}{env:Env}{outer:List Env}{L C e:Addr}{T:Option Addr}{Q:Unit->J9->Prop}(hfr:A.frames=some (env::outer))(hl:s.heap.FunFrames base (env::outer))(hf:env.frame=some L)
  (F:IV s.heap C e T) (h:∀h' T',Dv ((env::outer).filterMap (·.frame)) C e T s.heap h' T'->Q () { s with heap:=h' }) :
  wpAny M A (Q2 (.ref e) env) (λ_ s'=>wpAny M A (setFlight (.ref e) none) Q E s') E s:=by
 generalize hB:Ou s.heap (e::(T.toList++(env::outer).filterMap (·.frame)))=B
 have bm:∀b,b∈e::(T.toList++(env::outer).filterMap (·.frame))->B.get? b=none:=λb m=>by rw[<-hB];exact Nm _ m
 have hl':s.heap.FunFrames B (env::outer):=fX hl λa ha=>bm a (J6 _ (Kr _ ha))
 have hst:B.StaysIn s.heap:=λb o q=>by rw[<-hB]at q;exact NG _ q
 have hen:B.get? e=none:=bm e Ke
 have main:∀h',Heap.Left B (env::outer) e (.ref C) s.heap h'->Q () { s with heap:=h' }:=λh' ⟨x1,x2,⟨oe,vs,T',oT,ts,he,hc,hd,h1,hnT,hTe,hT,hdT,h3⟩,x4⟩=>by
  refine h h' T' ⟨⟨hTe,oe,vs,he,hc,hd,h1,oT,ts,hT,hdT,h3⟩,?_,λb o n1 n2 n3 q=> ?_,λb o m q=> ?_⟩
  ·cases q:s.heap.get? T' with
   | none=>exact .inr rfl
   | some o=>
    left
    by_cases z:T'∈e::(T.toList++(env::outer).filterMap (·.frame))
    ·rcases Kf.mp z with z | z
     ·exact absurd z hTe
     ·rcases Ky.mp z with z | z
      ·cases T with
       | none=>simp at z
       | some t=>simp at z;rw[z]
      ·obtain⟨_,o',ho',hnf⟩:=x2.mem z
       rw[hT]at ho';cases ho';exact absurd hdT (hnf ts)
    ·rw[<-hB,Mg _ q z]at hnT;cases hnT
  ·refine x1 b o ?_
   rw[<-hB];refine Mg _ q λz=> ?_
   rcases Kf.mp z with z | z
   ·exact n2 z
   ·rcases Ky.mp z with z | z
    ·cases T with
     | none=>simp at z
     | some t=>simp at z;exact n3 (by rw[z])
    ·exact n1 z
  ·obtain⟨_,o',ho',hnf⟩:=hl.mem m
   rw[q]at ho';cases ho';exact x4 b o q hnf
 cases T with
 | none=>
  obtain⟨oe,vs,he,hc,hd,h1⟩:=F;unfold Q2;simp only[hf];refine Kb (L3 he hd h1 ?_)
  rw[if_neg (by decide)]
  refine wpAny_newEntry hfr hl' hf he hst hen hd (Lp.mp h1).1 λh' x=>main h' ?_
  rw[hc]at x;exact x
 | some t=>
  obtain⟨hte,oe,vs,he,hc,hd,h1,oT,ts,hT,hdT,h3⟩:=F
  have hnT:B.get? t=none:=bm t (J6 _ (KD _ (by simp)))
  unfold Q2;simp only[hf];refine Kb (L3 he hd h1 ?_)
  rw[if_pos (show(KG t != KR)=true from by simp)]
  refine Kb (L3 hT hdT h3 ?_)
  rw[if_neg (show ¬((KR == rawInt L)=true)from by simp[rawInt])]
  refine Kb (Pa hT hdT (Lp.mp h3).1 ?_)
  have other:∀b,b≠t->(s.heap.update t (Pr (·.setIfInBounds 3 KR))).get? b=s.heap.get? b:=λb hb=>MX _ _ (Mv hb)
  have noRec:∀b o,s.heap.get? b=some o->(∀vs,o.data≠ .fields vs)->b≠t:=λb o hb hnf q=>by
   rw[q,hT]at hb;injection hb with hb;subst hb;exact hnf ts hdT
  refine wpAny_newEntry hfr (hl'.of_keeps λb o hb hnf=>⟨o,(other b (noRec b o hb hnf)).trans hb,rfl⟩) hf ((other e (Mv hte)).trans he)
   (λb o hbo=>(other b λq=>by rw[q,hnT]at hbo;cases hbo).trans (hst b o hbo)) hen hd (Lp.mp h1).1
   λh' x=>main h' ?_
  obtain⟨x1,x2,x3,x4⟩:=x;rw[hc]at x3;exact⟨x1,x2,x3,λb o hb hnf=>x4 b o ((other b (noRec b o hb hnf)).trans hb) hnf⟩
end
section
variable {X:Cx}{pins:List (Addr×Obj)}{σ:L2.St}{H:Hp}{s:J9}{h':Heap}
theorem Inv.gone {C e T':Addr}{T:Option Addr}(I:Inv X pins σ H s)(hst:X.stack=X.env::X.outer)(hfe:X.env.frame=some X.env.locals)(hcl:∀x c,X.env.cells.lookup x≠some c)(hex:X.ex= [])
  (g:Dv ((X.env::X.outer).filterMap (·.frame)) C e T s.heap h' T') (he:H e=none) (heo:X.s₀.heap.get? e=none) (hT:∀t,T=some t->H t=none/\X.s₀.heap.get? t=none) (hp:∀p∈X.pn++pins,p.1≠e/\T≠some p.1) :
  Inv X pins σ H { s with heap:=h' }:=by
 have mem:∀b,b∈(X.env::X.outer).filterMap (·.frame)↔b=X.env.locals\/b∈X.fs:=λb=>by
  rw[Ls,hfe];exact Kf
 have out:∀b o,X.s₀.heap.get? b=some o->b≠X.env.locals:=λb o q z=>by
  have h1:=Kl q
  have h2:=I.ok.above;rw[z]at h1;exact absurd (Ks h1 h2) (KI _)
 have ne:∀b o,X.s₀.heap.get? b=some o->b≠e/\T≠some b:=λb o q=>⟨λz=>(by subst z;rw[heo]at q;cases q),λz=>(by rw[(hT b z).2]at q;cases q)⟩
 have fr:∀b,b∈(X.env::X.outer).filterMap (·.frame)->H b=none:=λb z=>I.Jr b (by rw[hst];exact z)
 have keepH:∀b u,H b≠none->s.heap.get? b=some u->h'.get? b=some u:=λb u hb q=>by
  refine g.keep b u (λz=>hb (fr b z)) (λz=>hb (by rw[z];exact he)) (λz=>hb (hT b z).1) q
 refine⟨I.ok,I.os,I.bare,⟨λb o q n hb hx=> ?_,λb o q n hb hx=> ?_,I.base.free,λb o q hx=> ?_,I.base.tups,I.base.frzs,I.base.tbls⟩,?_,λx c z=>absurd z (hcl x c),I.free,I.freeC,λp hp'=> ?_,λa o q=> ?_,I.len⟩
 ·exact g.keep b o (λz=>((mem b).mp z).elim (out b o q) hb) (ne b o q).1 (ne b o q).2 (I.base.keep b o q n hb hx)
 ·obtain⟨sl,q1⟩:=I.base.slot b o q n hb hx
  obtain⟨sl',q2⟩:=g.slot b _ ((mem b).mpr (.inr hb)) q1;exact⟨sl',q2⟩
 ·obtain⟨o',q1⟩:=I.base.there b o q hx
  by_cases z:b∈(X.env::X.outer).filterMap (·.frame)
  ·obtain⟨sl,q2⟩:=g.slot b o' z q1
   exact⟨_,q2⟩
  ·exact⟨o',g.keep b o' z (ne b o q).1 (ne b o q).2 q1⟩
 ·obtain⟨m,⟨o,es,ep,ho,hd,r⟩,hl⟩:=I.loc
  obtain⟨sl,q2⟩:=g.slot X.env.locals o ((mem _).mpr (.inl rfl)) ho;refine⟨m,⟨_,es,ep,q2,hd,r⟩,λi x v a1 a2 a3=> ?_⟩
  obtain⟨u,ru,lk⟩:=hl i x v a1 a2 a3;refine⟨u,ru,?_⟩
  rcases lk with z | ⟨_,c,z,_⟩
  ·exact .inl z
  ·exact absurd z (hcl x c)
 ·obtain⟨b1,b2,b3,b4,b5⟩:=I.pin p hp'
  exact⟨g.keep p.1 p.2 (λz=>((mem _).mp z).elim b3 b4) (hp p hp').1 (hp p hp').2 b1,b2,b3,b4,b5⟩
 ·refine(I.hok a o q).Jt (λb u hb z=>keepH b u ?_ z) (λ_ z=>z) λ_ _ z=>z
  rcases hb with rfl | hb
  ·rw[q];simp
  ·rw[hb];simp
end
section
variable {M:Model}{A:KP}{E:J7->J9->Prop}{h:Heap}{g:Array GenState}{d:Drawn}{t:Nat}{os:NO}
variable {nm q:Str}{C N:Addr}{bs bm:List J7}{hdct:Bool}{sn:List Str}{sub:List J7}{ab:Bool}{col:Option Bool}{dd:Option Addr}{k0 k1 k2 k3 k5:Option J7}{newId:String}
variable {nm' q':Str}{D N':Addr}{bs' bm':List J7}{hdct':Bool}{sn':List Str}{sub':List J7}{ab':Bool}{col':Option Bool}{dd':Option Addr}{k0' k1' k2' k3' k5':Option J7}{newId':String}
theorem ya {e:Addr}{oe:Obj}{Q:Bool->J9->Prop}(hC:h.get? C=some (MF nm q C N bs bm hdct sn sub ab col dd k0 k1 k2 k3 k5 newId))(hD:h.get? D=some (MF nm' q' D N' bs' bm' hdct' sn' sub' ab' col' dd' k0' k1' k2' k3' k5' newId'))
  (he:h.get? e=some oe) (hcls:oe.cls= .ref C) (hb:bm'.contains (.type "BaseException")=true) (hin:(KG C::bm).contains (.ref D)=true) (hq:Q true ⟨h,g,d,t,os⟩):wpAny M A (excMatches (.ref e) (.ref D)) Q E ⟨h,g,d,t,os⟩:=by
 have hcB:(KG D::bm').contains (.type "BaseException")=true:=by rw[MP,hb,Bool.or_true]
 have f:=tc_notTuple;unfold excMatches
 repeat (first | (with_reducible refine P6 he ?_;rw[hcls]) | with_reducible refine P6 hD ?_ | (with_reducible refine Pl hD ?_;rw[hcB]) | (with_reducible refine Pl hC ?_;rw[hin]) | wp_step)
 exact hq
end
abbrev DU (X:Cx)(e:Addr)(oe:Obj):Cx:={ X with A:=X.A.mark (some (.ref e)),calm:=false,pn:=(e,oe)::X.pn,xe:=λ_ _=>False }
section
variable {X:Cx}{pins:List (Addr×Obj)}{σ:L2.St}{H:Hp}{s:J9}{e:Addr}{oe:Obj}
theorem wY (I:Inv X pins σ H s)(he:s.heap.get? e=some oe)(hH:H e=none)(hne:e≠X.env.locals)(hf:e∉X.fs)(hc:∀v,oe.data≠ .cell v):Inv (DU X e oe) pins σ H s:=by
 have ok:=I.ok;refine⟨⟨ok.mod,ok.kind,ok.glob,ok.blt,ok.above,ok.inj,ok.has,ok.cab,(λz=>by cases z),?_,ok.stk,ok.exf,ok.bs,ok.bsz,ok.noex,ok.exfs,ok.funs,ok.frf⟩,I.os,I.bare,I.base,I.loc,I.cell,I.free,I.freeC,λp hp=> ?_,I.hok,I.len⟩
 ·exact ok.frames
 ·rcases Kf.mp (show p∈(e,oe)::(X.pn++pins)from hp)with z | z
  ·subst z;exact⟨he,hH,hne,hf,hc⟩
  ·exact I.pin p z
theorem C2 (ok:X.Ok)(I:Inv (DU X e oe) pins σ H s):Inv X pins σ H s:=
 ⟨ok,I.os,I.bare,I.base,I.loc,I.cell,I.free,I.freeC,λp hp=>I.pin p (J6 _ hp),I.hok,I.len⟩
end
section
variable {X:Cx}
theorem Inv.JZ {σ:L2.St}{H:Hp}{s:J9}(pins:List (Addr×Obj))(I:Inv X pins σ H s):Inv { X with pn:=X.pn++pins } [] σ H s:=
 ⟨⟨I.ok.mod,I.ok.kind,I.ok.glob,I.ok.blt,I.ok.above,I.ok.inj,I.ok.has,I.ok.cab,I.ok.hd,I.ok.frames,I.ok.stk,I.ok.exf,I.ok.bs,I.ok.bsz,I.ok.noex,I.ok.exfs,I.ok.funs,I.ok.frf⟩,I.os,I.bare,I.base,I.loc,I.cell,I.free,I.freeC,λp hp=>I.pin p (by rw[KO]at hp;exact hp),I.hok,I.len⟩
theorem Inv.JQ {σ:L2.St}{H:Hp}{s:J9}{pins pins1:List (Addr×Obj)}{xe:J7->J9->Prop}(I:Inv { X with pn:=X.pn++pins,xe:=xe } pins1 σ H s):Inv X pins σ H s:=
 ⟨⟨I.ok.mod,I.ok.kind,I.ok.glob,I.ok.blt,I.ok.above,I.ok.inj,I.ok.has,I.ok.cab,I.ok.hd,I.ok.frames,I.ok.stk,I.ok.exf,I.ok.bs,I.ok.bsz,I.ok.noex,I.ok.exfs,I.ok.funs,I.ok.frf⟩,I.os,I.bare,I.base,I.loc,I.cell,I.free,I.freeC,λp hp=>I.pin p (KD _ hp),I.hok,I.len⟩
end
theorem HH {K:J5}{N:Addr}{ob:J7}{oe:Option Addr}{es:Array DictEntry}{n:Nat}{oz:Array (Option J7)}(r:K.lookup N=some ⟨ob,oe,.dict es n,oz⟩)(s:(es.toList.all λe=>yX e.key)=true)
  (u0:MH K N "__init__" =some none) (u1:MH K N "__getattribute__" =some none) (u2:MH K N "__getattr__" =some none) (u3:MH K N "__class__" =some none) :
  ∀h:Heap,K.In h->∃mN,h.Ns N mN/\∀n∈calmNames,mN n=none:=λh k=>by
 refine⟨nsFind es,⟨_,es,n,k _ _ r,rfl,λe he=> ?_,λ_=>rfl⟩,λx hx=> ?_⟩
 ·have:=KF.mp s e (by simpa using he)
  cases q:e.key <;> rw[q]at this <;> first | exact⟨_,_,rfl⟩ | cases this
 ·have key:∀x,MH K N x=some none->nsFind es x=none:=λx u=>by
   unfold MH at u;rw[r]at u;simp only at u
   split at u
   ·cases u
   ·rename_i he
    unfold nsFind findBy;rw[<-Pn,he];rfl
  unfold calmNames at hx;simp only[Kf,Li,or_false]at hx;rcases hx with rfl | rfl | rfl | rfl
  ·exact key _ u0
  ·exact key _ u1
  ·exact key _ u2
  ·exact key _ u3
section
variable {K:J5}{nm q:Str}{C N:Addr}{bs:List J7}{hdct:Bool}{sn:List Str}{sub:List J7}{ab:Bool}{col:Option Bool}{dd:Option Addr}{k0 k1 k2 k3 k5:Option J7}
variable {nm' q':Str}{D N':Addr}{bs':List J7}{hdct':Bool}{sn':List Str}{sub':List J7}{ab':Bool}{col':Option Bool}{dd':Option Addr}{k0' k1' k2' k3' k5':Option J7}
theorem CD (w:K.lookup C=some (MF nm q C N bs vC hdct sn sub ab col dd k0 k1 k2 k3 k5 "ValueError.__new__"))(ns:∀h:Heap,K.In h->∃mN,h.Ns N mN/\∀n∈calmNames,mN n=none):OX K C vC:=⟨λh k=>by
 obtain⟨mN,h1,h2⟩:=ns h k;exact⟨nm,q,N,bs,hdct,sn,sub,ab,col,dd,k0,k1,k2,k3,k5,mN,k _ _ w,h1,h2,.base⟩⟩
theorem zA (w:K.lookup C=some (MF nm q C N bs (.ref D::vC) hdct sn sub ab col dd k0 k1 k2 k3 k5 "ValueError.__new__"))(ns:∀h:Heap,K.In h->∃mN,h.Ns N mN/\∀n∈calmNames,mN n=none)
  (wD:K.lookup D=some (MF nm' q' D N' bs' vC hdct' sn' sub' ab' col' dd' k0' k1' k2' k3' k5' "ValueError.__new__")) (nsD:∀h:Heap,K.In h->∃mN,h.Ns N' mN/\∀n∈calmNames,mN n=none):OX K C (.ref D::vC):=⟨λh k=>by
 obtain⟨mN,h1,h2⟩:=ns h k;obtain⟨mD,d1,d2⟩:=nsD h k;exact⟨nm,q,N,bs,hdct,sn,sub,ab,col,dd,k0,k1,k2,k3,k5,mN,k _ _ w,h1,h2,.own (k _ _ wD) d1 d2 .base⟩⟩
end
end Tr
namespace L2
open PySem PySem.Spec PyProof.Rows
section
variable {κ:Type}[DecidableEq κ]
def jF (kvs:List (κ×V))(k:κ):Option V:=(kvs.find? λkv=>decide (kv.1=k)).map (·.2)
def dB (kvs:List (κ×V))(k:κ)(v:V):List (κ×V):=
 if (kvs.any λkv=>decide (kv.1=k))=true then kvs.map (λkv=>if kv.1=k then(kv.1,v)else kv)else kvs++ [(k,v)]
theorem yS {k:κ}:jF ([]:List (κ×V)) k=none:=rfl
theorem j5 {p:κ×V}{r:List (κ×V)}{k:κ}(e:p.1=k):jF (p::r) k=some p.2:=by simp[jF,Ma,e]
theorem j6 {p:κ×V}{r:List (κ×V)}{k:κ}(e:¬ p.1=k):jF (p::r) k=jF r k:=by simp[jF,Ma,e]
theorem sv (k:κ):∀kvs:List (κ×V),(kvs.any λkv=>decide (kv.1=k))=(jF kvs k).isSome
 | [] =>rfl
 | p::r=>by
  rw[Mi]
  by_cases e:p.1=k
  ·simp only[j5 e,decide_eq_true e,Bool.true_or,Pp]
  ·rw[j6 e,decide_eq_false e,Pq];exact sv k r
theorem fR (kvs:List (κ×V))(k:κ)(v:V):(dB kvs k v).length<=kvs.length+1:=by
 unfold dB;split
 ·rw[Kc];omega
 ·rw[Kh,Kd,OD];omega
theorem RelO.JG {o:Option V}{u:Option J7}(r:RelO o u):o.isSome=u.isSome:=by
 cases o with
 | none=>cases u with
  | none=>rfl
  | some _=>exact(show False from r).elim
 | some _=>cases u with
  | none=>exact(show False from r).elim
  | some _=>rfl
theorem RelO.getD {o:Option V}{u:Option J7}{d:V}{d':J7}(r:RelO o u)(rd:RelV d d'):RelV (o.getD d) (u.getD d'):=by
 cases o with
 | none=>cases u with
  | none=>exact rd
  | some _=>exact(show False from r).elim
 | some _=>cases u with
  | none=>exact(show False from r).elim
  | some _=>exact r
theorem KV.val {kvs:List (κ×V)}{vs:List (κ×J7)}(r:KV kvs vs)(k:κ):RelO (jF kvs k) (valueAt vs k):=by
 unfold KV at r
 induction r with
 | nil=>exact L7
 | @cons p q ps qs h t ih=>
  obtain⟨h1,h2⟩:=h
  by_cases e:p.1=k
  ·have e':q.1=k:=h1.symm.trans e
   have b:valueAt (q::qs) k=some q.2:=by simp[valueAt,Ma,e']
   rw[j5 e,b];exact h2
  ·have e':¬ q.1=k:=λz=>e (h1.trans z)
   have b:valueAt (q::qs) k=valueAt qs k:=by simp[valueAt,Ma,e']
   rw[j6 e,b];exact ih
theorem KV.any {kvs:List (κ×V)}{vs:List (κ×J7)}(r:KV kvs vs)(k:κ):(kvs.any λkv=>decide (kv.1=k))=vs.any λkv=>decide (kv.1=k):=by
 unfold KV at r
 induction r with
 | nil=>rfl
 | cons h t ih=>rw[Mi,Mi,ih,h.1]
theorem KV.JO {kvs:List (κ×V)}{vs:List (κ×J7)}(r:KV kvs vs)(k:κ){y:V}{u:J7}(ry:RelV y u) :
  KV (kvs.map λkv=>if kv.1=k then(kv.1,y)else kv) (vs.map λkv=>if kv.1=k then(kv.1,u)else kv):=by
 unfold KV at r ⊢
 induction r with
 | nil=>exact .nil
 | @cons p q ps qs h t ih=>
  rw[Ka,Ka];refine .cons ?_ ih
  obtain⟨h1,h2⟩:=h
  by_cases e:p.1=k
  ·rw[if_pos e,if_pos (h1.symm.trans e)];exact⟨h1,ry⟩
  ·rw[if_neg e,if_neg (λz=>e (h1.trans z))];exact⟨h1,h2⟩
theorem KV.put {kvs:List (κ×V)}{vs:List (κ×J7)}(r:KV kvs vs)(k:κ){y:V}{u:J7}(ry:RelV y u):KV (dB kvs k y) (stored vs k u):=by
 unfold dB stored;rw[r.any k]
 by_cases e:(vs.any λkv=>decide (kv.1=k))=true
 ·rw[if_pos e,if_pos e];exact r.JO k ry
 ·rw[if_neg e,if_neg e];exact Paired.snoc r ⟨rfl,ry⟩
theorem KV.length {kvs:List (κ×V)}{vs:List (κ×J7)}(r:KV kvs vs):kvs.length=vs.length:=N7 r
end
theorem wV {P:KA}{w:K1}{k:Key}{u:J7}(r:RelV (kV k) u):(cm P w).is k u=true:=by
 cases k with
 | inl i=>obtain⟨t,e⟩:=(show ∃t,u=Lq i t from r);subst e;exact tM P w i t
 | inr x=>obtain⟨t,e⟩:=(show ∃t,u=Lr x t from r);subst e;exact tL P w x t
theorem pR {P:KA}{w:K1}:∀{ks:List Key} {us:List J7},Vals (ks.map kV) us->ItemsAre (cm P w) ks us
 | [],_,r=>by rw[Oy]at r;cases r;exact .nil
 | k::ks,_,r=>by
  rw[Ka]at r
  cases r with
  | cons h t=>exact .cons (wV h) (pR t)
abbrev KT (H:Hp):List (List Key×V)->List (List Key×Addr×J7)->Prop:=Q5 λp q=>p.1=q.1/\H q.2.1=some (.tup (p.1.map kV))/\RelV p.2 q.2.2
theorem KT.val {H:Hp}{kvs:List (List Key×V)}{xs:List (List Key×Addr×J7)}(r:KT H kvs xs)(k:List Key):RelO (jF kvs k) ((atKey xs k).map (·.2)):=by
 induction r with
 | nil=>exact L7
 | @cons p q ps qs h t ih=>
  obtain⟨h1,_,h2⟩:=h
  by_cases e:p.1=k
  ·have e':q.1=k:=h1.symm.trans e
   have b:atKey (q::qs) k=some q.2:=by simp[atKey,Ma,e']
   rw[j5 e,b];exact h2
  ·have e':¬ q.1=k:=λz=>e (h1.trans z)
   have b:atKey (q::qs) k=atKey qs k:=by simp[atKey,Ma,e']
   rw[j6 e,b];exact ih
theorem KT.JO {H:Hp}{kvs:List (List Key×V)}{xs:List (List Key×Addr×J7)}(r:KT H kvs xs)(k:List Key){y:V}{u:J7}(ry:RelV y u) :
  KT H (kvs.map λkv=>if kv.1=k then(kv.1,y)else kv) (xs.map (putAt k u)):=by
 induction r with
 | nil=>exact .nil
 | @cons p q ps qs h t ih=>
  rw[Ka,Ka];refine .cons ?_ ih
  obtain⟨h1,h2,h3⟩:=h;unfold putAt
  by_cases e:p.1=k
  ·rw[if_pos e,if_pos (h1.symm.trans e)];exact⟨h1,h2,ry⟩
  ·rw[if_neg e,if_neg (λz=>e (h1.trans z))];exact⟨h1,h2,h3⟩
theorem KT.put {H:Hp}{kvs:List (List Key×V)}{xs:List (List Key×Addr×J7)}(r:KT H kvs xs)(k:List Key){b:Addr}{y:V}{u:J7}(hb:H b=some (.tup (k.map kV)))(ry:RelV y u) :
  KT H (dB kvs k y) (storedH xs k b u):=by
 have e:(kvs.any λkv=>decide (kv.1=k))=(atKey xs k).isSome:=by
  rw[sv,(r.val k).JG,Option.isSome_map]
 unfold dB storedH;rw[e]
 by_cases q:(atKey xs k).isSome=true
 ·rw[if_pos q,if_pos q];exact r.JO k ry
 ·rw[if_neg q,if_neg q];exact Paired.snoc r ⟨rfl,hb,ry⟩
theorem KT.keeps {H H':Hp}{kvs:List (List Key×V)}{xs:List (List Key×Addr×J7)}(r:KT H kvs xs)(ht:∀b ys,H b=some (.tup ys)->H' b=some (.tup ys)):KT H' kvs xs:=
 Paired.JN r λ_ _ z=>⟨z.1,ht _ _ z.2.1,z.2.2⟩
section
variable {P:KA}{w:K1}{H:Hp}{h:Heap}{a:Addr}
theorem v5 {u:HO}(ok:HOk P w H h)(e:Rd H a u):ObjOk P w H h a u:=e.ok ok
theorem uf {kvs:List (Key×V)}(ok:HOk P w H h)(e:Rd H a (.dK kvs)):kvs.length<=sizeLine/\(a == Mz)=false/\∃vs,KV kvs vs/\h.DictOf (cm P w) a vs:=
 show ObjOk P w H h a (.dK kvs)from v5 ok e
theorem IM {kvs:List (Key×V)}(ok:HOk P w H h)(e:H a=some (.dK kvs)):kvs.length<=sizeLine/\(a == Mz)=false/\∃vs,KV kvs vs/\h.DictOf (cm P w) a vs:=uf ok (.inl e)
theorem n6 {ks:List Key}(ok:HOk P w H h)(e:H a=some (.tup (ks.map kV))):(NZ (cm P w)).is h ks a:=by
 obtain⟨_,its,r,o,h1,h2,n,h3⟩:=(show ObjOk P w H h a (.tup (ks.map kV))from ok a _ e)
 exact⟨o,its.toArray,n,h1,h2,h3,by simpa using pR r⟩
theorem ud {kvs:List (List Key×V)}(ok:HOk P w H h)(e:Rd H a (.dT kvs)):kvs.length<=sizeLine/\(a == Mz)=false ∧
  ∃xs,KT H kvs xs/\h.DictOfH (NZ (cm P w)) a xs:=by
 obtain⟨z,y,xs,r,o,es,ep,h1,h2,h3,h4,h5⟩:=(show ObjOk P w H h a (.dT kvs)from v5 ok e)
 refine⟨z,y,xs,r,o,es,ep,h1,h2,h3,h4,λx hx=> ?_,h5⟩
 have all:∀{l:List (List Key×V)} {m:List (List Key×Addr×J7)},KT H l m->∀x∈m,(NZ (cm P w)).is h x.1 x.2.1:=by
  intro l m q
  induction q with
  | nil=>intro x hx;exact nomatch hx
  | @cons p q ps qs hq t ih=>
   intro x hx;rcases Kf.mp hx with e | hx
   ·subst e
    exact n6 ok (by rw[<-hq.1];exact hq.2.1)
   ·exact ih x hx
 exact all r x hx
theorem AQ {kvs:List (List Key×V)}(ok:HOk P w H h)(e:H a=some (.dT kvs)):kvs.length<=sizeLine/\(a == Mz)=false ∧
  ∃xs,KT H kvs xs/\h.DictOfH (NZ (cm P w)) a xs:=ud ok (.inl e)
end
def DGet (H:Hp)(a:Addr)(y:V)(r:Option V):Prop:=
 (∃kvs k,Rd H a (.dK kvs)/\y=kV k/\r=jF kvs k)\/∃kvs k b,Rd H a (.dT kvs)/\y= .ref b/\H b=some (.tup (k.map kV))/\r=jF kvs k
def DPut (H:Hp)(a:Addr)(y v:V)(H':Hp):Prop:=
 (∃kvs k,H a=some (.dK kvs)/\y=kV k/\kvs.length<sizeLine/\H'=upd H a (.dK (dB kvs k v))) ∨
 ∃kvs k b,H a=some (.dT kvs)/\y= .ref b/\H b=some (.tup (k.map kV))/\kvs.length<sizeLine/\H'=upd H a (.dT (dB kvs k v))
theorem DPut.t {H:Hp}{a b:Addr}{kvs:List (List Key×V)}{k:List Key}{v:V}(e:H a=some (.dT kvs))(eb:H b=some (.tup (k.map kV)))(hl:kvs.length<sizeLine) :
  DPut H a (.ref b) v (upd H a (.dT (dB kvs k v))):=.inr ⟨kvs,k,b,e,rfl,eb,hl,rfl⟩
section
variable {X:Cx}{pins:List (Addr×Obj)}{σ:St}{H:Hp}{s:J9}{a:Addr}{y v:V}{u r:J7}{o:Option V}{A:KP}{E:J7->J9->Prop}
theorem Inv.big (I:Inv X pins σ H s):Mz<s.heap.objs.size:=by
 have h:KN<s.heap.objs.size:=(I.mod.glob.keeps I.bk).lt;exact Nat.lt_trans (by decide) h
theorem yw {Q:J7->J9->Prop}(hu:A.units+1<cLine)(I:Inv X pins σ H s)(g:DGet H a y (some v))(ry:RelV y u)(h:∀w' s',Inv X pins σ H s'->RelV v w'->Q w' s') :
  wpAny (model X.prog X.w) A (getItem (.ref a) u) Q E s:=by
 rcases g with⟨kvs,k,e,ey,l⟩ | ⟨kvs,k,b,e,ey,eb,l⟩
 ·subst ey
  obtain⟨z,hd,vs,rel,dd⟩:=uf I.hok e;obtain⟨w',hw,rw'⟩:=RelO.some_of (v:=v) (o:=valueAt vs k) (by rw[l];exact rel.val k)
  exact wpAny_getItem_of (wV ry) dd.mapOf hw (h w' _ (I.tok _) rw')
 ·subst ey
  cases (show u=KG b from ry)
  obtain⟨z,hd,xs,rel,dd⟩:=ud I.hok e;obtain⟨w',hw,rw'⟩:=RelO.some_of (v:=v) (o:=(atKey xs k).map (·.2)) (by rw[l];exact rel.val k)
  obtain⟨p,hp,hp2⟩:=MY.mp hw;refine wpAny_getItem_heap (MV hu) (n6 I.hok eb) dd hp ?_
  rw[hp2];exact h w' _ (I.tok _) rw'
theorem rV {h':Heap}{t':Nat}{ob:HO}(I:Inv X pins σ H s)(mu:IU (H a))(hs:Nc a s.heap h')(he:∃q,h'.get? a=some q)(new:ObjOk X.prog X.w (upd H a ob) h' a ob) :
  Inv X pins σ (upd H a ob) { s with heap:=h',toks:=t' }:=
 I.write (x:=a) (e:=a) mu (.inl rfl) (λb q hb z=>(hs.2 b hb).trans z) he new
theorem Gp {P:KA}{w:K1}{H':Hp}{h':Heap}{kvs:List (Key×V)}{vs:List (Key×J7)}(z:kvs.length<=sizeLine)(hd:(a == Mz)=false)(rel:KV kvs vs)(dd:h'.DictOf (cm P w) a vs) :
  ObjOk P w H' h' a (.dK kvs):=⟨z,hd,vs,rel,dd⟩
theorem yu {H':Hp}{Q:Unit->J9->Prop}(hu:A.units+1<cLine)(I:Inv X pins σ H s)(g:DPut H a y v H')(ry:RelV y u)(rv:RelV v r)(h:∀s',Inv X pins σ H' s'->Q () s') :
  wpAny (model X.prog X.w) A (setItem (.ref a) u r) Q E s:=by
 rcases g with⟨kvs,k,e,ey,l,eH⟩ | ⟨kvs,k,b,e,ey,eb,l,eH⟩
 ·subst ey eH
  obtain⟨z,hd,vs,rel,dd⟩:=IM I.hok e
  have hz:vs.length<=sizeLine:=by rw[<-rel.length];exact z
  have hl:(dB kvs k v).length<=sizeLine:=by have:=fR kvs k v;omega
  refine wpAny_setItem_pairs (hsz:=hz) (wV ry) dd λh' dd' hs=>h _ ?_
  have he:∃q,h'.get? a=some q:=let ⟨q,_,_,hq,_⟩:=dd';⟨q,hq⟩
  exact rV I (by rw[e];exact L7) hs he (Gp hl hd (rel.put k rv) dd')
 ·subst ey eH
  cases (show u=KG b from ry)
  obtain⟨z,hd,xs,rel,dd⟩:=AQ I.hok e
  have hz:xs.length<=sizeLine:=by rw[<-N7 rel];exact z
  have hl:(dB kvs k v).length<=sizeLine:=by have:=fR kvs k v;omega
  refine wpAny_setItem_heap (hsz:=hz) (MV hu) (n6 I.hok eb) dd λh' dd' hs=>h _ ?_
  obtain⟨q,es,ep,hq,h2,h3,h4,_,h5⟩:=dd';refine rV I (by rw[e];exact L7) hs ⟨q,hq⟩ ⟨hl,hd,_,(rel.put k eb rv).keeps λc ys ec=> ?_,q,es,ep,hq,h2,h3,h4,h5⟩
  rw[aE (nT ec e (λz=>nomatch z))]
  exact ec
end
def Dt (i:Expr):Prop:=∀ov iv,Pk i false ov iv=operate [ov,iv] (getItem ov iv)
theorem BR {prog:KA}{w:K1}{A:KP}{E:J7->J9->Prop}{s:J9}{env:Env}{value slice:Expr}{pos:Pos}{T id:String}{Q:J7->J9->Prop}
  (hl:PY (.type T) "__getitem__" =pure (some (.builtin id))) (hs:Dt slice)
  (h:wpAny (model prog w) A (eval value env) (λo s₁=>wpAny (model prog w) A (eval slice env) (λi s₂=>s₂.TypeIs o T/\wpAny (model prog w) A (getItem o i) Q E s₂) E s₁) E s) :
  wpAny (model prog w) A (eval (.Subscript value slice pos) env) Q E s:=by
 refine Subscript_ (LV h (λo s₁ h₁=>LV h₁ (λi s₂ h₂=> ?_) λ_ _ x=>x) λ_ _ x=>x)
 obtain⟨hT,h₂⟩:=h₂;unfold PJ;refine Kb ?_
 rw[getitemInPython_of_ne hT.not_modules];refine Kb (wpAny_specialOf hT hl ?_)
 have fin:wpAny (model prog w) A (Pk slice false o i) (λr s₃=>wpAny (model prog w) A (letTemporaryGo value o r >>= λ_=>pure r) Q E s₃) E s₂:=by
  rw[hs o i];exact wpAny_operating (LV h₂ (λr s₃ h₃=>Kb (wpAny_letTemporaryGo (Kp h₃))) λ_ _ x=>x)
 first
  | exact Kp (Kb fin)
  | exact Kb (Kp (Kb fin))
  | exact Kb fin
theorem uh {X:Cx}{pins:List (Addr×Obj)}{σ:St}{H:Hp}{s:J9}{a:Addr}{y:V}{o:Option V}(I:Inv X pins σ H s)(g:DGet H a y o):s.TypeIs (.ref a) "dict":=by
 rcases g with⟨kvs,k,e,_,_⟩ | ⟨kvs,k,b,e,_,_,_⟩
 ·obtain⟨_,_,vs,_,dd⟩:=uf I.hok e
  exact dd.typeIs
 ·obtain⟨_,_,xs,_,dd⟩:=ud I.hok e
  exact dd.typeIs
def GY (td ty:TE):TE:=λσ H Q=>td σ H λx H1=>ty σ H1 λy H2=> ∃a v,x= .ref a/\DGet H2 a y (some v)/\Q v H2
def G2 (td ty tv:TE):TS:=λD σ H=>tv σ H λv H1=>td σ H1 λx H2=>ty σ H2 λy H3=> ∃a H4,x= .ref a/\DPut H3 a y v H4/\D.nx σ H4
section
variable {X:Cx}{o i e value:Expr}{pos pos' tpos:Pos}{td ty tv:TE}
theorem CA (hu:X.A.units+1<cLine)(ho:PE X o td)(hi:PE X i ty)(hs:Dt i):PE X (.Subscript o i pos) (GY td ty):=by
 intro pins s σ H Q I h;refine BR PySem.F.slot_dict_getitem.lookup hs (bN (ho pins s σ H _ I h) λu s1 ⟨x,H1,I1,rx,q1⟩=>bN (hi pins s1 σ H1 _ I1 q1) λiv s2 hh_=> ?_)
 obtain⟨y,H2,I2,ry,a,v,ex,g,q2⟩:=hh_;subst ex;obtain rfl:u=KG a:=rx;exact⟨uh I2 g,yw hu I2 g ry λw' s3 I3 rw'=>⟨v,H2,I3,rw',q2⟩⟩
theorem Cp (hu:X.A.units+1<cLine)(ho:PE X o td)(hi:PE X i ty)(hv:PE X value tv)(hs:KM value (some (.Subscript o i pos')) pos.line X.env=pure false) :
  PS X (.Assign [.Subscript o i pos'] value pos) (G2 td ty tv):=by
 intro pins s σ H D I h;refine wpAny_Assign_Subscript (bN (hv pins s σ H _ I h) λr s1 ⟨v,H1,I1,rv,q1⟩=>bN (ho pins s1 σ H1 _ I1 q1) λu s2 ⟨x,H2,I2,rx,q2⟩=>bN (hi pins s2 σ H2 _ I2 q2) λiv s3 ⟨y,H3,I3,ry,a,H4,ex,g,q3⟩=> ?_) hs
 subst ex;obtain rfl:u=KG a:=rx;exact yu hu I3 g ry rv λs4 I4=>⟨σ,H4,I4,q3⟩
end
theorem AR {P:KA}{w:K1}{H:Hp}(h:Heap)(hb:Mz<h.objs.size):ObjOk P w H (h.push { cls:=.type "dict",data:=.dict #[] }) h.objs.size (.dT []):=
 ⟨LP _,beq_eq_false_iff_ne.mpr (Mv (Lk hb)),[],.nil,_,#[],0,Kw _ rfl,⟨rfl,rfl,rfl⟩,rfl,rfl,M6⟩
structure M1 (X:Cx)(o:Expr)(m:Str)(apos:Pos)(e:Expr)(cpos:Pos):Prop where
 base:KH o m X.env (eval o X.env)=eval o X.env
 few:((backTo cpos (Kn [e] X.env)).all (λx=> !x.1)&&(M8 cpos (L4 [] X.env)).all (λx=>x.1.isSome)
  &&decide (([e]:List Expr).length+([]:List Q1).length+(if ([]:List Q1).isEmpty then 0 else 1)<30))=true
 line:(apos.endLine == cpos.line)=true
 trees:backTo cpos (Kn [e] X.env)= [(false,eval e X.env)]
structure M2 (X:Cx)(o:Expr)(m:Str)(apos:Pos)(e f:Expr)(cpos:Pos):Prop where
 base:KH o m X.env (eval o X.env)=eval o X.env
 few:((backTo cpos (Kn [e,f] X.env)).all (λx=> !x.1)&&(M8 cpos (L4 [] X.env)).all (λx=>x.1.isSome)
  &&decide (([e,f]:List Expr).length+([]:List Q1).length+(if ([]:List Q1).isEmpty then 0 else 1)<30))=true
 line:(apos.endLine == cpos.line)=true
 trees:backTo cpos (Kn [e,f] X.env)= [(false,eval e X.env),(false,eval f X.env)]
def IsD (H:Hp)(a:Addr):Prop:=(∃kvs,Rd H a (.dK kvs))\/∃kvs,Rd H a (.dT kvs)
theorem F7 {X:Cx}{pins:List (Addr×Obj)}{σ:St}{H:Hp}{s:J9}{a:Addr}(I:Inv X pins σ H s)(d:IsD H a) :
  s.TypeIs (.ref a) "dict"/\(∀b,KG a= .ref b->∃ob,s.heap.get? b=some ob/\ob.dict=none)/\(a == Mz)=false:=by
 rcases d with⟨kvs,e⟩ | ⟨kvs,e⟩
 ·obtain⟨_,hd,vs,_,dd⟩:=uf I.hok e
  refine⟨dd.typeIs,λb q=> ?_,hd⟩
  cases q;obtain⟨ob,_,_,h1,h2,_⟩:=dd;exact⟨ob,h1,h2.2.1⟩
 ·obtain⟨_,hd,xs,_,dd⟩:=ud I.hok e
  refine⟨dd.typeIs,λb q=> ?_,hd⟩
  cases q;obtain⟨ob,_,_,h1,h2,_⟩:=dd;exact⟨ob,h1,h2.2.1⟩
section
variable {X:Cx}{pins:List (Addr×Obj)}{σ:St}{H:Hp}{s:J9}{a:Addr}{y d:V}{u r:J7}{o:Option V}{A:KP}{E:J7->J9->Prop}
theorem Gs {Q:J7->J9->Prop}(hu:A.units+1<cLine)(I:Inv X pins σ H s)(g:DGet H a y o)(ry:RelV y u)(h:∀w' s',Inv X pins σ H s'->RelV (o.getD .non) w'->Q w' s') :
  wpAny (model X.prog X.w) A (call (.builtin "dict.get") [.ref a,u]) Q E s:=by
 rcases g with⟨kvs,k,e,ey,l⟩ | ⟨kvs,k,b,e,ey,eb,l⟩
 ·subst ey
  obtain⟨z,hd,vs,rel,dd⟩:=uf I.hok e;refine call_meetsIn Nb dd.typeIs Oo (N3 _ _) (meets_dict_get (cm X.prog X.w) a (wV ry) hd) ⟨_,dd.mapOf,h _ _ (I.tok _) ?_⟩
  rw[l];exact(rel.val k).getD rfl
 ·subst ey
  cases (show u=KG b from ry)
  obtain⟨z,hd,xs,rel,dd⟩:=ud I.hok e;refine call_meetsIn Nb dd.typeIs Oo (N3 _ _) (meetsH_dict_get (NZ (cm X.prog X.w)) a b hd) ⟨MV hu,k,xs,n6 I.hok eb,dd,h _ _ (I.tok _) ?_⟩
  rw[l];exact(rel.val k).getD rfl
end
def Ep (td ty:TE):TE:=λσ H Q=>td σ H λx H1=> ∃a,x= .ref a/\IsD H1 a/\ty σ H1 λy H2=> ∃o,DGet H2 a y o/\Q (o.getD .non) H2
section
variable {X:Cx}{o e f:Expr}{apos cpos:Pos}{td ty tx:TE}
theorem zw (hu:X.A.units+1<cLine)(ho:PE X o td)(he:PE X e ty)(m:M1 X o "get" apos e cpos):PE X (.Call (.Attribute o "get" apos) [e] [] cpos) (Ep td ty):=by
 intro pins s σ H Q I h;refine wpAny_Call_method m.base m.few m.line PySem.F.plainAttrs_dict Nb PySem.F.type_dict_get (bN (ho pins s σ H _ I h) λu s1 hh_=> ?_)
 obtain⟨x,H1,I1,rx,a,ex,d,q1⟩:=hh_;subst ex;obtain rfl:u=KG a:=rx;obtain⟨t1,t2,_⟩:=F7 I1 d;refine⟨t1,t2,?_⟩
 rw[m.trees];refine Mr rfl (MB (ML (bN (he pins s1 σ H1 _ I1 q1) λiv s2 ⟨y,H2,I2,ry,ov,g,q2⟩=>M0 ?_)))
 exact Gs hu I2 g ry λw' s3 I3 rw'=>⟨_,H2,I3,rw',q2⟩
end
end L2
namespace Tr
open PySem PySem.Spec PyProof.Rows L2
theorem DGet.JY {H:Hp}{a b:Addr}{kvs:List (List Key×V)}{k:List Key}(e:Rd H a (.dT kvs))(eb:H b=some (.tup (k.map kV))):DGet H a (.ref b) (jF kvs k):=.inr ⟨kvs,k,b,e,rfl,eb,rfl⟩
theorem Jd {k:Nat}{A:KP}(h:Room k A):A.units+1<cLine:=by have:=h.un;omega
theorem n8 {K:J5}{O:Ow}{H:Hp}:∀{l:List T} {vs:List V} {k:List Key},n9 l=some k->Reps K O H l vs->vs=k.map kV
 | [],vs,k,h,r=>by cases Reps.AC.mp r;cases h;rfl
 | t::l,vs,k,h,r=>by
  obtain⟨v,ws,rfl,p,q⟩:=Reps.me.mp r;unfold n9 at h
  cases e1:DI t with
  | none=>rw[e1]at h;cases h
  | some a=>
   cases e2:n9 l with
   | none=>rw[e1,e2]at h;cases h
   | some b=>
    rw[e1,e2]at h;cases h;rw[n8 e2 q,Ka]
    congr 1
    cases t with
    | int i=>cases e1;exact Rep.Da.mp p
    | str x=>cases e1;exact Rep.GE.mp p
    | _=>cases e1
theorem mJ {K:J5}{O:Ow}{H:Hp}{y:T}{v:V}{k:List Key}(h:keyOf y=some k)(r:Rep K O H y v):∃b,v= .ref b/\H b=some (.tup (k.map kV)):=by
 cases y with
 | tup l=>
  obtain⟨a,vs,e1,_,e3,e4⟩:=Rep.Fk.mp r;rw[n8 h e4]at e3
  exact⟨a,e1,e3⟩
 | _=>cases h
theorem ox {K:J5}{O:Ow}{H:Hp}{k:List Key}:∀{ks ts:List T} {kvs:List (List Key×V)},ks.map keyOf=kvs.map (λp=>some p.1)->Reps K O H ts (kvs.map (·.2))->match ph ks ts k with
  | some t=> ∃v,jF kvs k=some v/\Rep K O H t v
  | none=>jF kvs k=none
 | [],ts,kvs,h,r=>by
  cases kvs with
  | nil=>unfold ph;exact yS
  | cons _ _=>cases h
 | k'::ks,ts,kvs,h,r=>by
  cases kvs with
  | nil=>cases h
  | cons p kvs=>
   rw[Ka,Ka]at h;injection h with h1 h2
   rw[Ka]at r
   cases ts with
   | nil=>have:=Reps.AC.mp r;cases this
   | cons t ts=>
    obtain⟨v,ws,e,q1,q2⟩:=Reps.me.mp r;injection e with e1 e2
    subst e1 e2;unfold ph
    by_cases hk:keyOf k'=some k
    ·rw[if_pos hk]
     rw[h1]at hk;injection hk with hk
     exact⟨_,j5 hk,q1⟩
    ·rw[if_neg hk]
     have hk2:¬ p.1=k:=λz=>hk (by rw[h1,z])
     rw[j6 hk2];exact ox h2 q2
theorem qJ {κ:Type}[DecidableEq κ]{k:κ}{p:κ×V}{r:List (κ×V)}{v:V}(h:¬ p.1=k):dB (p::r) k v=p::dB r k v:=by
 unfold dB;rw[Mi,decide_eq_false h,Pq]
 by_cases q:(r.any λkv=>decide (kv.1=k))=true
 ·rw[if_pos q,if_pos q,Ka,if_neg h]
 ·rw[if_neg q,if_neg q];rfl
theorem qK {κ:Type}[DecidableEq κ]{k:κ}{p:κ×V}{r:List (κ×V)}{v:V}(h:p.1=k)(hn:∀q∈r,q.1≠k):dB (p::r) k v=(p.1,v)::r:=by
 unfold dB;rw[Mi,decide_eq_true h,Bool.true_or,if_pos rfl,Ka,if_pos h]
 congr 1
 conv=>rhs;rw[<-List.map_id r]
 exact Mj λq hq=>if_neg (hn q hq)
theorem oq {K:J5}{O:Ow}{H:Hp}{kT vT:T}{k:List Key}{v:V}(hk:keyOf kT=some k)(hv:Rep K O H vT v):∀{ks ts:List T} {kvs:List (List Key×V)},ks.map keyOf=kvs.map (λp=>some p.1)->Reps K O H ts (kvs.map (·.2))->(kvs.map (·.1)).Nodup →
  (gF kT vT ks ts).1.map keyOf=(dB kvs k v).map (λp=>some p.1)/\Reps K O H (gF kT vT ks ts).2 ((dB kvs k v).map (·.2))
 | [],ts,kvs,h,r,_=>by
  cases kvs with
  | nil=>
   unfold gF;refine⟨?_,Reps.FS hv Reps.Gc⟩
   simp[dB,hk]
  | cons _ _=>cases h
 | k'::ks,ts,kvs,h,r,hn=>by
  cases kvs with
  | nil=>cases h
  | cons p kvs=>
   rw[Ka,Ka]at h;injection h with h1 h2
   rw[Ka]at r;rw[Ka]at hn;obtain⟨n1,n2⟩:=KJ.mp hn
   cases ts with
   | nil=>have:=Reps.AC.mp r;cases this
   | cons t ts=>
    obtain⟨v',ws,e,q1,q2⟩:=Reps.me.mp r;injection e with e1 e2
    subst e1 e2;unfold gF
    by_cases hz:keyOf k'=keyOf kT
    ·rw[if_pos hz]
     have hp:p.1=k:=by rw[hz,hk]at h1;injection h1 with h1;exact h1.symm
     rw[qK hp λq hq z=>n1 (by rw[hp,<-z];exact List.mem_map_of_mem hq)]
     exact⟨by rw[Ka,Ka,h1,h2],Reps.FS hv q2⟩
    ·rw[if_neg hz]
     have hp:¬ p.1=k:=λz=>hz (by rw[h1,z,hk])
     obtain⟨a1,a2⟩:=oq hk hv h2 q2 n2;rw[qJ hp];exact⟨by rw[Ka,Ka,h1,a1],Reps.FS q1 a2⟩
theorem Du {H:Hp}{kvs:List (List Key×V)}{xs:List (List Key×Addr×J7)}(rel:KT H kvs xs):kvs.map (·.1)=xs.map (·.1):=by
 induction rel with
 | nil=>rfl
 | cons h t ih=>rw[Ka,Ka,ih,h.1]
theorem AV {X:Cx}{pins:List (Addr×Obj)}{σ:L2.St}{H:Hp}{s:J9}{a:Addr}{kvs:List (List Key×V)}(I:Inv X pins σ H s)(e:H a=some (.dT kvs)):(kvs.map (·.1)).Nodup/\kvs.length<=sizeLine:=by
 obtain⟨z,_,xs,rel,_,_,_,_,_,_,_,_,hn⟩:=AQ I.hok e;rw[Du rel];exact⟨hn,z⟩
section
variable {X:Cx}{a b:Expr}{fa fb:En->Rs T}{pos:Pos}
theorem Hr (hu:X.A.units+1<cLine)(ha:b6 X a fa)(hb:b6 X b fb)(hs:autoParam (Dt b) aqg._auto_1):b6 X (.Subscript a b pos) (o2 ug fa fb):=by
 refine PE.imp (CA hu ha hb hs) λσ H Q ⟨Z,O,E,hq⟩=> ?_
 obtain⟨Z1,O1,E1,h1⟩:=aW E hq;refine⟨Z1,O1,E1,Post.mono h1 λt H1 s1 q v r=> ?_⟩
 obtain⟨t',r',s',E',q'⟩:=q v r;obtain⟨Z2,O2,E2,h2⟩:=aW (f:=fb) E' q';refine⟨Z2,O2,E2,Post.mono h2 λt2 H2 s2 q2 v2 r2=> ?_⟩
 obtain⟨t2',r2',s2',E2',q2'⟩:=q2 v2 r2
 have r'':=r'.same s2';unfold ug at q2'
 split at q2'
 ·rename_i ks vs k hk
  split at q2'
  ·rename_i x hx
   obtain⟨a,kvs,e1,e2,e3,e4,e5⟩:=Rep.Jo.mp r'';obtain⟨b,f1,f2⟩:=mJ hk r2'
   have g:=ox (k:=k) e4 e5;rw[hx]at g;obtain⟨w,g1,g2⟩:=g;exact⟨a,w,e1,by rw[f1,<-g1];exact DGet.JY e3 f2,q2' H2 (Same.refl H2) w g2⟩
  ·exact q2'.elim
 ·exact q2'.elim
end
end Tr
namespace Tr
open PySem PySem.Spec PyProof.Rows L2
open PySem.SeqAt
theorem zO {A:KP}{s:J9}{x:T}{ux:J7}(rx:ReV s x ux)(hu:A.units+60<cLine){l:List T}{us:List J7}(hd:x.dep<=60\/deps l<=60)(r:ReVs s l us) :
  ∃e:J7->Bool,(∀y∈us,EqAt A s y ux (e y))/\us.map e=l.map λt=>a6 t x:=by
 classical
 have ex:∀y∈us,∃t∈l,ReV s t y:=λy hy=>by
  obtain⟨i,hi,rfl⟩:=Mh hy
  have hl:=r.length
  have e1:l[i]? =some l[i]:=by simp
  obtain⟨u,q1,q2⟩:=r.get e1
  have:us[i]? =some us[i]:=by simp
  rw[this]at q1;cases q1;exact⟨l[i],LH _,q2⟩
 let e:J7->Bool:=λy=>decide (∃t∈l,ReV s t y/\a6 t x=true)
 have dep:∀t∈l,t.dep<=60\/x.dep<=60:=λt ht=>by
  rcases hd with h | h
  ·exact .inr h
  ·obtain⟨i,hi,rfl⟩:=Mh ht
   exact .inl (KW (iU (i:=i) (by simp)) h)
 have uniq:∀y t t',ReV s t y->ReV s t' y->a6 t x=a6 t' x:=λy t t' z z'=>by
  rw[<-kJ t,<-kJ t',ReV.nf z z']
 have agree:∀y t,t∈l->ReV s t y->e y=a6 t x:=λy t h z=>by
  show decide (∃t∈l,ReV s t y/\a6 t x=true)=a6 t x
  cases q:a6 t x with
  | true=>exact decide_eq_true ⟨t,h,z,q⟩
  | false=>
   refine decide_eq_false ?_
   rintro ⟨t',h',z',q'⟩
   rw[<-uniq y t t' z z',q]at q';cases q'
 refine⟨e,λy hy=> ?_,?_⟩
 ·obtain⟨t,h,z⟩:=ex y hy
  rw[agree y t h z];exact(C7 60 A s t x y ux (dep t h) hu z rx).1
 ·have go:∀(l':List T) (us':List J7),(∀t∈l',t∈l)->ReVs s l' us'->us'.map e=l'.map λy=>a6 y x:=by
   intro l'
   induction l' with
   | nil=>intro us' _ r';rw[ReVs.AC.mp r'];rfl
   | cons t l' ih=>
    intro us' sub r';obtain⟨u,ws,rfl,p,q⟩:=ReVs.me.mp r';rw[Ka,Ka,ih ws (λt ht=>sub t (J6 _ ht)) q,agree u t (sub t Ke) p]
  exact go l us (λ_ h=>h) r
theorem om {x:T}:∀{l:List T} {n k:Nat},jg x l n=some k->n<=k/\(l.map λt=>a6 t x)[k - n]? =some true/\∀m,m<k - n->(l.map λt=>a6 t x)[m]? =some false
 | [],n,k,h=>by cases h
 | t::l,n,k,h=>by
  unfold jg at h
  cases q:a6 t x with
  | true=>
   rw[q,if_pos rfl]at h;cases h;refine⟨Kj _,?_,λm hm=>by omega⟩
   rw[OF,Ka,q];rfl
  | false=>
   rw[q,if_neg (by decide)]at h
   obtain⟨h1,h2,h3⟩:=om h
   have e:k - n=(k - (n+1))+1:=by omega
   refine⟨by omega,?_,λm hm=> ?_⟩
   ·rw[e,Ka,Ln];exact h2
   ·cases m with
    | zero=>rw[Ka,q];rfl
    | succ m=>rw[Ka,Ln];exact h3 m (by omega)
section
variable {X:Cx}{a b:Expr}{fa fb:En->Rs T}{pos apos cpos:Pos}
theorem zf (hu:X.A.units+61<cLine)(ha:b6 X a fa)(hb:b6 X b fb)(hn:autoParam (a9 b=true) aqd._auto_1)
  (hbase:autoParam (KH a "index" X.env (eval a X.env)=eval a X.env) aqd._auto_1) (hline:autoParam ((apos.endLine == cpos.line)=true) aqd._auto_1):b6 X (.Call (.Attribute a "index" apos) [b] [] cpos) (oL fQ fa fb):=by
 have hs:Kn [b] X.env=(false,eval b X.env)::Kn [] X.env:=a7 hn;intro pins s σ H Q I ⟨Z,O,E,hq⟩;refine Ot hbase (by rw[hs];rfl) hline rfl (bN (ha pins s σ H _ I (aW E hq)) λv s1 hh_=> ?_)
 obtain⟨x,H1,I1,r1,t,rt,s',E',q1⟩:=hh_
 cases t with
 | lst l=>
  obtain⟨c,vs,e1,e2,e3,e4⟩:=Rep.Do.mp rt;subst e1;obtain rfl:v=KG c:=r1;obtain⟨h1,h2⟩:=uD I1 (show RelV (.ref c) (.ref c)from rfl) (.inl ⟨rfl,vs,SqL.of e3⟩)
  refine⟨_,_,LI,PySem.F.slot_list_index,PySem.F.type_list_index,h1,h2,?_⟩
  rw[hs];refine Mr rfl (MB (ML (bN (hb pins s1 σ H1 _ I1 (aW (f:=fb) E' q1)) λu s2 ⟨y,H2,I2,r2,t2,rt2,s'',E'',q2⟩=>M0 ?_)))
  unfold fQ at q2
  split at q2
  ·rename_i l' heq
   cases heq
   split at q2
   ·rename_i hd3
    obtain⟨hd,hnx,hny⟩:=hd3
    split at q2
    ·rename_i k hk
     have rv:=Rep.val I2 (show(T.lst l).nd=true by unfold T.nd;exact hny) (rt.same s'') (show RelV (.ref c) (.ref c)from rfl)
     unfold ReV at rv;obtain⟨c',us,ec,hl,rs⟩:=rv;cases ec;obtain⟨⟨cls,dd,data,sl⟩,ho,hc,n,hdd⟩:=id hl;simp only at hc hdd;subst hc hdd;obtain⟨e,he,ha⟩:=zO (A:=X.A.in1) (Rep.val I2 hnx rt2 r2) (by show X.A.units+1+60<cLine;omega) hd rs
     obtain⟨_,k1,k2⟩:=om hk;rw[OG]at k1 k2;rw[<-ha]at k1 k2
     have hkl:k<us.length:=by have:=(Ki.mp k1).1;rwa [Kc]at this
     have hz:us.length<=sizeLine:=by
      have z:=(I2.Jw (s'' _ _ e3)).1
      have h3:=rs.length
      have h4:=e4.length;omega
     refine M5 F.slot_list_index ⟨_,ho,rfl⟩ F.entry_list_index (F.args_list_index_2 _ _) (list_indexAt c us.toArray n dd sl u e k (by simpa using hkl) (by rw[Ny]at hz;omega) ?_ ?_) ⟨ho,λy hy=>he y (by simpa using hy),?_⟩
     ·have:=(Ki.mp k1).2
      rw[Ol]at this
      simpa using this
     ·intro m hm hmk
      have:=(Ki.mp (k2 m hmk)).2
      rw[Ol]at this
      simpa using this
     ·exact⟨.int _,H2,I2.tok _,⟨_,rfl⟩,q2 H2 (Same.refl H2) _ (Rep.GT _)⟩
    ·exact q2.elim
   ·exact q2.elim
  ·rename_i hno
   exact(hno l rfl).elim
 | _=>exact q1.elim
theorem EY (hu:X.A.units+1<cLine)(ha:b6 X a fa)(hb:b6 X b fb)(hn:autoParam (a9 b=true) aqd._auto_1)
  (hbase:autoParam (KH a "get" X.env (eval a X.env)=eval a X.env) aqd._auto_1) (hline:autoParam ((apos.endLine == cpos.line)=true) aqd._auto_1):b6 X (.Call (.Attribute a "get" apos) [b] [] cpos) (oD gZ fa fb):=by
 have hs:Kn [b] X.env=(false,eval b X.env)::Kn [] X.env:=a7 hn;refine PE.imp (zw hu ha hb ⟨hbase,by rw[hs];rfl,hline,by rw[hs];rfl⟩) λσ H Q ⟨Z,O,E,hq⟩=> ?_
 obtain⟨Z1,O1,E1,h1⟩:=aW E hq;refine⟨Z1,O1,E1,Post.mono h1 λt H1 s1 q v r=> ?_⟩
 obtain⟨t',r',s',E',q'⟩:=q v r
 cases t' with
 | dct ks vs=>
  obtain⟨c,kvs,e1,e2,e3,e4,e5⟩:=Rep.Jo.mp r';refine⟨c,e1,.inr ⟨kvs,e3⟩,?_⟩
  obtain⟨Z2,O2,E2,h2⟩:=aW (f:=fb) E' q';refine⟨Z2,O2,E2,Post.mono h2 λt2 H2 s2 q2 v2 r2=> ?_⟩
  obtain⟨t2',r2',s2',E2',q2'⟩:=q2 v2 r2;unfold gZ at q2'
  split at q2'
  ·rename_i ks' vs' k heq hk
   cases heq;obtain⟨b,f1,f2⟩:=mJ hk r2'
   have g:=ox (k:=k) e4 (e5.same s2');refine⟨jF kvs k,by rw[f1];exact DGet.JY (Rd.JL (P:=jX) (SameO.of s2') (λz=>z) e3) f2,?_⟩
   cases hx:ph ks vs k with
   | some z=>
    rw[hx]at g q2';obtain⟨w,g1,g2⟩:=g;rw[g1]
    exact q2' H2 (Same.refl H2) w g2
   | none=>
    rw[hx]at g q2';rw[g];exact q2' H2 (Same.refl H2) .non Rep.JJ
  ·exact q2'.elim
 | _=>exact q'.elim
end
end Tr
namespace Tr
open PySem PySem.Spec PyProof.Rows L2
section
variable {X:Cx}{a b c:Expr}{fa fb fc:En->Rs T}{pos p2 p3 p4:Pos}{x:Str}
theorem EE (i:Nat)(hu:X.A.units+1<cLine)(hb:b6 X b fb)(hc:b6 X c fc)(hN:autoParam (X.N[i]? =some x) aqd._auto_1)(hv:autoParam (kK X.env.scope x) aqe._auto_1)
  (hd:autoParam ((x == ("__debug__" : Str))=false) aqb._auto_1) (hcd:autoParam ((x == ("__classdict__" : Str))=false) aqb._auto_1)
  (hs:autoParam (KM c (some (.Subscript (.Name x p2) b p3)) pos.line X.env=pure false) aqd._auto_1):lE X (.Assign [.Subscript (.Name x p2) b p3] c pos) (xN i fb fc):=by
 intro pins s σ H D I ⟨Z,B,M,E,h⟩;refine Cp hu (dY hN hv hd hcd) hb hc hs pins s σ H D I ?_
 unfold xN at h
 split at h
 ·rename_i ks vs hl
  obtain⟨v0,e1,d,kvs,rfl,hM,e3,e4,e5⟩:=E.env.own i _ hl;obtain⟨nd,nz⟩:=AV I e3;refine⟨Z,OO B M,E.o,?_⟩
  cases q:fc Z with
  | bad=>rw[q]at h;exact h.elim
  | err c=>rw[q]at h;exact PostF.xa h
  | ok vT=>
   rw[q,az]at h;intro H1 s1 v r;refine⟨.ref d,e1,Z,OO B M,(E.same s1).o,?_⟩
   have h1:=h.later (SameO.of s1) (P1:=M.u) λa z=> .inl z
   cases q2:fb Z with
   | bad=>rw[q2]at h1;exact h1.elim
   | err c=>rw[q2]at h1;exact PostF.xa h1
   | ok kT=>
    rw[q2,az]at h1;intro H2 s2 y ry
    cases q3:keyOf kT with
    | none=>rw[q3]at h1;exact h1.elim
    | some k=>
     rw[q3]at h1
     have h2:=h1.later (SameO.of s2) (P1:=M.u) λa z=> .inl z
     have hlen:ks.length=kvs.length:=by have:=congrArg LQ e4;simpa using this
     by_cases hz:ks.length<1000
     ·simp only[if_pos hz]at h2
      obtain⟨kb,f1,f2⟩:=mJ q3 ry
      have e3':=s2 _ _ (s1 _ _ e3);obtain⟨g1,g2⟩:=oq q3 (r.same s2) e4 ((e5.same s1).same s2) nd;refine⟨d,upd H2 d (.dT (dB kvs k v)),rfl,by rw[f1];exact DPut.t e3' f2 (by rw[Ny];omega),?_⟩
      have sm:SameO (M i) H2 (upd H2 d (.dT (dB kvs k v))):=λc u e nb=>by rw[aE (λz=>nb ((hM c).mpr z))];exact e
      obtain⟨g3,g4⟩:=((E.same s1).same s2).put (o':=.dct (gF kT vT ks vs).1 (gF kT vT ks vs).2) hl e1 sm ⟨d,_,rfl,hM,aO,g1,g2.move (P:=M i) (λa z=> .inl (.inr ⟨i,z⟩)) (λa z=> .inl z) sm⟩
      exact h2 σ _ M g4 g3 λc z=> .inl z
     ·simp only[if_neg hz]at h2
      exact h2.elim
 ·exact h.elim
end
end Tr
namespace PySem
open Sem (wp)
namespace F
theorem lk_list_keys:PY (.type "list") "keys" =pure none:=by rw[Q3,OU];kernel_rfl
theorem lk_list_getattr:PY (.type "list") "__getattr__" =pure none:=by rw[Q3,OU];kernel_rfl
end F
section
variable {prog:KA}{w:K1}{A:KP}{E:J7->J9->Prop}{h:Heap}{g:Array GenState}{d:Drawn}{t:Nat}{os:NO}{a:Addr}{its:Array J7}{n:Nat}
theorem mi {tk:Tok}{Q:Fin->J9->Prop}(hx:h.get? a=some { cls:=.type "list",data:=.seq its n })(hh:A.handled=none)
  (hq:∀h' tk' e,QV h h' e (.ref a) "keys"->E (.ref e) ⟨h',g,d,tk',os⟩) :
  wpAny (model prog w) A (Builtin.«object.__getattribute__» ⟨[.ref a,.str "keys" tk],[]⟩) Q E ⟨h,g,d,t,os⟩:=by
 have hT:(⟨h,g,d,t,os⟩:J9).TypeIs (.ref a) "list":=⟨_,hx,rfl⟩
 have f4:=F.lk_list_keys
 repeat (any_goals (first | assumption | wp_step))
 exact wpAny_raiseAttrError hh (λh' tk e hx=>hq h' tk e hx) (attrMsg_fits (by decide+kernel) (by rw[Ny];decide))
theorem nZ {tk:Tok}{R:Qj->J9->Prop}(hx:h.get? a=some { cls:=.type "list",data:=.seq its n })(hh:A.handled=none)
  (hq:∀h' tk' e,QV h h' e (.ref a) "keys"->R (.error (.ref e)) ⟨h',g,d,tk',os⟩) :
  codeAny (model prog w) A (.call (.builtin "list.__getattribute__") ⟨[.ref a,.str "keys" tk],[]⟩) R ⟨h,g,d,t,os⟩:=
 codeAny_call_builtin Mc.plain F.entry_list_ga (Mc.check _ _ _ _ _ _ _ _ (show(⟨h,g,d,t,os⟩:J9).TypeIs (.ref a) "list" from⟨_,hx,rfl⟩) (F.args_list_getattribute_2 _ _) (mi hx hh hq))
theorem n5 {Q:Option J7->J9->Prop}(hx:h.get? a=some { cls:=.type "list",data:=.seq its n })(hh:A.handled=none)
  (hq:∀h' tk',(∀b o,h.get? b=some o->h'.get? b=some o)->Q none ⟨h',g,d,tk',os⟩):wpAny (model prog w) A (getAttr? (.ref a) "keys") Q E ⟨h,g,d,t,os⟩:=by
 have hT:∀tk,(⟨h,g,d,tk,os⟩:J9).TypeIs (.ref a) "list":=λ_=>⟨_,hx,rfl⟩
 have f1:=sub_AttributeError
 have f2:=Mc.lookup
 have f3:=Mc.bind (.ref a)
 have f5:=F.lk_list_getattr;unfold getAttr? getAttrBy? getAttrBy
 repeat (any_goals (first | assumption | exact hT _ | wp_step))
 refine nZ hx hh λh' tk' e hx'=> ?_
 obtain⟨t',u',he⟩:=hx'.there
 repeat (any_goals (first | assumption | exact hT _ | wp_step))
 exact hq _ _ hx'.keeps
end
end PySem
namespace PySem.F
theorem entry_dict_update_loop:entryFor table "dict.update.loop" =some Builtin.«dict.update.loop»:=entryFor_of_tree (by kernel_rfl)
theorem plain_dict_update_loop:plainId "dict.update.loop" =true:=by decide+kernel
end PySem.F
namespace Tr
open PySem PySem.Spec PyProof.Rows L2
def ir (kvs:List (List Key×V)):List (List Key×V)->List (List Key×V)
 | [] =>kvs
 | p::ps=>ir (dB kvs p.1 p.2) ps
def PairsAt (H:Hp):List V->List (List Key×V)->Prop
 | [],ps=>ps= []
 | x::xs,ps=> ∃b kb p r,ps=p::r/\x= .ref b/\H b=some (.tup [.ref kb,p.2])/\H kb=some (.tup (p.1.map kV))/\PairsAt H xs r
theorem PairsAt.upd {H:Hp}{d:Addr}{kvs:List (List Key×V)}{o:HO}(hd:H d=some (.dT kvs)):∀{xs:List V} {ps:List (List Key×V)},PairsAt H xs ps->PairsAt (L2.upd H d o) xs ps
 | [],_,h=>h
 | x::xs,_,⟨b,kb,p,r,e1,e2,e3,e4,e5⟩=>⟨b,kb,p,r,e1,e2,by rw[aE (nT e3 hd (λz=>nomatch z))];exact e3,by rw[aE (nT e4 hd (λz=>nomatch z))];exact e4,e5.upd hd⟩
theorem qo {H:Hp}{d:Addr}{a b:HO}:upd (upd H d a) d b=upd H d b:=by
 funext c
 by_cases h:c=d
 ·rw[h,aO,aO]
 ·rw[aE h,aE h,aE h]
section
variable {X:Cx}{pins:List (Addr×Obj)}{σ:L2.St}{A:KP}{res:J7}{R:Qj->J9->Prop}{d l it:Addr}{xs:List V}
theorem yr (hh:A.handled=none)(hu:A.units+3<cLine):∀(k i:Nat) (s:J9) (H:Hp) (kvs ps:List (List Key×V)),xs.length - i=k->i<=xs.length->H l=some (.lst xs)->H d=some (.dT kvs)->kvs.length+(xs.length - i)<=1000->Inv X pins σ H s->s.heap.IsListIter it l i->oH X pins H it->PairsAt H (xs.drop i) ps →
  (∀s',Inv X pins σ (upd H d (.dT (ir kvs ps))) s'->R (.ok (.ret res)) s')->codeAny (model X.prog X.w) A (.builtin "dict.update.loop" ⟨[.ref d,.ref it,rawInt i,res],[]⟩) R s:=by
 intro k
 induction k with
 | zero=>
  intro i s H kvs ps hk hi hl hd hz I hit hf hp hR;refine Q4 F.entry_dict_update_loop ?_
  rw[OZ F.plain_dict_update_loop _];obtain⟨z,its,n,r,hlen,e⟩:=I.Jw hl
  have hL:s.heap.IsList l its.toArray:=⟨_,e,rfl,n,rfl⟩
  show wpAny _ A.in1 (pyNext (.ref it) >>= _) _ _ s
  refine Kb (OQ hh hit hL (by simp;omega) λh' hm=> ?_)
  show wpAny _ _ (Builtin.Dict.addKeywords d [] >>= _) _ _ _
  refine Kb (Kp (Kp ?_))
  have hnil:xs.drop i= []:=MZ (by omega)
  rw[hnil]at hp;unfold PairsAt at hp;subst hp
  have e2:upd H d (.dT (ir kvs []))=H:=by
   funext b
   by_cases hb:b=d
   ·rw[hb,aO,hd];rfl
   ·rw[aE hb]
  rw[e2]at hR
  exact hR _ (I.Jz (fp:=[it]) (t':=s.toks) (λb hb=>by rw[Km.mp hb];exact hf) λb o hb eb=>hm b o (λz=>hb (by rw[z];exact Km.mpr rfl)) eb)
 | succ k ih=>
  intro i s H kvs ps hk hi hl hd hz I hit hf hp hR;refine Q4 F.entry_dict_update_loop ?_
  rw[OZ F.plain_dict_update_loop _];obtain⟨z,its,n,r,hlen,e⟩:=I.Jw hl
  have hL:s.heap.IsList l its.toArray:=⟨_,e,rfl,n,rfl⟩
  have hlt:i<xs.length:=by omega
  have hlt':i<its.length:=by omega
  show wpAny _ A.in1 (pyNext (.ref it) >>= _) _ _ s
  refine Kb (Oq hit hL (x:=its[i]) (by simp[hlt']) λh' hit' hm=> ?_)
  have I1:Inv X pins σ H { s with heap:=h' }:=I.Jz (fp:=[it]) (t':=s.toks) (λb hb=>by rw[Km.mp hb];exact hf) λb o hb eb=>(hm.2 b (λz=>hb (by rw[z];exact Km.mpr rfl))).trans eb
  have hdrop:xs.drop i=xs[i] ::xs.drop (i+1):=L0 hlt;rw[hdrop]at hp;obtain⟨b,kb,p,r',rfl,ex,hb,hkb,hp'⟩:=hp
  have rx:RelV xs[i] its[i]:=by
   obtain⟨u,q1,q2⟩:=r.get (Kq hlt)
   rw[Kq hlt']at q1
   cases q1;exact q2
  rw[ex]at rx
  have eu:its[i] =KG b:=rx;rw[eu];obtain⟨z2,its2,r2,ob,hob1,hob2,nb,hob3⟩:=(show ObjOk X.prog X.w H h' b (.tup [.ref kb,p.2])from I1.hok b _ hb)
  obtain⟨u1,us1,q1,rfl⟩:∃u1 us1,RelV (V.ref kb) u1/\its2=u1::us1:=by cases r2 with | cons a b=>exact⟨_,_,a,rfl⟩
  cases r2 with
  | cons ra rb=>
   obtain⟨u2,q2,rfl⟩:∃u2,RelV p.2 u2/\us1= [u2]:=by cases rb with | cons a b=>cases b;exact⟨_,a,rfl⟩
   obtain rfl:u1=KG kb:=q1
   show wpAny _ A.in1 (holding [KG b] _ >>= _) _ _ _
   refine Kb (Of ?_)
   refine Kb (wpAny_tryCatch ?_)
   unfold Builtin.Dict.pairItems;refine Kb (NM (s:={ s with heap:=h' }) (T:="tuple") ⟨ob,hob1,hob2⟩ ?_)
   rw[if_pos (by decide)]
   refine Kb (O9 (s:={ s with heap:=h' }) hob1 hob3 (Kp ?_))
   show wpAny _ _ (holding [KG kb,u2] (dictSet d (.ref kb) u2)) _ _ _
   refine Of ?_
   obtain⟨zz,hds,xs2,rel,dd⟩:=AQ I1.hok hd
   have hzl:xs2.length<=sizeLine:=by rw[<-N7 rel];exact zz
   have hkl:kvs.length<sizeLine:=by rw[Ny];omega
   have hl2:(dB kvs p.1 p.2).length<=sizeLine:=by have:=fR kvs p.1 p.2;omega
   refine wpAny_dictSet_heap (hsz:=hzl) (MV (by show A.units+1<cLine;omega)) (n6 I1.hok hkb) dd λh2 dd2 hs2=> ?_
   obtain⟨q,es,ep,hq,h22,h3,h4,_,h5⟩:=dd2
   have I2:Inv X pins σ (upd H d (.dT (dB kvs p.1 p.2))) { s with heap:=h2,toks:=s.toks+(NZ (cm X.prog X.w)).draws p.1 }:=
    rV (s:={ s with heap:=h' }) I1 (by rw[hd];exact L7) hs2 ⟨q,hq⟩ ⟨hl2,hds,_,(rel.put p.1 hkb q2).keeps λc ys ec=>by rw[aE (nT ec hd (λz=>nomatch z))];exact ec,q,es,ep,hq,h22,h3,h4,h5⟩
   have hld:l≠d:=nT hl hd (λz=>nomatch z)
   have hitd:it≠d:=λz=>by have:=hf.1;rw[z,hd]at this;cases this
   have hcast:(i:Int)+1=((i+1:Nat):Int):=by omega
   refine Kp ⟨plainId_quiet F.plain_dict_update_loop _,?_⟩
   rw[hcast];refine ih (i+1) _ (upd H d (.dT (dB kvs p.1 p.2))) (dB kvs p.1 p.2) r' (by omega) (by omega) (by rw[aE hld];exact hl) aO (by have:=fR kvs p.1 p.2;omega) I2 ?_ ⟨by rw[aE hitd];exact hf.1,hf.2⟩ (hp'.upd hd) λs' I'=> ?_
   ·obtain⟨oi,ho1,ho2,ho3⟩:=hit'
    exact⟨oi,(hs2.2 it hitd).trans ho1,ho2,ho3⟩
   ·rw[qo]at I'
    exact hR s' I'
end
theorem PairsAt.same {H H':Hp}(s:Same H H'):∀{xs:List V} {ps:List (List Key×V)},PairsAt H xs ps->PairsAt H' xs ps
 | [],_,h=>h
 | x::xs,_,⟨b,kb,p,r,e1,e2,e3,e4,e5⟩=>⟨b,kb,p,r,e1,e2,s _ _ e3,s _ _ e4,e5.same s⟩
section
variable {X:Cx}{pins:List (Addr×Obj)}{σ:L2.St}{A:KP}{E:J7->J9->Prop}{H:Hp}{s:J9}{l:Addr}{xs:List V}{ps:List (List Key×V)}
theorem AU {Q:J7->J9->Prop}(hh:A.handled=none)(hu:A.units+8<cLine)(I:Inv X pins σ H s)(hl:H l=some (.lst xs))(hz:xs.length<=1000)(hp:PairsAt H xs ps)
  (h:∀p s',Nw X.K H p->Inv X pins σ (upd H p (.dT (ir [] ps))) s'->Q (.ref p) s'):wpAny (model X.prog X.w) A (call (.type "dict") [.ref l]) Q E s:=by
 have hk:X.K.lookup s.heap.objs.size=none:=by
  cases q:X.K.lookup s.heap.objs.size with
  | none=>rfl
  | some o=>exact absurd (Kl (I.kIn _ o q)) (KI _)
 have hn:H s.heap.objs.size=none:=I.hok.fresh (Kj _)
 have hlp:l≠s.heap.objs.size:=λz=>by rw[z,hn]at hl;cases hl
 refine callType_codes (Q₁:=λobj s₁=>obj= .ref s.heap.objs.size/\s₁= { s with heap:=s.heap.push { cls:=.type "dict",data:=.dict #[] } }) F.kt_called_dict (F.kt_typeCall_dict_1 _) F.entry_dict_init (kt_code_dict_new _ ⟨rfl,rfl⟩) ?_
 rintro obj s₁ ⟨rfl,rfl⟩
 have I1:Inv X pins σ (upd H s.heap.objs.size (.dT [])) { s with heap:=s.heap.push { cls:=.type "dict",data:=.dict #[] } }:=I.laid (a:=s.heap.objs.size) (o:=.dT []) (t':=s.toks) (λ_ _ q=>Kg _ q) (Kj _) (AR s.heap I.big)
 have hT:({ s with heap:=s.heap.push { cls:=.type "dict",data:=.dict #[] } }:J9).TypeIs (.ref s.heap.objs.size) "dict":=⟨_,Kw _ rfl,rfl⟩
 have hl1:upd H s.heap.objs.size (.dT []) l=some (.lst xs):=by rw[aE hlp];exact hl
 obtain⟨z,its,n,r,hlen,e⟩:=I1.Jw hl1;refine⟨hT,F.args_dict_init_2 _ _,?_⟩
 unfold Builtin.«dict.__init__»;refine Kb ?_
 unfold Builtin.Dict.selfAndRest;refine Kb (wpAny_notOrdered_dict hT ?_)
 show wpAny _ _ (pure (s.heap.objs.size,[KG l])) _ _ _
 refine Kp ?_
 show wpAny _ _ (N4 "dict.__init__" s.heap.objs.size (.ref l) [] .none) _ _ _
 unfold N4;refine Kb (NM (T:="list") ⟨_,e,rfl⟩ ?_)
 rw[if_pos (by decide)]
 refine Kb (n5 e hh λh' tk' kp=> ?_)
 have I2:Inv X pins σ (upd H s.heap.objs.size (.dT [])) { s with heap:=h',toks:=tk' }:=I1.kept (t':=tk') kp
 rw[if_pos (by rfl)]
 refine Kb (PZ ?_)
 have eL:({ s with heap:=h',toks:=tk' }:J9).heap.IsList l its.toArray:=⟨_,kp _ _ e,rfl,n,rfl⟩
 refine Kb (N0 eL ?_)
 have I3:Inv X pins σ (upd H s.heap.objs.size (.dT [])) { s with heap:=h'.push { cls:=.type "list_iterator",data:=.fields #[.ref l,.int 0 0] },toks:=tk' }:=I2.kept (t':=tk') λb u q=>Kg _ q
 have hpl:s.heap.objs.size<h'.objs.size:=Kl (kp _ _ (Kw _ rfl))
 have hni:upd H s.heap.objs.size (.dT []) h'.objs.size=none:=by
  rw[aE (NI hpl)];exact I.hok.fresh (MI hpl)
 have hp1:PairsAt (upd H s.heap.objs.size (.dT [])) xs ps:=hp.same (a8 hn _);refine Kp ⟨plainId_quiet F.plain_dict_update_loop _,?_⟩
 refine yr (A:=A.in1) (X:=X) (pins:=pins) (σ:=σ) (l:=l) (xs:=xs) (it:=h'.objs.size) hh (by show A.units+1+3<cLine;omega) xs.length 0 _ (upd H s.heap.objs.size (.dT [])) [] ps (by omega) (LP _) hl1 aO (by simp;omega) I3 ⟨_,Kw _ rfl,rfl,rfl⟩ (I2.JD (Kj _) hni) hp1 λs' I'=> ?_
 rw[qo]at I';exact⟨rfl,h _ _ ⟨hn,hk⟩ I'⟩
end
theorem hu8 {k:Nat}{A:KP}(h:Room k A):A.units+8<cLine:=by have:=h.un;omega
theorem uY {kvs:List (List Key×V)}{k:List Key}{v:V}(h:(kvs.map (·.1)).Nodup):((dB kvs k v).map (·.1)).Nodup:=by
 unfold dB
 by_cases a:(kvs.any λkv=>decide (kv.1=k))=true
 ·rw[if_pos a,Qe]
  have:((λx=>x.1)∘λkv:List Key×V=>if kv.1=k then(kv.1,v)else kv)=λx=>x.1:=by
   funext x
   show(if x.1=k then(x.1,v)else x).1=x.1
   by_cases e:x.1=k
   ·rw[if_pos e]
   ·rw[if_neg e]
  rw[this];exact h
 ·rw[if_neg a,LD,K5]
  refine⟨h,by simp,λx hx y hy=> ?_⟩
  simp only[Ka,Oy,Km]at hy;subst hy;intro z;subst z;obtain⟨p,hp,e⟩:=K7.mp hx;exact a (List.any_eq_true.mpr ⟨p,hp,decide_eq_true e⟩)
def Jk (K:J5)(O:Ow)(H:Hp):List (T×T)->List (List Key×V)->Prop
 | [],ps=>ps= []
 | a::l,ps=> ∃p r,ps=p::r/\keyOf a.1=some p.1/\Rep K O H a.2 p.2/\Jk K O H l r
theorem pY {K:J5}{O:Ow}{H:Hp}:∀{l:List (T×T)} {ps:List (List Key×V)} {ks ts:List T} {kvs:List (List Key×V)},Jk K O H l ps->ks.map keyOf=kvs.map (λp=>some p.1)->Reps K O H ts (kvs.map (·.2))->(kvs.map (·.1)).Nodup →
  (iQ l (ks,ts)).1.map keyOf=(ir kvs ps).map (λp=>some p.1)/\Reps K O H (iQ l (ks,ts)).2 ((ir kvs ps).map (·.2))
 | [],ps,ks,ts,kvs,h,h1,h2,hn=>by unfold Jk at h;subst h;exact⟨h1,h2⟩
 | (a,b)::l,ps,ks,ts,kvs,h,h1,h2,hn=>by
  obtain⟨p,r,rfl,e1,e2,e3⟩:=h;obtain⟨g1,g2⟩:=oq (vT:=b) e1 e2 h1 h2 hn
  show(iQ l (gF a b ks ts)).1.map keyOf=(ir (dB kvs p.1 p.2) r).map (λp=>some p.1)/\Reps K O H (iQ l (gF a b ks ts)).2 ((ir (dB kvs p.1 p.2) r).map (·.2))
  exact pY (l:=l) e3 g1 g2 (uY hn)
theorem wa {K:J5}{O:Ow}{H:Hp}:∀{l:List T} {tps:List (T×T)} {xs:List V},GA l=some tps->Reps K O H l xs->∃ps,PairsAt H xs ps/\Jk K O H tps ps
 | [],tps,xs,h,r=>by cases Reps.AC.mp r;cases h;exact⟨[],rfl,rfl⟩
 | t::l,tps,xs,h,r=>by
  obtain⟨v,ws,rfl,p,q⟩:=Reps.me.mp r;unfold GA at h
  split at h
  ·rename_i heq;cases heq
  ·rename_i k v' l' heq
   cases heq
   split at h
   ·rename_i kk rr hk hr
    cases h;obtain⟨ps,g1,g2⟩:=wa hr q;obtain⟨b,vs,e1,e2,e3,e4⟩:=Rep.Fk.mp p;obtain⟨u1,us1,rfl,f1,f2⟩:=Reps.me.mp e4;obtain⟨u2,us2,rfl,f3,f4⟩:=Reps.me.mp f2;cases Reps.AC.mp f4;obtain⟨kb,f5,f6⟩:=mJ hk f1;subst f5;exact⟨(kk,u2)::ps,⟨b,kb,(kk,u2),ps,rfl,e1,e3,f6,g1⟩,⟨(kk,u2),ps,rfl,hk,f3,g2⟩⟩
   ·cases h
  ·cases h
section
variable {X:Cx}{e:Expr}{f:En->Rs T}{x y:Str}{p pos p2 p3:Pos}
def Eo (X:Cx)(f:En->Rs T):TE:=λσ H Q=>tP X f σ H λv H'=> ∃a xs ps,v= .ref a/\H' a=some (.lst xs)/\xs.length<=1000/\PairsAt H' xs ps/\∀q,Nw X.K H' q->Q (.ref q) (upd H' q (.dT (ir [] ps)))
theorem zv (hu:X.A.units+8<cLine)(hc:X.calm=true)(hm:X.mg "dict" =none)(ha:b6 X e f)(hg:Gl X "dict")(hs:a9 e=true):PE X (.Call (.Name "dict" p) [e] [] pos) (Eo X f):=by
 have h1:Kn [e] X.env=(false,eval e X.env)::Kn [] X.env:=a7 hs;intro pins s σ H Q I hq;refine Lf (gC I hg hm (show KQ "dict" =some (.type "dict")by decide+kernel) ?_ (by decide) (by decide))
 refine Lb (bN (d9 (te:=tP X f) ha iw h1 pos pins s σ H (λxs H'=> ∃v,xs= [v]/\∃a xs ps,v= .ref a/\H' a=some (.lst xs)/\xs.length<=1000/\PairsAt H' xs ps/\∀q,Nw X.K H' q->Q (.ref q) (upd H' q (.dT (ir [] ps)))) I ?_) λus s1 hh=> ?_) h1 rfl
 ·obtain⟨Z,O,E,h⟩:=hq
  exact⟨Z,O,E,Post.mono h λt H' _ g v r=>⟨v,rfl,g v r⟩⟩
 ·obtain⟨vs,H1,I1,r1,v,rfl,a,xs,ps,ev,e1,e2,e3,e4⟩:=hh
  subst ev;obtain⟨u,rfl,ru⟩:=r1.one;obtain rfl:u=KG a:=ru;exact AU (I1.ok.hd hc) hu I1 e1 e2 e3 λq s' nw I'=>⟨.ref q,_,I',rfl,e4 q nw⟩
theorem B4 (i:Nat)(hu:X.A.units+8<cLine)(hc:X.calm=true)(hm:X.mg "dict" =none)(hN:X.N.Nodup)(ha:b6 X e f)(hst:autoParam (a9 e=true) aqd._auto_1)(hg:autoParam (Gl X "dict") aqd._auto_1)(hi:autoParam (X.N[i]? =some x) aqd._auto_1)(hx:autoParam (Loc X.env.scope x) aqh._auto_1)(hs:autoParam (KM (.Call (.Name "dict" p) [e] [] p2) (some (.Name x p3)) pos.line X.env=pure false) aqd._auto_1)
  (hf:autoParam (X.fn x=true\/X.env.scope.names.lookup x=some .local) aqa._auto_1):lE X (.Assign [.Name x p3] (.Call (.Name "dict" p) [e] [] p2) pos) (pF i f):=PS.imp (kR hN hi hx (zv hu hc hm ha hg hst) hs hf) λD σ H hh_=>by
 obtain⟨Z,B,M,E,h⟩:=hh_;refine⟨Z,OO B M,E.o,?_⟩
 unfold pF at h
 cases q:f Z with
 | bad=>rw[q]at h;exact h.elim
 | err c=>rw[q]at h;exact PostF.xa h
 | ok t=>
  rw[q,az]at h;intro H1 s1 v r
  have h1:=h.later (SameO.of s1) (P1:=M.u) λa z=> .inl z
  cases t with
  | lst l=>
   obtain⟨a,xs,rfl,e2,e3,e4⟩:=Rep.Do.mp r;unfold xi at h1
   split at h1
   ·rename_i l' heq
    cases heq
    split at h1
    ·rename_i tps hps
     by_cases hz:l.length<=1000
     ·rw[if_pos hz,az]at h1
      obtain⟨ps,g1,g2⟩:=wa hps e4;refine⟨a,xs,ps,rfl,e3,by rw[<-e4.length];exact hz,g1,λnd nw=> ?_⟩
      by_cases hl:i<Z.length
      ·simp only[if_pos hl]at h1
       have hm:∀a,a=nd->Nw X.K H1 a:=λa z=>z▸nw
       obtain⟨k1,k2⟩:=pY (ks:=[]) (ts:=[]) (kvs:=[]) g2 rfl Reps.Gc M6;obtain⟨E2,sub⟩:=(E.same s1).new (m:=λa=>a=nd) (o:=.dct (iQ tps ([],[])).1 (iQ tps ([],[])).2) (v:=.ref nd) (H':=upd H1 nd (.dT (ir [] ps))) hl hm (a8 nw.1 _) ⟨nd,_,rfl,λb=>MN,aO,k1,(k2.more (Ev.subO hm)).same (a8 nw.1 _)⟩
       exact h1 _ _ _ (SameO.of (a8 nw.1 _)) E2 sub
      ·simp only[if_neg hl]at h1;exact h1.elim
     ·rw[if_neg hz]at h1;exact h1.elim
    ·exact h1.elim
   ·rename_i hno
    exact(hno l rfl).elim
  | _=>exact h1.elim
end
theorem nI {K:J5}{O:Ow}{H:Hp}:∀{l:List T} {ns:List Int} {xs:List V} {us:List J7},wu l=some ns->Reps K O H l xs->Vals xs us->Nl us ns
 | [],ns,xs,us,h,r,v=>by cases Reps.AC.mp r;cases v;cases h;exact .nil
 | t::l,ns,xs,us,h,r,v=>by
  obtain⟨w,ws,rfl,p,q⟩:=Reps.me.mp r
  cases v with
  | cons v1 v2=>
   cases t with
   | int i=>
    unfold wu at h;obtain⟨m,h1,rfl⟩:=MY.mp h;cases Rep.Da.mp p;obtain⟨k,rfl⟩:=v1
    exact .cons _ _ (nI h1 q v2)
   | _=>cases h
theorem pK:∀(l:List Int) (i:Int),jQ i l∈i::l/\∀a∈i::l,jQ i l<=a
 | [],i=>⟨Ke,λa h=>by cases Km.mp h;exact Pe _⟩
 | j::l,i=>by
  obtain⟨h1,h2⟩:=pK l (if j<i then j else i)
  unfold jQ
  have h3:=h2 _ Ke;refine⟨?_,λa ha=> ?_⟩
  ·rcases Kf.mp h1 with e | e
   ·rw[e]
    by_cases h:j<i
    ·rw[if_pos h];simp
    ·rw[if_neg h];simp
   ·exact J6 _ (J6 _ e)
  ·rcases Kf.mp ha with rfl | ha
   ·by_cases h:j<a
    ·rw[if_pos h]at h3 ⊢;omega
    ·rw[if_neg h]at h3 ⊢;omega
   ·rcases Kf.mp ha with rfl | ha
    ·by_cases h:a<i
     ·rw[if_pos h]at h3 ⊢;omega
     ·rw[if_neg h]at h3 ⊢;omega
    ·exact h2 a (J6 _ ha)
section
variable {X:Cx}
theorem Gv (hc:X.calm=true):CallT X (.builtin "min") CO:=by
 intro pins s σ H O ts vs us Q I hf rs rv hp;unfold CO at hp
 split at hp
 ·rename_i l
  obtain⟨v,rfl,r⟩:=rs.one
  split at hp
  ·rename_i i ns hk
   obtain⟨a,ws,rfl,n,q,z⟩:=Rep.Do.mp r;obtain⟨u,rfl,ru⟩:=jo rv;cases ru;obtain⟨its,r',pl,hz⟩:=I.list (SqL.of q)
   have hi:=nI hk z r';obtain⟨xs,e⟩:=hi.allInts.items
   have hns:i::ns=xs.toList.map (·.1):=by rw[<-hi.numsOf,<-nums_intItems,<-e]
   have hl:s.heap.IsList a (intItems xs):=by rw[<-e];exact pl.isList
   have hsz:0<xs.size:=by
    have h3:=congrArg LQ hns;rw[Kd,Kc]at h3;rw[<-LN];omega
   refine min_intList (I.ok.hd hc) hl hsz λv h' tk hv hk'=> ?_
   obtain⟨t,rfl⟩:=intItems_at hv;obtain⟨h1,h2⟩:=argBest_lt (numAt xs) (xs.size - 1);refine⟨.int _,H,I.kept (t':=tk) hk',⟨_,rfl⟩,?_⟩
   have eM:numAt xs (argBest (λi j=>decide (numAt xs i<numAt xs j)) (xs.size - 1))=jQ i ns:=by
    obtain⟨g1,g2⟩:=pK ns i
    have m1:numAt xs (argBest (λi j=>decide (numAt xs i<numAt xs j)) (xs.size - 1))∈i::ns:=by
     rw[hns,numAt_eq];exact PySem.getD_mem (by rw[Kc,LN];omega)
    have k1:=g2 _ m1;rw[hns]at g1;obtain⟨j,hj,ej⟩:=mem_getD g1;rw[Kc,LN]at hj;rw[<-numAt_eq]at ej
    have k2:=h2 j (by omega)
    rw[ej]at k2;exact Int.le_antisymm k2 k1
   rw[eM];exact hp H (Same.refl H) _ (Rep.GT _)
  ·exact hp.elim
 ·rename_i i j
  obtain⟨v,ws,rfl,p,q⟩:=Reps.me.mp rs;obtain⟨v2,rfl,p2⟩:=q.one;cases Rep.Da.mp p;cases Rep.Da.mp p2;refine yz hc pins s σ H _ us Q I rv ⟨i,j,rfl,?_⟩
  exact hp H (Same.refl H) _ (Rep.GT _)
 ·exact hp.elim
end
end Tr
namespace Tr
theorem tO:∀l,fF l l=false
 | [] =>rfl
 | a::l=>by unfold fF;rw[if_pos rfl];exact tO l
theorem rH:∀a b c,fF a b=true->fF b c=true->fF a c=true
 | [],[],_,h,_=>absurd h (by simp[fF])
 | _::_,[],_,h,_=>absurd h (by simp[fF])
 | [],_::_,[],_,h=>absurd h (by simp[fF])
 | [],_::_,_::_,_,_=>rfl
 | _::_,_::_,[],_,h=>absurd h (by simp[fF])
 | x::a,y::b,z::c,h,g=>by
  unfold fF at h g ⊢
  by_cases e:x=y
  ·subst e
   rw[if_pos rfl]at h
   by_cases e2:x=z
   ·rw[if_pos e2]at g ⊢;exact rH a b c h g
   ·rw[if_neg e2]at g ⊢;exact g
  ·rw[if_neg e]at h
   by_cases e2:y=z
   ·subst e2;rw[if_neg e];exact h
   ·rw[if_neg e2]at g
    have h1:=of_decide_eq_true h
    have h2:=of_decide_eq_true g;rw[if_neg (by omega)]
    exact decide_eq_true (by omega)
theorem nY:∀a b,fF a b=false->fF b a=false->a=b
 | [],[],_,_=>rfl
 | [],_::_,h,_=>absurd h (by simp[fF])
 | _::_,[],_,h=>absurd h (by simp[fF])
 | x::a,y::b,h,g=>by
  unfold fF at h g
  by_cases e:x=y
  ·subst e
   rw[if_pos rfl]at h g;rw[nY a b h g]
  ·rw[if_neg e]at h
   rw[if_neg (λz=>e z.symm)]at g
   have h1:=of_decide_eq_false h
   have h2:=of_decide_eq_false g;omega
theorem zR (a b c:List Int)(h:fF a c=true):fF a b=true\/fF b c=true:=by
 cases h1:fF a b with
 | true=>exact .inl rfl
 | false=>
  cases h2:fF b a with
  | true=>exact .inr (rH _ _ _ h2 h)
  | false=>rw[<-nY _ _ h1 h2];exact .inr h
end Tr
namespace Tr
open PySem PySem.Spec PyProof.Rows L2
variable (R:RK)
variable {R:RK}
def RK.kind (R:RK)(h:Heap):PyProof.Rows.KeyKind:={ α:=List Int,blt:=fF,irrefl:=tO,trans:=rH,negTrans:=zR,total:=nY,keyOf:=R.key h,dflt:=[] }
def RK.row (R:RK)(h:Heap)(v:J7):List Int:=(R.key h v).getD []
end Tr
namespace L2
open PySem PySem.Spec PyProof.Rows
theorem tY {n b:Nat}:b∈ [n+4,n,n+1,n+2,n+3] ↔n<=b/\b<n+5:=by
 simp only[Kf,Li,or_false];omega
end L2
namespace Tr
open PySem PySem.Spec PyProof.Rows L2
def Wk (K:J5)(O:Ow)(H1:Hp)(l:List T)(v:V):Prop:=∃(aa:Addr) (tt:Bool) (ws:List V),v= .ref aa/\¬ O aa/\Reps K O H1 l ws/\Bu K H1 aa tt ws/\(∀P Hc,SameO P H1 Hc->¬ P aa->Bu K Hc aa tt ws)/\¬ Nw K H1 aa
end Tr
namespace Tr
open PySem
def c0 (g:List T->Rs T)(_:En):Rs T:=match g []with
 | .ok t=> .ok t
 | _=> .bad
end Tr
namespace Tr
open PySem PySem.Spec PyProof.Rows L2
section
variable {X:Cx}{a b c:Expr}{fa fb fc:En->Rs T}{pos p2 p3:Pos}{x:Str}
theorem um:CallR X (.type "list") (λxs H Q=> ∃p ys,xs= [.ref p]/\SqL X.K H p ys/\∀l,Nw X.K H l->Q (.ref l) (upd H l (.lst ys))):=by
 intro pins s σ H xs us Q I r h;obtain⟨p,ys,rfl,hq,q⟩:=h;obtain⟨u,rfl,rx⟩:=jo r;cases rx;obtain⟨its,r',pl,hz⟩:=I.list hq
 have hlen:=r'.length;obtain⟨o,ho,hc,n,hd⟩:=pl.isList
 have hk:X.K.lookup s.heap.objs.size=none:=by
  cases q:X.K.lookup s.heap.objs.size with
  | none=>rfl
  | some o=>exact absurd (Kl (I.kIn _ o q)) (KI _)
 exact call_list_seq p (.inl rfl) ho hc hd (λh' c' kp e=>⟨.ref s.heap.objs.size,_,I.laid (t':=s.toks) kp (Kj _) (show ObjOk X.prog X.w _ h' _ (.lst ys)from⟨hz,its,c',r',e⟩),rfl,q _ ⟨I.hok.fresh (Kj _),hk⟩⟩) (by simp only[Ko] <;> omega)
end
end Tr
namespace PySem
open Sem (wp)
open L2 (itAt)
structure PW (prog:KA)(w:K1)(A:KP)(I:Addr)(T:String)(fp wr:List Addr)(n:Nat)(R:Nat->J7->J7->Prop)(St:Nat->Option Addr->Heap->Prop):Prop where
 sub:∀b∈wr,b∈fp
 ty:∀i o (s:J9),St i o s.heap->s.TypeIs (.ref I) T
 frame:∀i o h h',St i o h->(∀b∈fp,∀ob,h.get? b=some ob->h'.get? b=some ob)->St i o h'
 item:∀i o (s:J9) (Q:Option J7->J9->Prop) (E:J7->J9->Prop),i<n->St i o s.heap->(∀t,o=some t->∃ob,s.heap.get? t=some ob) →
  (∀p h' tk x y,R i x y->s.heap.objs.size<=p->IsPair h' p x y->St (i+1) (some (o.getD p)) h'->(∀b ob,b∉wr->s.heap.get? b=some ob->h'.get? b=some ob)->Q (some (.ref p)) { s with heap:=h',toks:=tk })->wpAny (model prog w) A (pyNext (.ref I)) Q E s
 done:∀o (s:J9) (Q:Option J7->J9->Prop) (E:J7->J9->Prop),St n o s.heap->(∀t,o=some t->∃ob,s.heap.get? t=some ob)->(∀h' tk,(∀b ob,b∉wr->s.heap.get? b=some ob->h'.get? b=some ob)->Q none { s with heap:=h',toks:=tk })->wpAny (model prog w) A (pyNext (.ref I)) Q E s
 self:∀i o (s:J9) (Q:J7->J9->Prop) (E:J7->J9->Prop),St i o s.heap->Q (.ref I) s->wpAny (model prog w) A (pyIter (.ref I)) Q E s
end PySem
namespace Tr
open PySem
inductive Fx where
 | nx (Z:En) | rt (t:T) (Z:En)
def iO {α:Type}(f:Str):List Str->List α->Option α
 | n::ns,l::ls=>if n=f then some l else iO f ns ls
 | _,_=>none
def fY (f:Str)(l':List T):List Str->List (List T)->List (List T)
 | n::ns,l::ls=>if n=f then l'::ls else l::fY f l' ns ls
 | _,ls=>ls
def jm (c f:Str):T->Rs T
 | .ob c' ns ts=>if c'=c then(match iO f ns ts with | some t=> .ok t | none=> .bad)else .bad
 | _=> .bad
def mh (c m:Str)(g:List T->Rs T)(fo:En->Rs T)(fs:En->Rs (List T))(Z:En):Rs T:=do
 let o <-fo Z
 match o with
 | .ob c' ns ts=>if c'=c/\ns.contains m=false then fs Z >>= λl=>g (.ob c' ns ts::l)else .bad
 | _=> .bad
def xP (f:En->Rs T)(Z:En):Rs (T×En):=f Z >>= λt=> .ok (t,Z)
def sr (i:Nat)(c f:Str)(fa:En->Rs T)(Z:En):Rs (T×En):=match Z[i]? with
 | some (.ow (.ob c' ns ls))=>if c'=c then(match iO f ns ls with
  | some l=>fa Z >>= λt=>if l.length<sizeLine then .ok (.non,Z.set i (.ow (.ob c' ns (fY f (l++ [t]) ns ls))))else .bad
  | none=> .bad)else .bad
 | _=> .bad
def uC (i:Nat)(c f:Str)(Z:En):Rs (T×En):=match Z[i]? with
 | some (.ow (.ob c' ns ls))=>if c'=c then(match iO f ns ls with
  | some l=>(match l.getLast? with
   | some t=> .ok (t,Z.set i (.ow (.ob c' ns (fY f l.dropLast ns ls))))
   | none=> .bad)
  | none=> .bad)else .bad
 | _=> .bad
def yQ (i:Nat)(Z:En):Rs (T×OT)->Rs (T×En)
 | .ok p=> .ok (p.1,Z.set i (.ow p.2))
 | .err c=> .err c
 | .bad=> .bad
def bP (i:Nat)(c m:Str)(g:List Sl->Rs (T×OT))(fs:En->Rs (List T))(Z:En):Rs (T×En):=match Z[i]? with
 | some (.ow (.ob c' ns ls))=>if c'=c/\ns.contains m=false then fs Z >>= λts=>yQ i Z (g (.ow (.ob c' ns ls)::ts.map Sl.va))else .bad
 | _=> .bad
def mP (i:Nat)(g:List Sl->Rs (T×OT))(fs:En->Rs (List T))(Z:En):Rs (T×En):=match Z[i]? with
 | some (.ow o)=>fs Z >>= λts=>yQ i Z (g (ts.map Sl.va++ [.ow o]))
 | _=> .bad
def dX (n:Nat)(sls:List Sl):En:=sls++Kx (n - sls.length) Sl.em
def oU (j:Nat):Fx->Rs (T×OT)
 | .nx Z=>match Z[j]? with
  | some (.ow o)=> .ok (.non,o)
  | _=> .bad
 | .rt t Z=>match Z[j]? with
  | some (.ow o)=> .ok (t,o)
  | _=> .bad
def fM (n j m:Nat)(F:En->Rs Fx)(sls:List Sl):Rs (T×OT):=if sls.length=n then F (dX m sls) >>= oU j else .bad
def nJ {α:Type}:Rs α->Rs α
 | .err _=> .bad
 | r=>r
def mN (Z:En):Rs Fx:=.ok (.nx Z)
def gq (F G:En->Rs Fx)(Z:En):Rs Fx:=match F Z with
 | .ok (.nx Z')=>nJ (G Z')
 | r=>r
def rG (x:En->Rs (T×En))(Z:En):Rs Fx:=x Z >>= λp=> .ok (.nx p.2)
def jl (x:En->Rs (T×En))(Z:En):Rs Fx:=x Z >>= λp=> .ok (.rt p.1 p.2)
def zQ (i:Nat)(x:En->Rs (T×En))(Z:En):Rs Fx:=x Z >>= λp=>if i<p.2.length then .ok (.nx (p.2.set i (.va p.1)))else .bad
def yb (f:En->Rs Bool)(F G:En->Rs Fx)(Z:En):Rs Fx:=f Z >>= λk=>if k then F Z else G Z
def CT (c:Str)(_:En):Rs Fx:=.err c
def tN (i:Nat)(c f:Str)(fs:En->Rs (List T))(Z:En):Rs Fx:=match Z[i]? with
 | some (.ow (.ob c' ns ls))=>fs Z >>= λl=>if c'=c/\l.length<=sizeLine/\ns.length<1000 then
   .ok (.nx (Z.set i (.ow (if ns.contains f then .ob c' ns (fY f l ns ls)else .ob c' (ns++ [f]) (ls++ [l])))))else .bad
 | _=> .bad
def nV (F:En->Rs Fx)(h:Str->Rs T)(Z:En):Rs Fx:=match F Z with
 | .err c=>(match h c with
  | .ok t=> .ok (.rt t Z)
  | _=> .bad)
 | r=>r
def rQ (c:Str)(t:T)(d:Str):Rs T:=if d=c then .ok t else .bad
def m8 (x:En->Rs (T×En))(Z:En):Rs Fl:=x Z >>= λp=> .ok (.nx p.2)
def xQ (i:Nat)(x:En->Rs (T×En))(Z:En):Rs Fl:=x Z >>= λp=>if i<p.2.length then .ok (.nx (p.2.set i (.va p.1)))else .bad
def m5 (i:Nat)(c:Str)(g:List Sl->Rs (T×OT))(fs:En->Rs (List T))(Z:En):Rs Fl:=fs Z >>= λts=>nJ (g (.ow (.ob c [] [])::ts.map Sl.va)) >>= λp=>match p.1 with
 | .non=>if i<Z.length then .ok (.nx (Z.set i (.ow p.2)))else .bad
 | _=> .bad
def yE (x:En->Rs (T×En))(Z:En):Rs (Bool×En):=x Z >>= λp=>match p.1 with
 | .bl b=> .ok (b,p.2)
 | _=> .bad
def DB (g:T->T->Rs T)(x:En->Rs (T×En))(f:En->Rs T)(Z:En):Rs (T×En):=x Z >>= λp=>nJ (f p.2 >>= g p.1) >>= λt=> .ok (t,p.2)
def BK (f:En->Rs Bool)(Z:En):Rs (Bool×En):=f Z >>= λb=> .ok (b,Z)
def ql (x y:En->Rs (Bool×En))(Z:En):Rs (Bool×En):=x Z >>= λp=>if p.1 then .ok (true,p.2)else nJ (y p.2)
def Ap (f:En->Rs (List T))(Z:En):Rs (List T):=f Z >>= λx=>match x with
 | [.lst l] => .ok l.reverse
 | _=> .bad
def qC (x:En->Rs (Bool×En))(F G:En->Rs Fl)(Z:En):Rs Fl:=x Z >>= λp=>if p.1 then F p.2 else G p.2
def xG (n m:Nat)(F:En->Rs (T ⊕ OT))(ts:List T):Rs (T ⊕ OT):=if ts.length=n then F (aI m ts)else .bad
def m6 (i:Nat)(c f:Str)(fa:En->Rs T)(Z:En):Rs Fl:=match Z[i]? with
 | some (.ow (.ob c' ns ls))=>fa Z >>= λt=>(match t with
  | .lst l=>if c'=c/\ns.length<1000 then
   .ok (.nx (Z.set i (.ow (if ns.contains f then .ob c' ns (fY f l ns ls)else .ob c' (ns++ [f]) (ls++ [l])))))else .bad
  | _=> .bad)
 | _=> .bad
def wy (i:Nat)(Z:En):Rs (T ⊕ OT):=match Z[i]? with
 | some (.ow o)=> .ok (.inr o)
 | _=> .bad
def DH (F:En->Rs Fl)(G:En->Rs (T ⊕ OT))(Z:En):Rs (T ⊕ OT):=match F Z with
 | .ok (.nx Z')=>nJ (G Z')
 | _=> .bad
def OT.nkL:OT->Bool
 | .ob _ _ ls=>ls.all (nks false)
 | _=>false
def uN (i j:Nat)(c m:Str)(g:List T->Rs (T ⊕ OT))(Z:En):Rs Fl:=match Z[j]? with
 | some (.ow (.ob c' ns ls))=>if c'=c/\ns.contains m=false/\i<Z.length then(match g [.ob c' ns (ls.map T.lst)]with
  | .ok (.inr o)=>if o.nkL then .ok (.nx (Z.set i (.ow o)))else .bad
  | _=> .bad)else .bad
 | _=> .bad
def gX (g:T->En->Rs En)(F:En->Rs Fx):List T->En->Rs En
 | [],Z=> .ok Z
 | t::r,Z=>match g t Z with
  | .ok Z1=>(match F Z1 with
   | .ok (.nx Z2)=>gX g F r Z2
   | _=> .bad)
  | _=> .bad
def yc (fi:En->Rs (List T))(g:T->En->Rs En)(F:En->Rs Fx)(Z:En):Rs Fx:=fi Z >>= λts=>match gX g F ts Z with
 | .ok Z'=> .ok (.nx Z')
 | _=> .bad
def Bo (g:T->T->Rs T)(x y:En->Rs (T×En))(Z:En):Rs (T×En):=x Z >>= λp=>nJ (y p.2) >>= λq=>nJ (g p.1 q.1) >>= λt=> .ok (t,q.2)
end Tr
namespace Tr
open PySem PySem.Spec PyProof.Rows L2
abbrev one (j:Nat)(m:Ow):Mn:=noM.set j m
abbrev BM (B m:Ow):Ow:=λa=>B a\/m a
theorem one_u {j:Nat}{m:Ow}{a:Addr}:(one j m).u a↔m a:=⟨λz=>(Mn.GM z).elim id λ⟨_,w⟩=>w.elim,λz=>⟨j,by unfold one;rw[Mn.Jv];exact z⟩⟩
theorem one_oo {B:Ow}{j:Nat}{m:Ow}{a:Addr}:OO B (one j m) a↔BM B m a:=or_congr MN one_u
section
variable {K:J5}{B:Ow}{M:Mn}{H H':Hp}{Z:En}{σ:L2.St}{i:Nat}{o o':OT}{v:V}{m:Ow}
theorem Ev.old (E:Ev K B M H Z σ){a:Addr}(w:Nw K H a):¬ OO B M a:=λz=>by
 obtain⟨o,e⟩:=(E.env.trk a z).some;rw[w.1]at e;cases e
theorem Ev.back (E:Ev K B M H Z σ)(hi:Z[i]? =some (.ow o))(hs:σ[i]? =some (some v))(s:SameO (M i) H H')(r:ORep K (OO B (M.set i m)) m H' o' v)(hm:∀a,m a->M i a\/Nw K H a) :
  Ev K B (M.set i m) H' (Z.set i (.ow o')) σ/\SameO M.u H H'/\∀a,(M.set i m).u a->M.u a\/Nw K H a:=by
 have hl:i<Z.length:=(Ki.mp hi).1
 have sub:∀a,(M.set i m).u a->M.u a\/Nw K H a:=λa z=>(Mn.GM z).elim (λw=>(hm a w).imp_left λy=>⟨i,y⟩) .inl
 have subO:∀a,OO B (M.set i m) a->OO B M a\/Nw K H a:=λa z=>z.elim (λw=> .inl (.inl w)) λw=>(sub a w).elim (λy=> .inl (.inr y)) .inr
 have inO:∀a,M i a->OO B M a\/Nw K H a:=λa z=> .inl (.inr ⟨i,z⟩)
 refine⟨⟨⟨by rw[Lm];exact E.env.len,λj t e=> ?_,λj o2 e=> ?_,λj a z=> .inr ⟨j,z⟩,λj k a z1 z2=> ?_,λa z=> ?_⟩,λa z hb=> ?_⟩,λb u e n=>s b u e λz=>n ⟨i,z⟩,sub⟩
 ·by_cases hj:i=j
  ·subst hj;rw[KB hl]at e;cases e
  ·rw[Kv hj]at e
   obtain⟨w,e1,e2⟩:=E.env.val j t e;exact⟨w,e1,e2.move inO subO s⟩
 ·by_cases hj:i=j
  ·subst hj
   rw[KB hl]at e
   cases e;exact⟨v,hs,by rw[Mn.Jv];exact r⟩
  ·rw[Kv hj]at e
   obtain⟨w,e1,e2⟩:=E.env.own j o2 e;refine⟨w,e1,?_⟩
   rw[Mn.JA (λz=>hj z.symm)]
   exact e2.move inO subO s λa z y=>hj (E.env.dis i j a y z)
 ·unfold Mn.set at z1 z2
  by_cases hj:j=i
  ·by_cases hk:k=i
   ·exact hj.trans hk.symm
   ·rw[if_pos hj]at z1;rw[if_neg hk]at z2
    exact(hm a z1).elim (λw=>(hk (E.env.dis k i a z2 w)).elim) λw=>(E.old w (.inr ⟨k,z2⟩)).elim
  ·by_cases hk:k=i
   ·rw[if_neg hj]at z1;rw[if_pos hk]at z2
    exact(hm a z2).elim (λw=>(hj (E.env.dis j i a z1 w)).elim) λw=>(E.old w (.inr ⟨j,z1⟩)).elim
   ·rw[if_neg hj]at z1;rw[if_neg hk]at z2
    exact E.env.dis j k a z1 z2
 ·rcases z with z | ⟨j,z⟩
  ·exact(E.env.trk a (.inl z)).at λo e=>s _ _ e λw=>E.mine a ⟨i,w⟩ z
  ·unfold Mn.set at z
   by_cases hj:j=i
   ·rw[if_pos hj]at z;exact r.mtb a z
   ·rw[if_neg hj]at z
    exact(E.env.trk a (.inr ⟨j,z⟩)).at λo e=>s _ _ e λw=>hj (E.env.dis j i a z w)
 ·rcases Mn.GM z with w | w
  ·exact(hm a w).elim (λy=>E.mine a ⟨i,y⟩ hb) λy=>E.old y (.inl hb)
  ·exact E.mine a w hb
end
section
variable {X:Cx}{a e:Expr}{es:List Expr}{fa:En->Rs T}{fs:En->Rs (List T)}{pos p2 apos cpos:Pos}{x c f:Str}
def PostX (X:Cx)(B P:Ow)(σ:L2.St)(H:Hp)(r:Rs (T×En))(Q:VK):Prop:=match r with
 | .ok p=> ∀v H' M',SameO P H H'->Ev X.K B M' H' p.2 σ->(∀a,M'.u a->P a\/Nw X.K H a)->Rep X.K (OO B M') H' p.1 v->Q v H'
 | .err c=>XA X jX H c
 | .bad=>False
def tX (X:Cx)(f:En->Rs (T×En)):TE:=λσ H Q=> ∃Z B M,Ev X.K B M H Z σ/\PostX X B M.u σ H (f Z) Q
abbrev uu (X:Cx)(e:Expr)(f:En->Rs (T×En)):Prop:=PE X e (tX X f)
theorem Ei (h:b6 X a fa):uu X a (xP fa):=PE.imp h λσ H Q hh_=>by
 obtain⟨Z,B,M,E,q⟩:=hh_;refine⟨Z,OO B M,E.o,?_⟩
 unfold xP at q
 cases z:fa Z with
 | bad=>rw[z]at q;exact q
 | err c=>rw[z]at q;exact q
 | ok t=>
  rw[z,az]at q;exact λH' s v r=>q v H' M (SameO.of s) (E.same s) (λ_ w=> .inl w) r
theorem Au {K:J5}{O:Ow}{H:Hp}:∀{fs:List (Str×V)} {ts:List T} {t:T},iO f (fs.map (·.1)) ts=some t->Reps K O H ts (fs.map (·.2))->∃v,fs.lookup f=some v/\Rep K O H t v
 | [],ts,t,h,_=>by cases h
 | (n,w)::fs,[],t,h,_=>by cases h
 | (n,w)::fs,u::ts,t,h,r=>by
  obtain⟨w',ws,e,p,q⟩:=Reps.me.mp r;cases e
  have h':(if n=f then some u else iO f (fs.map (·.1)) ts)=some t:=h
  rw[KZ]
  by_cases z:n=f
  ·subst z
   rw[if_pos rfl]at h';cases h';exact⟨w,by rw[beq_self_eq_true],p⟩
  ·rw[if_neg z]at h'
   rw[beq_eq_false_iff_ne.mpr (Mv z)];exact Au h' q
theorem Hq (hc:Cls X.K (bj X.K c))(hn:NoAttr X.K (bj X.K c) f)(ha:b6 X a fa)(hb:autoParam (KH a f X.env (eval a X.env)=eval a X.env) aqd._auto_1):b6 X (.Attribute a f pos) (o1 (jm c f) fa):=PE.imp (uT ha hb) λσ H Q hh_=>by
 obtain⟨Z,O,E,h⟩:=hh_;refine vX (aW (k:=jm c f) E h) λv H' ⟨t,r,s,E',q⟩=> ?_
 cases t with
 | ob c' ns ts=>
  unfold jm at q
  dsimp only at q
  split at q
  ·rename_i hcc
   subst hcc;obtain⟨b,dx,fs,e1,e2,e3,e4,e5⟩:=Rep.Ju.mp r;subst e4
   split at q
   ·rename_i t ht
    obtain⟨w,l1,l2⟩:=Au ht e5;exact⟨b,_,dx,fs,w,e1,e3,hc,hn,l1,q H' (Same.refl _) w l2⟩
   ·exact q.elim
  ·exact q.elim
 | _=>exact q.elim
theorem vm {K:J5}{O:Ow}{H:Hp}:∀{ns:List Str} {as:List Addr} {ls:List (List T)} {l:List T},iO f ns ls=some l->LsR K O H ls as->ns.length=as.length->as.Nodup →
  ∃b vs,(ns.zip (as.map V.ref)).lookup f=some (.ref b)/\b∈as/\H b=some (.lst vs)/\Reps K O H l vs/\∀(l':List T) (vs':List V),O b->Reps K O H l' vs'->LsR K O (upd H b (.lst vs')) (fY f l' ns ls) as
 | [],as,ls,l,h,_,_,_=>by cases ls <;> cases h
 | n::ns,[],ls,l,h,_,hl,_=>by cases hl
 | n::ns,b::as,[],l,h,_,_,_=>by cases h
 | n::ns,b::as,u::ls,l,h,r,hl,nd=>by
  obtain⟨b',bs,vs,e1,e2,e3,e4⟩:=r;cases e1
  have nb:b∉as:=(KJ.mp nd).1
  have h':(if n=f then some u else iO f ns ls)=some l:=h
  show ∃c ws,((n,V.ref b)::ns.zip (as.map V.ref)).lookup f=_/\_
  rw[KZ]
  have keep:∀(c:Addr) (vs':List V),O c->∀{t:List T} {ws:List V},Reps K O H t ws->Reps K O (upd H c (.lst vs')) t ws:=λc vs' hc t ws q=>Reps.keep (P:=λa=>a=c) (λd o e n=>by rw[aE n];exact e) (λa z=>z▸hc) q
  by_cases z:n=f
  ·subst z
   rw[if_pos rfl]at h';cases h';refine⟨b,vs,by rw[beq_self_eq_true],Ke,e2,e3,λl' vs' ob rl=> ?_⟩
   show LsR K O _ (if n=n then l'::ls else _) _
   rw[if_pos rfl];refine⟨b,as,vs',rfl,aO,keep _ _ ob rl,?_⟩
   clear h hl nd e3 e2
   induction ls generalizing as with
   | nil=>exact e4
   | cons w ls ih=>
    obtain⟨c,cs,ws,f1,f2,f3,f4⟩:=e4;subst f1;exact⟨c,cs,ws,rfl,by rw[aE (λy=>nb (by rw[<-y];exact Ke))];exact f2,keep _ _ ob f3,ih cs f4 λy=>nb (J6 _ y)⟩
  ·rw[if_neg z]at h'
   rw[beq_eq_false_iff_ne.mpr (Mv z)];obtain⟨d,ws,g1,g2,g3,g4,g5⟩:=vm h' e4 (by simpa using hl) (KJ.mp nd).2
   refine⟨d,ws,g1,J6 _ g2,g3,g4,λl' vs' od rl=> ?_⟩
   show LsR K O _ (if n=f then l'::ls else u::fY f l' ns ls) _
   rw[if_neg z];exact⟨b,as,vs,rfl,by rw[aE (λy=>nb (by rw[y];exact g2))];exact e2,keep _ _ od e3,g5 l' vs' od rl⟩
theorem Ev.putF {K:J5}{B:Ow}{M:Mn}{H:Hp}{Z:En}{σ:L2.St}{i:Nat}{ns:List Str}{ls:List (List T)}{l:List T}(E:Ev K B M H Z σ)(hi:Z[i]? =some (.ow (.ob c ns ls)))(hf:iO f ns ls=some l) :
  ∃p dx fs b vs,σ[i]? =some (some (.ref p))/\H p=some (.ins (bj K c) dx fs)/\fs.lookup f=some (.ref b)/\H b=some (.lst vs)/\Reps K (OO B M) H l vs/\∀(l':List T) (vs':List V),Reps K (OO B M) H l' vs' →
   Ev K B M (upd H b (.lst vs')) (Z.set i (.ow (.ob c ns (fY f l' ns ls)))) σ/\SameO M.u H (upd H b (.lst vs')):=by
 obtain⟨v0,s0,p,dx,as,e1,e2,⟨n1,n2,n3,n4⟩,e4,e5,e6,e7,e8⟩:=E.env.own i _ hi;subst e1;obtain⟨b,vs,g1,g2,g3,g4,g5⟩:=vm hf e8 e6 n4
 have Mb:M i b:=(e2 b).mpr (.inr (.inr g2));refine⟨p,dx,_,b,vs,s0,e4,g1,g3,g4,λl' vs' rl=> ?_⟩
 have sm:SameO (M i) H (upd H b (.lst vs')):=λd u e nb=>by rw[aE (λz=>nb (by rw[z];exact Mb))];exact e
 refine E.put hi s0 sm ⟨p,dx,as,rfl,e2,⟨n1,n2,n3,n4⟩,?_,?_,e6,e7,g5 l' vs' (.inr ⟨i,Mb⟩) rl⟩
 ·rw[aE (nT e4 g3 (λz=>nomatch z))];exact e4
 ·rw[aE (nT e5 g3 (λz=>nomatch z))];exact e5
theorem GL (i:Nat){p3:Pos}(hc:Cls X.K (bj X.K c))(hn:NoAttr X.K (bj X.K c) f)(ha:b6 X a fa)(hN:autoParam (X.N[i]? =some x) aqd._auto_1)(hv:autoParam (kK X.env.scope x) aqe._auto_1)(hs:autoParam (a9 a=true) aqd._auto_1)
  (hb1:autoParam (KH (.Name x p2) f X.env (eval (.Name x p2) X.env)=eval (.Name x p2) X.env) aqd._auto_1)
  (hbase:autoParam (KH (.Attribute (.Name x p2) f p3) "append" X.env (eval (.Attribute (.Name x p2) f p3) X.env)=eval (.Attribute (.Name x p2) f p3) X.env) aqd._auto_1) (hline:autoParam ((apos.endLine == cpos.line)=true) aqd._auto_1)
  (hd:autoParam ((x == ("__debug__" : Str))=false) aqb._auto_1) (hcd:autoParam ((x == ("__classdict__" : Str))=false) aqb._auto_1):uu X (.Call (.Attribute (.Attribute (.Name x p2) f p3) "append" apos) [a] [] cpos) (sr i c f fa):=by
 have h1:Kn [a] X.env=(false,eval a X.env)::Kn [] X.env:=a7 hs;refine PE.imp (zx LI NS NT lb (uT (dY hN hv hd hcd) hb1) (d9 ha iw h1) hbase (by rw[h1];rfl) hline h1 rfl) λσ H Q ⟨Z,B,M,E,h⟩=> ?_
 unfold sr at h
 split at h
 ·rename_i c' ns ls hl
  split at h
  ·rename_i hcc
   subst hcc
   split at h
   ·rename_i l hf
    obtain⟨p,dx,fs,b,vs,s0,e1,e2,e3,e4,k⟩:=E.putF hl hf;refine⟨.ref p,s0,p,_,dx,fs,.ref b,rfl,e1,hc,hn,e2,.inl ⟨rfl,vs,SqL.of e3⟩,Z,OO B M,E.o,?_⟩
    cases q:fa Z with
    | bad=>rw[q]at h;exact h.elim
    | err c=>rw[q]at h;exact h
    | ok t=>
     rw[q,az]at h
     split at h
     ·rename_i hz
      intro H1 s1 v r;obtain⟨p',dx',fs',b',vs',s0',e1',e2',e3',e4',k'⟩:=(E.same s1).putF hl hf;cases s0.symm.trans s0'
      have z1:=(s1 _ _ e1).symm.trans e1';cases z1;cases e2.symm.trans e2'
      have z3:=(s1 _ _ e3).symm.trans e3';cases z3;obtain⟨g1,g2⟩:=k' (l++ [t]) (vs++ [v]) (e4'.append (Reps.FS r Reps.Gc));exact⟨b,vs,v,rfl,rfl,e3',by rw[<-e4.length];exact hz,h .non _ M (λc o e nb=>g2 c o (s1 _ _ e) nb) g1 (λc z=> .inl z) Rep.JJ⟩
     ·exact h.elim
   ·exact h.elim
  ·exact h.elim
 ·exact h.elim
theorem GJ (i:Nat){p3:Pos}(hc:Cls X.K (bj X.K c))(hn:NoAttr X.K (bj X.K c) f)(hN:autoParam (X.N[i]? =some x) aqd._auto_1)(hv:autoParam (kK X.env.scope x) aqe._auto_1)
  (hb1:autoParam (KH (.Name x p2) f X.env (eval (.Name x p2) X.env)=eval (.Name x p2) X.env) aqd._auto_1)
  (hbase:autoParam (KH (.Attribute (.Name x p2) f p3) "pop" X.env (eval (.Attribute (.Name x p2) f p3) X.env)=eval (.Attribute (.Name x p2) f p3) X.env) aqd._auto_1) (hline:autoParam ((apos.endLine == cpos.line)=true) aqd._auto_1)
  (hd:autoParam ((x == ("__debug__" : Str))=false) aqb._auto_1) (hcd:autoParam ((x == ("__classdict__" : Str))=false) aqb._auto_1):uu X (.Call (.Attribute (.Attribute (.Name x p2) f p3) "pop" apos) [] [] cpos) (uC i c f):=by
 refine PE.imp (Fo LI PySem.F.slot_list_pop PySem.F.type_list_pop FI (uT (dY hN hv hd hcd) hb1) hbase hline) λσ H Q ⟨Z,B,M,E,h⟩=> ?_
 unfold uC at h
 split at h
 ·rename_i c' ns ls hl
  split at h
  ·rename_i hcc
   subst hcc
   split at h
   ·rename_i l hf
    split at h
    ·rename_i t ht
     obtain⟨p,dx,fs,b,vs,s0,e1,e2,e3,e4,k⟩:=E.putF hl hf
     have hlen:=e4.length
     have hne:l≠ []:=λz=>by rw[z]at ht;cases ht
     rw[List.getLast?_eq_getElem?]at ht
     obtain⟨w,w1,w2⟩:=e4.get ht;rw[hlen]at w1;obtain⟨g1,g2⟩:=k l.dropLast vs.dropLast (by rw[OH,OH,hlen];exact e4.take _)
     refine⟨.ref p,s0,p,_,dx,fs,.ref b,rfl,e1,hc,hn,e2,.inl ⟨rfl,vs,SqL.of e3⟩,b,vs,w,rfl,rfl,e3,w1,?_⟩
     refine h w _ M g2 g1 (λc z=> .inl z) (w2.keep (P:=λa=>a=b) (λd o e n=>by rw[aE n];exact e) λa z=> ?_)
     obtain⟨v0,s1,p',dx',as,f1,f2,f3,f4,f5,f6,f7,f8⟩:=E.env.own i _ hl;rw[f1]at s1;cases s0.symm.trans s1;cases e1.symm.trans f4;obtain⟨b2,vs2,y1,y2,_⟩:=vm hf f8 f6 f3.2.2.2;rw[e2]at y1;cases y1;exact .inr ⟨i,(f2 a).mpr (.inr (.inr (z▸y2)))⟩
    ·exact h.elim
   ·exact h.elim
  ·exact h.elim
 ·exact h.elim
end
theorem kC {m:Str}:∀{fs:List (Str×V)},(fs.map (·.1)).contains m=false->fs.lookup m=none
 | [],_=>rfl
 | (n,v)::fs,h=>by
  rw[Ka,MP,O0]at h;rw[KZ,h.1];exact kC h.2
section
variable {X:Cx}{o e:Expr}{es:List Expr}{fo:En->Rs T}{fs:En->Rs (List T)}{pos p2 apos:Pos}{x c m:Str}{k n j:Nat}{f:Addr}{fd:KY}{ps:List Str}
theorem Cj {pl:Sem Bool}{g:List T->Rs T}(hc:Cls X.K (bj X.K c))(hm:pw X.K (bj X.K c) m f)(F:Bx X.prog X.w X.K X.mg X.base k f fd ps 1 g)(hr:Room k X.A)(hb:Binds X.K fd ps [])(hps:ps.length=1)(ho:b6 X o fo)
  (ht:eval (.Call (.Attribute o m apos) [] [] pos) X.env=(do
   let ov <-eval o X.env
   standAt apos.atName
   let (f,first) <-holding [ov] (MU ov m pl)
   Og pos f first (backTo pos (Kn [] X.env)) (M8 pos (L4 [] X.env))):=by rfl):b6 X (.Call (.Attribute o m apos) [] [] pos) (mh c m g fo aj):=by
 intro pins s σ H Q I ⟨Z,O,E,hq⟩;refine Mu (pl:=pl) (bN (ho pins s σ H _ I (aW E hq)) λu s1 ⟨v,H1,I1,rx,t,r,sm,E1,q⟩=> ?_) ht
 cases t with
 | ob c' ns ts=>
  dsimp only at q
  split at q
  ·rename_i hcc
   obtain⟨h1,h2⟩:=hcc;subst h1;obtain⟨p,dx,fs',rfl,n,e3,e4,e5⟩:=Rep.Ju.mp r;obtain rfl:u= .ref p:=rx;subst e4;refine gE I1 e3 hc hm (kC h2) ?_
   exact Nt (first:=[.ref p]) I1.kIn hm.kp (G3 (us:=[.ref p]) (vs:=[.ref p]) F hr hb hps I1 (.cons rfl .nil) (Reps.FS r Reps.Gc) E1.mtb rfl q)
  ·exact q.elim
 | _=>exact q.elim
end
def spE (K:J5)(n j:Nat)(g:List Sl->Rs (T×OT)):Sp:=λvs H Q _=> ∃sls B m v,Ev K B (one j m) H sls (vs.map some)/\sls.length=n/\vs[j]? =some v ∧
 match g sls with
 | .ok p=> ∀u H' m',SameO m H H'->ORep K (BM B m') m' H' p.2 v->(∀a,m' a->m a\/Nw K H a)->Rep K (BM B m') H' p.1 u->Q u H'
 | _=>False
def FnXE (P:KA)(w:K1)(K:J5)(mg:Str->Option J7)(base:Heap)(k:Nat)(f:Addr)(fd:KY)(ps:List Str)(n j:Nat)(g:List Sl->Rs (T×OT)):Prop:=
 ∀(A:KP) (outer:List Env) (s:J9) (H:Hp) (args:Args) (us:List J7) (vs:List V) (B m:Ow) (sls:List Sl) (c:Str) (R:Qj->J9->Prop),Room k A->Env0 P w K mg base A outer s H->Oe s fd args (ps.zip us)->Vals vs us →
  Ev K B (one j m) H sls (vs.map some)->sls.length=n->g sls= .err c->(∀ev s',Jg P w mg outer H s c ev s'->R (.error ev) s')->codeAny (model P w) A (.call (.ref f) args) R s
structure Dw (P:KA)(w:K1)(K:J5)(mg:Str->Option J7)(base:Heap)(k:Nat)(f:Addr)(fd:KY)(ps:List Str)(n j:Nat)(g:List Sl->Rs (T×OT)):Prop where
 h:FnOk P w K mg base CX0 k f fd ps (spE K n j g)
 x:FnXE P w K mg base k f fd ps n j g
section
variable {K:J5}{B:Ow}{M:Mn}{H H':Hp}{Z:En}{σ:L2.St}{i:Nat}{o o':OT}{v v0:V}{m:Ow}{ts:List T}{vs:List V}
abbrev BC (B:Ow)(M:Mn)(i:Nat):Ow:=λa=>OO B M a/\¬ M i a
theorem vD {j:Nat}{a:Addr}:OO (BC B M i) (one j (M i)) a->OO B M a:=λz=>(one_oo.mp z).elim (λw=>w.1) λw=> .inr ⟨i,w⟩
theorem Ev.args {j:Nat}{sls:List Sl}{ws:List V}(E:Ev K B M H Z σ)(hi:Z[i]? =some (.ow o))(hs:σ[i]? =some (some v0))(hl:sls.length=ws.length)(hj:sls[j]? =some (.ow o))(hw:ws[j]? =some v0)
  (ho:∀(k:Nat) (o':OT),sls[k]? =some (Sl.ow o')->k=j) (hv:∀(k:Nat) (t:T),sls[k]? =some (Sl.va t)->∃w,ws[k]? =some w/\Rep K (OO B M) H t w):Ev K (BC B M i) (one j (M i)) H sls (ws.map some):=by
 obtain⟨v',s',r⟩:=E.env.own i o hi;rw[hs]at s';cases s';refine⟨⟨by rw[Kc];exact hl,λk t e=> ?_,λk o' e=> ?_,λk a z=> .inr ⟨k,z⟩,λk k' a z1 z2=> ?_,λa z=>E.env.trk a (vD z)⟩,λa z y=>y.2 (one_u.mp z)⟩
 ·obtain⟨w,e1,e2⟩:=hv k t e
  exact⟨w,by rw[Kz,e1];rfl,e2.less λa z=>vD z⟩
 ·have hk:=ho k o' e
  subst hk;rw[hj]at e;cases e;refine⟨v0,by rw[Kz,hw];rfl,?_⟩
  rw[show one k (M i) k=M i from Mn.Jv]
  exact r.move (P:=jX) (λ_ z=>z.elim) (λa z=> .inl (vD z)) (λb u q _=>q) λ_ _ z=>z
 ·unfold one Mn.set at z1 z2
  by_cases h1:k=j
  ·by_cases h2:k'=j
   ·exact h1.trans h2.symm
   ·rw[if_neg h2]at z2;exact z2.elim
  ·rw[if_neg h1]at z1;exact z1.elim
theorem Ev.ret {t:T}{u:V}(E:Ev K B M H Z σ)(hi:Z[i]? =some (.ow o))(hs:σ[i]? =some (some v0))(s:SameO (M i) H H')(r:ORep K (BM (BC B M i) m) m H' o' v0)(hm:∀a,m a->M i a\/Nw K H a)(rt:Rep K (BM (BC B M i) m) H' t u) :
  Ev K B (M.set i m) H' (Z.set i (.ow o')) σ/\SameO M.u H H'/\(∀a,(M.set i m).u a->M.u a\/Nw K H a)/\Rep K (OO B (M.set i m)) H' t u:=by
 have sub:∀a,OO B (M.set i m) a->BM (BC B M i) m a:=λa z=>by
  rcases z with z | ⟨k,z⟩
  ·exact .inl ⟨.inl z,λw=>E.mine a ⟨i,w⟩ z⟩
  ·unfold Mn.set at z
   by_cases hk:k=i
   ·rw[if_pos hk]at z;exact .inr z
   ·rw[if_neg hk]at z;exact .inl ⟨.inr ⟨k,z⟩,λw=>hk (E.env.dis k i a z w)⟩
 obtain⟨g1,g2,g3⟩:=E.back hi hs s (r.move (P:=jX) (λ_ z=>z.elim) (λa z=> .inl (sub a z)) (λb u q _=>q) λ_ _ z=>z) hm
 exact⟨g1,g2,g3,rt.less sub⟩
end
section
variable {X:Cx}{k n j:Nat}{f:Addr}{fd:KY}{ps:List Str}{g:List Sl->Rs (T×OT)}{pins:List (Addr×Obj)}{σ:L2.St}{H:Hp}{s:J9}{us:List J7}{vs:List V}{sls:List Sl}{B m:Ow}{Q:VK}{v:V}
def DZ (X:Cx)(B m:Ow)(v:V)(H:Hp)(r:Rs (T×OT))(Q:VK):Prop:=match r with
 | .ok p=> ∀u H' m',SameO m H H'->ORep X.K (BM B m') m' H' p.2 v->(∀a,m' a->m a\/Nw X.K H a)->Rep X.K (BM B m') H' p.1 u->Q u H'
 | .err c=>XA X jX H c
 | .bad=>False
theorem za (F:Dw X.prog X.w X.K X.mg X.base k f fd ps n j g)(hr:Room k X.A)(hb:Binds X.K fd ps [])(hps:ps.length=n)(I:Inv X pins σ H s)(r:Vals vs us)(Ea:Ev X.K B (one j m) H sls (vs.map some))(hl:sls.length=n)(hv:vs[j]? =some v)
  (hq:DZ X B m v H (g sls) Q):wpAny (model X.prog X.w) X.A (call (.ref f) us) (EP X pins σ Q) X.xe s:=by
 cases q2:g sls with
 | bad=>rw[q2]at hq;exact hq.elim
 | ok p=>
  rw[q2]at hq;refine qE (E:=E0) (dvs:=[]) (ds:=[]) F.h hr hb .nil sV I r ⟨sls,B,m,v,by simpa using Ea,hl,by simpa using hv,?_⟩
  rw[q2]
  exact hq
 | err c=>
  rw[q2]at hq
  have hlen:us.length=ps.length:=by rw[<-r.length,hps,<-hl,Ea.env.len,Kc]
  have hb':=hb s us I.kIn (by rw[KO];exact hlen)
  rw[KO]at hb';refine OW (MJ (F.x X.A X.stack s H ⟨us,[]⟩ us vs B m sls c (λr s'=>match r with | .error ev=>X.xe ev s' | _=>False) hr I.JI hb' r Ea hl q2 λev s' w=> ?_) λr s' hq=> ?_)
  ·obtain⟨ea,T,C,H',rfl,hmc,ho,hbare,hun,hok,sm2,hea,heo,fl,hT,hTo⟩:=w
   have I2:Inv X pins σ H' s':=I.JE ho hun hok hbare (λb z=>absurd z (by simp))
   exact hq pins _ _ ⟨ea,some T,C,σ,H',rfl,hmc,I2,λb o q _=>sm2 b o q,hea,λhex=>fW I hex heo,fl,(λt zt=>by cases zt;exact⟨hT,λhex=>fW I hex hTo⟩),λpp hpp=>⟨λzz=>(by have:=(I.pin pp hpp).1;rw[zz,heo]at this;cases this),λzz=>(by cases zz;have:=(I.pin pp hpp).1;rw[hTo]at this;cases this)⟩⟩
  ·cases r with
   | error ev=>exact hq
   | ok fl=>exact hq.elim
theorem uR {M:Mn}{Z:En}{i:Nat}{o:OT}{v0:V}{H0:Hp}{P0:Ow}(E:Ev X.K B M H Z σ)(hi:Z[i]? =some (.ow o))(hs:σ[i]? =some (some v0)){r:Rs (T×OT)}(h:PostX X B M.u σ H (yQ i Z r) Q):DZ X (BC B M i) (M i) v0 H r Q:=by
 cases r with
 | bad=>exact h
 | err c=>exact h
 | ok p=>
  intro u H' m' s r hm rt;obtain⟨g1,g2,g3,g4⟩:=E.ret hi hs s r hm rt;exact h u H' _ g2 g1 g3 g4
theorem PostX.later {P:Ow}{H1:Hp}{r:Rs (T×En)}(h:PostX X B P σ H r Q)(s:Same H H1):PostX X B P σ H1 r Q:=by
 cases r with
 | bad=>exact h
 | err c=>exact XA.later h (SameO.of s) λ_ z=>z.elim
 | ok p=>exact λv H' M' s' E' o' r'=>h v H' M' (λb o e nb=>s' b o (s _ _ e) nb) E' (λa z=>(o' a z).imp_right (i9 s)) r'
theorem vo {o:OT}{ts:List T}{k:Nat}{o':OT}(h:(Sl.ow o::ts.map Sl.va)[k]? =some (.ow o')):k=0:=by
 cases k with
 | zero=>rfl
 | succ k=>
  rw[Ln,Kz]at h
  cases z:ts[k]? <;> rw[z]at h <;> cases h
theorem vn {K:J5}{O:Ow}{H:Hp}{o:OT}{v0:V}{ts:List T}{vs:List V}(r:Reps K O H ts vs){k:Nat}{t:T}(h:(Sl.ow o::ts.map Sl.va)[k]? =some (.va t)):∃w,(v0::vs)[k]? =some w/\Rep K O H t w:=by
 cases k with
 | zero=>cases h
 | succ k=>
  rw[Ln,Kz]at h
  cases z:ts[k]? with
  | none=>rw[z]at h;cases h
  | some u=>
   rw[z]at h;cases h;exact r.get z
end
section
variable {X:Cx}{e:Expr}{es:List Expr}{fs:En->Rs (List T)}{pos p p2 apos:Pos}{x y c m:Str}{k n:Nat}{f:Addr}{fd:KY}{ps:List Str}{g:List Sl->Rs (T×OT)}
theorem Ej {pl:Sem Bool}(i:Nat)(hc:Cls X.K (bj X.K c))(hm:pw X.K (bj X.K c) m f)(F:Dw X.prog X.w X.K X.mg X.base k f fd ps n 0 g)(hr:Room k X.A)(hb:Binds X.K fd ps [])(hps:ps.length=n)(hl:∀Z ts,fs Z= .ok ts->ts.length+1=n)(ha:pv X (e::es) fs)
  (hN:autoParam (X.N[i]? =some x) aqd._auto_1) (hv:autoParam (kK X.env.scope x) aqe._auto_1) (hd:autoParam ((x == ("__debug__" : Str))=false) aqb._auto_1) (hcd:autoParam ((x == ("__classdict__" : Str))=false) aqb._auto_1)
  (hst:autoParam (Kn (e::es) X.env=(false,eval e X.env)::Kn es X.env) aqd._auto_1) (hpl:autoParam ((backTo pos (Kn es X.env)).any (·.1)=false) aqd._auto_1)
  (ht:eval (.Call (.Attribute (.Name x p2) m apos) (e::es) [] pos) X.env=(do
   let ov <-eval (.Name x p2) X.env
   standAt apos.atName
   let (f,first) <-holding [ov] (MU ov m pl)
   Og pos f first (backTo pos (Kn (e::es) X.env)) (M8 pos (L4 [] X.env))):=by rfl) :
  uu X (.Call (.Attribute (.Name x p2) m apos) (e::es) [] pos) (bP i c m g fs):=by
 intro pins s σ H Q I ⟨Z,B,M,E,h⟩;unfold bP at h
 split at h
 ·rename_i c' ns ls hi
  split at h
  ·rename_i hcc
   obtain⟨h1,h2⟩:=hcc;subst h1;obtain⟨v0,s0,q,dx,as,e1,e2,e3,e4,e5,e6,e7,e8⟩:=E.env.own i _ hi;subst e1;refine Mu (pl:=pl) (bN (dY (pos:=p2) hN hv hd hcd pins s σ H (λv H'=>v= .ref q/\H'=H) I ⟨_,s0,rfl,rfl⟩) λu s1 ⟨v,H1,I1,rx,ev,eH⟩=> ?_) ht
   subst ev eH;obtain rfl:u= .ref q:=rx;refine gE I1 e4 hc hm (kC (by rw[mC (by rw[Kc];exact e6)];exact h2)) ?_
   refine Ms (first:=[.ref q]) (h₀:=X.base) I.ok.mod.kin hm.kp (bN (ha pos pins s1 σ H1 (λvs H2=> ∃ts,fs Z= .ok ts/\Same H1 H2/\Reps X.K (OO B M) H2 ts vs) I1 ⟨Z,OO B M,E.o,?_⟩) λus s2 ⟨vs,H2,I2,r,ts,q1,sm,rs⟩=>⟨I2.kIn,?_⟩) hst hpl
   ·cases z:fs Z with
    | bad=>rw[z]at h;exact h.elim
    | err c=>rw[z]at h;exact h
    | ok ts=>exact λH' s' vs rs=>⟨ts,rfl,s',rs⟩
   ·rw[q1,az]at h
    have E2:=E.same sm;refine za (us:=.ref q::us) (vs:=.ref q::vs) (v:=.ref q) F hr hb hps I2 (.cons rfl r) (E2.args (o:=.ob c' ns ls) hi s0 (by rw[Kd,Kd,Kc,rs.length]) rfl rfl (λk o' z=>vo z) λk t z=>vn rs z) ?_ rfl (uR (H0:=H1) (P0:=jX) E2 hi s0 (h.later sm))
    rw[Kd,Kc];exact hl Z ts q1
  ·exact h.elim
 ·exact h.elim
theorem BL {pl:Sem Bool}(i:Nat)(hc:Cls X.K (bj X.K c))(hm:pw X.K (bj X.K c) m f)(F:Dw X.prog X.w X.K X.mg X.base k f fd ps 1 0 g)(hr:Room k X.A)(hb:Binds X.K fd ps [])(hps:ps.length=1)
  (hN:autoParam (X.N[i]? =some x) aqd._auto_1) (hv:autoParam (kK X.env.scope x) aqe._auto_1) (hd:autoParam ((x == ("__debug__" : Str))=false) aqb._auto_1) (hcd:autoParam ((x == ("__classdict__" : Str))=false) aqb._auto_1)
  (ht:eval (.Call (.Attribute (.Name x p2) m apos) [] [] pos) X.env=(do
   let ov <-eval (.Name x p2) X.env
   standAt apos.atName
   let (f,first) <-holding [ov] (MU ov m pl)
   Og pos f first (backTo pos (Kn [] X.env)) (M8 pos (L4 [] X.env))):=by rfl) :
  uu X (.Call (.Attribute (.Name x p2) m apos) [] [] pos) (bP i c m g aj):=by
 intro pins s σ H Q I ⟨Z,B,M,E,h⟩;unfold bP at h
 split at h
 ·rename_i c' ns ls hi
  split at h
  ·rename_i hcc
   obtain⟨h1,h2⟩:=hcc;subst h1;obtain⟨v0,s0,q,dx,as,e1,e2,e3,e4,e5,e6,e7,e8⟩:=E.env.own i _ hi;subst e1;refine Mu (pl:=pl) (bN (dY (pos:=p2) hN hv hd hcd pins s σ H (λv H'=>v= .ref q/\H'=H) I ⟨_,s0,rfl,rfl⟩) λu s1 ⟨v,H1,I1,rx,ev,eH⟩=> ?_) ht
   subst ev eH;obtain rfl:u= .ref q:=rx;refine gE I1 e4 hc hm (kC (by rw[mC (by rw[Kc];exact e6)];exact h2)) ?_
   exact Nt (first:=[.ref q]) I1.kIn hm.kp (za (us:=[.ref q]) (vs:=[.ref q]) (v:=.ref q) F hr hb hps I1 (.cons rfl .nil) (E.args (o:=.ob c' ns ls) hi s0 rfl rfl rfl (λk o' z=>vo (ts:=[]) z) λk t z=>vn (ts:=[]) Reps.Gc z) rfl rfl (uR (H0:=H1) (P0:=jX) E hi s0 h))
  ·exact h.elim
 ·exact h.elim
def GP (X:Cx)(i:Nat)(f:En->Rs (List T)):TA:=λσ H Q=> ∃Z B M v0,Ev X.K B M H Z σ/\σ[i]? =some (some v0)/\Post X H (f Z) λts H'=> ∀vs,Reps X.K (OO B M) H' ts vs->Q (vs++ [v0]) H'
theorem E9 (i:Nat)(hN:autoParam (X.N[i]? =some x) aqd._auto_1)(hv:autoParam (kK X.env.scope x) aqe._auto_1)(hd:autoParam ((x == ("__debug__" : Str))=false) aqb._auto_1)(hcd:autoParam ((x == ("__classdict__" : Str))=false) aqb._auto_1):PA X [.Name x p2] (GP X i aj):=
 PA.imp (d9 (dY (pos:=p2) hN hv hd hcd) iw rfl) λσ H Q ⟨Z,B,M,v0,E,s0,h⟩=>⟨v0,s0,h H (Same.refl _) [] Reps.Gc⟩
theorem Ct {a:Expr}{fa:En->Rs T}{i:Nat}(ha:b6 X a fa)(hb:PA X es (GP X i fs))(he:autoParam (Kn (a::es) X.env=(false,eval a X.env)::Kn es X.env) aqd._auto_1):PA X (a::es) (GP X i (ae fa fs)):=
 PA.imp (d9 ha hb he) λσ H Q hh_=>by
  obtain⟨Z,B,M,v0,E,s0,h⟩:=hh_;refine⟨Z,OO B M,E.o,?_⟩
  unfold ae at h
  cases z:fa Z with
  | bad=>rw[z]at h;exact h.elim
  | err c=>rw[z]at h;exact h
  | ok t=>
   rw[z,az]at h;intro H1 s1 v r;refine⟨Z,B,M,v0,E.same s1,s0,?_⟩
   refine Post.mono (Post.bind (h.later s1)) λts H2 s2 q vs rs=> ?_
   exact q H2 (Same.refl _) (v::vs) (Reps.FS (r.same s2) rs)
theorem FN {o:OT}{ts:List T}{k:Nat}{o':OT}(h:(ts.map Sl.va++ [Sl.ow o])[k]? =some (.ow o')):k=ts.length:=by
 by_cases hk:k<ts.length
 ·rw[KL (by simpa using hk),Kz,Kq hk]at h;cases h
 ·have h2:=(Ki.mp h).1
  simp at h2;omega
theorem FL {K:J5}{O:Ow}{H:Hp}{o:OT}{v0:V}{ts:List T}{vs:List V}(r:Reps K O H ts vs){k:Nat}{t:T}(h:(ts.map Sl.va++ [Sl.ow o])[k]? =some (.va t)):∃w,(vs++ [v0])[k]? =some w/\Rep K O H t w:=by
 by_cases hk:k<ts.length
 ·rw[KL (by simpa using hk),Kz]at h
  cases z:ts[k]? with
  | none=>rw[z]at h;cases h
  | some u=>
   rw[z]at h;cases h;obtain⟨w,e1,e2⟩:=r.get z;exact⟨w,by rw[KL (by rw[<-r.length];exact hk)];exact e1,e2⟩
 ·rw[Lo (by simpa using hk)]at h
  cases z:k - (ts.map Sl.va).length <;> rw[z]at h <;> cases h
theorem GK (i:Nat){j:Nat}(F:Dw X.prog X.w X.K X.mg X.base k f fd ps n j g)(hr:Room k X.A)(hm:X.mg y=some (.ref f))(hk:LW X.K (.ref f)=true)(hb:Binds X.K fd ps [])(hps:ps.length=n)(hjn:j+1=n)(hl:∀Z ts,fs Z= .ok ts->ts.length=j)(ha:PA X (e::es) (GP X i fs))
  (hg:autoParam (Gl X y) aqd._auto_1) (hdb:autoParam ((y == ("__debug__" : Str))=false) aqb._auto_1) (he:autoParam (Kn (e::es) X.env=(false,eval e X.env)::Kn es X.env) aqd._auto_1) (hpl:autoParam ((backTo pos (Kn es X.env)).any (·.1)=false) aqd._auto_1) :
  uu X (.Call (.Name y p) (e::es) [] pos) (mP i g fs):=by
 intro pins s σ H Q I ⟨Z,B,M,E,h⟩;unfold mP at h
 split at h
 ·rename_i o hi
  obtain⟨v0,s0,r0⟩:=E.env.own i _ hi;refine Lf (gB I hg hm ?_ hdb)
  refine Ms (h₀:=X.base) I.ok.mod.kin hk (bN (ha pos pins s σ H (λws H2=> ∃ts vs,ws=vs++ [v0]/\fs Z= .ok ts/\Same H H2/\Reps X.K (OO B M) H2 ts vs) I ⟨Z,B,M,v0,E,s0,?_⟩) λus s2 ⟨ws,H2,I2,r,ts,vs,e1,q1,sm,rs⟩=>⟨I2.kIn,?_⟩) he hpl
  ·cases z:fs Z with
   | bad=>rw[z]at h;exact h.elim
   | err c=>rw[z]at h;exact h
   | ok ts=>exact λH' s' vs rs=>⟨ts,vs,rfl,rfl,s',rs⟩
  ·subst e1
   rw[q1,az]at h
   have E2:=E.same sm
   have hj:=hl Z ts q1
   have hlen:=rs.length;subst hj;refine za (v:=v0) F hr hb hps I2 r (E2.args (o:=o) hi s0 (by simp[hlen]) (by simp) (by rw[hlen];simp) (λk o' z=>FN z) λk t z=>FL rs z) (by simpa using hjn) (by rw[hlen];simp) (uR (H0:=H) (P0:=jX) E2 hi s0 (h.later sm))
 ·exact h.elim
end
section
variable {X:Cx}{a b e c:Expr}{es:List Expr}{fb:En->Rs T}{x y:En->Rs (T×En)}{fs:En->Rs (List T)}{pos p2 p3 apos cpos:Pos}{bA:List Expr}
theorem yP {B:Ow}{M:Mn}{Z:En}{σ:L2.St}{H:Hp}(E:Ev X.K B M H Z σ)(he:∀c,x Z= .err c->XA X jX H c)(hb:x Z≠ .bad) :
  tX X x σ H λv H1=> ∃p M1,x Z= .ok p/\SameO M.u H H1/\Ev X.K B M1 H1 p.2 σ/\(∀a,M1.u a->M.u a\/Nw X.K H a)/\Rep X.K (OO B M1) H1 p.1 v:=by
 refine⟨Z,B,M,E,?_⟩
 cases z:x Z with
 | bad=>exact(hb z).elim
 | err c=>exact he c z
 | ok p=>exact λv H' M' s e o r=>⟨p,M',rfl,s,e,o,r⟩
def PostXB (X:Cx)(B P:Ow)(σ:L2.St)(H:Hp)(r:Rs (Bool×En))(Q:Bool->Hp->Prop):Prop:=match r with
 | .ok p=> ∀H' M',SameO P H H'->Ev X.K B M' H' p.2 σ->(∀a,M'.u a->P a\/Nw X.K H a)->Q p.1 H'
 | .err c=>XA X jX H c
 | .bad=>False
def tXB (X:Cx)(f:En->Rs (Bool×En)):TT:=λσ H Q=> ∃Z B M,Ev X.K B M H Z σ/\PostXB X B M.u σ H (f Z) Q
abbrev D1 (X:Cx)(e:Expr)(f:En->Rs (Bool×En)):Prop:=PT X e (tXB X f)
theorem BI {f:En->Rs Bool}(h:uo X a f):D1 X a (BK f):=PT.imp h λσ H Q hh_=>by
 obtain⟨Z,B,M,E,q⟩:=hh_;refine⟨Z,OO B M,E.o,?_⟩
 unfold BK at q
 cases z:f Z with
 | bad=>rw[z]at q;exact q
 | err c=>rw[z]at q;exact q
 | ok t=>
  rw[z,az]at q;exact λH' s=>q H' M (SameO.of s) (E.same s) λ_ w=> .inl w
theorem yO {op:Qy}{g:T->T->Rs T}{pins:List (Addr×Obj)}{s1:J9}{B:Ow}{M:Mn}{σ:L2.St}{H H1:Hp}{p:T×En}{M1:Mn}{v:J7}{vx:V}{Q:VK}(ho:OpT X (K2 op) g)(hb:b6 X b fb)(I1:Inv X pins σ H1 s1)(r1:RelV vx v)(sm:SameO M.u H H1)(E1:Ev X.K B M1 H1 p.2 σ)
  (gr:∀a,M1.u a->M.u a\/Nw X.K H a) (rt:Rep X.K (OO B M1) H1 p.1 vx) (h:PostX X B M.u σ H (nJ (fb p.2 >>= g p.1) >>= λt=> .ok (t,p.2)) Q) :
  wpAny (model X.prog X.w) X.A (eval b X.env) (λu s2=>wpAny (model X.prog X.w) X.A (K2 op v u) (EP X pins σ Q) X.xe s2) X.xe s1:=by
 cases z:fb p.2 with
 | bad=>rw[z]at h;exact h.elim
 | err c=>rw[z]at h;exact h.elim
 | ok t2=>
  rw[z,az]at h;refine bN (hb pins s1 σ H1 (λu H2=>Same H1 H2/\Rep X.K (OO B M1) H2 t2 u) I1 ⟨p.2,OO B M1,E1.o,by rw[z];exact λH' s u r=>⟨s,r⟩⟩) λu s2 hh_=> ?_
  obtain⟨y,H2,I2,r2,s',rt2⟩:=hh_;refine ho pins s2 σ H2 (OO B M1) p.1 t2 vx y v u Q I2 (λp=>(E1.same s').o.fresh) (rt.same s') rt2 r1 r2 ?_
  cases z2:g p.1 t2 with
  | bad=>rw[z2]at h;exact h.elim
  | err c=>rw[z2]at h;exact h.elim
  | ok t3=>
   rw[z2]at h;exact λH' s3 v r=>h v H' M1 (λb o e nb=>s3 _ _ (s' _ _ (sm b o e nb))) ((E1.same s').same s3) gr r
theorem Eh {op:Qy}{g:T->T->Rs T}(ho:OpT X (K2 op) g)(ha:uu X a x)(hb:b6 X b fb)(hm:autoParam (Mo op b=false) aqd._auto_1):D1 X (.Compare a [op] [b] pos) (yE (DB g x fb)):=by
 intro pins s σ H Q I ⟨Z,B,M,E,h⟩
 have h':PostX X B M.u σ H (DB g x fb Z) λv H'=> ∃k,v= .bl k/\Q k H':=by
  unfold yE at h
  cases z:DB g x fb Z with
  | bad=>rw[z]at h;exact h
  | err c=>rw[z]at h;exact h
  | ok p=>
   rw[z,az]at h;obtain⟨t,Z'⟩:=p
   cases t with
   | bl k=>exact λv H' M' s e o r=>⟨k,Rep.FM.mp r,h H' M' s e o⟩
   | _=>exact h.elim
 unfold DB at h';refine Ni (bN (ha pins s σ H _ I (yP E (λc z=>by rw[z]at h';exact h') (λz=>by rw[z]at h';exact h'))) λv s1 ⟨vx,H1,I1,r1,p,M1,hx,sm,E1,gr,rt⟩=> ?_) hm
 rw[hx,az]at h';refine bN (yO ho hb I1 r1 sm E1 gr rt h') λu s2 q2=>bN q2 λd s3 hh_=> ?_
 obtain⟨z,H3,I3,r3,k,ez,q3⟩:=hh_;subst ez;cases r3;exact Le ⟨H3,I3,q3⟩
theorem PostXB.later {B P P1:Ow}{σ:L2.St}{H H1:Hp}{r:Rs (Bool×En)}{Q:Bool->Hp->Prop}(h:PostXB X B P σ H (nJ r) Q)(s:SameO P H H1)(sub:∀a,P1 a->P a\/Nw X.K H a):PostXB X B P1 σ H1 r Q:=by
 cases r with
 | bad=>exact h
 | err c=>exact h.elim
 | ok p=>exact λH' M' s' E' o'=>h H' M' (s.trans s' sub) E' λa z=>(o' a z).elim (sub a) (dk s)
abbrev IQ (X:Cx)(e:Expr)(f:En->Rs (Bool×En)):Prop:=PW X e (tXB X f)
variable {f g:En->Rs (Bool×En)}
theorem Ef (ha:D1 X a f):IQ X (.BoolOp .Or [a] pos) f:=zh ha
theorem GI (ha:D1 X a f)(hb:IQ X (.BoolOp .Or (b::bA) pos) g):IQ X (.BoolOp .Or (a::b::bA) pos) (ql f g):=by
 intro wh pins s σ H Q I ⟨Z,B,M,E,h⟩;refine DF ha hb wh pins s σ H Q I ⟨Z,B,M,E,?_⟩
 unfold ql at h
 cases z:f Z with
 | bad=>rw[z]at h;exact h
 | err c=>rw[z]at h;exact h
 | ok p=>
  rw[z,az]at h;obtain⟨k,Z'⟩:=p;intro H' M' s' E' o'
  cases k with
  | true=>rw[if_pos rfl];exact(show PostXB X B M.u σ H (.ok (true,Z')) Q by simpa using h) H' M' s' E' o'
  | false=>rw[if_neg Kt];exact⟨Z',B,M',E',PostXB.later (by simpa using h) s' o'⟩
theorem xt_w (h:IQ X e f):D1 X e f:=h.pt
theorem EI {A C:List Stmt}{F G:En->Rs Fl}(hc:D1 X c f)(ha:jV X A F)(hb:jV X C G):lE X (.If c A C pos) (qC f F G):=PS.imp (zk hc ha hb) λD σ H hh_=>by
 obtain⟨Z,B,M,E,h⟩:=hh_;refine⟨Z,B,M,E,?_⟩
 unfold qC at h
 cases z:f Z with
 | bad=>rw[z]at h;exact h.elim
 | err c=>rw[z]at h;exact PostF.xa h
 | ok p=>
  rw[z,az]at h;obtain⟨k,Z'⟩:=p;intro H' M' s' E' o'
  cases k with
  | true=>refine L2.iteT ?_;exact⟨Z',B,M',E',PostF.later (by simpa using h) s' o'⟩
  | false=>refine L2.iteF ?_;exact⟨Z',B,M',E',PostF.later (by simpa using h) s' o'⟩
theorem EL (ha:uu X a x)(hs:autoParam (KM a none pos.line X.env=pure false) aqd._auto_1):lE X (.Expr a pos) (m8 x):=PS.imp (km ha hs) λD σ H hh_=>by
 obtain⟨Z,B,M,E,h⟩:=hh_;refine⟨Z,B,M,E,?_⟩
 unfold m8 at h
 cases z:x Z with
 | bad=>rw[z]at h;exact h.elim
 | err c=>rw[z]at h;exact PostF.xa h
 | ok p=>rw[z,az]at h;exact λv H' M' s' E' o' r=>h σ H' M' s' E' o'
theorem EO (i:Nat){n:Str}(hN:X.N.Nodup)(ha:uu X a x)(hi:autoParam (X.N[i]? =some n) aqd._auto_1)(hx:autoParam (Loc X.env.scope n) aqh._auto_1)(hs:autoParam (KM a (some (.Name n p3)) pos.line X.env=pure false) aqd._auto_1)
  (hf:autoParam (X.fn n=true\/X.env.scope.names.lookup n=some .local) aqa._auto_1):lE X (.Assign [.Name n p3] a pos) (xQ i x):=PS.imp (kR hN hi hx ha hs hf) λD σ H hh_=>by
 obtain⟨Z,B,M,E,h⟩:=hh_;refine⟨Z,B,M,E,?_⟩
 unfold xQ at h
 cases z:x Z with
 | bad=>rw[z]at h;exact h.elim
 | err c=>rw[z]at h;exact PostF.xa h
 | ok p=>
  rw[z,az]at h;intro v H' M' s' E' o' r
  by_cases hl:i<p.2.length
  ·rw[if_pos hl]at h
   exact h _ H' M' s' ⟨E'.env.set hl r,E'.mine⟩ o'
  ·rw[if_neg hl]at h;exact h.elim
end
def PostM (X:Cx)(B P:Ow)(j:Nat)(σ:L2.St)(H:Hp)(r:Rs Fx)(D:kL):Prop:=match r with
 | .ok (.nx Z')=> ∀σ' H' M',SameO P H H'->Ev X.K B M' H' Z' σ'->(∀a,M'.u a->P a\/Nw X.K H a)->σ'[j]? =σ[j]?->D.nx σ' H'
 | .ok (.rt t Z')=> ∀v σ' H' M',SameO P H H'->Ev X.K B M' H' Z' σ'->(∀a,M'.u a->P a\/Nw X.K H a)->σ'[j]? =σ[j]?->Rep X.K (OO B M') H' t v->D.rt v H'
 | .err c=>XA X jX H c
 | .bad=>False
def tPM (X:Cx)(j:Nat)(F:En->Rs Fx):TS:=λD σ H=> ∃Z B M,Ev X.K B M H Z σ/\PostM X B M.u j σ H (F Z) D
abbrev Be (X:Cx)(j:Nat)(s:Stmt)(F:En->Rs Fx):Prop:=PS X s (tPM X j F)
abbrev Bf (X:Cx)(j:Nat)(s:List Stmt)(F:En->Rs Fx):Prop:=PSs X s (tPM X j F)
section
variable {X:Cx}{j:Nat}{a c:Expr}{es:List Expr}{x:En->Rs (T×En)}{fs:En->Rs (List T)}{pos p2 p3:Pos}
theorem PostM.later {B P P1:Ow}{σ σ1:L2.St}{H H1:Hp}{r:Rs Fx}{D:kL}(h:PostM X B P j σ H (nJ r) D)(s:SameO P H H1)(sub:∀a,P1 a->P a\/Nw X.K H a)(hj:σ1[j]? =σ[j]?):PostM X B P1 j σ1 H1 r D:=by
 have back:∀a,P1 a\/Nw X.K H1 a->P a\/Nw X.K H a:=λa z=>z.elim (sub a) (dk s)
 cases r with
 | bad=>exact h
 | err c=>exact h.elim
 | ok f=>
  cases f with
  | nx Z'=>exact λσ' H' M' s' E' o' k=>h σ' H' M' (s.trans s' sub) E' (λa z=>back a (o' a z)) (k.trans hj)
  | rt t Z'=>exact λv σ' H' M' s' E' o' k r=>h v σ' H' M' (s.trans s' sub) E' (λa z=>back a (o' a z)) (k.trans hj) r
theorem PostM.same {B P:Ow}{σ:L2.St}{H H1:Hp}{r:Rs Fx}{D:kL}(h:PostM X B P j σ H r D)(s:Same H H1):PostM X B P j σ H1 r D:=by
 cases r with
 | err c=>exact XA.later h (SameO.of s) λ_ z=>z.elim
 | bad=>exact h
 | ok f=>exact PostM.later (r:=.ok f) h (SameO.of s) (λa z=> .inl z) rfl
theorem HP:Bf X j [] mN:=PSs.imp v8 λD σ H ⟨Z,B,M,E,h⟩=>h σ H M (λ_ _ e _=>e) E (λa z=> .inl z) rfl
theorem HN {st:Stmt}{F:En->Rs Fx}(h:Be X j st F):Bf X j [st] F:=qL h
theorem FK {st:Stmt}{bA:List Stmt}{F G:En->Rs Fx}(h1:Be X j st F)(h2:Bf X j bA G):Bf X j (st::bA) (gq F G):=PSs.imp (ng h1 h2) λD σ H hh_=>by
 obtain⟨Z,B,M,E,h⟩:=hh_;refine⟨Z,B,M,E,?_⟩
 unfold gq at h
 cases q:F Z with
 | bad=>rw[q]at h;exact h.elim
 | err c=>rw[q]at h;exact h
 | ok f=>
  rw[q]at h
  cases f with
  | nx Z'=>exact λσ' H' M' s' E' o' k=>⟨Z',B,M',E',PostM.later h s' o' k⟩
  | rt t Z'=>exact h
theorem m_ex (ha:uu X a x)(hs:autoParam (KM a none pos.line X.env=pure false) aqd._auto_1):Be X j (.Expr a pos) (rG x):=PS.imp (km ha hs) λD σ H hh_=>by
 obtain⟨Z,B,M,E,h⟩:=hh_;refine⟨Z,B,M,E,?_⟩
 unfold rG at h
 cases z:x Z with
 | bad=>rw[z]at h;exact h.elim
 | err c=>rw[z]at h;exact h
 | ok p=>rw[z,az]at h;exact λv H' M' s' E' o' r=>h σ H' M' s' E' o' rfl
theorem HM (ha:uu X a x):Be X j (.Return (some a) pos) (jl x):=PS.imp (uQ ha) λD σ H hh_=>by
 obtain⟨Z,B,M,E,h⟩:=hh_;refine⟨Z,B,M,E,?_⟩
 unfold jl at h
 cases z:x Z with
 | bad=>rw[z]at h;exact h.elim
 | err c=>rw[z]at h;exact h
 | ok p=>rw[z,az]at h;exact λv H' M' s' E' o' r=>h v σ H' M' s' E' o' rfl r
theorem m_as (i:Nat){n:Str}(hij:i≠j)(hN:X.N.Nodup)(ha:uu X a x)(hi:autoParam (X.N[i]? =some n) aqd._auto_1)(hx:autoParam (Loc X.env.scope n) aqh._auto_1)(hs:autoParam (KM a (some (.Name n p3)) pos.line X.env=pure false) aqd._auto_1)
  (hf:autoParam (X.fn n=true\/X.env.scope.names.lookup n=some .local) aqa._auto_1):Be X j (.Assign [.Name n p3] a pos) (zQ i x):=PS.imp (kR hN hi hx ha hs hf) λD σ H hh_=>by
 obtain⟨Z,B,M,E,h⟩:=hh_;refine⟨Z,B,M,E,?_⟩
 unfold zQ at h
 cases z:x Z with
 | bad=>rw[z]at h;exact h.elim
 | err c=>rw[z]at h;exact h
 | ok p=>
  rw[z,az]at h;intro v H' M' s' E' o' r
  by_cases hl:i<p.2.length
  ·rw[if_pos hl]at h
   exact h _ H' M' s' ⟨E'.env.set hl r,E'.mine⟩ o' (Kv hij)
  ·rw[if_neg hl]at h;exact h.elim
theorem m_if {f:En->Rs Bool}{A C:List Stmt}{F G:En->Rs Fx}(hc:uo X c f)(ha:Bf X j A F)(hb:Bf X j C G):Be X j (.If c A C pos) (yb f F G):=PS.imp (zk hc ha hb) λD σ H hh_=>by
 obtain⟨Z,B,M,E,h⟩:=hh_;refine⟨Z,OO B M,E.o,?_⟩
 unfold yb at h
 cases q:f Z with
 | bad=>rw[q]at h;exact h.elim
 | err c=>rw[q]at h;exact h
 | ok k=>
  rw[q,az]at h;intro H' s
  have E':Ev X.K B M H' Z σ:=E.same s
  cases k with
  | true=>refine L2.iteT ?_;exact⟨Z,B,M,E',PostM.same (by simpa using h) s⟩
  | false=>refine L2.iteF ?_;exact⟨Z,B,M,E',PostM.same (by simpa using h) s⟩
theorem Ev.blank {K:J5}{B:Ow}{M:Mn}{H:Hp}{Z:En}{σ:L2.St}(E:Ev K B M H Z σ):Ev K (OO B M) noM H (Kx σ.length .em) σ:=
 ⟨⟨by simp,λi t e=>(by rw[K8]at e;split at e <;> cases e),λi o e=>(by rw[K8]at e;split at e <;> cases e),λ_ _ z=>z.elim,λ_ _ _ z=>z.elim,λa z=>E.env.trk a (z.elim id λ⟨_,w⟩=>w.elim)⟩,λa ⟨_,z⟩=>z.elim⟩
theorem HS {st:Stmt}{c:Str}(h:lE X st (xO c)):Be X j st (CT c):=PS.imp h λD σ H hh_=>by
 obtain⟨Z,B,M,E,q⟩:=hh_;refine⟨_,_,_,E.blank,?_⟩
 exact XA.later (P:=jX) q (λ_ _ e _=>e) λ_ ⟨_,z⟩=>z.elim
end
section
variable {K:J5}
theorem kQ {f:Str}{b:Addr}:∀{ns:List Str} {as:List Addr},ns.length=as.length->ns.contains f=true->∃as1 d as2,as=as1++d::as2/\putF f (.ref b) (ns.zip (as.map V.ref))=ns.zip ((as1++b::as2).map V.ref) ∧
  ∀{O:Ow} {H:Hp} {ls:List (List T)} {l:List T} {vs:List V},H b=some (.lst vs)->Reps K O H l vs->LsR K O H ls as->LsR K O H (fY f l ns ls) (as1++b::as2)
 | [],as,_,h=>by cases h
 | n::ns,[],hl,_=>by cases hl
 | n::ns,d::as,hl,h=>by
  by_cases z:n=f
  ·subst z
   refine⟨[],d,as,rfl,?_,λ{O H ls l vs} e1 e2 r=> ?_⟩
   ·show(if n=n then(n,V.ref b)::_ else _)=_
    rw[if_pos rfl];rfl
   ·cases ls with
    | nil=>cases (show d::as= []from r)
    | cons u ls=>
     obtain⟨b',bs,ws,f1,f2,f3,f4⟩:=r;cases f1
     show LsR K O H (if n=n then l::ls else _) _
     rw[if_pos rfl];exact⟨b,as,vs,rfl,e1,e2,f4⟩
  ·have h':ns.contains f=true:=by
    rw[MP,QU]at h;rcases h with h | h
    ·exact absurd (eq_of_beq h).symm z
    ·exact h
   obtain⟨as1,d',as2,g1,g2,g3⟩:=kQ (f:=f) (b:=b) (by simpa using hl) h'
   refine⟨d::as1,d',as2,by rw[g1];rfl,?_,λ{O H ls l vs} e1 e2 r=> ?_⟩
   ·show(if n=f then _ else(n,V.ref d)::putF f (.ref b) (ns.zip (as.map V.ref)))=_
    rw[if_neg z,g2];rfl
   ·cases ls with
    | nil=>cases (show d::as= []from r)
    | cons u ls=>
     obtain⟨b',bs,ws,f1,f2,f3,f4⟩:=r;cases f1
     show LsR K O H (if n=f then _ else u::fY f l ns ls) _
     rw[if_neg z];exact⟨d,_,ws,rfl,f2,f3,g3 e1 e2 f4⟩
theorem qI {f:Str}{b:Addr}:∀{ns:List Str} {as:List Addr},ns.length=as.length->ns.contains f=false->putF f (.ref b) (ns.zip (as.map V.ref))=(ns++ [f]).zip ((as++ [b]).map V.ref)
 | [],[],_,_=>rfl
 | n::ns,[],hl,_=>by cases hl
 | n::ns,d::as,hl,h=>by
  rw[MP,O0]at h
  show(if n=f then _ else(n,V.ref d)::putF f (.ref b) (ns.zip (as.map V.ref)))=_
  rw[if_neg (λz=>by rw[z,beq_self_eq_true]at h;exact Bool.noConfusion h.1),qI (by simpa using hl) h.2];rfl
theorem LsR.app {O:Ow}{H:Hp}{b:Addr}{l:List T}{vs:List V}(e1:H b=some (.lst vs))(e2:Reps K O H l vs):∀{ls:List (List T)} {as:List Addr},LsR K O H ls as->LsR K O H (ls++ [l]) (as++ [b])
 | [],as,r=>by cases (show as= []from r);exact⟨b,[],vs,rfl,e1,e2,rfl⟩
 | u::ls,as,⟨d,ds,ws,f1,f2,f3,f4⟩=>by subst f1;exact⟨d,ds++ [b],ws,rfl,f2,f3,LsR.app e1 e2 f4⟩
end
section
variable {X:Cx}{j:Nat}{es:List Expr}{fs:En->Rs (List T)}{pos p2 p3 p4:Pos}
theorem HR (i:Nat){n c f:Str}(hc:Cls X.K (bj X.K c))(hn:NoAttr X.K (bj X.K c) f)(ha:pv X es fs)(hN:autoParam (X.N[i]? =some n) aqd._auto_1)(hv:autoParam (kK X.env.scope n) aqe._auto_1)
  (hd:autoParam ((n == ("__debug__" : Str))=false) aqb._auto_1) (hcd:autoParam ((n == ("__classdict__" : Str))=false) aqb._auto_1) (hs:autoParam (KM (.List es p4) (some (.Attribute (.Name n p2) f p3)) pos.line X.env=pure false) aqd._auto_1) :
  Be X j (.Assign [.Attribute (.Name n p2) f p3] (.List es p4) pos) (tN i c f fs):=PS.imp (zl (dY hN hv hd hcd) (wc ha) hs) λD σ H hh_=>by
 obtain⟨Z,B,M,E,h⟩:=hh_;unfold tN at h
 split at h
 ·rename_i c' ns ls hi
  refine⟨Z,OO B M,E.o,?_⟩
  cases z:fs Z with
  | bad=>rw[z]at h;exact h.elim
  | err c=>rw[z]at h;exact h
  | ok l=>
   rw[z,az]at h;intro H1 s1 vs rs
   split at h
   ·rename_i hcc
    obtain⟨h1,h2,h3⟩:=hcc;subst h1;refine⟨by rw[<-rs.length];exact h2,λb hb=> ?_⟩
    have E1:=E.same s1;obtain⟨v0,s0,p,dx,as,e1,e2,⟨n1,n2,n3,n4⟩,e4,e5,e6,e7,e8⟩:=E1.env.own i _ hi;subst e1
    have nb:∀{d:Addr} {o:HO},H1 d=some o->d≠b:=λe z=>by rw[z,hb.1]at e;cases e
    have mb:∀a,M i a->a≠b:=λa w=>nb (E1.env.trk a (.inr ⟨i,w⟩)).some.choose_spec
    have pb:p≠b:=nb e4
    have hbas:b∉as:=λw=>mb b ((e2 b).mpr (.inr (.inr w))) rfl
    have sm1:Same H1 (upd H1 b (.lst vs)):=a8 hb.1 _;refine⟨_,s0,p,_,dx,_,rfl,sm1 _ _ e4,hc,hn,by rw[QY,Kc,<-e6];simpa using h3,?_⟩
    have key:∀(ns':List Str) (as':List Addr) (ls':List (List T)),putF f (.ref b) (ns.zip (as.map V.ref))=ns'.zip (as'.map V.ref)->ns'.length=as'.length->ns'.Nodup->as'.Nodup->(∀a,a∈as'->a=b\/a∈as) →
      (∀{O:Ow} {H:Hp},H b=some (.lst vs)->Reps X.K O H l vs->LsR X.K O H ls as->LsR X.K O H ls' as')->PostM X B M.u j σ H (.ok (.nx (Z.set i (.ow (.ob c' ns' ls'))))) D->D.nx σ (upd (upd H1 b (.lst vs)) p (.ins (bj X.K c') dx (putF f (.ref b) (ns.zip (as.map V.ref))))):=λns' as' ls' k1 k2 k3 k4 k5 k6 k7=>by
     rw[k1]
     generalize hm:(λa=>a=p\/a=dx\/a∈as':Ow)=m
     have hsub:∀a,m a->M i a\/Nw X.K H1 a:=λa w=>by
      subst hm;rcases w with w | w | w
      ·exact .inl ((e2 a).mpr (.inl w))
      ·exact .inl ((e2 a).mpr (.inr (.inl w)))
      ·exact(k5 a w).elim (λy=> .inr (y▸hb)) λy=> .inl ((e2 a).mpr (.inr (.inr y)))
     have hO:∀a,OO B (M.set i m) a->OO B M a\/Nw X.K H1 a:=λa w=>w.elim (λy=> .inl (.inl y)) λy=>(Mn.GM y).elim (λq=>(hsub a q).imp_left λt=> .inr ⟨i,t⟩) λq=> .inl (.inr q)
     have sm2:SameO (λa=>a=p) (upd H1 b (.lst vs)) (upd (upd H1 b (.lst vs)) p (.ins (bj X.K c') dx (ns'.zip (as'.map V.ref)))):=λd o e ne=>by rw[aE ne];exact e
     have smi:SameO (M i) H1 (upd (upd H1 b (.lst vs)) p (.ins (bj X.K c') dx (ns'.zip (as'.map V.ref)))):=λd o e ne=>sm2 d o (sm1 _ _ e) λw=>ne ((e2 d).mpr (.inl w))
     have nin:∀a∈as',a≠p:=λa ha w=>(k5 a ha).elim (λy=>pb (w▸y)) λy=>n1 (w▸y)
     have rp:∀{t:List T} {ws:List V},Reps X.K (OO B M) H1 t ws->Reps X.K (OO B (M.set i m)) (upd (upd H1 b (.lst vs)) p (.ins (bj X.K c') dx (ns'.zip (as'.map V.ref)))) t ws:=λr=>r.move (P:=M i) (λa w=> .inl (.inr ⟨i,w⟩)) hO smi
     have smp:SameO (λa=>a=p) H1 (upd (upd H1 b (.lst vs)) p (.ins (bj X.K c') dx (ns'.zip (as'.map V.ref)))):=λd o e ne=>sm2 d o (sm1 _ _ e) ne
     have fin:=k6 (O:=OO B (M.set i m)) (H:=upd (upd H1 b (.lst vs)) p (.ins (bj X.K c') dx (ns'.zip (as'.map V.ref)))) (by rw[aE (Mv pb)];exact aO) (rp rs) (e8.move (P:=λa=>a=p) (λa w=> .inl (.inr ⟨i,(e2 a).mpr (.inl w)⟩)) hO smp λd hd w=>n1 (w▸hd))
     have ndx:dx∉as':=λw=>(k5 dx w).elim (nb e5) n2
     obtain⟨g1,g2,g3⟩:=E1.back (m:=m) (o':=.ob c' ns' ls') hi s0 smi ⟨p,dx,as',rfl,λd=>by subst hm;exact MN,⟨λw=>nin p w rfl,ndx,n3,k4⟩,aO,by rw[aE n3];exact sm1 _ _ e5,k2,k3,fin⟩ hsub
     exact k7 σ _ _ (λd o e ne=>g2 d o (s1 _ _ e) ne) g1 (λa w=>(g3 a w).imp_right (i9 s1)) rfl
    cases hf:ns.contains f with
    | true=>
     rw[hf,if_pos rfl]at h;obtain⟨as1,d,as2,q1,q2,q3⟩:=kQ (K:=X.K) (f:=f) (b:=b) e6 hf;subst q1;refine key ns (as1++b::as2) (fY f l ns ls) q2 (by rw[e6];simp) e7 ?_ (λa w=> ?_) (λa1 a2 a3=>q3 a1 a2 a3) h
     ·rw[K5]at n4 ⊢
      obtain⟨m1,m2,m3⟩:=n4
      have nb1:b∉as1:=λw=>hbas (KD _ w)
      have nb2:b∉as2:=λw=>hbas (Kr _ (J6 _ w))
      refine⟨m1,KJ.mpr ⟨nb2,(KJ.mp m2).2⟩,λu hu w hw=> ?_⟩
      rcases Kf.mp hw with hw | hw
      ·exact λy=>nb1 (by rw[<-hw,<-y];exact hu)
      ·exact m3 u hu w (J6 _ hw)
     ·rcases Ky.mp w with w | w
      ·exact .inr (KD _ w)
      ·rcases Kf.mp w with w | w
       ·exact .inl w
       ·exact .inr (Kr _ (J6 _ w))
    | false=>
     rw[hf,if_neg Kt]at h;refine key (ns++ [f]) (as++ [b]) (ls++ [l]) (qI e6 hf) (by simp[e6]) ?_ ?_ (λa w=> ?_) (λa1 a2 a3=>LsR.app a1 a2 a3) h
     ·rw[K5]
      refine⟨e7,by simp,λu hu w hw y=> ?_⟩
      rw[Km.mp hw]at y
      have:ns.contains f=true:=by rw[OI,<-y];exact hu
      rw[hf]at this;cases this
     ·rw[K5]
      exact⟨n4,by simp,λu hu w hw y=>hbas (by rw[<-Km.mp hw,<-y];exact hu)⟩
     ·rcases Ky.mp w with w | w
      ·exact .inr w
      ·exact .inl (Km.mp w)
   ·exact h.elim
 ·exact h.elim
end
theorem mR {K:J5}{B:Ow}{M:Mn}{H:Hp}{N:List Str}{sls:List Sl}{vs:List V}(E:Ev K B M H sls (vs.map some))(hl:sls.length<=N.length):Ev K B M H (dX N.length sls) (start N vs):=by
 have hlen:sls.length=vs.length:=by rw[E.env.len,Kc]
 have low:∀(i:Nat) (z:Sl),(dX N.length sls)[i]? =some z->z= .em\/(sls[i]? =some z/\(start N vs)[i]? =(vs.map some)[i]?):=λi z e=>by
  unfold dX at e;unfold L2.start
  by_cases hi:i<sls.length
  ·rw[KL hi]at e
   exact .inr ⟨e,KL (by rw[Kc,<-hlen];exact hi)⟩
  ·rw[Lo (by omega),K8]at e
   split at e
   ·cases e;exact .inl rfl
   ·cases e
 refine⟨⟨by unfold dX L2.start;simp;omega,λi t e=> ?_,λi o e=> ?_,E.env.sub,E.env.dis,E.env.trk⟩,E.mine⟩
 ·rcases low i _ e with z | ⟨e1,e2⟩
  ·cases z
  ·rw[e2];exact E.env.val i t e1
 ·rcases low i _ e with z | ⟨e1,e2⟩
  ·cases z
  ·rw[e2];exact E.env.own i o e1
theorem CG {j:Nat}{f:Fx}{p:T×OT}(h:oU j f= .ok p):(∃Z,f= .nx Z/\p.1= .non/\Z[j]? =some (.ow p.2))\/∃Z,f= .rt p.1 Z/\Z[j]? =some (.ow p.2):=by
 cases f with
 | nx Z=>
  unfold oU at h
  dsimp only at h
  split at h
  ·rename_i o e;cases h;exact .inl ⟨Z,rfl,rfl,e⟩
  ·cases h
 | rt t Z=>
  unfold oU at h
  dsimp only at h
  split at h
  ·rename_i o e;cases h;exact .inr ⟨Z,rfl,e⟩
  ·cases h
section
variable {P:KA}{w:K1}{K:J5}{mg:Str->Option J7}{base:Heap}
theorem ID {x qual:Str}{st:Stmt}{f:Addr}{fd:KY}{N ps:List Str}{k n j:Nat}{F:En->Rs Fx}(Fn:L2.Fun K x qual st f fd)(S:ay N ps (ai st))(hn:ps.length=n)
  (hbody:∀(cdv:J7) (A:KP) (outer:List Env) (s:J9) (H:Hp) (E:XK),Room k (A.deeper (envOfC qual (ai st) s.heap.objs.size f cdv)) →
   Bf (fm CX0 P w K mg base N qual (ai st) f cdv A outer s H E).nox j (bu st) F):FnOk P w K mg base CX0 (k+1) f fd ps (spE K n j (fM n j N.length F)):=by
 have hpl:ps.length<=N.length:=by have:=congrArg LQ S.pre;rw[Lh]at this;omega
 refine Fn.ok S (λvs H Q E h=> ?_) (λcdv A outer s H vs Q E hr h=> ?_)
 ·obtain⟨sls,B,m,v,Ea,hl,_⟩:=h
  rw[<-Kc (as:=vs) (f:=some),<-Ea.env.len,hl,hn]
 ·obtain⟨sls,B,m,v,Ea,hl,hv,h⟩:=h
  refine⟨_,hbody cdv A outer s H E hr,dX N.length sls,B,one j m,mR Ea (by omega),?_⟩
  have hjs:(start N vs)[j]? =some (some v):=by
   unfold L2.start;rw[KL (by rw[Kc];exact(Ki.mp hv).1),Kz,hv];rfl
  unfold fM at h;rw[if_pos hl]at h
  have fin:∀{p:T×OT} {Z':En} {σ':L2.St} {H':Hp} {M':Mn} {u:V},(∀u H' m',SameO m H H'->ORep K (BM B m') m' H' p.2 v->(∀a,m' a->m a\/Nw K H a)->Rep K (BM B m') H' p.1 u->Q u H')->Z'[j]? =some (.ow p.2) →
    SameO (one j m).u H H'->Ev K B M' H' Z' σ'->(∀a,M'.u a->(one j m).u a\/Nw K H a)->σ'[j]? =(start N vs)[j]?->Rep K (OO B M') H' p.1 u->Q u H':=λ{p Z' σ' H' M' u} h hj s' E' o' k r=>by
   obtain⟨v',e1,e2⟩:=E'.env.own j _ hj;rw[k,hjs]at e1;cases e1
   have sub:∀a,BM B (M' j) a->OO B M' a:=λa z=>z.imp_right λy=>⟨j,y⟩
   exact h u H' (M' j) (λb o e n=>s' b o e λz=>n (one_u.mp z)) (e2.move (P:=jX) (λ_ z=>z.elim) (λa z=> .inl (sub a z)) (λb u q _=>q) λ_ _ z=>z) (λa z=>(o' a ⟨j,z⟩).imp_left one_u.mp) (r.less sub)
  cases q:F (dX N.length sls)with
  | bad=>rw[q]at h;exact h.elim
  | err c=>rw[q]at h;exact h.elim
  | ok fl=>
   rw[q,az]at h
   cases q2:oU j fl with
   | bad=>rw[q2]at h;exact h.elim
   | err c=>rw[q2]at h;exact h.elim
   | ok p=>
    rw[q2]at h;rcases CG q2 with⟨Z',rfl,e1,e2⟩ | ⟨Z',rfl,e2⟩
    ·exact λσ' H' M' s' E' o' k=>fin h e2 s' E' o' k (by rw[e1];exact Rep.JJ)
    ·exact λu σ' H' M' s' E' o' k r=>fin h e2 s' E' o' k r
theorem w9 {x qual:Str}{st:Stmt}{f:Addr}{fd:KY}{N ps:List Str}{k:Nat}(Fn:L2.Fun K x qual st f fd)(S:ay N ps (ai st)){A:KP}{outer:List Env}{s:J9}{H:Hp}{args:Args}{us:List J7}{vs:List V}{c:Str}{R:Qj->J9->Prop}
  (hr:Room (k+1) A) (e0:Env0 P w K mg base A outer s H) (hb:Oe s fd args (ps.zip us)) (r:Vals vs us) (hlen:vs.length=ps.length) (hR:∀ev s',Jg P w mg outer H s c ev s'->R (.error ev) s')
  (hbody:∀cdv,Room k (A.deeper (envOfC qual (ai st) s.heap.objs.size f cdv))->∀xe,∃t,PSs ((fm CX0 P w K mg base N qual (ai st) f cdv A outer s H E0).FB xe) (bu st) t ∧
   (XA ((fm CX0 P w K mg base N qual (ai st) f cdv A outer s H E0).FB xe) jX H c->t { nx:=λ_ _=>False,rt:=λ_ _=>False,bk:=λ_ _=>False,ct:=λ_ _=>False } (start N vs) H)) :
  codeAny (model P w) A (.call (.ref f) args) R s:=by
 obtain⟨oc,od,kV,doc,pm,an,cdv,ct,osl,rfl,lk,hcd⟩:=Fn.ex
 have KX:K.In s.heap:=e0.mod.kin.keeps λb o e=>(e0.bs b o e).1
 have lim:s.heap.NoLimit:=e0.mod.nolimit.keeps λb o e=>(e0.bs b o e).1
 have hkind:∀y∈ps.zip us,(ai st).names.lookup y.1=some .local\/((ai st).names.lookup y.1=some .cell/\((Me (s.heap.objs.size+1) (ai st).names []).lookup y.1).isSome=true):=λ⟨n,v⟩ hy=>by
  rcases S.par n (MM hy).1 with q | q
  ·exact .inl q
  ·exact .inr ⟨q,Mq _ _ _ (.inl q)⟩
 refine Nh hr.depth (KX _ _ lk) rfl S.co S.gen rfl (NH KX hcd) (hb _ _ _ _ ?_)
 refine MA S.kind hkind λenv he s1 x=> ?_
 subst he;refine⟨lim.keeps x.toInCall.keep,Qk ?_⟩
 let xe:J7->J9->Prop:=λev s'=>wpAny (model P w) (A.deeper (envOfC qual (ai st) s.heap.objs.size f cdv)) (leaving (envOfC qual (ai st) s.heap.objs.size f cdv) ev) (λ_ s''=>R (.error ev) s'') (λe' s''=>R (.error e') s'') s'
 obtain⟨t,ht,hgo⟩:=hbody cdv (hr.deeper _) xe
 have I:Inv ((fm CX0 P w K mg base N qual (ai st) f cdv A outer s H E0).FB xe) [] (start N vs) H s1:=(lu S hr.hd e0 hlen r x).FB _;refine LV (ht [] s1 (start N vs) H _ I (hgo ?_)) (λfl s' z=> ?_) λe s' hs=>hs
 rotate_left
 ·cases fl with
  | next=>obtain⟨_,_,_,z⟩:=z;exact z.elim
  | cont=>obtain⟨_,_,_,z⟩:=z;exact z.elim
  | brk=>obtain⟨_,_,_,z⟩:=z;exact z.elim
  | ret v=>obtain⟨_,_,_,_,_,z⟩:=z;exact z.elim
 intro pins ev s' w'
 show wpAny _ _ _ _ _ _
 obtain⟨e,T,C,σ',H',rfl,hm,I',sm,he,heo,fl,hT,_⟩:=w'
 have heo:=heo rfl
 have hT:∀t,T=some t->H' t=none/\s.heap.get? t=none:=λt z=>⟨(hT t z).1,(hT t z).2 rfl⟩
 refine zU (base:=base) (outer:=outer) (L:=s.heap.objs.size) I'.ok.frames I'.stack rfl fl λh' T' g=>hR _ _ ?_
 have hex:((fm CX0 P w K mg base N qual (ai st) f cdv A outer s H E0).FB xe).ex= []:=rfl
 have Tn:H' T'=none/\s.heap.get? T'=none:=by
  rcases g.new with z | z
  ·exact hT T' z
  ·exact⟨kx I' z,fW I' hex z⟩
 have out:∀b o,s.heap.get? b=some o->b≠s.heap.objs.size:=λb o q z=>by
  have:=Kl q;rw[z]at this;exact absurd this (KI _)
 have mem:∀b,b∈oj ((envOfC qual (ai st) s.heap.objs.size f cdv)::outer)->b=s.heap.objs.size\/b∈oj outer:=λb z=>by
  have z':b∈s.heap.objs.size::oj outer:=z;exact Kf.mp z'
 have ne:∀b o,s.heap.get? b=some o->b≠e/\T≠some b:=λb o q=>⟨λz=>(by subst z;rw[show s.heap.get? b=none from heo]at q;cases q),λz=>(by rw[show s.heap.get? b=none from(hT b z).2]at q;cases q)⟩
 have keepH:∀b u,H' b≠none->s'.heap.get? b=some u->h'.get? b=some u:=λb u hb q=>by
  refine g.keep b u (λz=>hb (I'.Jr b z)) (λz=>hb (by rw[z];exact he)) (λz=>hb (hT b z).1) q
 refine⟨e,T',C,H',rfl,hm,I'.os,I'.bare,⟨λb o q n hb hx=> ?_,λb o q n hb hx=> ?_,λb o q n hx=>I'.base.free b o q n hx,λb o q hx=> ?_,I'.base.tups,I'.base.frzs,I'.base.tbls⟩,λa o q=> ?_,λb o q=>sm b o q λz=>z,he,heo,g.flt,Tn.1,Tn.2⟩
 ·exact g.keep b o (λz=>(mem b z).elim (out b o q) hb) (ne b o q).1 (ne b o q).2 (I'.base.keep b o q n hb hx)
 ·obtain⟨sl,q1⟩:=I'.base.slot b o q n hb hx
  obtain⟨sl',q2⟩:=g.slot b _ (J6 _ hb) q1;exact⟨sl',q2⟩
 ·obtain⟨o',q1⟩:=I'.base.there b o q hx
  by_cases z:b∈oj ((envOfC qual (ai st) s.heap.objs.size f cdv)::outer)
  ·obtain⟨sl,q2⟩:=g.slot b o' z q1
   exact⟨_,q2⟩
  ·exact⟨o',g.keep b o' z (ne b o q).1 (ne b o q).2 q1⟩
 ·refine(I'.hok a o q).Jt (λb u hb z=>keepH b u ?_ z) (λ_ z=>z) λ_ _ z=>z
  rcases hb with rfl | hb
  ·rw[q];simp
  ·rw[hb];simp
theorem yT {n j m:Nat}{F:En->Rs Fx}{sls:List Sl}{c:Str}(h:fM n j m F sls= .err c):F (dX m sls)= .err c:=by
 unfold fM at h
 split at h
 ·cases z:F (dX m sls)with
  | bad=>rw[z]at h;cases h
  | err c'=>rw[z]at h;cases h;rfl
  | ok f=>
   rw[z,az]at h;cases f <;> unfold oU at h <;> dsimp only at h <;> split at h <;> cases h
 ·cases h
theorem Ay {x qual:Str}{st:Stmt}{f:Addr}{fd:KY}{N ps:List Str}{k n j:Nat}{F:En->Rs Fx}(Fn:L2.Fun K x qual st f fd)(S:ay N ps (ai st))(hn:ps.length=n)
  (hbody:∀(cdv:J7) (A:KP) (outer:List Env) (s:J9) (H:Hp) (E:XK),Room k (A.deeper (envOfC qual (ai st) s.heap.objs.size f cdv)) →
   ∀xe,Bf ((fm CX0 P w K mg base N qual (ai st) f cdv A outer s H E).FB xe) j (bu st) F):Dw P w K mg base (k+1) f fd ps n j (fM n j N.length F):=
 ⟨ID Fn S hn λcdv A outer s H E hr=>hbody cdv A outer s H E hr _,λA outer s H args us vs B m sls c R hr e0 hb r Ea hl hg hR=>by
  have hpl:ps.length<=N.length:=by have:=congrArg LQ S.pre;rw[Lh]at this;omega
  refine w9 Fn S hr e0 hb r ?_ hR λcdv hr' xe=>⟨_,hbody cdv A outer s H E0 hr' xe,λxa=>⟨dX N.length sls,B,one j m,mR Ea (by omega),?_⟩⟩
  ·rw[<-Kc (as:=vs) (f:=some),<-Ea.env.len,hl,hn]
  ·rw[yT hg];exact xa⟩
end
section
variable {X:Cx}{pins:List (Addr×Obj)}{σ:L2.St}{H:Hp}{s:J9}{Q:VK}{us:List J7}{vs:List V}{ts:List T}{B O:Ow}{k n:Nat}{f:Addr}{fd:KY}{ps:List Str}{g:List Sl->Rs (T×OT)}{c:Str}
theorem xR (M:Mk X.K (bj X.K c) f)(F:Dw X.prog X.w X.K X.mg X.base k f fd ps n 0 g)(hr:Room (k+1) X.A)(hb:Binds X.K fd ps [])(hn:ts.length+1=n)(hps:ps.length=n)(I:Inv X pins σ H s)(r:Vals vs us)(rs:Reps X.K O H ts vs)(mt:∀a,O a->Mtb H a){o:OT}
  (hg:g (.ow (.ob c [] [])::ts.map Sl.va)= .ok (.non,o)) (h:∀p H' m,Same H H'->ORep X.K (BM O m) m H' o (.ref p)->(∀a,m a->Nw X.K H a)->Q (.ref p) H'):wpAny (model X.prog X.w) X.A (call (.ref (bj X.K c)) us) (EP X pins σ Q) X.xe s:=by
 have nk:∀q,s.heap.objs.size<=q->X.K.lookup q=none:=λq hq=>by
  cases z:X.K.lookup q with
  | none=>rfl
  | some o=>exact absurd (Kl (I.kIn _ o z)) (Nat.not_lt.mpr hq)
 generalize hp:s.heap.objs.size+1=p
 have np:Nw X.K H p:=⟨I.hok.fresh (by omega),nk p (by omega)⟩
 generalize hd:s.heap.objs.size=dx at hp
 have nd:Nw X.K H dx:=⟨I.hok.fresh (by omega),nk dx (by omega)⟩
 have ne:dx≠p:=by omega
 have sm0:Same H (upd (upd H dx (.own p)) p (.ins (bj X.K c) dx [])):=λb o e=>by
  rw[aE (λz=>by rw[z,np.1]at e;cases e),aE (λz=>by rw[z,nd.1]at e;cases e)];exact e
 have hm:∀a,(λa=>a=p\/a=dx:Ow) a->Nw X.K H a:=λa z=>z.elim (λy=>y▸np) λy=>y▸nd
 have subO:∀a,OO O (one 0 λa=>a=p\/a=dx) a->O a\/Nw X.K H a:=λa z=>(one_oo.mp z).imp_right (hm a)
 have hlen:=rs.length
 have Ea:Ev X.K O (one 0 λa=>a=p\/a=dx) (upd (upd H dx (.own p)) p (.ins (bj X.K c) dx [])) (.ow (.ob c [] [])::ts.map Sl.va) ((V.ref p::vs).map some):=by
  refine⟨⟨by simp[hlen],λi t e=> ?_,λi o' e=> ?_,λi a z=> .inr ⟨i,z⟩,λi k a z1 z2=> ?_,λa z=> ?_⟩,λa z y=> ?_⟩
  ·obtain⟨w,e1,e2⟩:=vn (v0:=V.ref p) rs e
   exact⟨w,by rw[Kz,e1];rfl,(e2.more subO).same sm0⟩
  ·have hi:=vo e
   subst hi;cases e;refine⟨.ref p,rfl,p,dx,[],rfl,λb=> ?_,⟨by simp,by simp,ne,by simp⟩,aO,?_,rfl,by simp,rfl⟩
   ·rw[show one 0 (λa=>a=p\/a=dx) 0=_ from Mn.Jv];simp
   ·rw[aE ne];exact aO
  ·unfold one Mn.set at z1 z2
   by_cases h1:i=0
   ·by_cases h2:k=0
    ·rw[h1,h2]
    ·rw[if_neg h2]at z2;exact z2.elim
   ·rw[if_neg h1]at z1;exact z1.elim
  ·rcases one_oo.mp z with y | y | y
   ·exact(mt a y).same sm0
   ·rw[y];exact .inr (.inr ⟨_,aO,rfl⟩)
   ·rw[y];exact .inr (.inr ⟨_,by rw[aE ne];exact aO,rfl⟩)
  ·obtain⟨o,e⟩:=(mt a y).some
   rw[(hm a (one_u.mp z)).1]at e;cases e
 have hq:spE X.K n 0 g (.ref p::(vs++ [])) (upd (upd H dx (.own p)) p (.ins (bj X.K c) dx [])) (λv H2=>v= .non/\Q (.ref p) H2) E0:=by
  refine⟨_,O,_,.ref p,by rw[KO];exact Ea,by simp[hn],rfl,?_⟩
  rw[hg];intro u H' m' s' ro hm' rt;refine⟨Rep.Jn.mp rt,h p H' m' (λb o e=>s' b o (sm0 _ _ e) λz=> ?_) ro λa z=> ?_⟩
  ·rw[(hm b z).1]at e;cases e
  ·rcases hm' a z with y | y
   ·exact hm a y
   ·exact i9 sm0 y
 have I2:=Inv.made (C:=bj X.K c) I;rw[hd,hp]at I2
 have r2:Vals (V.ref p::(vs++ [])) (KG p::(us++ [])):=.cons rfl (r.append .nil)
 have hl:(KG p::us++ []).length=ps.length:=by rw[KO,Kd,<-r.length,<-hlen,hps,hn]
 refine OW (zP (f:=f) I.kIn M.makes M.init (beq_iff_eq.mp M.fn) ?_)
 rw[hd,hp]
 have hb2:=hb _ (KG p::us) I2.kIn hl;rw[Om]at hb2;refine MJ (F.h.run _ X.stack _ _ ⟨KG p::us,[]⟩ (KG p::(us++ [])) _ _ E0 (hr.make (bj X.K c) us []) (I2.JI.make (bj X.K c) us []) hb2 r2 hq) λr s' hq'=> ?_
 cases r with
 | error e=>exact hq'.elim
 | ok fl=>
  cases fl with
  | ret u=>
   obtain⟨v,H',I3,rv,ev,q3⟩:=I2.after hq';subst ev
   exact⟨rv,⟨V.ref p,H',I3,rfl,q3⟩⟩
  | next=>exact LU hq'
  | brk=>exact LU hq'
  | cont=>exact LU hq'
theorem B5 (i:Nat){e:Expr}{es:List Expr}{fs:En->Rs (List T)}{n0:Str}{p pos spos p3:Pos}(M:Mk X.K (bj X.K c) f)(F:Dw X.prog X.w X.K X.mg X.base k f fd ps n 0 g)(hr:Room (k+1) X.A)(hm:X.mg c=some (.ref (bj X.K c)))(hb:Binds X.K fd ps [])(hps:ps.length=n)
  (hl:∀Z ts,fs Z= .ok ts->ts.length+1=n) (hN:X.N.Nodup) (ha:pv X (e::es) fs) (hi:autoParam (X.N[i]? =some n0) aqd._auto_1) (hx:autoParam (Loc X.env.scope n0) aqh._auto_1)
  (hs:autoParam (KM (.Call (.Name c p) (e::es) [] pos) (some (.Name n0 p3)) spos.line X.env=pure false) aqd._auto_1) (hf:autoParam (X.fn n0=true\/X.env.scope.names.lookup n0=some .local) aqa._auto_1)
  (hg:autoParam (Gl X c) aqd._auto_1) (hdb:autoParam ((c == ("__debug__" : Str))=false) aqb._auto_1) (he:autoParam (Kn (e::es) X.env=(false,eval e X.env)::Kn es X.env) aqd._auto_1) (hpl:autoParam ((backTo pos (Kn es X.env)).any (·.1)=false) aqd._auto_1) :
  lE X (.Assign [.Name n0 p3] (.Call (.Name c p) (e::es) [] pos) spos) (m5 i c g fs):=by
 let te:TE:=λσ H Q=> ∃Z B M',Ev X.K B M' H Z σ/\(∀c,fs Z= .err c->XA X jX H c)/\fs Z≠ .bad/\(∀ts,fs Z= .ok ts->∃o,g (.ow (.ob c [] [])::ts.map Sl.va)= .ok (.non,o)/\∀q H1 H' m,Same H H1->Same H1 H'->ORep X.K (BM (OO B M') m) m H' o (.ref q)->(∀a,m a->Nw X.K H1 a)->Q (.ref q) H')
 have pe:PE X (.Call (.Name c p) (e::es) [] pos) te:=by
  intro pins s σ H Q I ⟨Z,B,M',E,h1,h2,h3⟩;refine Lf (gB I hg hm ?_ hdb)
  refine Ms (h₀:=X.base) I.ok.mod.kin M.kp (bN (ha pos pins s σ H (λvs H2=> ∃ts,fs Z= .ok ts/\Same H H2/\Reps X.K (OO B M') H2 ts vs) I ⟨Z,OO B M',E.o,?_⟩) λus s1 ⟨vs,H1,I1,r,ts,q1,sm,rs⟩=>⟨I1.kIn,?_⟩) he hpl
  ·cases z:fs Z with
   | bad=>exact(h2 z).elim
   | err c=>exact h1 c z
   | ok ts=>exact λH' s' vs rs=>⟨ts,rfl,s',rs⟩
  ·obtain⟨o,hgo,hq⟩:=h3 ts q1
   exact xR M F hr hb (hl Z ts q1) hps I1 r rs (E.same sm).env.trk hgo λq H' m s' ro hm'=>hq q H1 H' m sm s' ro hm'
 refine PS.imp (kR hN hi hx pe hs hf) λD σ H ⟨Z,B,M',E,h⟩=> ?_
 unfold m5 at h;refine⟨Z,B,M',E,λc z=> ?_,λz=> ?_,λts z=> ?_⟩
 ·rw[z]at h;exact PostF.xa h
 ·rw[z]at h;exact h
 ·rw[z,az]at h
  cases z2:g (.ow (.ob c [] [])::ts.map Sl.va)with
  | bad=>rw[z2]at h;exact h.elim
  | err c=>rw[z2]at h;exact h.elim
  | ok q=>
   rw[z2]at h
   replace h:PostF X B M'.u H (match q.1 with
    | .non=>if i<Z.length then .ok (.nx (Z.set i (.ow q.2)))else .bad
    | _=> .bad) D:=h
   obtain⟨t,o⟩:=q
   cases t with
   | non=>
    dsimp only at h
    refine⟨o,rfl,λq H1 H' m s1 s' ro hm'=> ?_⟩
    by_cases hl:i<Z.length
    ·rw[if_pos hl]at h
     obtain⟨E2,sub⟩:=(E.same s1).new (m:=m) (o:=o) (v:=.ref q) hl hm' s' (ro.move (P:=jX) (λ_ z=>z.elim) (λa z=> .inl (z.elim (λw=> .inl (.inl w)) λw=>(Mn.GM w).elim .inr λy=> .inl (.inr y))) (λb u q _=>q) λ_ _ z=>z)
     exact h _ _ _ (SameO.of (s1.trans s')) E2 λa z=>(sub a z).imp_right (i9 s1)
    ·rw[if_neg hl]at h;exact h.elim
   | _=>exact h.elim
end
section
variable {X:Cx}{j:Nat}
def Bc (X:Cx)(suite:List Stmt)(CE:Addr)(h:Str->Rs T):Prop:=
 ∀(c:Str) (C:Addr) (t:T),X.mg c=some (.ref C)->h c= .ok t->∃bm,OX X.K C bm/\(KG C::bm).contains (.ref CE)=true/\∀(e:Addr) (oe:Obj),jV (DU X e oe) suite (aK (cn t))
theorem FJ {body suite:List Stmt}{b0:Stmt}{F:En->Rs Fx}{h:Str->Rs T}{ce:Str}{CE:Addr}{bmE:List J7}{np hpos pos:Pos}(hst:X.stack=X.env::X.outer)(hfe:X.env.frame=some X.env.locals)(hcl:∀x c,X.env.cells.lookup x≠some c)(hex:X.ex= [])
  (hm:X.mg ce=some (.ref CE)) (OE:OX X.K CE bmE)
  (hb:∀pn xe,Bf { X with pn:=pn,xe:=xe } j body F) (hs:Bc X (b0::suite) CE h) (hg:autoParam (Gl X ce) aqd._auto_1) (hd:autoParam ((ce == ("__debug__" : Str))=false) aqb._auto_1) :
  Be X j (.Try body [.ExceptHandler (some (.Name ce np)) none (b0::suite) hpos] [] [] pos) (nV F h):=by
 intro pins s σ H D I ⟨Z,B,M,E,hq⟩;refine wpAny_Try_except ?_
 unfold nV at hq
 cases q:F Z with
 | bad=>rw[q]at hq;exact hq.elim
 | ok fl=>
  rw[q]at hq;refine LV (hb X.pn (λ_ _=>False) pins s σ H D (I.FB _) ⟨Z,B,M,E,by rw[q];cases fl <;> exact hq⟩) (λf s1 r=> ?_) (λe s1 z=>z.elim)
  cases f with
  | next=>obtain⟨σ7,H7,I7,q7⟩:=r;exact MR ⟨σ7,H7,I7.FB _,q7⟩
  | ret u=>obtain⟨x7,σ7,H7,I7,r7,q7⟩:=r;exact⟨x7,σ7,H7,I7.FB _,r7,q7⟩
  | brk=>obtain⟨σ7,H7,I7,q7⟩:=r;exact⟨σ7,H7,I7.FB _,q7⟩
  | cont=>obtain⟨σ7,H7,I7,q7⟩:=r;exact⟨σ7,H7,I7.FB _,q7⟩
 | err c=>
  rw[q]at hq
  cases q2:h c with
  | bad=>simp only[q2]at hq;exact hq.elim
  | err c'=>simp only[q2]at hq;exact hq.elim
  | ok t=>
   simp only[q2]at hq
   have hq':∀v H',Same H H'->Rep X.K (OO B M) H' t v->D.rt v H':=λv H' s' r=>hq v σ H' M (SameO.of s') (E.same s') (λa z=> .inl z) rfl r
   refine LV (hb (X.pn++pins) _ [] s σ H { nx:=λ_ _=>False,rt:=λ_ _=>False,bk:=λ_ _=>False,ct:=λ_ _=>False } ((Tr.Inv.JZ pins I).FB _) ⟨Z,B,M,E,?_⟩) (λfl s' z=> ?_) λ_ _ z=>z
   rotate_left
   ·cases fl with
    | next=>obtain⟨_,_,_,z⟩:=z;exact z.elim
    | cont=>obtain⟨_,_,_,z⟩:=z;exact z.elim
    | brk=>obtain⟨_,_,_,z⟩:=z;exact z.elim
    | ret v=>obtain⟨_,_,_,_,_,z⟩:=z;exact z.elim
   rw[q];intro pins1 ev s1 w;obtain⟨e,T,C,σ1,H1,rfl,hmc,I1,smn,he,heo,fl,hT,hpp⟩:=w
   have sm:Same H H1:=λb o z=>smn b o z λy=>y
   have I1:Inv X pins σ1 H1 s1:=Tr.Inv.JQ (X:=X) I1
   have hpp:∀p∈X.pn++pins,p.1≠e/\T≠some p.1:=λp hp=>hpp p (KD _ hp)
   have heo:=heo hex
   have hT:∀t,T=some t->H1 t=none/\X.s₀.heap.get? t=none:=λt z=>⟨(hT t z).1,(hT t z).2 hex⟩
   show wpAny _ _ _ _ _ _
   have hfr:X.A.frames=some (X.env::X.outer):=by rw[<-hst];exact I1.ok.frames
   have hstk:s1.heap.FunFrames X.base (X.env::X.outer):=by rw[<-hst];exact I1.stack
   refine HI hfr hstk hfe fl λh' T' g=> ?_
   have I2:=Inv.gone I1 hst hfe hcl hex g he heo hT hpp
   have Tn:H1 T'=none/\X.s₀.heap.get? T'=none/\∀p∈X.pn++pins,p.1≠T':=by
    rcases g.new with z | z
    ·exact⟨(hT T' z).1,(hT T' z).2,λp hp y=>(hpp p hp).2 (by rw[z,y])⟩
    ·exact⟨kx I1 z,fW I1 hex z,λp hp y=>by have:=(I1.pin p hp).1;rw[y,z]at this;cases this⟩
   obtain⟨bm,OC,hin,run⟩:=hs c C t hmc q2;obtain⟨hTe,oe,ev,hoe,hoc,hod,h1,oT,ts,hoT,hdT,h3⟩:=g.flt
   have nfr:∀b o vs,h'.get? b=some o->o.data= .fields vs->b∉(X.env::X.outer).filterMap (·.frame):=λb o vs hb hd z=>by
    have:=I2.stack;rw[hst]at this;obtain⟨_,o',ho',hnf⟩:=this.mem z;rw[show h'.get? b=some o' from ho']at hb
    cases hb;exact hnf vs hd
   have hel:e≠X.env.locals:=λz=>nfr e oe ev hoe hod (by rw[Ls,hfe];exact z▸Ke)
   have hef:e∉X.fs:=λz=>nfr e oe ev hoe hod (by rw[Ls,hfe];exact J6 _ z)
   have hcell:∀v,oe.data≠ .cell v:=λv z=>by rw[hod]at z;cases z
   have I3:Inv (DU X e oe) pins σ1 H1 { s1 with heap:=h' }:=wY I2 hoe he hel hef hcell
   refine wpAny_handleBy_cons (codeAny_handlers_test (gB (X:=DU X e oe) I3 hg hm ?_ hd)) (by intro z;cases z)
   obtain⟨nm,qq,N,bs,hdct,sn,sub,ab,col,dd,k0,k1,k2,k3,k5,mN,hC,_⟩:=OC.at_ h' I3.kIn;obtain⟨nm',qq',N',bs',hdct',sn',sub',ab',col',dd',k0',k1',k2',k3',k5',mN',hD,_,_,TD⟩:=OE.at_ h' I3.kIn;refine ya hC hD hoe hoc (TD.tail.hasType (by decide)) hin (codeAny_handlers_suite ?_)
   refine wpAny_setFlight_none hoe hod h1 hoT hdT (Lp.mp h3).1 ?_
   generalize hU:h'.update T' (Pr (·.setIfInBounds 3 KR))=h2
   have kp:∀b,b≠T'->h2.get? b=h'.get? b:=λb hb=>by rw[<-hU];exact MX _ _ (Mv hb)
   have hT2:h2.get? T'=some (Pr (·.setIfInBounds 3 KR) oT):=by rw[<-hU];exact Oz _ hoT (OA (MO hdT _))
   have hoe2:h2.get? e=some oe:=(kp e (Mv hTe)).trans hoe
   have g2:Dv ((X.env::X.outer).filterMap (·.frame)) C e (some T') h' h2 T':=⟨⟨hTe,oe,ev,hoe2,hoc,hod,h1,_,_,hT2,MO hdT _,by simp[(Lp.mp h3).1]⟩,.inl rfl,λb o _ _ n3 q=>(kp b λz=>n3 (by rw[z])).trans q,λb o m q=>⟨o.slots,(kp b λz=>nfr T' oT ts hoT hdT (z▸m)).trans q⟩⟩
   have I4:Inv X pins σ1 H1 { s1 with heap:=h2 }:=Inv.gone (s:={ s1 with heap:=h' }) I2 hst hfe hcl hex g2 he heo (λt z=>by cases z;exact⟨Tn.1,Tn.2.1⟩) λp hp=>⟨(hpp p hp).1,λz=>Tn.2.2 p hp (KS z).symm⟩
   have I5:Inv (DU X e oe) pins σ1 H1 { s1 with heap:=h2 }:=wY I4 hoe2 he hel hef hcell
   have Eb:=(E.same sm).blank;obtain⟨Zb,hρb⟩:∃Zb:En,Zb=Kx σ1.length Sl.em:=⟨_,rfl⟩
   have E1:Ev X.K (OO B M) noM H1 Zb σ1:=by
    subst hρb;exact⟨⟨by simp,λi t e=>(by rw[K8]at e;split at e <;> cases e),λi o e=>(by rw[K8]at e;split at e <;> cases e),λ_ _ z=>z.elim,λ_ _ _ z=>z.elim,Eb.env.trk⟩,λa ⟨_,z⟩=>z.elim⟩
   refine LV (run e oe pins _ σ1 H1 { nx:=λ_ _=>False,rt:=λv H'=>Same H1 H'/\Rep X.K (OO B M) H' t v } I5 ⟨Zb,OO B M,noM,E1,λv H' s' r=>⟨λb o z=>s' b o z λ⟨_,y⟩=>y,r⟩⟩) (λf s4 r=> ?_) λ_ _ z=>z.elim
   cases f with
   | next=>obtain⟨_,_,_,z⟩:=r;exact z.elim
   | brk=>obtain⟨_,_,_,z⟩:=r;exact z.elim
   | cont=>obtain⟨_,_,_,z⟩:=r;exact z.elim
   | ret u=>
    obtain⟨v,σ',H',I7,rv,s',rt⟩:=r;exact⟨v,_,H',C2 I.ok I7,rv,hq' v H' (λb o y=>s' b o (sm b o y)) rt⟩
end
structure QE (X:Cx)(e:Expr)(f:En->Rs T):Prop where
 h:b6 X e f
structure QA (X:Cx)(e:List Expr)(f:En->Rs (List T)):Prop where
 h:pv X e f
structure QT (X:Cx)(e:Expr)(f:En->Rs Bool):Prop where
 h:uo X e f
structure QW (X:Cx)(e:Expr)(f:En->Rs Bool):Prop where
 h:D2 X e f
structure QS (X:Cx)(e:Stmt)(f:En->Rs Fl):Prop where
 h:lE X e f
structure vI (X:Cx)(e:List Stmt)(f:En->Rs Fl):Prop where
 h:jV X e f
structure QG (X:Cx)(e:Expr)(f:T->En->Rs En):Prop where
 h:D5 X e f
structure Jj (X:Cx)(e:List Expr)(f:List T->En->Rs En):Prop where
 h:Bh X e f
structure QI (X:Cx)(t e:Expr)(f:En->Rs (List T)):Prop where
 h:Bg X t e f
structure QO (X:Cx)(e:Option Expr)(f:En->Rs (Option Int)):Prop where
 h:IS X e f
structure QIf (X:Cx)(e:List Expr)(f:En->Rs Bool):Prop where
 h:Bw X e (Bp X f)
theorem af {X:Cx}(i:Nat){x:Str}{pos:Pos}(hN:autoParam ((Cx.N X)[i]? =some x) aqd._auto_1)(hv:autoParam (kK (Mx (Cx.env X)) x) aqe._auto_1)(hd:autoParam ((x == Kk "__debug__")=false) aqb._auto_1)(hcd:autoParam ((x == Kk "__classdict__")=false) aqb._auto_1):QE X (K0 x pos) (vr i):=
 ⟨Hf (i:=i) (hN:=hN) (hv:=hv) (hd:=hd) (hcd:=hcd)⟩
theorem ak {X:Cx}{i:Int}{j:Nat}{pos:Pos}:QE X (N9 (Const.int i) j pos) (cn (T.int i)):=
 ⟨Ho ⟩
theorem jn {X:Cx}{i:Bool}{j:Nat}{pos:Pos}:QE X (N9 (Const.bool i) j pos) (cn (T.bl i)):=
 ⟨q_bl ⟩
theorem c9 {X:Cx}{j:Nat}{pos:Pos}:QE X (N9 Const.none j pos) (cn T.non):=
 ⟨Hk ⟩
theorem uz {X:Cx}{i:Str}{j:Nat}{pos:Pos}:QE X (N9 (Const.str i) j pos) (cn (T.str i)):=
 ⟨Hh ⟩
theorem BE {X:Cx}{x:Str}{i:Int}{u:J7}{pos:Pos}(hm:Cx.mg X x=some u)(r:L2.RelV (V.int i) u)(hg:autoParam (Gl X x) aqd._auto_1)(hd:autoParam ((x == Kk "__debug__")=false) aqb._auto_1):QE X (K0 x pos) (cn (T.int i)):=
 ⟨EX (hm:=hm) (r:=r) (hg:=hg) (hd:=hd)⟩
theorem ag {X:Cx}:QA X [] aj:=
 ⟨EW ⟩
theorem ah {X:Cx}{e:Expr}{es:List Expr}{f:En->Rs T}{g:En->Rs (List T)}(he:QE X e f)(hr:QA X es g)(hn:autoParam (a9 e=true) aqd._auto_1):QA X (e::es) (ae f g):=
 ⟨qa_c (he:=he.h) (hr:=hr.h) (hn:=hn)⟩
theorem bc {X:Cx}{es:List Expr}{x1:Nat}{pos:Pos}{f:En->Rs (List T)}(h:QA X es f):QE X (Expr.Tuple es x1 pos) (ba f):=
 ⟨Hg (h:=h.h)⟩
theorem gw {X:Cx}{es:List Expr}{pos:Pos}{f:En->Rs (List T)}(h:QA X es f):QE X (Expr.List es pos) (fj f):=
 ⟨Hm (h:=h.h)⟩
theorem aw {X:Cx}{a b:Expr}{fa fb:En->Rs T}{pos:Pos}{op:Operator}{g:T->T->Rs T}(ho:OpT X (LG op) g)(ha:QE X a fa)(hb:QE X b fb):QE X (Expr.BinOp a op b pos) (o2 g fa fb):=
 ⟨Ht (ho:=ho) (ha:=ha.h) (hb:=hb.h)⟩
theorem hZ {X:Cx}{a b:Expr}{fa fb:En->Rs T}{pos:Pos}{op:Qy}{g:T->T->Rs T}(ho:OpT X (K2 op) g)(ha:QE X a fa)(hb:QE X b fb)(hm:autoParam (Mo op b=false) aqd._auto_1):QE X (Qg a [op] [b] pos) (o2 g fa fb):=
 ⟨Hs (ho:=ho) (ha:=ha.h) (hb:=hb.h) (hm:=hm)⟩
theorem mO {X:Cx}{a:Expr}{fa:En->Rs T}{pos:Pos}(ha:QE X a fa):QE X (Qh UnaryOp.USub a pos) (o1 mf fa):=
 ⟨Hl (ha:=ha.h)⟩
theorem sj {X:Cx}{a b c:Expr}{fa fb fc:En->Rs T}{pos:Pos}{op op':Qy}{g g':T->T->Rs T}(ho:OpT X (K2 op) g)(ho':OpT X (K2 op') g')(ha:QE X a fa)(hb:QE X b fb)(hc:QE X c fc)(hm:autoParam (lastMarks [op,op'] [b,c] =false) aqf._auto_1):QE X (Qg a [op,op'] [b,c] pos) (ch g g' fa fb fc):=
 ⟨Ck (ho:=ho) (ho':=ho') (ha:=ha.h) (hb:=hb.h) (hc:=hc.h) (hm:=hm)⟩
theorem d8 {X:Cx}{e:Expr}{f:En->Rs T}(h:QE X e f)(he:autoParam (∀(whole:Sem J7),PySem.isTrue e (Cx.env X) whole=(do let v <-whole;standAt (Expr.pos e);holding [v] (truthy v))) aqc._auto_1):QT X e (tb f):=
 ⟨EA (h:=h.h) (he:=he)⟩
theorem b7 {X:Cx}{a b:Expr}{fa fb:En->Rs T}{pos:Pos}{op:Qy}{g:T->T->Rs T}(ho:OpT X (K2 op) g)(ha:QE X a fa)(hb:QE X b fb)(hm:autoParam (Mo op b=false) aqd._auto_1):QT X (Qg a [op] [b] pos) (tb (o2 g fa fb)):=
 ⟨EC (ho:=ho) (ha:=ha.h) (hb:=hb.h) (hm:=hm)⟩
theorem yK {X:Cx}{a:Expr}{pos:Pos}{f:En->Rs Bool}(ha:QT X a f):QW X (L1 OV [a] pos) f:=
 ⟨B2 (ha:=ha.h)⟩
theorem qf {X:Cx}{a:Expr}{pos:Pos}{f:En->Rs Bool}(ha:QT X a f):QW X (L1 Pt [a] pos) f:=
 ⟨Ey (ha:=ha.h)⟩
theorem Bz {X:Cx}{a b:Expr}{pos:Pos}{f g:En->Rs Bool}{bA:List Expr}(ha:QT X a f)(hb:QW X (L1 OV (b::bA) pos) g):QW X (L1 OV (a::b::bA) pos) (r8 f g):=
 ⟨Ez (ha:=ha.h) (hb:=hb.h)⟩
theorem uw {X:Cx}{a b:Expr}{pos:Pos}{f g:En->Rs Bool}{bA:List Expr}(ha:QT X a f)(hb:QW X (L1 Pt (b::bA) pos) g):QW X (L1 Pt (a::b::bA) pos) (qS f g):=
 ⟨G9 (ha:=ha.h) (hb:=hb.h)⟩
theorem vN {X:Cx}{f:En->Rs Bool}{e:Expr}(h:QW X e f):QT X e f:=
 ⟨qt_w (h:=h.h)⟩
theorem fN {X:Cx}{a:Expr}{pos:Pos}{f:En->Rs Bool}(ha:QT X a f):QT X (Qh UnaryOp.Not a pos) (dH f):=
 ⟨EB (ha:=ha.h)⟩
theorem dW {X:Cx}{a:Expr}{fa:En->Rs T}{pos:Pos}{op:BoolOp}(h:QE X a fa):QE X (L1 op [a] pos) fa:=
 ⟨Hi (h:=h.h)⟩
theorem dE {X:Cx}{a b:Expr}{fa fb:En->Rs T}{pos:Pos}{bA:List Expr}(ha:QE X a fa)(hb:QE X (L1 OV (b::bA) pos) fb):QE X (L1 OV (a::b::bA) pos) (cD fa fb):=
 ⟨Hu (ha:=ha.h) (hb:=hb.h)⟩
theorem DA {X:Cx}{a b:Expr}{fa fb:En->Rs T}{pos:Pos}{bA:List Expr}(ha:QE X a fa)(hb:QE X (L1 Pt (b::bA) pos) fb):QE X (L1 Pt (a::b::bA) pos) (Br fa fb):=
 ⟨q_or (ha:=ha.h) (hb:=hb.h)⟩
theorem D8 {X:Cx}{a:Expr}{fa:En->Rs T}{pos:Pos}(ha:QE X a fa):QE X (Qh UnaryOp.Not a pos) (o1 CM fa):=
 ⟨Hj (ha:=ha.h)⟩
theorem GH {X:Cx}{a b c:Expr}{fa fb:En->Rs T}{pos:Pos}{f:En->Rs Bool}(hc:QT X c f)(ha:QE X a fa)(hb:QE X b fb):QE X (Expr.IfExp c a b pos) (GF f fa fb):=
 ⟨q_if (hc:=hc.h) (ha:=ha.h) (hb:=hb.h)⟩
theorem aD {X:Cx}{a b:Expr}{fa fb:En->Rs T}{pos:Pos}(ha:QE X a fa)(hb:QE X b fb)(hs:autoParam (xy b) aqg._auto_1):QE X (M7 a b pos) (o2 aQ fa fb):=
 ⟨q_ix (ha:=ha.h) (hb:=hb.h) (hs:=hs)⟩
theorem hI {X:Cx}:QO X none pN:=
 ⟨Ca ⟩
theorem g9 {X:Cx}{a:Expr}{fa:En->Rs T}(ha:QE X a fa):QO X (some a) (pS fa):=
 ⟨B9 (ha:=ha.h)⟩
theorem hV {X:Cx}{a:Expr}{fa:En->Rs T}{pos:Pos}{lo hi:Option Expr}{p2:Pos}{fl fu:En->Rs (Option Int)}(ha:QE X a fa)(hl:QO X lo fl)(hu:QO X hi fu):QE X (M7 a (Expr.Slice lo hi none p2) pos) (sl fa fl fu):=
 ⟨Ci (ha:=ha.h) (hl:=hl.h) (hu:=hu.h)⟩
theorem cF {X:Cx}{e:Expr}{es:List Expr}{fs:En->Rs (List T)}{pos p:Pos}{x:Str}{id:String}{g:List T->Rs T}(hc:CallT X (Value.builtin id) g)(hm:Cx.mg X x=none)(hv:KQ x=some (Value.builtin id))(ha:QA X (e::es) fs)(hn:autoParam (bq (e::es)=true) aqd._auto_1)(hg:autoParam (Gl X x) aqd._auto_1)(h1:autoParam (x≠Kk "__name__") aqb._auto_1)(h2:autoParam ((x == Kk "__debug__")=false) aqb._auto_1):QE X (Md (K0 x p) (e::es) [] pos) (cl g fs):=
 ⟨q_cB (hc:=hc) (hm:=hm) (hv:=hv) (ha:=ha.h) (hn:=hn) (hg:=hg) (h1:=h1) (h2:=h2)⟩
theorem vR {X:Cx}{e:Expr}{es:List Expr}{fs:En->Rs (List T)}{pos p:Pos}{x:Str}{Ty:String}{g:List T->Rs T}(hc:CallT X (Np Ty) g)(hm:Cx.mg X x=none)(hv:KQ x=some (Np Ty))(ha:QA X (e::es) fs)(hn:autoParam (bq (e::es)=true) aqd._auto_1)(hg:autoParam (Gl X x) aqd._auto_1)(h1:autoParam (x≠Kk "__name__") aqb._auto_1)(h2:autoParam ((x == Kk "__debug__")=false) aqb._auto_1):QE X (Md (K0 x p) (e::es) [] pos) (cl g fs):=
 ⟨q_cT (hc:=hc) (hm:=hm) (hv:=hv) (ha:=ha.h) (hn:=hn) (hg:=hg) (h1:=h1) (h2:=h2)⟩
theorem zq_c {X:Cx}{e:Expr}{es:List Expr}{fs:En->Rs (List T)}{pos p:Pos}{x:Str}{n k:Nat}{f:Addr}{fd:KY}{ps:List Str}{g:List T->Rs T}(F:Bx (Cx.prog X) (Cx.w X) (Cx.K X) (Cx.mg X) (Cx.base X) k f fd ps n g)(hr:Room k (Cx.A X))(hm:Cx.mg X x=some (KG f))(hk:W.keepIn (Cx.K X) (KG f)=true)(hb:L2.Binds (Cx.K X) fd ps [])(hl:∀(Z:En) (ts:List T),fs Z=Rs.ok ts->LQ ts=n)(ha:QA X (e::es) fs)(hps:autoParam (LQ ps=n) aqd._auto_1)(hn:autoParam (bq (e::es)=true) aqd._auto_1)(hg:autoParam (Gl X x) aqd._auto_1)(h2:autoParam ((x == Kk "__debug__")=false) aqb._auto_1):QE X (Md (K0 x p) (e::es) [] pos) (cl g fs):=
 ⟨q_c (F:=F) (hr:=hr) (hm:=hm) (hk:=hk) (hb:=hb) (hl:=hl) (ha:=ha.h) (hps:=hps) (hn:=hn) (hg:=hg) (h2:=h2)⟩
theorem yM {X:Cx}{a:Expr}{fa:En->Rs T}{pos p p2:Pos}{tn:Str}{Ty:String}(hm:Cx.mg X (Kk "isinstance")=none)(hmt:Cx.mg X tn=none)(hv:KQ tn=some (Np Ty))(ha:QE X a fa)(hn:autoParam (a9 a=true) aqd._auto_1)(hg:autoParam (Gl X (Kk "isinstance")) aqd._auto_1)(hgt:autoParam (Gl X tn) aqd._auto_1)(h1:autoParam (tn≠Kk "__name__") aqb._auto_1)(h2:autoParam ((tn == Kk "__debug__")=false) aqb._auto_1):QE X (Md (K0 (Kk "isinstance") p) [a,K0 tn p2] [] pos) (o1 (C1 Ty) fa):=
 ⟨q_is (hm:=hm) (hmt:=hmt) (hv:=hv) (ha:=ha.h) (hn:=hn) (hg:=hg) (hgt:=hgt) (h1:=h1) (h2:=h2)⟩
theorem ar {X:Cx}{pos:Pos}{x:Str}(i:Nat)(hN:Lx (Cx.N X))(hi:autoParam ((Cx.N X)[i]? =some x) aqd._auto_1)(hx:autoParam (L2.Loc (Mx (Cx.env X)) x) aqh._auto_1)(hf:autoParam (Cx.fn X x=true\/Lu x (Pf (Mx (Cx.env X)))=some NameKind.local) aqa._auto_1):QG X (K0 x pos) (gN i):=
 ⟨Cf (i:=i) (hN:=hN) (hi:=hi) (hx:=hx) (hf:=hf)⟩
theorem j4 {X:Cx}:Jj X [] Bt:=
 ⟨Cd ⟩
theorem dv {X:Cx}{e:Expr}{es:List Expr}{g:T->En->Rs En}{gs:List T->En->Rs En}(h1:QG X e g)(h2:Jj X es gs)(hs:autoParam (List.map (λx=>Prod.snd x) (Ly (e::es) (Cx.env X))=assign e (Cx.env X)::List.map (λx=>Prod.snd x) (Ly es (Cx.env X))) aqd._auto_1):Jj X (e::es) (tU g gs):=
 ⟨ze (h1:=h1.h) (h2:=h2.h) (hs:=hs)⟩
theorem mz {X:Cx}{es:List Expr}{pos:Pos}{k n:Nat}{gs:List T->En->Rs En}(hc:Cx.calm X=true)(h:Jj X es gs)(hn:autoParam (LQ (Ly es (Cx.env X))=n) aqd._auto_1)(hst:autoParam (List.findIdx? (λx=>Prod.fst x) (Ly es (Cx.env X))=none) aqd._auto_1):QG X (Expr.Tuple es k pos) (gT n gs):=
 ⟨EV (hc:=hc) (h:=h.h) (hn:=hn) (hst:=hst)⟩
theorem bz {X:Cx}{a:Expr}{fs:En->Rs (List T)}{pos p:Pos}{tg:Expr}(hm:Cx.mg X (Kk "range")=none)(ha:QA X [a] fs)(hg:autoParam (Gl X (Kk "range")) aqd._auto_1)(hs:autoParam (Kn [a] (Cx.env X)= [(false,eval a (Cx.env X))]) aqd._auto_1):QI X tg (Md (K0 (Kk "range") p) [a] [] pos) (iR fs):=
 ⟨xS (hm:=hm) (ha:=ha.h) (hg:=hg) (hs:=hs)⟩
theorem cE {X:Cx}:QIf X [] bT:=
 ⟨Cb ⟩
theorem hW {X:Cx}{pos:Pos}{elt tg iter:Expr}{ifs:List Expr}{scope:Nk}{N':List Str}{src:List (Option Nat)}{fi:En->Rs (List T)}{tgt:T->En->Rs En}{fc:En->Rs Bool}{fe:En->Rs T}(hc:Cx.calm X=true)(S:LcScope X scope N' src)(hi:QI X tg iter fi)(block:∀(cl:List (Str×Addr)) (C:Addr) (s₀:J9) (H₀:Hp) (fp:List Addr),QG (cu X scope cl N' C s₀ H₀ fp) tg tgt/\QIf (cu X scope cl N' C s₀ H₀ fp) ifs fc/\QE (cu X scope cl N' C s₀ H₀ fp) elt fe)(hs:autoParam (∀(x:J7),K6 iter (Cx.env X) x=pure x) aqc._auto_1):QE X (Pu elt [{ target:=tg,iter:=iter,ifs:=ifs,is_async:=0 }] scope pos) (gu fi src tgt fc fe):=
 ⟨q_lc (hc:=hc) (S:=S) (hi:=hi.h) (block:=λa1 a2 a3 a4 a5=>⟨(block a1 a2 a3 a4 a5).1.h,(block a1 a2 a3 a4 a5).2.1.h,(block a1 a2 a3 a4 a5).2.2.h⟩) (hs:=hs)⟩
theorem ck {X:Cx}:vI X [] sN:=
 ⟨EG ⟩
theorem ao {X:Cx}{st:Stmt}{bA:List Stmt}{F G:En->Rs Fl}(h1:QS X st F)(h2:vI X bA G):vI X (st::bA) (aF F G):=
 ⟨B8 (h1:=h1.h) (h2:=h2.h)⟩
theorem au {X:Cx}{st:Stmt}{F:En->Rs Fl}(h:QS X st F):vI X [st] F:=
 ⟨EF (h:=h.h)⟩
theorem aC {X:Cx}{a:Expr}{fa:En->Rs T}{pos:Pos}(ha:QE X a fa):QS X (Stmt.Return (some a) pos) (aK fa):=
 ⟨ED (ha:=ha.h)⟩
theorem dC {X:Cx}{c:Expr}{pos:Pos}{f:En->Rs Bool}{A B:List Stmt}{F G:En->Rs Fl}(hc:QT X c f)(ha:vI X A F)(hb:vI X B G):QS X (Stmt.If c A B pos) (gV f F G):=
 ⟨Hd (hc:=hc.h) (ha:=ha.h) (hb:=hb.h)⟩
theorem D6 {X:Cx}{pos:Pos}{elt tg iter:Expr}{ifs:List Expr}{scope:Nk}{spos py:Pos}{N':List Str}{src:List (Option Nat)}{fi:En->Rs (List T)}{tgt:T->En->Rs En}{fc:En->Rs Bool}{fe:En->Rs T}(i:Nat){y:Str}(hc:Cx.calm X=true)(S:LcScope X scope N' src)(hi:QI X tg iter fi)(block:∀(cl:List (Str×Addr)) (C:Addr) (s₀:J9) (H₀:Hp) (fp:List Addr),QG (cu X scope cl N' C s₀ H₀ fp) tg tgt/\QIf (cu X scope cl N' C s₀ H₀ fp) ifs fc/\QE (cu X scope cl N' C s₀ H₀ fp) elt fe)(hN:Lx (Cx.N X))(hiy:autoParam ((Cx.N X)[i]? =some y) aqd._auto_1)(hy:autoParam (L2.Loc (Mx (Cx.env X)) y) aqh._auto_1)(hsw:autoParam (KM (Pu elt [{ target:=tg,iter:=iter,ifs:=ifs,is_async:=0 }] scope pos) (some (K0 y py)) (MQ spos) (Cx.env X)=pure true) aqd._auto_1)(hf:autoParam (Cx.fn X y=true\/Lu y (Pf (Mx (Cx.env X)))=some NameKind.local) aqa._auto_1)(hs:autoParam (∀(x:J7),K6 iter (Cx.env X) x=pure x) aqc._auto_1):QS X (Oa [K0 y py] (Pu elt [{ target:=tg,iter:=iter,ifs:=ifs,is_async:=0 }] scope pos) spos) (dj (gu fi src tgt fc fe) (gN i)):=
 ⟨Hb (i:=i) (hc:=hc) (S:=S) (hi:=hi.h) (block:=λa1 a2 a3 a4 a5=>⟨(block a1 a2 a3 a4 a5).1.h,(block a1 a2 a3 a4 a5).2.1.h,(block a1 a2 a3 a4 a5).2.2.h⟩) (hN:=hN) (hiy:=hiy) (hy:=hy) (hsw:=hsw) (hf:=hf) (hs:=hs)⟩
theorem aS {X:Cx}{a:Expr}{fa:En->Rs T}{pos:Pos}{tg:Expr}{g:T->En->Rs En}(ha:QE X a fa)(hg:QG X tg g)(hs:autoParam (Py [tg] a (MQ pos) (Cx.env X)=pure false) aqd._auto_1)(hw:autoParam (Pz [tg] a (Cx.env X)=pure none) aqd._auto_1)(h1:autoParam (List.map (λx=>Prod.snd x) (Ly [tg] (Cx.env X))= [assign tg (Cx.env X)]) aqd._auto_1):QS X (Oa [tg] a pos) (dj fa g):=
 ⟨EN (ha:=ha.h) (hg:=hg.h) (hs:=hs) (hw:=hw) (h1:=h1)⟩
theorem eC {X:Cx}{a:Expr}{fa:En->Rs T}{pos:Pos}(ha:QE X a fa)(hs:autoParam (KM a none (MQ pos) (Cx.env X)=pure false) aqd._auto_1):QS X (Stmt.Expr a pos) (uO fa):=
 ⟨B7 (ha:=ha.h) (hs:=hs)⟩
theorem cP {X:Cx}{pos:Pos}{tg iter:Expr}{body:List Stmt}{fi:En->Rs (List T)}{g:T->En->Rs En}{F:En->Rs Fl}(hc:Cx.calm X=true)(hi:QI X tg iter fi)(hg:QG (Cx.nox X) tg g)(hb:vI (Cx.nox X) body F)(hs:autoParam (∀(x:J7),K6 iter (Cx.env X) x=pure x) aqc._auto_1):QS X (Stmt.For tg iter body [] pos) (fV fi g F):=
 ⟨EJ (hc:=hc) (hi:=hi.h) (hg:=hg.h) (hb:=hb.h) (hs:=hs)⟩
theorem xC {X:Cx}{pos:Pos}{c:Expr}{body:List Stmt}{fc:En->Rs Bool}{F:En->Rs Fl}(n:Nat)(hc:QT (Cx.nox X) c fc)(hb:vI (Cx.nox X) body F):QS X (Stmt.While c body [] pos) (bH fc F n):=
 ⟨zc (n:=n) (hc:=hc.h) (hb:=hb.h)⟩
theorem eY {X:Cx}{a:Expr}{fa:En->Rs T}{tg:Expr}(ha:QE X a fa):QI X tg a (iS fa):=
 ⟨ET (ha:=ha.h)⟩
theorem j0 {X:Cx}{a:Expr}{fs:En->Rs (List T)}{p pos:Pos}{elts:List Expr}{kk:Nat}{tpos:Pos}(hm:Cx.mg X (Kk "enumerate")=none)(ha:QA X [a] fs)(hg:autoParam (Gl X (Kk "enumerate")) aqd._auto_1)(hs:autoParam (Kn [a] (Cx.env X)= [(false,eval a (Cx.env X))]) aqd._auto_1):QI X (Expr.Tuple elts kk tpos) (Md (K0 (Kk "enumerate") p) [a] [] pos) (iE fs):=
 ⟨Cc (hm:=hm) (ha:=ha.h) (hg:=hg) (hs:=hs)⟩
theorem jY {X:Cx}{es:List Expr}{pos p2 p3:Pos}{x:Str}(i:Nat){f:En->Rs (List T)}(hN:Lx (Cx.N X))(ha:QA X es f)(hi:autoParam ((Cx.N X)[i]? =some x) aqd._auto_1)(hx:autoParam (L2.Loc (Mx (Cx.env X)) x) aqh._auto_1)(hs:autoParam (KM (Expr.List es p2) (some (K0 x p3)) (MQ pos) (Cx.env X)=pure false) aqd._auto_1)(hf:autoParam (Cx.fn X x=true\/Lu x (Pf (Mx (Cx.env X)))=some NameKind.local) aqa._auto_1):QS X (Oa [K0 x p3] (Expr.List es p2) pos) (jy i f):=
 ⟨B3 (i:=i) (hN:=hN) (ha:=ha.h) (hi:=hi) (hx:=hx) (hs:=hs) (hf:=hf)⟩
theorem qi {X:Cx}{a:Expr}{fa:En->Rs T}{pos p2:Pos}{x:Str}(i:Nat){apos cpos:Pos}(ha:QE X a fa)(hN:autoParam ((Cx.N X)[i]? =some x) aqd._auto_1)(hv:autoParam (kK (Mx (Cx.env X)) x) aqe._auto_1)(hn:autoParam (a9 a=true) aqd._auto_1)(hbase:autoParam (KH (K0 x p2) (Kk "append") (Cx.env X) (eval (K0 x p2) (Cx.env X))=eval (K0 x p2) (Cx.env X)) aqd._auto_1)(hline:autoParam ((Pg apos == MQ cpos)=true) aqd._auto_1)(hd:autoParam ((x == Kk "__debug__")=false) aqb._auto_1)(hcd:autoParam ((x == Kk "__classdict__")=false) aqb._auto_1)(hsw:autoParam (KM (Md (MD (K0 x p2) (Kk "append") apos) [a] [] cpos) none (MQ pos) (Cx.env X)=pure false) aqd._auto_1):QS X (Stmt.Expr (Md (MD (K0 x p2) (Kk "append") apos) [a] [] cpos) pos) (oQ i fa):=
 ⟨ER (i:=i) (ha:=ha.h) (hN:=hN) (hv:=hv) (hn:=hn) (hbase:=hbase) (hline:=hline) (hd:=hd) (hcd:=hcd) (hsw:=hsw)⟩
theorem qh {X:Cx}{a:Expr}{fa:En->Rs T}{pos p2:Pos}{x:Str}(i:Nat){apos cpos:Pos}(ha:QE X a fa)(hN:autoParam ((Cx.N X)[i]? =some x) aqd._auto_1)(hv:autoParam (kK (Mx (Cx.env X)) x) aqe._auto_1)(hn:autoParam (a9 a=true) aqd._auto_1)(hbase:autoParam (KH (K0 x p2) (Kk "extend") (Cx.env X) (eval (K0 x p2) (Cx.env X))=eval (K0 x p2) (Cx.env X)) aqd._auto_1)(hline:autoParam ((Pg apos == MQ cpos)=true) aqd._auto_1)(hd:autoParam ((x == Kk "__debug__")=false) aqb._auto_1)(hcd:autoParam ((x == Kk "__classdict__")=false) aqb._auto_1)(hsw:autoParam (KM (Md (MD (K0 x p2) (Kk "extend") apos) [a] [] cpos) none (MQ pos) (Cx.env X)=pure false) aqd._auto_1):QS X (Stmt.Expr (Md (MD (K0 x p2) (Kk "extend") apos) [a] [] cpos) pos) (m7 i fa):=
 ⟨EK (i:=i) (ha:=ha.h) (hN:=hN) (hv:=hv) (hn:=hn) (hbase:=hbase) (hline:=hline) (hd:=hd) (hcd:=hcd) (hsw:=hsw)⟩
theorem jZ {X:Cx}(i:Nat){st:Stmt}{F:En->Rs Fl}(h:QS X st F):QS X st (qD i F):=
 ⟨EM (i:=i) (h:=h.h)⟩
theorem dD {X:Cx}(i:Nat){e:Expr}{f:En->Rs T}(h:QE X e f):QE X e (ln i f):=
 ⟨q_ln (i:=i) (h:=h.h)⟩
theorem qg {X:Cx}(i:Nat){e:Expr}{f:En->Rs Bool}(h:QT X e f):QT X e (ye i f):=
 ⟨Ha (i:=i) (h:=h.h)⟩
theorem D7 {X:Cx}{pos:Pos}:QS X (Stmt.Continue pos) DE:=
 ⟨He ⟩
theorem i5 {X:Cx}{c:Str}{msg:Str}{C:Addr}{bm:List J7}{np p1 cpos pos:Pos}{j:Nat}(O:OX X.K C bm)(hm:X.mg c=some (.ref C))(hc:autoParam (X.calm=true) aqd._auto_1)(hg:autoParam (Gl X c) aqd._auto_1)(hd:autoParam ((c == ("__debug__" : Str))=false) aqb._auto_1) :
  QS X (.Raise (some (.Call (.Name c np) [.Constant (.str msg) j p1] [] cpos)) none pos) (xO c):=⟨zd O.own hc hm hg hd⟩
theorem qk {P:KA}{w:K1}{K:J5}{mg:Str->Option J7}{base:Heap}{x qual:Str}{st:Stmt}{f:Addr}{fd:KY}{N ps:List Str}{k n:Nat}{F:En->Rs Fl}(Fn:L2.Fun K x qual st f fd)(S:ay N ps (ai st))(hn:ps.length=n)
  (hbody:∀(cdv:J7) (A:KP) (outer:List Env) (s:J9) (H:Hp) (E:XK),Room k (A.deeper (envOfC qual (ai st) s.heap.objs.size f cdv)) →
   ∀xe,vI ((fm CX0 P w K mg base N qual (ai st) f cdv A outer s H E).FB xe) (bu st) F):Bx P w K mg base (k+1) f fd ps n (val n N.length F):=Gb Fn S hn λcdv A outer s H E hr xe=>(hbody cdv A outer s H E hr xe).h
theorem D9 {X:Cx}{a b:Expr}{fa fb:En->Rs T}{pos:Pos}(hu:NK (Cx.A X)+1<cLine)(ha:QE X a fa)(hb:QE X b fb)(hs:autoParam (Dt b) aqg._auto_1):QE X (M7 a b pos) (o2 ug fa fb):=
 ⟨Hr (hu:=hu) (ha:=ha.h) (hb:=hb.h) (hs:=hs)⟩
theorem vQ {X:Cx}{a b:Expr}{fa fb:En->Rs T}{apos cpos:Pos}(hu:NK (Cx.A X)+1<cLine)(ha:QE X a fa)(hb:QE X b fb)(hn:autoParam (a9 b=true) aqd._auto_1)(hbase:autoParam (KH a (Kk "get") (Cx.env X) (eval a (Cx.env X))=eval a (Cx.env X)) aqd._auto_1)(hline:autoParam ((Pg apos == MQ cpos)=true) aqd._auto_1):QE X (Md (MD a (Kk "get") apos) [b] [] cpos) (oD gZ fa fb):=
 ⟨EY (hu:=hu) (ha:=ha.h) (hb:=hb.h) (hn:=hn) (hbase:=hbase) (hline:=hline)⟩
theorem xE {X:Cx}{a b:Expr}{fa fb:En->Rs T}{apos cpos:Pos}(hu:NK (Cx.A X)+61<cLine)(ha:QE X a fa)(hb:QE X b fb)(hn:autoParam (a9 b=true) aqd._auto_1)(hbase:autoParam (KH a (Kk "index") (Cx.env X) (eval a (Cx.env X))=eval a (Cx.env X)) aqd._auto_1)(hline:autoParam ((Pg apos == MQ cpos)=true) aqd._auto_1):QE X (Md (MD a (Kk "index") apos) [b] [] cpos) (oL fQ fa fb):=
 ⟨zf (hu:=hu) (ha:=ha.h) (hb:=hb.h) (hn:=hn) (hbase:=hbase) (hline:=hline)⟩
theorem yL {X:Cx}{e:Expr}{f:En->Rs T}{x:Str}{p pos p2 p3:Pos}(i:Nat)(hu:NK (Cx.A X)+8<cLine)(hc:Cx.calm X=true)(hm:Cx.mg X (Kk "dict")=none)(hN:Lx (Cx.N X))(ha:QE X e f)(hst:autoParam (a9 e=true) aqd._auto_1)(hg:autoParam (Gl X (Kk "dict")) aqd._auto_1)(hi:autoParam ((Cx.N X)[i]? =some x) aqd._auto_1)(hx:autoParam (L2.Loc (Mx (Cx.env X)) x) aqh._auto_1)(hs:autoParam (KM (Md (K0 (Kk "dict") p) [e] [] p2) (some (K0 x p3)) (MQ pos) (Cx.env X)=pure false) aqd._auto_1)(hf:autoParam (Cx.fn X x=true\/Lu x (Pf (Mx (Cx.env X)))=some NameKind.local) aqa._auto_1):QS X (Oa [K0 x p3] (Md (K0 (Kk "dict") p) [e] [] p2) pos) (pF i f):=
 ⟨B4 (i:=i) (hu:=hu) (hc:=hc) (hm:=hm) (hN:=hN) (ha:=ha.h) (hst:=hst) (hg:=hg) (hi:=hi) (hx:=hx) (hs:=hs) (hf:=hf)⟩
theorem BA {X:Cx}{b c:Expr}{fb fc:En->Rs T}{pos p2 p3:Pos}{x:Str}(i:Nat)(hu:NK (Cx.A X)+1<cLine)(hb:QE X b fb)(hc:QE X c fc)(hN:autoParam ((Cx.N X)[i]? =some x) aqd._auto_1)(hv:autoParam (kK (Mx (Cx.env X)) x) aqe._auto_1)(hd:autoParam ((x == Kk "__debug__")=false) aqb._auto_1)(hcd:autoParam ((x == Kk "__classdict__")=false) aqb._auto_1)(hs:autoParam (KM c (some (M7 (K0 x p2) b p3)) (MQ pos) (Cx.env X)=pure false) aqd._auto_1):QS X (Oa [M7 (K0 x p2) b p3] c pos) (xN i fb fc):=
 ⟨EE (i:=i) (hu:=hu) (hb:=hb.h) (hc:=hc.h) (hN:=hN) (hv:=hv) (hd:=hd) (hcd:=hcd) (hs:=hs)⟩
end Tr
namespace Tr
open PySem PySem.Spec PyProof.Rows L2 PySem.W
theorem Ax (h:Heap):(tV h).In h:=by
 have key:∀(l:List Nat) (a:Addr) (o:Obj),(l.filterMap λa=>(h.get? a).map λo=>(a,o)).lookup a=some o->h.get? a=some o:=by
  intro l
  induction l with
  | nil=>intro a o e;cases e
  | cons b r ih=>
   intro a o e
   cases hb:h.get? b with
   | none=>rw[List.filterMap_cons_none (by rw[hb];rfl)]at e;exact ih a o e
   | some ob=>
    rw[List.filterMap_cons_some (b:=(b,ob)) (by rw[hb];rfl),KZ]at e
    cases q:a == b with
    | true=>rw[q]at e;cases e;rw[eq_of_beq q];exact hb
    | false=>rw[q]at e;exact ih a o e
 exact λa o e=>key _ a o e
theorem DQ {K:Frag}{n:Str}{st:Stmt}(e:obF K n=exF n st):∃f fd,nsIn K KN n=some (some (.ref f))/\L2.Fun K n n st f fd:=by
 unfold obF at e
 split at e
 ·rename_i f hf
  split at e
  ·rename_i oc od d sl hl
   cases d;unfold exF at e;simp only[NU,N5]at e;obtain⟨h1,h2,h3,h4,h5,h6,h7,h8,h9,h10,h11⟩:=e;subst h1 h2 h3 h4 h5 h6 h7 h8 h9;exact⟨f,_,hf,Aw hl h10 h11⟩
  ·cases e
 ·cases e
theorem nF {K:Frag}{N:Addr}{n:Str}(e:HF K N n=true):nsIn K N n=some none:=by
 unfold HF at e
 split at e
 ·assumption
 ·cases e
theorem FD {K:Frag}{n:Str}{i:Int}(e:Jc K n=some i):∃t,nsIn K KN n=some (some (.int i t)):=by
 unfold Jc at e
 split at e
 ·rename_i i' t h;cases e;exact⟨t,h⟩
 ·cases e
theorem mQ:∀{l:List J7},vW l=true->l=vC:=by
 intro l e;unfold vW at e
 split at e
 ·simp only[J8,beq_iff_eq]at e
  obtain⟨⟨⟨h1,h2⟩,h3⟩,h4⟩:=e;subst h1 h2 h3 h4;rfl
 ·cases e
theorem jM {K:Frag}{D:Option Addr}{n:Str}{C:Addr}(e:CL K D n=some C):nsIn K KN n=some (some (.ref C)) ∧
  ∃nm q N bs bm hd sn su ab co dd k0 k1 k2 k3 k5,under D bm=true/\K.lookup C=some (MF nm q C N bs bm hd sn su ab co dd k0 k1 k2 k3 k5 "ValueError.__new__")/\∀h:Heap,K.In h->∃mN,h.Ns N mN/\∀n∈calmNames,mN n=none:=by
 unfold CL at e
 split at e
 ·rename_i C' hC
  split at e
  ·rename_i t dd c k0 k1 k2 k3 b k5 hl
   split at e
   ·rename_i E m ob oe es ep oz hm hN
    split at e
    ·rename_i hq
     cases e;simp only[J8,beq_iff_eq,PU]at hq;obtain⟨⟨⟨⟨⟨⟨h1,h2⟩,h3⟩,h4⟩,h5⟩,h6⟩,h7⟩:=hq
     have z:=KF.mp h5;refine⟨hC,c.name,c.qualname,c.ns,c.bases,m,c.hasDict,c.slotNames,c.subclasses,c.abstract,c.collection,dd,k0,k1,k2,k3,k5,h7,?_,HH hN h4 (nF (z _ (.head _))) (nF (z _ (.tail _ (.head _)))) (nF (z _ (.tail _ (.tail _ (.head _))))) (nF (z _ (.tail _ (.tail _ (.tail _ (.head _))))))⟩
     rw[hl];cases c;simp only at hm h3;subst h1 h2 hm h3 h6
     rfl
    ·cases e
   ·cases e
  ·cases e
 ·cases e
theorem ox0 {K:Frag}{C:Addr}{n:Str}(e:CL K none n=some C):OX K C vC:=by
 obtain⟨_,_,_,_,_,_,_,_,_,_,_,_,_,_,_,_,_,hu,hl,hn⟩:=jM e;cases mQ hu;exact CD hl hn
theorem ox1 {K:Frag}{C D:Addr}{n m:Str}(e:CL K (some D) n=some C)(d:CL K none m=some D):OX K C (.ref D::vC):=by
 obtain⟨_,_,_,_,_,bm,_,_,_,_,_,_,_,_,_,_,_,hu,hl,hn⟩:=jM e;obtain⟨_,_,_,_,_,_,_,_,_,_,_,_,_,_,_,_,_,hu',hl',hn'⟩:=jM d;cases mQ hu';unfold under at hu;simp only at hu
 split at hu
 ·rw[J8]at hu
  cases eq_of_beq hu.1;cases mQ hu.2;exact zA hl hn hl' hn'
 ·cases hu
theorem lC {α:Type}{o:Option α}{r:List (Option α)}{l:List α}(e:vF (o::r)=some l):∃a l',o=some a/\l=a::l'/\vF r=some l':=by
 cases o with
 | none=>cases e
 | some a=>
  unfold vF at e
  split at e
  ·rename_i l' h;cases e;exact⟨a,l',rfl,rfl,h⟩
  ·cases e
theorem Ba {α:Type}{l:List α}(e:vF ([]:List (Option α))=some l):l= []:=by cases e;rfl
theorem pH:∀{l:List Addr},rh l=true->l.Nodup
 | [],_=> .nil
 | a::r,h=>by
  unfold rh at h;rw[J8]at h;refine KJ.mpr ⟨λhm=> ?_,pH h.2⟩
  have:=KF.mp h.1 a hm
  simp at this
theorem FC {K:Frag}{m:Str}{es:List Str}(e:Ja K (m::es)=true):∃D l,CL K none m=some D/\vF (es.map (CL K (some D)))=some l/\(l++ [D]).Nodup:=by
 rw[Ja]at e
 split at e
 ·rename_i D hD
  split at e
  ·rename_i l hl;exact⟨D,l,hD,hl,pH e⟩
  ·cases e
 ·cases e
section
variable {S:Bm}{top:Nat->Stmt}{K:Frag}{h:Heap}{mg:Str->Option J7}
theorem lh {α β:Type}{f g:α->β}:∀{l:List α} (j:Nat) {a:α},l.map f=l.map g->l[j]? =some a->f a=g a
 | [],_,_,_,q=>by cases q
 | b::l,0,a,e,q=>by cases q;exact(List.cons.inj e).1
 | b::l,j+1,a,e,q=>lh (l:=l) j (List.cons.inj e).2 q
theorem cI (j:Nat){n:Str}{i:Nat}{ps:List Str}(X:K.In h)(G:h.Ns KN mg)(e:tj S K=sy S top)(q:S.tab[j]? =some (n,i))
  (hb:∀(kV doc pm:J7) (an:Option Addr) (cdv ct:J7) (us:List J7),us.length=ps.length->QB (fnOf n n (fh (top i)) (bu (top i)) (ai (top i)) .none kV doc pm an cdv ct) ⟨us,[]⟩=pure (ps.zip us)) :
  ∃f fd,Fn K mg n (top i) ps f fd:=by
 obtain⟨f,fd,h1,h2⟩:=DQ (lh j (congrArg (·.1) e) q)
 exact⟨f,fd,h2,h2.binds hb,mg_of X G h1⟩
theorem Ii (j:Nat){n:Str}{i:Nat}{x:Str}{fa:Addr}(X:K.In h)(G:h.Ns KN mg)(e:tj S K=sy S top)(q:S.tab[j]? =some (n,i))(hfa:mg n=some (.ref fa))
  (hb:∀(kV doc pm:J7) (an:Option Addr) (cdv ct u:J7),QB (fnOf n n (fh (top i)) (bu (top i)) (ai (top i)) .none kV doc pm an cdv ct) ⟨[u],[]⟩=pure [(x,u)]) :
  ∃fd,Fn K mg n (top i) [x] fa fd/\∀(s:J9) (u:J7),Oe s fd ⟨[u],[]⟩ [(x,u)]:=by
 obtain⟨f,fd,h1,h2⟩:=DQ (lh j (congrArg (·.1) e) q)
 have z:=hfa.symm.trans (mg_of X G h1);cases z
 have hh:=h2;obtain⟨oc,od,kV,doc,pm,an,cdv,ct,osl,rfl,lk,hcd⟩:=hh.ex;exact⟨_,⟨h2,.all λus hl=>match us,hl with | [u],_=>hb kV doc pm an cdv ct u,mg_of X G h1⟩,λs u=> .of_eq (hb kV doc pm an cdv ct u)⟩
theorem eO (j:Nat){n:Str}(X:K.In h)(G:h.Ns KN mg)(e:tj S K=sy S top)(q:S.zs[j]? =some n):mg n=none:=
 mg_none_of X G (nF (KF.mp (congrArg (·.2.1) e:S.zs.all (HF K KN)=true) n (L5 q)))
theorem pQ (j:Nat){n:Str}{i:Int}(X:K.In h)(G:h.Ns KN mg)(e:tj S K=sy S top)(q:S.cs[j]? =some (n,i)):∃t,mg n=some (.int i t):=by
 obtain⟨t,ht⟩:=FD (lh (f:=λc=>Jc K c.1) (g:=λc=>some c.2) j (congrArg (·.2.2.1) e) q)
 exact⟨t,mg_of X G ht⟩
theorem Ip (e:tj S K=sy S top):Ja K S.es=true:=congrArg (·.2.2.2) e
end
theorem left_of {p q:KA}{loose:List Str}{Xt:J9->Bool}{α:Type}{Yf:J9->α}{Ya:K1->α}{N:Nat}{g0:Bool}
  (e:opening p=plainProg p.main.scope.names) (hN:Nat.ble 600 N=true) (f:∀s,fenceModules? p s=some s)
  (h:∀(w:K1) (os:NO),(topFrom Px p w N ⟨boot_heap w.params,⟨[]⟩,boot_drawn,boot_toks,os⟩).map (λs=>(openSeen q loose (OP p.main.body) Xt g0 s,Yf s))=some (openGood q loose,Ya w)) :
  LeftO p q loose Xt Yf Ya N g0:=λw=>by
 obtain⟨⟨h0,gs,d,k,os⟩,e1,e2⟩:=MY.mp (boot_open e hN f w);simp only[N5]at e2;obtain⟨rfl,rfl,rfl,rfl⟩:=e2;unfold openEnds;rw[e1];exact h w os
structure Cl (P:KA)(w:K1)(K:Frag)(mg:Str->Option J7)(base:Heap)(k:Nat)(x:Str)(n:Nat)(m:List T->Rs T):Prop where
 ex:∃f fd ps,mg x=some (.ref f)/\keepIn K (.ref f)=true/\Binds K fd ps []/\ps.length=n/\Bx P w K mg base k f fd ps n m
abbrev gv (K:Frag)(mg:Str->Option J7)(x:Str)(st:Stmt)(ps:List Str):Prop:=∃f fd,Fn K mg x st ps f fd
section
variable {P:KA}{w:K1}{K:Frag}{mg:Str->Option J7}{base:Heap}{x:Str}{st:Stmt}{N ps:List Str}{k n:Nat}{F:En->Rs Fl}
theorem bD (H:gv K mg x st ps)(S:ay N ps (ai st))(hn:ps.length=n)
  (hbody:∀(f:Addr) (cdv:J7) (A:KP) (outer:List Env) (s:J9) (H:Hp) (E:XK),Room k (A.deeper (envOfC x (ai st) s.heap.objs.size f cdv)) →
   ∀xe,vI ((fm CX0 P w K mg base N x (ai st) f cdv A outer s H E).FB xe) (bu st) F):Cl P w K mg base (k+1) x n (val n N.length F):=by
 obtain⟨f,fd,h⟩:=H;exact⟨f,fd,ps,h.mg,h.fn.kp,h.bd,hn,qk h.fn S hn (hbody f)⟩
end
section
variable {X:Cx}{e:Expr}{es:List Expr}{fs:En->Rs (List T)}{pos p:Pos}{x:Str}{n k k':Nat}{g:List T->Rs T}
theorem aT (c:Cl X.prog X.w X.K X.mg X.base k x n g)(hr:Room k' X.A)(ha:QA X (e::es) fs)(hk:autoParam (k<=k') aqb._auto_1)(hl:∀(Z:En) (ts:List T),fs Z= .ok ts->ts.length=n:=by repeat first | exact xw | refine xv ?_)
  (hn:autoParam (bq (e::es)=true) aqd._auto_1) (hg:autoParam (Gl X x) aqd._auto_1) (h2:autoParam ((x == Kk "__debug__")=false) aqb._auto_1):QE X (.Call (.Name x p) (e::es) [] pos) (cl g fs):=by
 obtain⟨f,fd,ps,h1,h3,h4,h5,h6⟩:=c.ex;exact zq_c h6 (hr.mono hk) h1 h3 h4 hl ha h5 hn hg h2
theorem si {i:Int}(h:∃t,X.mg x=some (.int i t))(hg:autoParam (Gl X x) aqd._auto_1)(hd:autoParam ((x == Kk "__debug__")=false) aqb._auto_1):QE X (.Name x pos) (cn (.int i)):=by
 obtain⟨t,h⟩:=h;exact BE h ⟨_,rfl⟩ hg hd
end
theorem CP {K:Frag}{C:Addr}{m q:Str}{st:Stmt}(e:HG K C m q=II m q st):∃f fd,pw K C m f/\L2.Fun K m q st f fd:=by
 unfold HG at e
 split at e
 ·rename_i f hf
  split at e
  ·rename_i oc od d sl hl
   cases d;unfold II at e;simp only[NU,N5]at e;obtain⟨h1,h2,h3,h4,h5,h6,h7,h8,h9,h10,h11,h12⟩:=e;subst h1 h2 h3 h4 h5 h6 h7 h8 h9;exact⟨f,_,⟨hf,h12,h11⟩,Aw hl h10 h11⟩
  ·cases e
 ·cases e
theorem CN {K:Frag}{C:Addr}{f:Str}(e:FE K C f=true):NoAttr K C f:=by
 unfold FE at e
 split at e
 ·assumption
 ·cases e
theorem BY {K:Frag}{C:Addr}(e:Er K C=true):findIn K (.ref C) "__setattr__" =some (some (.builtin "object.__setattr__")):=by
 unfold Er at e
 split at e
 ·rename_i b h;rw[h,eq_of_beq e]
 ·cases e
structure mx (K:Frag)(mg:Str->Option J7)(c:Str):Prop where
 cl:Cls K (bj K c)
 mg:mg c=some (.ref (bj K c))
 mks:makesIn K (bj K c)=true
 kp:keepIn K (.ref (bj K c))=true
abbrev jW (K:Frag)(c m q:Str)(st:Stmt)(ps:List Str):Prop:=∃f fd,pw K (bj K c) m f/\L2.Fun K m q st f fd/\Binds K fd ps []
section
variable {K:Frag}{h:Heap}{mg:Str->Option J7}{top:Nat->Stmt}{A:Dy}
theorem Ir (X:K.In h)(G:h.Ns KN mg)(e:Jb K A=Jf top A):mx K mg A.c/\(∀f∈A.as,NoAttr K (bj K A.c) f)/\A.ms.map (λ(m:Str×Str×Nat)=>HG K (bj K A.c) m.1 m.2.1)=A.ms.map (λ(m:Str×Str×Nat)=>II m.1 m.2.1 (bY (top A.i) m.2.2)):=by
 unfold Jb at e
 split at e
 ·rename_i C hC
  unfold Jf at e;simp only[NU,N5]at e;obtain⟨e1,e2⟩:=e
  have hc:bj K A.c=C:=by unfold bj;rw[hC]
  unfold DV at e1;simp only[J8]at e1;obtain⟨⟨⟨⟨⟨⟨h1,h2⟩,h3⟩,h4⟩,h5⟩,h6⟩,h7⟩:=e1;rw[hc];exact⟨⟨by rw[hc];exact⟨h1,h2,h3,BY h4⟩,by rw[hc];exact mg_of X G hC,by rw[hc];exact h5,by rw[hc];exact h6⟩,λf hf=>CN (KF.mp h7 f hf),e2⟩
 ·cases e
theorem fG (j:Nat){m q:Str}{i:Nat}{ps:List Str}(e:A.ms.map (λ(m:Str×Str×Nat)=>HG K (bj K A.c) m.1 m.2.1)=A.ms.map (λ(m:Str×Str×Nat)=>II m.1 m.2.1 (bY (top A.i) m.2.2)))(z:A.ms[j]? =some (m,q,i))
  (hb:∀(kV doc pm:J7) (an:Option Addr) (cdv ct:J7) (us:List J7),us.length=ps.length->QB (fnOf m q (fh (bY (top A.i) i)) (bu (bY (top A.i) i)) (ai (bY (top A.i) i)) .none kV doc pm an cdv ct) ⟨us,[]⟩=pure (ps.zip us)) :
  jW K A.c m q (bY (top A.i) i) ps:=by
 obtain⟨f,fd,h1,h2⟩:=CP (lh j e z);exact⟨f,fd,h1,h2,h2.binds hb⟩
end
def hookC (S:ur)(top:Nat->Stmt):Hook:=
 ⟨_,λs=>zG S (tV s.heap),λ_=>yU S top,λ_ h=> ∃K:Frag,K.In h/\zG S K=yU S top,λ_ s e=>⟨_,Ax s.heap,e⟩,λ_ _ _ ⟨K,a,b⟩ k=>⟨K,a.keeps k,b⟩⟩
theorem walk_c {l:OpenLaw}{n k:Nat}{q:KA}{loose:List Str}{XP:(Str->Option J7)->Heap->Prop}{d:DefRec}{S:ur}{top:Nat->Stmt}{CX:Bk}{sp:Frag->Sp}{x:Str}
  (hn:l.most=some n) (hn2:n<=sizeLine) (hdf:d.params.defaults= []) (hr:Room k callerA)
  (F:∀(w:K1) (K:Frag) (mg:Str->Option J7) (fa:Addr) (h:Heap),K.In h->zG S K=yU S top->h.Ns KN mg->mg d.name=some (.ref fa) →
   ∃fd:KY,(∀(s:J9) (u:J7),Oe s fd ⟨[u],[]⟩ [(x,u)])/\∀base:Heap,K.In base->base.Ns KN mg->FnOk l.prog w K mg base CX k fa fd [x] (sp K))
  (hsp:∀(K:Frag) (H:Hp) (a:Addr) (ns:List Int),ns.length<=n->Gz H->SqL K H a (ns.map V.int)->sp K [.ref a] H (λv _=>v= .bl true) λ_ _ _=>False)
  (hCX:∀(H:Hp) (s:J9) (e:J7) (s':J9),CX [] H s (λ_ _ _=>False) e s'->False) :
  WalkO q loose XP (hookC S top).says l.row.toRowW d [] (λf vs=>PySem.call f vs):=by
 refine Att.attach_call hn hdf λw s₀ s₁ mg mb fa o pm cd doc a vs ns G Y ho hd hcd hmg hobj hints hlen hg=> ?_
 obtain⟨K,KX,e⟩:=Y;obtain⟨fd,hb,hF⟩:=F w K mg fa _ KX e G.T.g hmg;exact zY KX G.T.g G.T.b G.T.builtins G.T.nolimit hg hobj hints (KW hlen hn2) hr hF hb (λH hO hS=>hsp K H a ns hlen hO hS) λH e s'=>hCX H s₁ e s'
structure Ml (P:KA)(w:K1)(K:Frag)(mg:Str->Option J7)(base:Heap)(k:Nat)(c m:Str)(g:List T->Rs T):Prop where
 ex:∃f fd ps,pw K (bj K c) m f/\Binds K fd ps []/\ps.length=1/\Bx P w K mg base k f fd ps 1 g
structure Mm (P:KA)(w:K1)(K:Frag)(mg:Str->Option J7)(base:Heap)(k:Nat)(c m:Str)(n:Nat)(g:List Sl->Rs (T×OT)):Prop where
 ex:∃f fd ps,pw K (bj K c) m f/\Binds K fd ps []/\ps.length=n/\Dw P w K mg base k f fd ps n 0 g
structure Ce (P:KA)(w:K1)(K:Frag)(mg:Str->Option J7)(base:Heap)(k:Nat)(x:Str)(n j:Nat)(g:List Sl->Rs (T×OT)):Prop where
 ex:∃f fd ps,mg x=some (.ref f)/\keepIn K (.ref f)=true/\Binds K fd ps []/\ps.length=n/\Dw P w K mg base k f fd ps n j g
structure QX (X:Cx)(e:Expr)(f:En->Rs (T×En)):Prop where
 h:uu X e f
structure Gy (X:Cx)(e:Expr)(f:En->Rs (Bool×En)):Prop where
 h:D1 X e f
structure Jh (X:Cx)(e:Expr)(f:En->Rs (Bool×En)):Prop where
 h:IQ X e f
structure QL (X:Cx)(i:Nat)(e:List Expr)(f:En->Rs (List T)):Prop where
 h:PA X e (GP X i f)
structure QM (X:Cx)(j:Nat)(e:Stmt)(f:En->Rs Fx):Prop where
 h:Be X j e f
structure Bv (X:Cx)(j:Nat)(e:List Stmt)(f:En->Rs Fx):Prop where
 h:Bf X j e f
section
variable {P:KA}{w:K1}{K:Frag}{mg:Str->Option J7}{base:Heap}{x c m q:Str}{st:Stmt}{N ps:List Str}{k n j:Nat}
theorem zN {F:En->Rs Fl}(H:jW K c m q st ps)(S:ay N ps (ai st))(hn:ps.length=1)
  (hbody:∀(f:Addr) (cdv:J7) (A:KP) (outer:List Env) (s:J9) (H:Hp) (E:XK),Room k (A.deeper (envOfC q (ai st) s.heap.objs.size f cdv)) →
   ∀xe,vI ((fm CX0 P w K mg base N q (ai st) f cdv A outer s H E).FB xe) (bu st) F):Ml P w K mg base (k+1) c m (val 1 N.length F):=by
 obtain⟨f,fd,h1,h2,h3⟩:=H;exact⟨f,fd,ps,h1,h3,hn,qk h2 S hn (hbody f)⟩
theorem nU {F:En->Rs Fx}(H:jW K c m q st ps)(S:ay N ps (ai st))(hn:ps.length=n)
  (hbody:∀(f:Addr) (cdv:J7) (A:KP) (outer:List Env) (s:J9) (H:Hp) (E:XK),Room k (A.deeper (envOfC q (ai st) s.heap.objs.size f cdv)) →
   ∀xe,Bv ((fm CX0 P w K mg base N q (ai st) f cdv A outer s H E).FB xe) 0 (bu st) F):Mm P w K mg base (k+1) c m n (fM n 0 N.length F):=by
 obtain⟨f,fd,h1,h2,h3⟩:=H;exact⟨f,fd,ps,h1,h3,hn,Ay h2 S hn λcdv A outer s H E hr xe=>(hbody f cdv A outer s H E hr xe).h⟩
theorem DW {F:En->Rs Fx}(H:gv K mg x st ps)(S:ay N ps (ai st))(hn:ps.length=n)
  (hbody:∀(f:Addr) (cdv:J7) (A:KP) (outer:List Env) (s:J9) (H:Hp) (E:XK),Room k (A.deeper (envOfC x (ai st) s.heap.objs.size f cdv)) →
   ∀xe,Bv ((fm CX0 P w K mg base N x (ai st) f cdv A outer s H E).FB xe) j (bu st) F):Ce P w K mg base (k+1) x n j (fM n j N.length F):=by
 obtain⟨f,fd,h⟩:=H;exact⟨f,fd,ps,h.mg,h.fn.kp,h.bd,hn,Ay h.fn S hn λcdv A outer s H E hr xe=>(hbody f cdv A outer s H E hr xe).h⟩
end
section
variable {X:Cx}{a b e c o:Expr}{es bA:List Expr}{fa fb fo:En->Rs T}{fs:En->Rs (List T)}{pos p p2 p3 p4 apos cpos spos:Pos}{x y n cn' f m:Str}{k k' l j:Nat}{g:List T->Rs T}{ge:List Sl->Rs (T×OT)}{ex ey:En->Rs (T×En)}{tx ty:En->Rs (Bool×En)}
theorem eX (h:QE X a fa):QX X a (xP fa):=⟨Ei h.h⟩
theorem hY (C:mx X.K X.mg m)(hn:NoAttr X.K (bj X.K m) f)(ha:QE X a fa)(hb:autoParam (KH a f X.env (eval a X.env)=eval a X.env) aqd._auto_1):QE X (.Attribute a f pos) (o1 (jm m f) fa):=⟨Hq C.cl hn ha.h hb⟩
theorem cY {pl:Sem Bool}(C:mx X.K X.mg n)(M:Ml X.prog X.w X.K X.mg X.base k n m g)(hr:Room k' X.A)(ho:QE X o fo)(hk:autoParam (k<=k') aqb._auto_1)
  (ht:eval (.Call (.Attribute o m apos) [] [] pos) X.env=(do
   let ov <-eval o X.env
   standAt apos.atName
   let (f,first) <-holding [ov] (MU ov m pl)
   Og pos f first (backTo pos (Kn [] X.env)) (M8 pos (L4 [] X.env))):=by rfl):QE X (.Call (.Attribute o m apos) [] [] pos) (mh n m g fo aj):=by
 obtain⟨f,fd,ps,h1,h2,h3,h4⟩:=M.ex;exact⟨Cj (pl:=pl) C.cl h1 h4 (hr.mono hk) h2 h3 ho.h ht⟩
theorem uv (i:Nat)(C:mx X.K X.mg m)(hn:NoAttr X.K (bj X.K m) f)(ha:QE X a fa)(hN:autoParam (X.N[i]? =some x) aqd._auto_1)(hv:autoParam (kK X.env.scope x) aqe._auto_1)(hs:autoParam (a9 a=true) aqd._auto_1)
  (hb1:autoParam (KH (.Name x p2) f X.env (eval (.Name x p2) X.env)=eval (.Name x p2) X.env) aqd._auto_1)
  (hbase:autoParam (KH (.Attribute (.Name x p2) f p3) "append" X.env (eval (.Attribute (.Name x p2) f p3) X.env)=eval (.Attribute (.Name x p2) f p3) X.env) aqd._auto_1) (hline:autoParam ((apos.endLine == cpos.line)=true) aqd._auto_1)
  (hd:autoParam ((x == ("__debug__" : Str))=false) aqb._auto_1) (hcd:autoParam ((x == ("__classdict__" : Str))=false) aqb._auto_1):QX X (.Call (.Attribute (.Attribute (.Name x p2) f p3) "append" apos) [a] [] cpos) (sr i m f fa):=⟨GL i C.cl hn ha.h hN hv hs hb1 hbase hline hd hcd⟩
theorem yJ (i:Nat)(C:mx X.K X.mg m)(hn:NoAttr X.K (bj X.K m) f)(hN:autoParam (X.N[i]? =some x) aqd._auto_1)(hv:autoParam (kK X.env.scope x) aqe._auto_1)
  (hb1:autoParam (KH (.Name x p2) f X.env (eval (.Name x p2) X.env)=eval (.Name x p2) X.env) aqd._auto_1)
  (hbase:autoParam (KH (.Attribute (.Name x p2) f p3) "pop" X.env (eval (.Attribute (.Name x p2) f p3) X.env)=eval (.Attribute (.Name x p2) f p3) X.env) aqd._auto_1) (hline:autoParam ((apos.endLine == cpos.line)=true) aqd._auto_1)
  (hd:autoParam ((x == ("__debug__" : Str))=false) aqb._auto_1) (hcd:autoParam ((x == ("__classdict__" : Str))=false) aqb._auto_1):QX X (.Call (.Attribute (.Attribute (.Name x p2) f p3) "pop" apos) [] [] cpos) (uC i m f):=⟨GJ i C.cl hn hN hv hb1 hbase hline hd hcd⟩
theorem HU {fs:En->Rs (List T)}{l:Nat}(h:∀(Z:En) (ts:List T),fs Z= .ok ts->ts.length=l)(Z:En)(ts:List T)(z:fs Z= .ok ts):ts.length+1=l+1:=congrArg (· +1) (h Z ts z)
theorem i0 {pl:Sem Bool}(i:Nat)(C:mx X.K X.mg n)(M:Mm X.prog X.w X.K X.mg X.base k n m (l+1) ge)(hr:Room k' X.A)(ha:QA X (e::es) fs)(hk:autoParam (k<=k') aqb._auto_1)(hl:∀(Z:En) (ts:List T),fs Z= .ok ts->ts.length=l:=by repeat first | exact xw | refine xv ?_)
  (hN:autoParam (X.N[i]? =some x) aqd._auto_1) (hv:autoParam (kK X.env.scope x) aqe._auto_1) (hd:autoParam ((x == ("__debug__" : Str))=false) aqb._auto_1) (hcd:autoParam ((x == ("__classdict__" : Str))=false) aqb._auto_1)
  (hns:autoParam (bq (e::es)=true) aqd._auto_1)
  (ht:eval (.Call (.Attribute (.Name x p2) m apos) (e::es) [] pos) X.env=(do
   let ov <-eval (.Name x p2) X.env
   standAt apos.atName
   let (f,first) <-holding [ov] (MU ov m pl)
   Og pos f first (backTo pos (Kn (e::es) X.env)) (M8 pos (L4 [] X.env))):=by rfl):QX X (.Call (.Attribute (.Name x p2) m apos) (e::es) [] pos) (bP i n m ge fs):=by
 obtain⟨f,fd,ps,h1,h2,h3,h4⟩:=M.ex
 have hn2:a9 e=true/\bq es=true:=La.mp hns;exact⟨Ej (pl:=pl) i C.cl h1 h4 (hr.mono hk) h2 h3 (HU hl) ha.h hN hv hd hcd (a7 hn2.1) (eE hn2.2) ht⟩
theorem g8 {pl:Sem Bool}(i:Nat)(C:mx X.K X.mg n)(M:Mm X.prog X.w X.K X.mg X.base k n m 1 ge)(hr:Room k' X.A)(hk:autoParam (k<=k') aqb._auto_1)
  (hN:autoParam (X.N[i]? =some x) aqd._auto_1) (hv:autoParam (kK X.env.scope x) aqe._auto_1) (hd:autoParam ((x == ("__debug__" : Str))=false) aqb._auto_1) (hcd:autoParam ((x == ("__classdict__" : Str))=false) aqb._auto_1)
  (ht:eval (.Call (.Attribute (.Name x p2) m apos) [] [] pos) X.env=(do
   let ov <-eval (.Name x p2) X.env
   standAt apos.atName
   let (f,first) <-holding [ov] (MU ov m pl)
   Og pos f first (backTo pos (Kn [] X.env)) (M8 pos (L4 [] X.env))):=by rfl):QX X (.Call (.Attribute (.Name x p2) m apos) [] [] pos) (bP i n m ge aj):=by
 obtain⟨f,fd,ps,h1,h2,h3,h4⟩:=M.ex;exact⟨BL (pl:=pl) i C.cl h1 h4 (hr.mono hk) h2 h3 hN hv hd hcd ht⟩
theorem mB (i:Nat)(hN:autoParam (X.N[i]? =some x) aqd._auto_1)(hv:autoParam (kK X.env.scope x) aqe._auto_1)(hd:autoParam ((x == ("__debug__" : Str))=false) aqb._auto_1)(hcd:autoParam ((x == ("__classdict__" : Str))=false) aqb._auto_1):QL X i [.Name x p2] aj:=⟨E9 i hN hv hd hcd⟩
theorem gh {i:Nat}(ha:QE X a fa)(hb:QL X i es fs)(hn:autoParam (a9 a=true) aqd._auto_1):QL X i (a::es) (ae fa fs):=⟨Ct ha.h hb.h (a7 hn)⟩
theorem qe {i:Nat}(M:Ce X.prog X.w X.K X.mg X.base k y (l+1) l ge)(hr:Room k' X.A)(ha:QL X i (e::es) fs)(hk:autoParam (k<=k') aqb._auto_1)(hl:∀(Z:En) (ts:List T),fs Z= .ok ts->ts.length=l:=by repeat first | exact xw | refine xv ?_)
  (hg:autoParam (Gl X y) aqd._auto_1) (hdb:autoParam ((y == ("__debug__" : Str))=false) aqb._auto_1) (hns:autoParam (bq (e::es)=true) aqd._auto_1):QX X (.Call (.Name y p) (e::es) [] pos) (mP i ge fs):=by
 obtain⟨f,fd,ps,h1,h0,h2,h3,h4⟩:=M.ex
 have hn2:a9 e=true/\bq es=true:=La.mp hns;exact⟨GK i h4 (hr.mono hk) h1 h0 h2 h3 rfl hl ha.h hg hdb (a7 hn2.1) (eE hn2.2)⟩
theorem sf {t:En->Rs Bool}(h:QT X a t):Gy X a (BK t):=⟨BI h.h⟩
theorem By {op:Qy}{r:T->T->Rs T}(ho:OpT X (K2 op) r)(ha:QX X a ex)(hb:QE X b fb)(hm:autoParam (Mo op b=false) aqd._auto_1):Gy X (.Compare a [op] [b] pos) (yE (DB r ex fb)):=⟨Eh ho ha.h hb.h hm⟩
theorem vM (ha:Gy X a tx):Jh X (.BoolOp .Or [a] pos) tx:=⟨Ef ha.h⟩
theorem yH (ha:Gy X a tx)(hb:Jh X (.BoolOp .Or (b::bA) pos) ty):Jh X (.BoolOp .Or (a::b::bA) pos) (ql tx ty):=⟨GI ha.h hb.h⟩
theorem Dz (h:Jh X e tx):Gy X e tx:=⟨xt_w h.h⟩
theorem vP {A C:List Stmt}{F G:En->Rs Fl}(hc:Gy X c tx)(ha:vI X A F)(hb:vI X C G):QS X (.If c A C pos) (qC tx F G):=⟨EI hc.h ha.h hb.h⟩
theorem my (ha:QX X a ex)(hs:autoParam (KM a none pos.line X.env=pure false) aqd._auto_1):QS X (.Expr a pos) (m8 ex):=⟨EL ha.h hs⟩
theorem BB (i:Nat)(hN:X.N.Nodup)(ha:QX X a ex)(hi:autoParam (X.N[i]? =some n) aqd._auto_1)(hx:autoParam (Loc X.env.scope n) aqh._auto_1)(hs:autoParam (KM a (some (.Name n p3)) pos.line X.env=pure false) aqd._auto_1)
  (hf:autoParam (X.fn n=true\/X.env.scope.names.lookup n=some .local) aqa._auto_1):QS X (.Assign [.Name n p3] a pos) (xQ i ex):=⟨EO i hN ha.h hi hx hs hf⟩
theorem sg (i:Nat)(hN:X.N.Nodup)(C:mx X.K X.mg m)(M:Mm X.prog X.w X.K X.mg X.base k m "__init__" (l+1) ge)(hr:Room k' X.A)(ha:QA X (e::es) fs)(hk:autoParam (k+1<=k') aqb._auto_1)(hl:∀(Z:En) (ts:List T),fs Z= .ok ts->ts.length=l:=by repeat first | exact xw | refine xv ?_)
  (hi:autoParam (X.N[i]? =some n) aqd._auto_1) (hx:autoParam (Loc X.env.scope n) aqh._auto_1) (hs:autoParam (KM (.Call (.Name m p) (e::es) [] pos) (some (.Name n p3)) spos.line X.env=pure false) aqd._auto_1) (hf:autoParam (X.fn n=true\/X.env.scope.names.lookup n=some .local) aqa._auto_1)
  (hg:autoParam (Gl X m) aqd._auto_1) (hdb:autoParam ((m == ("__debug__" : Str))=false) aqb._auto_1) (hns:autoParam (bq (e::es)=true) aqd._auto_1):QS X (.Assign [.Name n p3] (.Call (.Name m p) (e::es) [] pos) spos) (m5 i m ge fs):=by
 obtain⟨f,fd,ps,h1,h2,h3,h4⟩:=M.ex
 have hn2:a9 e=true/\bq es=true:=La.mp hns;exact⟨B5 i ⟨C.mks,h1.at_,h1.fn,C.kp⟩ h4 (hr.mono hk) C.mg h2 h3 (HU hl) hN ha.h hi hx hs hf hg hdb (a7 hn2.1) (eE hn2.2)⟩
theorem uA:Bv X j [] mN:=⟨HP⟩
theorem cO {s:Stmt}{F:En->Rs Fx}(h:QM X j s F):Bv X j [s] F:=⟨HN h.h⟩
theorem cx {s:Stmt}{ss:List Stmt}{F G:En->Rs Fx}(h1:QM X j s F)(h2:Bv X j ss G):Bv X j (s::ss) (gq F G):=⟨FK h1.h h2.h⟩
theorem lG (ha:QX X a ex)(hs:autoParam (KM a none pos.line X.env=pure false) aqd._auto_1):QM X j (.Expr a pos) (rG ex):=⟨m_ex ha.h hs⟩
theorem jE (ha:QX X a ex):QM X j (.Return (some a) pos) (jl ex):=⟨HM ha.h⟩
theorem pA (i:Nat)(hN:X.N.Nodup)(ha:QX X a ex)(hij:autoParam (i≠j) aqb._auto_1)(hi:autoParam (X.N[i]? =some n) aqd._auto_1)(hx:autoParam (Loc X.env.scope n) aqh._auto_1)(hs:autoParam (KM a (some (.Name n p3)) pos.line X.env=pure false) aqd._auto_1)
  (hf:autoParam (X.fn n=true\/X.env.scope.names.lookup n=some .local) aqa._auto_1):QM X j (.Assign [.Name n p3] a pos) (zQ i ex):=⟨m_as i hij hN ha.h hi hx hs hf⟩
theorem sk {t:En->Rs Bool}{A C:List Stmt}{F G:En->Rs Fx}(hc:QT X c t)(ha:Bv X j A F)(hb:Bv X j C G):QM X j (.If c A C pos) (yb t F G):=⟨m_if hc.h ha.h hb.h⟩
theorem yN {s:Stmt}{d:Str}(h:QS X s (xO d)):QM X j s (CT d):=⟨HS h.h⟩
theorem uB (i:Nat)(C:mx X.K X.mg m)(hn:NoAttr X.K (bj X.K m) f)(ha:QA X es fs)(hN:autoParam (X.N[i]? =some n) aqd._auto_1)(hv:autoParam (kK X.env.scope n) aqe._auto_1)
  (hd:autoParam ((n == ("__debug__" : Str))=false) aqb._auto_1) (hcd:autoParam ((n == ("__classdict__" : Str))=false) aqb._auto_1) (hs:autoParam (KM (.List es p4) (some (.Attribute (.Name n p2) f p3)) pos.line X.env=pure false) aqd._auto_1) :
  QM X j (.Assign [.Attribute (.Name n p2) f p3] (.List es p4) pos) (tN i m f fs):=⟨HR i C.cl hn ha.h hN hv hd hcd hs⟩
theorem xJ {suite:List Stmt}{c:Str}{C:Addr}{bm:List J7}{t:T}(hm:X.mg c=some (.ref C))(O:OX X.K C bm)(h:∀e oe,vI (DU X e oe) suite (aK (cn t))):Bc X suite C (rQ c t):=λd D u hd hu=>by
 unfold rQ at hu
 split at hu
 ·rename_i z
  cases hu;subst z;cases hm.symm.trans hd;exact⟨bm,O,by simp,λe oe=>(h e oe).h⟩
 ·cases hu
theorem BG {body suite:List Stmt}{b0:Stmt}{F:En->Rs Fx}{ce:Str}{CE:Addr}{bmE:List J7}{t:T}{np hpos:Pos}(hm:X.mg ce=some (.ref CE))(OE:OX X.K CE bmE)
  (hb:∀pn xe,Bv { X with pn:=pn,xe:=xe } j body F) (hs:∀e oe,vI (DU X e oe) (b0::suite) (aK (Tr.cn t))) (hst:autoParam (X.stack=X.env::X.outer) aqd._auto_1) (hfe:autoParam (X.env.frame=some X.env.locals) aqd._auto_1) (hcl:∀x c,X.env.cells.lookup x≠some c) (hex:autoParam (X.ex= []) aqd._auto_1)
  (hg:autoParam (Gl X ce) aqd._auto_1) (hd:autoParam ((ce == ("__debug__" : Str))=false) aqb._auto_1) :
  QM X j (.Try body [.ExceptHandler (some (.Name ce np)) none (b0::suite) hpos] [] [] pos) (nV F (rQ ce t)):=⟨FJ hst hfe hcl hex hm OE (λpn xe=>(hb pn xe).h) (xJ hm OE hs) hg hd⟩
end
end Tr
namespace L2
open PySem PySem.Spec PyProof.Rows
def Itv (K:J5)(a:Addr)(n:Nat):It:=
 ⟨λi H=>i<n/\∃xs,SqL K H a xs/\xs.length=n,λi H x H'=>H'=H/\∀xs,SqL K H a xs->xs[n - 1 - i]? =some x,λi H=>n<=i⟩
theorem yV {P:KA}{w:K1}{K:J5}{tg:Expr}(a it:Addr)(n:Nat):yC P w K tg (Itv K a n) [it] it (λi h=>i<=n/\h.IsRevIter it a ((n:Int) - 1 - (i:Int))) where
 mem:=by simp
 obj:=λi h st b hb=>by
  have e:b=it:=by simpa using hb
  subst e;obtain⟨_,o,e,c,d⟩:=st;exact⟨o,e,λv z=>by rw[d]at z;cases z⟩
 keep:=λi h h' st k=>⟨st.1,st.2.at λo e=>k it (by simp) o e⟩
 item:=by
  intro X hP hw hK hc i pins s σ H E I hf st hg;subst hP hw hK;obtain⟨hlt,xs,hq,hn⟩:=hg;obtain⟨its,rv,p,hz⟩:=I.list hq
  have hx:xs[n - 1 - i]? =some xs[n - 1 - i]:=Kq (by omega)
  obtain⟨u,hu,ru⟩:=rv.get hx;obtain⟨f0,f1,f2,f3,f4,f5⟩:=hf it (by simp)
  have e1:(n:Int) - 1 - (i:Int)=((n - 1 - i:Nat):Int):=by omega
  have st:=st.2;rw[e1]at st;refine wpAny_pyNext_rev_item st p.isList (x:=u) (by simpa using hu) λh' st' sb=> ?_
  have I1:Inv X pins σ H { s with heap:=h' }:=I.turned (t':=s.toks) (λb o hb e=>(sb.2 b hb).trans e) f0 f1 f3 f4 f5
  have e2:((n - 1 - i:Nat):Int) - 1=(n:Int) - 1 - ((i+1:Nat):Int):=by omega
  rw[e2]at st';obtain⟨o,e,c,d⟩:=id st';exact⟨u,rfl,w4 (s:={ s with heap:=h' }) e c d (by decide) ⟨_,H,I1,ru,⟨rfl,λys hy=>by rw[I.Jx hy hq];exact hx⟩,⟨hlt,st'⟩,λb hb=>(hf b hb).1⟩⟩
 done:=by
  intro X hP hw hK hc i pins s σ H E I hf st hg;subst hP hw hK
  have hg:n<=i:=hg;obtain⟨hle,st⟩:=st
  have hin:i=n:=Nat.le_antisymm hle hg;subst hin;obtain⟨f0,f1,f2,f3,f4,f5⟩:=hf it (by simp)
  have e1:(i:Int) - 1 - (i:Int)= -1:=by omega
  rw[e1]at st;exact wpAny_pyNext_rev_end (I.ok.hd hc) st λh' eb=>⟨rfl,I.turned (t':=s.toks) (λb o hb e=>eb b o hb e) f0 f1 f3 f4 f5⟩
 self:=λ_ _ _ _ _ st h=>O7 st.2 h
end L2
namespace Tr
open PySem PySem.Spec PyProof.Rows L2
section
variable {X:Cx}{a:Expr}{fs:En->Rs (List T)}{p pos:Pos}
theorem pk:KQ "reversed" =some (.type "reversed"):=by decide+kernel
theorem EU {tg:Expr}(hm:X.mg "reversed" =none)(ha:pv X [a] fs)(hg:autoParam (Gl X "reversed") aqd._auto_1)(hs:autoParam (Kn [a] X.env= [(false,eval a X.env)]) aqd._auto_1):Bg X tg (.Call (.Name "reversed" p) [a] [] pos) (Ap fs):=by
 intro pins s σ H R I ⟨Z,O,E,h⟩
 have h1:=fw E h;refine Call_ (gC I hg hm pk (Lb (bN (ha pos pins s σ H _ I h1) λus s1 ⟨vs,H1,I1,r1,ts,rs,s',E',q1⟩=> ?_) hs rfl))
 split at q1
 ·rename_i l
  obtain⟨v,rfl,r⟩:=rs.one;obtain⟨b,ws,rfl,n,q,z⟩:=Rep.Do.mp r;obtain⟨u,rfl,ru⟩:=jo r1;cases ru;obtain⟨its,rv,pl,hz⟩:=I1.list (SqL.of q);refine call_reversed_list pl.isList ?_
  have hl1:its.length=ws.length:=rv.length.symm
  have hl2:l.length=ws.length:=z.length
  have hit:(s1.heap.push (revObj b ((its.toArray.size:Int) - 1))).IsRevIter s1.heap.objs.size b ((ws.length:Int) - 1 - ((0:Nat):Int)):=by
   refine⟨_,Kw _ rfl,rfl,?_⟩
   show QK #[.ref b,rawInt ((its.toArray.size:Int) - 1)] =_
   rw[Ko,hl1];simp
  refine O7 (s:={ s1 with heap:=s1.heap.push (revObj b ((its.toArray.size:Int) - 1)) }) hit ?_
  refine⟨s1.heap.objs.size,[s1.heap.objs.size],_,_,H1,rfl,I1.kept (t':=s1.toks) λb o e=>Kg _ e,yV b _ ws.length,⟨LP _,hit⟩,λc hb=> ?_,?_⟩
  ·have e:c=s1.heap.objs.size:=by simpa using hb
   subst e;exact I1.JD (Kj _) (I1.hok.fresh (Kj _))
  ·refine q1 H1 (Same.refl H1) _ λP O' hP hO i Hc hs ht=> ?_
   have hnP:¬ P b:=λw=>(hP b w).elim n λw=>by rw[w.1]at q;cases q
   have hc:=hs _ _ q hnP;refine⟨λhi=> ?_,λt ht'=> ?_⟩
   ·rw[List.length_reverse,hl2]at hi
    exact hi
   ·have hi:i<l.length:=by have:=(Ki.mp ht').1;simpa using this
    rw[List.getElem?_reverse hi,show l.length - 1 - i=ws.length - 1 - i by omega]at ht'
    obtain⟨v,e1,e2⟩:=z.get ht';refine⟨⟨by omega,ws,SqL.of hc,rfl⟩,λx Hc' y=> ?_⟩
    obtain⟨e,y⟩:=y;subst e
    have:=y ws (SqL.of hc);rw[e1]at this;cases this;exact⟨Same.refl _,e2.move hP hO hs⟩
 ·exact q1.elim
theorem BD {tg:Expr}(hm:X.mg "reversed" =none)(ha:QA X [a] fs)(hn:autoParam (a9 a=true) aqd._auto_1)(hg:autoParam (Gl X "reversed") aqd._auto_1):QI X tg (.Call (.Name "reversed" p) [a] [] pos) (Ap fs):=⟨EU hm ha.h hg (a7 hn)⟩
end
def PostN (X:Cx)(B P:Ow)(H:Hp)(r:Rs (T ⊕ OT))(D:kL):Prop:=match r with
 | .ok (.inl t)=> ∀v H',SameO P H H'->Rep X.K B H' t v->D.rt v H'
 | .ok (.inr o)=> ∀v H' m,SameO P H H'->ORep X.K (BM B m) m H' o v->(∀a,m a->P a\/Nw X.K H a)->D.rt v H'
 | .err c=>XA X jX H c
 | .bad=>False
def tPN (X:Cx)(F:En->Rs (T ⊕ OT)):TS:=λD σ H=> ∃Z B M,Ev X.K B M H Z σ/\PostN X B M.u H (F Z) D
abbrev PNt (X:Cx)(s:Stmt)(F:En->Rs (T ⊕ OT)):Prop:=PS X s (tPN X F)
abbrev IT (X:Cx)(s:List Stmt)(F:En->Rs (T ⊕ OT)):Prop:=PSs X s (tPN X F)
section
variable {X:Cx}{pins:List (Addr×Obj)}{σ:L2.St}{H:Hp}{s:J9}{Q:VK}{us:List J7}{vs:List V}{ts:List T}{B O:Ow}{k n:Nat}{f:Addr}{fd:KY}{ps:List Str}{g:List Sl->Rs (T×OT)}{c:Str}
theorem HJ {st:Stmt}{F:En->Rs (T ⊕ OT)}(h:PNt X st F):IT X [st] F:=qL h
end
def spS (K:J5)(n:Nat)(g:List T->Rs (T ⊕ OT)):Sp:=λvs H Q _=> ∃ts O,Reps K O H ts vs/\(∀a,O a->Mtb H a)/\ts.length=n ∧
 match g ts with
 | .ok (.inl t)=> ∀v H',Same H H'->Rep K O H' t v->Q v H'
 | .ok (.inr o)=> ∀v H' m,Same H H'->ORep K (BM O m) m H' o v->(∀a,m a->Nw K H a)->Q v H'
 | _=>False
def FnXS (P:KA)(w:K1)(K:J5)(mg:Str->Option J7)(base:Heap)(k:Nat)(f:Addr)(fd:KY)(ps:List Str)(n:Nat)(g:List T->Rs (T ⊕ OT)):Prop:=
 ∀(A:KP) (outer:List Env) (s:J9) (H:Hp) (args:Args) (us:List J7) (vs:List V) (O:Ow) (ts:List T) (c:Str) (R:Qj->J9->Prop),Room k A->Env0 P w K mg base A outer s H->Oe s fd args (ps.zip us)->Vals vs us →
  Reps K O H ts vs->(∀a,O a->Mtb H a)->ts.length=n->g ts= .err c->(∀ev s',Jg P w mg outer H s c ev s'->R (.error ev) s')->codeAny (model P w) A (.call (.ref f) args) R s
structure FnS (P:KA)(w:K1)(K:J5)(mg:Str->Option J7)(base:Heap)(k:Nat)(f:Addr)(fd:KY)(ps:List Str)(n:Nat)(g:List T->Rs (T ⊕ OT)):Prop where
 h:FnOk P w K mg base CX0 k f fd ps (spS K n g)
 x:FnXS P w K mg base k f fd ps n g
section
variable {P:KA}{w:K1}{K:J5}{mg:Str->Option J7}{base:Heap}
theorem Ga {x qual:Str}{st:Stmt}{f:Addr}{fd:KY}{N ps:List Str}{k n:Nat}{F:En->Rs (T ⊕ OT)}(Fn:L2.Fun K x qual st f fd)(S:ay N ps (ai st))(hn:ps.length=n)
  (hbody:∀(cdv:J7) (A:KP) (outer:List Env) (s:J9) (H:Hp) (E:XK),Room k (A.deeper (envOfC qual (ai st) s.heap.objs.size f cdv)) →
   ∀xe,IT ((fm CX0 P w K mg base N qual (ai st) f cdv A outer s H E).FB xe) (bu st) F):FnS P w K mg base (k+1) f fd ps n (xG n N.length F):=by
 have hpl:ps.length<=N.length:=by have:=congrArg LQ S.pre;rw[Lh]at this;omega
 have no:∀a,¬noM.u a:=λa ⟨_,z⟩=>z
 refine⟨Fn.ok S (λvs H Q E h=> ?_) (λcdv A outer s H vs Q E hr h=> ?_),λA outer s H args us vs O ts c R hr e0 hb r rs mt hl hg hR=> ?_⟩
 ·obtain⟨ts,O,r,_,hl,_⟩:=h
  rw[<-r.length,hl,hn]
 ·obtain⟨ts,O,r,trk,hl,h⟩:=h
  refine⟨_,hbody cdv A outer s H E hr _,aI N.length ts,O,noM,i7 r (by omega) trk,?_⟩
  unfold xG at h;rw[if_pos hl]at h
  cases q:F (aI N.length ts)with
  | bad=>rw[q]at h;exact h.elim
  | err c=>rw[q]at h;exact h.elim
  | ok z=>
   rw[q]at h
   cases z with
   | inl t=>exact λv H' s' r'=>h v H' (λb o e=>s' b o e (no b)) r'
   | inr o=>exact λv H' m s' ro hm=>h v H' m (λb o e=>s' b o e (no b)) ro λa z=>(hm a z).elim (λw=>(no a w).elim) id
 ·refine w9 Fn S hr e0 hb r (by rw[<-rs.length,hl,hn]) hR λcdv hr' xe=>⟨_,hbody cdv A outer s H E0 hr' xe,λxa=>⟨aI N.length ts,O,noM,i7 rs (by omega) mt,?_⟩⟩
  unfold xG at hg;rw[if_pos hl]at hg;rw[hg];exact xa
end
structure QN (X:Cx)(e:Stmt)(f:En->Rs (T ⊕ OT)):Prop where
 h:PNt X e f
structure Ji (X:Cx)(e:List Stmt)(f:En->Rs (T ⊕ OT)):Prop where
 h:IT X e f
section
variable {X:Cx}{e:Expr}{es:List Expr}{fs:En->Rs (List T)}{pos p p3 spos:Pos}{x n m:Str}{k k' l:Nat}{g:List T->Rs (T ⊕ OT)}{ge:List Sl->Rs (T×OT)}
theorem Ed {s:Stmt}{F:En->Rs (T ⊕ OT)}(h:QN X s F):Ji X [s] F:=⟨HJ h.h⟩
end
def Em (X:Cx)(j:Nat)(g:T->En->Rs En):TG:=λv σ H Q=> ∃Z O M t,EnvM X.K O M H Z σ/\Rep X.K O H t v/\match g t Z with
 | .ok Z'=> ∀σ',EnvM X.K O M H Z' σ'->σ'[j]? =σ[j]?->Q σ' H
 | _=>False
section
variable {X:Cx}{j:Nat}{e a:Expr}{es:List Expr}{pos:Pos}{x:Str}{fa:En->Rs T}
theorem C3 (i:Nat)(hN:X.N.Nodup)(hij:i≠j)(hi:X.N[i]? =some x)(hx:Loc X.env.scope x)(hf:X.fn x=true\/X.env.scope.names.lookup x=some .local):PG X (.Name x pos) (Em X j (gN i)):=
 PG.imp (wb hN hi hx hf) λv σ H Q hh_=>by
  obtain⟨Z,O,M,t,E,r,h⟩:=hh_;unfold gN at h
  split at h
  ·rename_i Z' e
   split at e
   ·rename_i hl
    cases e;exact h _ (E.set hl r) (Kv hij)
   ·cases e
  ·exact h.elim
end
structure QJ (X:Cx)(j:Nat)(e:Expr)(g:T->En->Rs En):Prop where
 h:PG X e (Em X j g)
section
variable {X:Cx}{j:Nat}{e a:Expr}{es:List Expr}{pos:Pos}{x:Str}{fa:En->Rs T}
theorem BH (i:Nat)(hN:X.N.Nodup)(hij:autoParam (i≠j) aqb._auto_1)(hi:autoParam (X.N[i]? =some x) aqd._auto_1)(hx:autoParam (Loc X.env.scope x) aqh._auto_1)(hf:autoParam (X.fn x=true\/X.env.scope.names.lookup x=some .local) aqa._auto_1):QJ X j (.Name x pos) (gN i):=⟨C3 i hN hij hi hx hf⟩
end
section
variable {X:Cx}{a:Expr}{fa:En->Rs T}{pos p p2 p3 p4:Pos}
theorem B6 (i:Nat){n c f:Str}(hc:Cls X.K (bj X.K c))(hn:NoAttr X.K (bj X.K c) f)(hm:X.mg "list" =none)(ha:b6 X a fa)(hN:X.N[i]? =some n)(hv:kK X.env.scope n)(hd:(n == ("__debug__" : Str))=false)(hcd:(n == ("__classdict__" : Str))=false)(hg:Gl X "list")(hns:a9 a=true)
  (hs:KM (.Call (.Name "list" p) [a] [] p4) (some (.Attribute (.Name n p2) f p3)) pos.line X.env=pure false) :
  lE X (.Assign [.Attribute (.Name n p2) f p3] (.Call (.Name "list" p) [a] [] p4) pos) (m6 i c f fa):=by
 have h1:Kn [a] X.env=(false,eval a X.env)::Kn [] X.env:=a7 hns;refine PS.imp (zl (dY hN hv hd hcd) (xU um hg hm (show KQ "list" =some (.type "list")by decide+kernel) (d9 ha iw h1) (by decide) (by decide) h1 rfl) hs) λD σ H ⟨Z,B,M,E,h⟩=> ?_
 unfold m6 at h
 split at h
 ·rename_i c' ns ls hi
  refine⟨Z,OO B M,E.o,?_⟩
  cases z:fa Z with
  | bad=>rw[z]at h;exact h.elim
  | err c=>rw[z]at h;exact PostF.xa h
  | ok t=>
   rw[z,az]at h
   split at h
   ·rename_i l
    split at h
    ·rename_i hcc
     obtain⟨h1,h3⟩:=hcc;subst h1;intro H1 s1 v r;obtain⟨d0,vs,rfl,nO,hc0,rs⟩:=Rep.Do.mp r;refine⟨d0,vs,rfl,SqL.of hc0,λb hb=> ?_⟩
     have E1:=E.same s1;obtain⟨v0,s0,p,dx,as,e1,e2,⟨n1,n2,n3,n4⟩,e4,e5,e6,e7,e8⟩:=E1.env.own i _ hi;subst e1
     have nb:∀{d:Addr} {o:HO},H1 d=some o->d≠b:=λe z=>by rw[z,hb.1]at e;cases e
     have mb:∀a,M i a->a≠b:=λa w=>nb (E1.env.trk a (.inr ⟨i,w⟩)).some.choose_spec
     have pb:p≠b:=nb e4
     have hbas:b∉as:=λw=>mb b ((e2 b).mpr (.inr (.inr w))) rfl
     have sm1:Same H1 (upd H1 b (.lst vs)):=a8 hb.1 _;refine⟨_,s0,p,_,dx,_,rfl,sm1 _ _ e4,hc,hn,by rw[QY,Kc,<-e6];simpa using h3,?_⟩
     have key:∀(ns':List Str) (as':List Addr) (ls':List (List T)),putF f (.ref b) (ns.zip (as.map V.ref))=ns'.zip (as'.map V.ref)->ns'.length=as'.length->ns'.Nodup->as'.Nodup->(∀a,a∈as'->a=b\/a∈as) →
       (∀{O:Ow} {H:Hp},H b=some (.lst vs)->Reps X.K O H l vs->LsR X.K O H ls as->LsR X.K O H ls' as')->PostF X B M.u H (.ok (.nx (Z.set i (.ow (.ob c' ns' ls'))))) D->D.nx σ (upd (upd H1 b (.lst vs)) p (.ins (bj X.K c') dx (putF f (.ref b) (ns.zip (as.map V.ref))))):=λns' as' ls' k1 k2 k3 k4 k5 k6 k7=>by
      rw[k1]
      generalize hm:(λa=>a=p\/a=dx\/a∈as':Ow)=m
      have hsub:∀a,m a->M i a\/Nw X.K H1 a:=λa w=>by
       subst hm;rcases w with w | w | w
       ·exact .inl ((e2 a).mpr (.inl w))
       ·exact .inl ((e2 a).mpr (.inr (.inl w)))
       ·exact(k5 a w).elim (λy=> .inr (y▸hb)) λy=> .inl ((e2 a).mpr (.inr (.inr y)))
      have hO:∀a,OO B (M.set i m) a->OO B M a\/Nw X.K H1 a:=λa w=>w.elim (λy=> .inl (.inl y)) λy=>(Mn.GM y).elim (λq=>(hsub a q).imp_left λt=> .inr ⟨i,t⟩) λq=> .inl (.inr q)
      have sm2:SameO (λa=>a=p) (upd H1 b (.lst vs)) (upd (upd H1 b (.lst vs)) p (.ins (bj X.K c') dx (ns'.zip (as'.map V.ref)))):=λd o e ne=>by rw[aE ne];exact e
      have smi:SameO (M i) H1 (upd (upd H1 b (.lst vs)) p (.ins (bj X.K c') dx (ns'.zip (as'.map V.ref)))):=λd o e ne=>sm2 d o (sm1 _ _ e) λw=>ne ((e2 d).mpr (.inl w))
      have nin:∀a∈as',a≠p:=λa ha w=>(k5 a ha).elim (λy=>pb (w▸y)) λy=>n1 (w▸y)
      have rp:∀{t:List T} {ws:List V},Reps X.K (OO B M) H1 t ws->Reps X.K (OO B (M.set i m)) (upd (upd H1 b (.lst vs)) p (.ins (bj X.K c') dx (ns'.zip (as'.map V.ref)))) t ws:=λr=>r.move (P:=M i) (λa w=> .inl (.inr ⟨i,w⟩)) hO smi
      have smp:SameO (λa=>a=p) H1 (upd (upd H1 b (.lst vs)) p (.ins (bj X.K c') dx (ns'.zip (as'.map V.ref)))):=λd o e ne=>sm2 d o (sm1 _ _ e) ne
      have fin:=k6 (O:=OO B (M.set i m)) (H:=upd (upd H1 b (.lst vs)) p (.ins (bj X.K c') dx (ns'.zip (as'.map V.ref)))) (by rw[aE (Mv pb)];exact aO) (rp rs) (e8.move (P:=λa=>a=p) (λa w=> .inl (.inr ⟨i,(e2 a).mpr (.inl w)⟩)) hO smp λd hd w=>n1 (w▸hd))
      have ndx:dx∉as':=λw=>(k5 dx w).elim (nb e5) n2
      obtain⟨g1,g2,g3⟩:=E1.back (m:=m) (o':=.ob c' ns' ls') hi s0 smi ⟨p,dx,as',rfl,λd=>by subst hm;exact MN,⟨λw=>nin p w rfl,ndx,n3,k4⟩,aO,by rw[aE n3];exact sm1 _ _ e5,k2,k3,fin⟩ hsub
      exact k7 σ _ _ (λd o e ne=>g2 d o (s1 _ _ e) ne) g1 (λa w=>(g3 a w).imp_right (i9 s1))
     cases hf:ns.contains f with
     | true=>
      rw[hf,if_pos rfl]at h;obtain⟨as1,d,as2,q1,q2,q3⟩:=kQ (K:=X.K) (f:=f) (b:=b) e6 hf;subst q1;refine key ns (as1++b::as2) (fY f l ns ls) q2 (by rw[e6];simp) e7 ?_ (λa w=> ?_) (λa1 a2 a3=>q3 a1 a2 a3) h
      ·rw[K5]at n4 ⊢
       obtain⟨m1,m2,m3⟩:=n4
       have nb1:b∉as1:=λw=>hbas (KD _ w)
       have nb2:b∉as2:=λw=>hbas (Kr _ (J6 _ w))
       refine⟨m1,KJ.mpr ⟨nb2,(KJ.mp m2).2⟩,λu hu w hw=> ?_⟩
       rcases Kf.mp hw with hw | hw
       ·exact λy=>nb1 (by rw[<-hw,<-y];exact hu)
       ·exact m3 u hu w (J6 _ hw)
      ·rcases Ky.mp w with w | w
       ·exact .inr (KD _ w)
       ·rcases Kf.mp w with w | w
        ·exact .inl w
        ·exact .inr (Kr _ (J6 _ w))
     | false=>
      rw[hf,if_neg Kt]at h;refine key (ns++ [f]) (as++ [b]) (ls++ [l]) (qI e6 hf) (by simp[e6]) ?_ ?_ (λa w=> ?_) (λa1 a2 a3=>LsR.app a1 a2 a3) h
      ·rw[K5]
       refine⟨e7,by simp,λu hu w hw y=> ?_⟩
       rw[Km.mp hw]at y
       have:ns.contains f=true:=by rw[OI,<-y];exact hu
       rw[hf]at this;cases this
      ·rw[K5]
       exact⟨n4,by simp,λu hu w hw y=>hbas (by rw[<-Km.mp hw,<-y];exact hu)⟩
      ·rcases Ky.mp w with w | w
       ·exact .inr w
       ·exact .inl (Km.mp w)
    ·exact h.elim
   ·exact h.elim
 ·exact h.elim
theorem PostN.later {B P P1:Ow}{H H1:Hp}{r:Rs (T ⊕ OT)}{D:kL}(h:PostN X B P H (nJ r) D)(s:SameO P H H1)(sub:∀a,P1 a->P a\/Nw X.K H a):PostN X B P1 H1 r D:=by
 have back:∀a,P1 a\/Nw X.K H1 a->P a\/Nw X.K H a:=λa z=>z.elim (sub a) (dk s)
 cases r with
 | bad=>exact h
 | err c=>exact h.elim
 | ok q=>
  cases q with
  | inl t=>exact λv H' s' r=>h v H' (s.trans s' sub) r
  | inr o=>exact λv H' m s' ro hm=>h v H' m (s.trans s' sub) ro λa z=>back a (hm a z)
theorem FH {st:Stmt}{bA:List Stmt}{F:En->Rs Fl}{G:En->Rs (T ⊕ OT)}(h1:lE X st F)(h2:IT X bA G):IT X (st::bA) (DH F G):=PSs.imp (ng h1 h2) λD σ H hh_=>by
 obtain⟨Z,B,M,E,h⟩:=hh_;refine⟨Z,B,M,E,?_⟩
 unfold DH at h
 cases q:F Z with
 | bad=>rw[q]at h;exact h.elim
 | err c=>rw[q]at h;exact h.elim
 | ok f=>
  rw[q]at h
  cases f with
  | nx Z'=>exact λσ' H' M' s' E' o'=>⟨Z',B,M',E',PostN.later h s' o'⟩
  | _=>exact h.elim
theorem FG (i:Nat){n:Str}(hN:X.N[i]? =some n)(hv:kK X.env.scope n)(hd:(n == ("__debug__" : Str))=false)(hcd:(n == ("__classdict__" : Str))=false):PNt X (.Return (some (.Name n p)) pos) (wy i):=PS.imp (uQ (dY hN hv hd hcd)) λD σ H hh_=>by
 obtain⟨Z,B,M,E,h⟩:=hh_;unfold wy at h
 split at h
 ·rename_i o hi
  obtain⟨v0,s0,r⟩:=E.env.own i _ hi;refine⟨v0,s0,?_⟩
  have h':∀v H' m,SameO M.u H H'->ORep X.K (BM B m) m H' o v->(∀a,m a->M.u a\/Nw X.K H a)->D.rt v H':=h;exact h' v0 H (M i) (λ_ _ e _=>e) (r.move (P:=jX) (λ_ z=>z.elim) (λa z=> .inl (z.elim .inl λw=> .inr ⟨i,w⟩)) (λb u q _=>q) λ_ _ z=>z) λa z=> .inl ⟨i,z⟩
 ·exact h.elim
end
theorem LsR.lend {K:J5}{O O':Ow}{H:Hp}(hk:∀a,O a->O' a\/LO H a):∀{ls:List (List T)} {as:List Addr},ls.all (nks false)=true->LsR K O' H ls as->LsR K O H ls as
 | [],_,_,r=>r
 | l::ls,_,h,⟨b,bs,vs,e1,e2,e3,e4⟩=>by
  rw[N8,J8]at h;exact⟨b,bs,vs,e1,e2,Reps.lend (D:=false) (λa z=>(hk a z).imp_right λw=>by rw[if_neg Kt];exact w) h.1 e3,LsR.lend hk h.2 e4⟩
theorem ORep.lend {K:J5}{O O' m:Ow}{H:Hp}{o:OT}{v:V}(hk:∀a,O a->O' a\/LO H a)(h:o.nkL=true)(r:ORep K O' m H o v):ORep K O m H o v:=by
 cases o with
 | ob C ns ls=>
  obtain⟨a,dx,as,e1,e2,e3,e4,e5,e6,e7,e8⟩:=r
  exact⟨a,dx,as,e1,e2,e3,e4,e5,e6,e7,e8.lend hk h⟩
 | _=>cases h
section
variable {X:Cx}{pos p2 p3 apos spos:Pos}{n y c m:Str}{k:Nat}{f:Addr}{fd:KY}{ps:List Str}{g:List T->Rs (T ⊕ OT)}
theorem EH {pl:Sem Bool}(i j:Nat)(hc:Cls X.K (bj X.K c))(hm:pw X.K (bj X.K c) m f)(F:FnS X.prog X.w X.K X.mg X.base k f fd ps 1 g)(hr:Room k X.A)(hb:Binds X.K fd ps [])(hps:ps.length=1)(hN:X.N.Nodup)
  (hi:X.N[i]? =some n) (hx:Loc X.env.scope n) (hj:X.N[j]? =some y) (hv:kK X.env.scope y) (hd:(y == ("__debug__" : Str))=false) (hcd:(y == ("__classdict__" : Str))=false)
  (hs:KM (.Call (.Attribute (.Name y p2) m apos) [] [] pos) (some (.Name n p3)) spos.line X.env=pure false) (hf:X.fn n=true\/X.env.scope.names.lookup n=some .local)
  (ht:eval (.Call (.Attribute (.Name y p2) m apos) [] [] pos) X.env=(do
   let ov <-eval (.Name y p2) X.env
   standAt apos.atName
   let (f,first) <-holding [ov] (MU ov m pl)
   Og pos f first (backTo pos (Kn [] X.env)) (M8 pos (L4 [] X.env)))) :
  lE X (.Assign [.Name n p3] (.Call (.Attribute (.Name y p2) m apos) [] [] pos) spos) (uN i j c m g):=by
 let te:TE:=λσ H Q=> ∃Z B M ns ls o,Ev X.K B M H Z σ/\Z[j]? =some (.ow (.ob c ns ls))/\ns.contains m=false/\g [.ob c ns (ls.map T.lst)] = .ok (.inr o)/\∀v H' m',Same H H'->ORep X.K (BM (BC B M j) m') m' H' o v->(∀a,m' a->Nw X.K H a)->Q v H'
 have pe:PE X (.Call (.Attribute (.Name y p2) m apos) [] [] pos) te:=by
  intro pins s σ H Q I ⟨Z,B,M,ns,ls,o,E,hj1,h2,hgo,hq⟩;obtain⟨v0,s0,r0⟩:=E.env.own j _ hj1;refine Mu (pl:=pl) (bN (dY hj hv hd hcd pins s σ H (λv H1=>v=v0/\H1=H) I ⟨v0,s0,rfl,rfl⟩) λu s1 ⟨v,H1,I1,rx,e1,e2⟩=> ?_) ht
  subst e1;subst e2
  have r:=r0.rep (O':=BC B M j) (λa z=>z.1) (λa z w=>w.2 z)
  obtain⟨p,dx,fs',rfl,nn,e3,e4,e5⟩:=Rep.Ju.mp r;obtain rfl:u= .ref p:=rx;refine gE I1 e3 hc hm (kC (by rw[e4];exact h2)) ?_
  refine Nt (first:=[.ref p]) I1.kIn hm.kp (qE (E:=E0) (dvs:=[]) (ds:=[]) (us:=[.ref p]) (vs:=[.ref p]) F.h hr hb .nil sV I1 (.cons rfl .nil) ⟨[.ob c ns (ls.map T.lst)],BC B M j,Reps.FS r Reps.Gc,λa z=>E.env.trk a z.1,rfl,?_⟩)
  rw[hgo];exact λv H' m' s' ro hm'=>hq v H' m' s' ro hm'
 refine PS.imp (kR hN hi hx pe hs hf) λD σ H ⟨Z,B,M,E,h⟩=> ?_
 unfold uN at h
 split at h
 ·rename_i c' ns ls hj1
  split at h
  ·rename_i hcc
   obtain⟨h1,h2,hl⟩:=hcc;subst h1
   split at h
   ·rename_i o hgo
    split at h
    ·rename_i hnk
     refine⟨Z,B,M,ns,ls,o,E,hj1,h2,hgo,λv H' m' s' ro hm'=> ?_⟩
     obtain⟨v0,s0,r0⟩:=E.env.own j _ hj1
     have kd:=(r0.same s').kind
     have ro2:ORep X.K (OO B (M.set i m')) m' H' o v:=ro.lend (λa z=>by
      rcases z with w | w
      ·by_cases hm1:M j a
       ·exact .inr (by have h7:=kd a hm1;rw[show(OT.ob c' ns ls).isD=false from rfl,if_neg Kt]at h7;exact h7)
       ·exact .inl (.inl ⟨.inl w,hm1⟩)
      ·rcases Mn.GM w with w | w
       ·exact .inl (.inr w)
       ·by_cases hm1:M j a
        ·exact .inr (by have h7:=kd a hm1;rw[show(OT.ob c' ns ls).isD=false from rfl,if_neg Kt]at h7;exact h7)
        ·exact .inl (.inl ⟨.inr w,hm1⟩)) hnk
     obtain⟨E2,sub⟩:=E.new (m:=m') (o:=o) (v:=v) hl hm' s' ro2;exact h _ _ _ (SameO.of s') E2 sub
    ·exact h.elim
   ·exact h.elim
  ·exact h.elim
 ·exact h.elim
end
structure Jl (P:KA)(w:K1)(K:J5)(mg:Str->Option J7)(base:Heap)(k:Nat)(c m:Str)(g:List T->Rs (T ⊕ OT)):Prop where
 ex:∃f fd ps,pw K (bj K c) m f/\Binds K fd ps []/\ps.length=1/\FnS P w K mg base k f fd ps 1 g
theorem HK {P:KA}{w:K1}{K:J5}{mg:Str->Option J7}{base:Heap}{c m q:Str}{st:Stmt}{N ps:List Str}{k:Nat}{F:En->Rs (T ⊕ OT)}(H:jW K c m q st ps)(S:ay N ps (ai st))(hn:ps.length=1)
  (hbody:∀(f:Addr) (cdv:J7) (A:KP) (outer:List Env) (s:J9) (H:Hp) (E:XK),Room k (A.deeper (envOfC q (ai st) s.heap.objs.size f cdv)) →
   ∀xe,Ji ((fm CX0 P w K mg base N q (ai st) f cdv A outer s H E).FB xe) (bu st) F):Jl P w K mg base (k+1) c m (xG 1 N.length F):=by
 obtain⟨f,fd,h1,h2,h3⟩:=H;exact⟨f,fd,ps,h1,h3,hn,Ga h2 S hn λcdv A outer s H E hr xe=>(hbody f cdv A outer s H E hr xe).h⟩
section
variable {X:Cx}{a:Expr}{fa:En->Rs T}{pos p p2 p3 p4 apos spos:Pos}{n y c m f:Str}{k k':Nat}{g:List T->Rs (T ⊕ OT)}
theorem sh (i:Nat)(C:mx X.K X.mg m)(hn:NoAttr X.K (bj X.K m) f)(hm:X.mg "list" =none)(ha:QE X a fa)(hN:autoParam (X.N[i]? =some n) aqd._auto_1)(hv:autoParam (kK X.env.scope n) aqe._auto_1)(hd:autoParam ((n == ("__debug__" : Str))=false) aqb._auto_1)(hcd:autoParam ((n == ("__classdict__" : Str))=false) aqb._auto_1)(hg:autoParam (Gl X "list") aqd._auto_1)(hns:autoParam (a9 a=true) aqd._auto_1)
  (hs:autoParam (KM (.Call (.Name "list" p) [a] [] p4) (some (.Attribute (.Name n p2) f p3)) pos.line X.env=pure false) aqd._auto_1) :
  QS X (.Assign [.Attribute (.Name n p2) f p3] (.Call (.Name "list" p) [a] [] p4) pos) (m6 i m f fa):=⟨B6 i C.cl hn hm ha.h hN hv hd hcd hg hns hs⟩
theorem qj {st:Stmt}{bA:List Stmt}{F:En->Rs Fl}{G:En->Rs (T ⊕ OT)}(h1:QS X st F)(h2:Ji X bA G):Ji X (st::bA) (DH F G):=⟨FH h1.h h2.h⟩
theorem BF (i:Nat)(hN:autoParam (X.N[i]? =some n) aqd._auto_1)(hv:autoParam (kK X.env.scope n) aqe._auto_1)(hd:autoParam ((n == ("__debug__" : Str))=false) aqb._auto_1)(hcd:autoParam ((n == ("__classdict__" : Str))=false) aqb._auto_1):QN X (.Return (some (.Name n p)) pos) (wy i):=⟨FG i hN hv hd hcd⟩
theorem vO {pl:Sem Bool}(i j:Nat)(hN:X.N.Nodup)(C:mx X.K X.mg c)(M:Jl X.prog X.w X.K X.mg X.base k c m g)(hr:Room k' X.A)(hk:autoParam (k<=k') aqb._auto_1)
  (hi:autoParam (X.N[i]? =some n) aqd._auto_1) (hx:autoParam (Loc X.env.scope n) aqh._auto_1) (hj:autoParam (X.N[j]? =some y) aqd._auto_1) (hv:autoParam (kK X.env.scope y) aqe._auto_1) (hd:autoParam ((y == ("__debug__" : Str))=false) aqb._auto_1) (hcd:autoParam ((y == ("__classdict__" : Str))=false) aqb._auto_1)
  (hs:autoParam (KM (.Call (.Attribute (.Name y p2) m apos) [] [] pos) (some (.Name n p3)) spos.line X.env=pure false) aqd._auto_1) (hf:autoParam (X.fn n=true\/X.env.scope.names.lookup n=some .local) aqa._auto_1)
  (ht:eval (.Call (.Attribute (.Name y p2) m apos) [] [] pos) X.env=(do
   let ov <-eval (.Name y p2) X.env
   standAt apos.atName
   let (f,first) <-holding [ov] (MU ov m pl)
   Og pos f first (backTo pos (Kn [] X.env)) (M8 pos (L4 [] X.env))):=by rfl) :
  QS X (.Assign [.Name n p3] (.Call (.Attribute (.Name y p2) m apos) [] [] pos) spos) (uN i j c m g):=by
 obtain⟨f,fd,ps,h1,h2,h3,h5⟩:=M.ex;exact⟨EH i j C.cl h1 (FnS.mk (h5.h.mono hk) λA outer s H args us vs O ts c R hr=>h5.x A outer s H args us vs O ts c R (hr.mono hk)) hr h2 h3 hN hi hx hj hv hd hcd hs hf ht⟩
end
section
variable {X:Cx}{j:Nat}{pos:Pos}
theorem HQ {tg iter:Expr}{body:List Stmt}{fi:En->Rs (List T)}{g:T->En->Rs En}{F:En->Rs Fx}(hc:X.calm=true)(hi:Bg X tg iter fi)(hg:PG X.nox tg (Em X.nox j g))(hb:Bf X.nox j body F)
  (hs:∀x,K6 iter X.env x=pure x):Be X j (.For tg iter body [] pos) (yc fi g F):=PS.imp (v9 hc hi hg hb hs) λD σ H hh_=>by
 obtain⟨Z,B,M,E,h⟩:=hh_;refine⟨Z,OO B M,E.o,?_⟩
 unfold yc at h
 cases q:fi Z with
 | bad=>rw[q]at h;exact h.elim
 | err c=>rw[q]at h;exact h
 | ok ts=>
  rw[q,az]at h
  cases qq:gX g F ts Z with
  | bad=>rw[qq]at h;exact h.elim
  | err c=>rw[qq]at h;exact h.elim
  | ok fin=>
  rw[qq]at h;intro H1 s1 J hJ
  have E1:Ev X.K B M H1 Z σ:=E.same s1
  have h1:PostM X B M.u j σ H1 (.ok (.nx fin)) D:=PostM.same h s1
  refine⟨λi m σ' H'=>m=ts.length - i/\i<=ts.length/\SameO M.u H1 H'/\σ'[j]? =σ[j]?/\∃Z' M',Ev X.K B M' H' Z' σ'/\(∀a,M'.u a->M.u a\/Nw X.K H1 a)/\gX g F (ts.drop i) Z'= .ok fin,
   ⟨ts.length,by omega,LP _,λ_ _ e _=>e,rfl,Z,M,E1,λa z=> .inl z,by simpa using qq⟩,?_⟩
  rintro i m σ' H' ⟨rfl,hi',sm,kj,Z',M',E',ow,hl⟩
  have it:=hJ M.u (OO B M') (λa z=> .inl (.inr z)) (λa z=>z.elim (λw=> .inl (.inl w)) λw=>(ow a w).elim (λy=> .inl (.inr y)) .inr) i H' sm (λa z=>(E'.env.trk a z).some)
  by_cases hlt:i<ts.length
  ·have hti:ts[i]? =some ts[i]:=by simp
   obtain⟨go,yl⟩:=it.2 ts[i] hti;rw[L0 hlt]at hl;unfold gX at hl;refine .inr ⟨go,λσ2 H2=> ∃m',m'<ts.length - i/\(m'=ts.length - (i+1)/\i+1<=ts.length/\SameO M.u H1 H2/\σ2[j]? =σ[j]?/\∃Z2 M2,Ev X.K B M2 H2 Z2 σ2/\(∀a,M2.u a->M.u a\/Nw X.K H1 a)/\gX g F (ts.drop (i+1)) Z2= .ok fin),λσ2 H2 z=>z,λx Hc y=> ?_⟩
   obtain⟨sc,rx⟩:=yl x Hc y;refine⟨Z',OO B M',M',ts[i],E'.env.same sc,rx,?_⟩
   cases e1:g ts[i] Z' with
   | bad=>rw[e1]at hl;cases hl
   | err cc=>rw[e1]at hl;cases hl
   | ok Z1=>
    rw[e1]at hl
    dsimp only at hl
    intro σ1 Eg k1
    have E2:Ev X.K B M' Hc Z1 σ1:=⟨Eg,E'.mine⟩;refine⟨Z1,B,M',E2,?_⟩
    have smc:SameO M.u H1 Hc:=λb o e n=>sc _ _ (sm b o e n)
    cases e2:F Z1 with
    | bad=>rw[e2]at hl;cases hl
    | err cc=>rw[e2]at hl;cases hl
    | ok f=>
     rw[e2]at hl
     cases f with
     | nx Z2=>exact λσ3 H3 M3 s3 E3 o3 k3=>⟨_,by omega,rfl,hlt,smc.trans s3 ow,k3.trans (k1.trans kj),Z2,M3,E3,λa z=>(o3 a z).elim (ow a) (dk smc),hl⟩
     | rt t Z2=>cases hl
  ·refine .inl ⟨it.1 (by omega),?_⟩
   have hi2:i=ts.length:=by omega
   subst hi2;rw[Oi]at hl;cases hl;exact h1 σ' H' M' sm E' ow kj
theorem Ee {tg iter:Expr}{body:List Stmt}{fi:En->Rs (List T)}{g:T->En->Rs En}{F:En->Rs Fx}(hc:X.calm=true)(hi:QI X tg iter fi)(hg:QJ X.nox j tg g)(hb:Bv X.nox j body F)
  (hs:autoParam (∀x,K6 iter X.env x=pure x) aqc._auto_1):QM X j (.For tg iter body [] pos) (yc fi g F):=⟨HQ hc hi.h hg.h hb.h hs⟩
end
section
variable {X:Cx}{a b:Expr}{x y:En->Rs (T×En)}{pos:Pos}
theorem xF {op:Qy}{g:T->T->Rs T}{pins:List (Addr×Obj)}{s1:J9}{B:Ow}{M:Mn}{σ:L2.St}{H H1:Hp}{p:T×En}{M1:Mn}{v:J7}{vx:V}{Q:VK}(ho:OpT X (K2 op) g)(hb:uu X b y)(I1:Inv X pins σ H1 s1)(r1:RelV vx v)(sm:SameO M.u H H1)(E1:Ev X.K B M1 H1 p.2 σ)
  (gr:∀a,M1.u a->M.u a\/Nw X.K H a) (rt:Rep X.K (OO B M1) H1 p.1 vx) (h:PostX X B M.u σ H (nJ (y p.2) >>= λq=>nJ (g p.1 q.1) >>= λt=> .ok (t,q.2)) Q) :
  wpAny (model X.prog X.w) X.A (eval b X.env) (λu s2=>wpAny (model X.prog X.w) X.A (K2 op v u) (EP X pins σ Q) X.xe s2) X.xe s1:=by
 refine bN (hb pins s1 σ H1 _ I1 (yP E1 (λc z=>by rw[z]at h;exact h.elim) (λz=>by rw[z]at h;exact h))) λu s2 hh_=> ?_
 obtain⟨yv,H2,I2,r2,q,M2,hy,sm2,E2,gr2,rt2⟩:=hh_;rw[hy]at h
 replace h:PostX X B M.u σ H (nJ (g p.1 q.1) >>= λt=> .ok (t,q.2)) Q:=h
 have rt1:Rep X.K (OO B M2) H2 p.1 vx:=rt.move (P:=M1.u) (λa w=> .inl (.inr w)) (λa w=>w.elim (λz=> .inl (.inl z)) λz=>(gr2 a z).imp_left .inr) sm2
 refine ho pins s2 σ H2 (OO B M2) p.1 q.1 vx yv v u Q I2 (λp=>E2.o.fresh) rt1 rt2 r1 r2 ?_
 cases z2:g p.1 q.1 with
 | bad=>rw[z2]at h;exact h.elim
 | err c=>rw[z2]at h;exact h.elim
 | ok t3=>
  rw[z2]at h;exact λH' s3 v r=>h v H' M2 (λb o e nb=>s3 _ _ (sm.trans sm2 gr b o e nb)) (E2.same s3) (λa w=>(gr2 a w).elim (gr a) (dk sm)) r
theorem BJ {op:Qy}{g:T->T->Rs T}(ho:OpT X (K2 op) g)(ha:uu X a x)(hb:uu X b y)(hm:Mo op b=false):D1 X (.Compare a [op] [b] pos) (yE (Bo g x y)):=by
 intro pins s σ H Q I ⟨Z,B,M,E,h⟩
 have h':PostX X B M.u σ H (Bo g x y Z) λv H'=> ∃k,v= .bl k/\Q k H':=by
  unfold yE at h
  cases z:Bo g x y Z with
  | bad=>rw[z]at h;exact h
  | err c=>rw[z]at h;exact h
  | ok p=>
   rw[z,az]at h;obtain⟨t,Z'⟩:=p
   cases t with
   | bl k=>exact λv H' M' s e o r=>⟨k,Rep.FM.mp r,h H' M' s e o⟩
   | _=>exact h.elim
 unfold Bo at h';refine Ni (bN (ha pins s σ H _ I (yP E (λc z=>by rw[z]at h';exact h') (λz=>by rw[z]at h';exact h'))) λv s1 ⟨vx,H1,I1,r1,p,M1,hx,sm,E1,gr,rt⟩=> ?_) hm
 rw[hx,az]at h';refine bN (xF ho hb I1 r1 sm E1 gr rt h') λu s2 q2=>bN q2 λd s3 hh_=> ?_
 obtain⟨z,H3,I3,r3,k,ez,q3⟩:=hh_;subst ez;cases r3;exact Le ⟨H3,I3,q3⟩
theorem yI {op:Qy}{r:T->T->Rs T}(ho:OpT X (K2 op) r)(ha:QX X a x)(hb:QX X b y)(hm:autoParam (Mo op b=false) aqd._auto_1):Gy X (.Compare a [op] [b] pos) (yE (Bo r x y)):=⟨BJ ho ha.h hb.h hm⟩
end
theorem eV {N P:List Str}{sc:Nk}(h1:autoParam (sc.kind= .function) aqd._auto_1)(h2:autoParam (sc.isCoroutine=false) aqd._auto_1)(h3:autoParam (sc.isGenerator=false) aqd._auto_1)(h4:autoParam (N.Nodup) aqi._auto_1)(h5:autoParam (N.take P.length=P) aqd._auto_1)
  (h6:autoParam (∀x∈P,sc.names.lookup x=some .local\/sc.names.lookup x=some .cell) aqi._auto_1) (h7:autoParam (∀y∈sc.names,y.2≠ .free) aqi._auto_1):ay N P sc:=⟨h1,h2,h3,h4,h5,h6,h7⟩
end Tr
namespace G
open PySem PySem.Spec PyProof.Rows L2 Tr
structure Bl (mg:Str->Option J7):Prop where
 b_all:mg "all" =none
 b_bool:mg "bool" =none
 b_dict:mg "dict" =none
 b_enumerate:mg "enumerate" =none
 b_int:mg "int" =none
 b_isinstance:mg "isinstance" =none
 b_len:mg "len" =none
 b_list:mg "list" =none
 b_min:mg "min" =none
 b_range:mg "range" =none
 b_reversed:mg "reversed" =none
 b_tuple:mg "tuple" =none
structure Cs (mg:Str->Option J7):Prop where
 MOST_CLOCKS:∃t,mg "MOST_CLOCKS" =some (.int 4 t)
 MOST_LETTERS:∃t,mg "MOST_LETTERS" =some (.int 8 t)
 MOST_READINGS:∃t,mg "MOST_READINGS" =some (.int 4 t)
 LAST_READING:∃t,mg "LAST_READING" =some (.int 99 t)
 SLOWEST:∃t,mg "SLOWEST" =some (.int 9 t)
 LONGEST:∃t,mg "LONGEST" =some (.int 999 t)
structure bB (K:J5)(mg:Str->Option J7):Prop where
 k:mx K mg "Sketch"
 a_past:NoAttr K (bj K "Sketch") "past"
 a_ahead:NoAttr K (bj K "Sketch") "ahead"
theorem rZ:KQ "bool" =some (.type "bool"):=by decide+kernel
theorem lV:KQ "int" =some (.type "int"):=by decide+kernel
theorem et:KQ "tuple" =some (.type "tuple"):=by decide+kernel
structure Xs (K:J5)(mg:Str->Option J7)(C_NoRecord C_NoNumber C_Nothing C_ClockError:Addr):Prop where
 m_NoRecord:mg "NoRecord" =some (.ref C_NoRecord)
 m_NoNumber:mg "NoNumber" =some (.ref C_NoNumber)
 m_Nothing:mg "Nothing" =some (.ref C_Nothing)
 m_ClockError:mg "ClockError" =some (.ref C_ClockError)
 o_NoRecord:OX K C_NoRecord (.ref C_ClockError::vC)
 o_NoNumber:OX K C_NoNumber (.ref C_ClockError::vC)
 o_Nothing:OX K C_Nothing (.ref C_ClockError::vC)
 o_ClockError:OX K C_ClockError vC
 d:[C_NoRecord,C_NoNumber,C_Nothing,C_ClockError].Nodup
end G
namespace G
open PySem Tr
def qc:En->Rs Fl:=
 (aK (cD (o1 (C1 "tuple") (vr 0)) (ch HV HV (vr 1) (cl cG (ae (vr 0) aj)) (vr 2))))
def aN:List T->Rs T:=val 3 3 qc
def vK:En->Rs Fl:=
 (aK (cD (o1 (C1 "int") (vr 0)) (o1 CM (o1 (C1 "bool") (vr 0)))))
def gA:List T->Rs T:=val 1 1 vK
def iW:En->Rs Fl:=
 (aK (cD (cl gA (ae (vr 0) aj)) (ch HV HV (vr 1) (vr 0) (vr 2))))
def aR:List T->Rs T:=val 3 3 iW
def lF:En->Rs Fl:=
 (aK (cD (cl aR (ae (vr 0) (ae (cn (.int 1)) (ae (cn (.int 9)) aj)))) (cl aR (ae (vr 1) (ae (vr 0) (ae (cn (.int 9)) aj))))))
def fq:List T->Rs T:=val 2 2 lF
def xA:En->Rs Fl:=
 (aK (cl pq (ae (gu (iR (ae (o2 ji (cl cG (ae (vr 0) aj)) (cn (.int 1))) aj)) [none,some 0] (gN 0) bT (o2 GB (o2 aQ (vr 1) (vr 0)) (o2 aQ (vr 1) (o2 aM (vr 0) (cn (.int 1)))))) aj)))
def jd:List T->Rs T:=val 1 1 xA
def dP:En->Rs Fl:=
 (aF (gV (dH (tb (cl aN (ae (vr 0) (ae (cn (.int 1)) (ae (cn (.int 4)) aj)))))) (aK (cn (.bl false))) sN) (aK (cD (cl pq (ae (gu (iS (vr 0)) [none] (gN 0) bT (cl aR (ae (vr 0) (ae (cn (.int 0)) (ae (cn (.int 99)) aj))))) aj)) (cl jd (ae (vr 0) aj)))))
def bJ:List T->Rs T:=val 1 1 dP
def gJ:En->Rs Fl:=
 (aK (cD (cl aN (ae (vr 0) (ae (cn (.int 3)) (ae (cn (.int 3)) aj)))) (cD (cl fq (ae (o2 aQ (vr 0) (cn (.int 0))) (ae (o2 aQ (vr 0) (cn (.int 1))) aj))) (cl bJ (ae (o2 aQ (vr 0) (cn (.int 2))) aj)))))
def cU:List T->Rs T:=val 1 1 gJ
def gK:En->Rs Fl:=
 (aK (cD (cl aN (ae (vr 0) (ae (cn (.int 1)) (ae (cn (.int 4)) aj)))) (cl pq (ae (gu (iS (vr 0)) [none] (gN 0) bT (cl cU (ae (vr 0) aj))) aj))))
def c6:List T->Rs T:=val 1 1 gK
def gH:En->Rs Fl:=
 (aF (gV (qS (dH (tb (cl aN (ae (vr 1) (ae (cn (.int 2)) (ae (cn (.int 2)) aj)))))) (dH (tb (cl aR (ae (o2 aQ (vr 1) (cn (.int 0))) (ae (cn (.int 0)) (ae (o2 ji (cl cG (ae (vr 0) aj)) (cn (.int 1))) aj))))))) (aK (cn (.bl false))) sN) (aK (cl aR (ae (o2 aQ (vr 1) (cn (.int 1))) (ae (cn (.int 0)) (ae (o2 ji (cl cG (ae (o2 aQ (o2 aQ (vr 0) (o2 aQ (vr 1) (cn (.int 0)))) (cn (.int 2))) aj)) (cn (.int 1))) aj))))))
def cT:List T->Rs T:=val 2 2 gH
def gI:En->Rs Fl:=
 (aK (cD (cl aR (ae (vr 0) (ae (cn (.int 0)) (ae (cn (.int 999)) aj)))) (Br (o2 mj (vr 1) (cn .non)) (cl aR (ae (vr 1) (ae (vr 0) (ae (cn (.int 999)) aj)))))))
def dn:List T->Rs T:=val 2 2 gI
def dA:En->Rs Fl:=
 (aF (gV (qS (dH (tb (cl aN (ae (vr 1) (ae (cn (.int 4)) (ae (cn (.int 4)) aj)))))) (dH (tb (cl dn (ae (o2 aQ (vr 1) (cn (.int 2))) (ae (o2 aQ (vr 1) (cn (.int 3))) aj)))))) (aK (cn (.bl false))) sN) (aK (cD (cl cT (ae (vr 0) (ae (o2 aQ (vr 1) (cn (.int 0))) aj))) (cD (cl cT (ae (vr 0) (ae (o2 aQ (vr 1) (cn (.int 1))) aj))) (o2 kM (o2 aQ (vr 1) (cn (.int 0))) (o2 aQ (vr 1) (cn (.int 1))))))))
def bQ:List T->Rs T:=val 2 2 dA
def gb:En->Rs Fl:=
 (aK (cD (cl aN (ae (vr 1) (ae (cn (.int 0)) (ae (cn (.int 8)) aj)))) (cl pq (ae (gu (iS (vr 1)) [none,some 0] (gN 0) bT (cl bQ (ae (vr 1) (ae (vr 0) aj)))) aj))))
def cL:List T->Rs T:=val 2 2 gb
def fT:En->Rs Fl:=
 (aK (cD (cl aN (ae (vr 0) (ae (cn (.int 2)) (ae (cn (.int 2)) aj)))) (cD (cl c6 (ae (o2 aQ (vr 0) (cn (.int 0))) aj)) (cl cL (ae (o2 aQ (vr 0) (cn (.int 0))) (ae (o2 aQ (vr 0) (cn (.int 1))) aj))))))
def cS:List T->Rs T:=val 1 1 fT
def dh:En->Rs Fl:=
 (gV (dH (tb (cl cS (ae (vr 0) aj)))) (xO "NoRecord") sN)
def aJ:List T->Rs T:=val 1 1 dh
def dQ:En->Rs Fx:=
 (gq (rG (xP (cl aJ (ae (vr 1) aj)))) (gq (tN 0 "Sketch" "past" (ae (ba (ae (cn .non) (ae (vr 1) aj))) aj)) (tN 0 "Sketch" "ahead" aj)))
def bM:List Sl->Rs (T×OT):=fM 2 0 2 dQ
def mr:En->Rs Fl:=
 (aK (o2 aQ (o2 aQ (o1 (jm "Sketch" "past") (vr 0)) (o1 mf (cn (.int 1)))) (cn (.int 1))))
def aA:List T->Rs T:=val 1 1 mr
def gd:En->Rs (T ⊕ OT):=
 (DH (m5 1 "Sketch" bM (ae (mh "Sketch" "record" aA (vr 0) aj) aj)) (DH (m6 1 "Sketch" "past" (o1 (jm "Sketch" "past") (vr 0))) (DH (m6 1 "Sketch" "ahead" (o1 (jm "Sketch" "ahead") (vr 0))) (wy 1))))
def cM:List T->Rs (T ⊕ OT):=xG 1 2 gd
def iZ:En->Rs Fl:=
 (aF (gV (tb (o2 lx (vr 0) (fj aj))) (aK (o2 bL (cn (.int 7)) (vr 1))) sN) (aK (o2 aM (o2 aQ (vr 0) (o2 kB (vr 1) (cl cG (ae (vr 0) aj)))) (o2 bL (cn (.int 6553)) (o2 kG (vr 1) (cl cG (ae (vr 0) aj)))))))
def eF:List T->Rs T:=val 2 2 iZ
def gM:En->Rs Fl:=
 (aF (dj (o2 kB (o2 aM (o2 bL (o2 kB (cl eF (ae (vr 0) (ae (vr 1) aj))) (cn (.int 2147483563))) (cn (.int 69069))) (o2 bL (cn (.int 104723)) (o2 aM (vr 1) (cn (.int 1))))) (cn (.int 2147483563))) (gN 3)) (aF (dj (o2 kB (o2 aM (o2 bL (vr 3) (vr 3)) (o2 kG (vr 3) (cn (.int 3)))) (cn (.int 2147483399))) (gN 3)) (aK (o2 kB (o2 kG (o2 kB (o2 aM (o2 bL (vr 3) (vr 3)) (o2 kG (vr 3) (cn (.int 7)))) (cn (.int 2147483647))) (cn (.int 11))) (vr 2)))))
def ax:List T->Rs T:=val 3 4 gM
def jD:En->Rs Fl:=
 (aF (dj (fj aj) (gN 1)) (aF (fV (iE (ae (vr 0) aj)) (gT 2 (tU (gN 2) (tU (gN 3) Bt))) (dj (o2 aM (vr 1) (gu (iR (ae (cl cG (ae (o2 aQ (vr 3) (cn (.int 2))) aj)) aj)) [none,some 2] (gN 0) bT (ba (ae (vr 1) (ae (vr 0) aj))))) (gN 1))) (aK (vr 1))))
def de:List T->Rs T:=val 1 4 jD
def di:En->Rs Fl:=
 (aF (dj (cl de (ae (vr 2) aj)) (gN 3)) (aF (gV (tb (o2 GB (cl cG (ae (vr 3) aj)) (cn (.int 2)))) (aK (cn .non)) sN) (aF (dj (cl ax (ae (vr 0) (ae (vr 1) (ae (cl cG (ae (vr 3) aj)) aj)))) (gN 4)) (aF (dj (o2 kB (o2 aM (o2 aM (vr 4) (cn (.int 1))) (cl ax (ae (vr 0) (ae (o2 aM (vr 1) (cn (.int 1))) (ae (o2 ji (cl cG (ae (vr 3) aj)) (cn (.int 1))) aj))))) (cl cG (ae (vr 3) aj))) (gN 5)) (aF (dj (cl ax (ae (vr 0) (ae (o2 aM (vr 1) (cn (.int 2))) (ae (cn (.int 8)) aj)))) (gN 6)) (aF (dj (GF (tb (o2 lx (cl ax (ae (vr 0) (ae (o2 aM (vr 1) (cn (.int 3))) (ae (cn (.int 3)) aj)))) (cn (.int 0)))) (cn .non) (o2 aM (vr 6) (cl ax (ae (vr 0) (ae (o2 aM (vr 1) (cn (.int 4))) (ae (cn (.int 9)) aj)))))) (gN 7)) (aK (ba (ae (o2 aQ (vr 3) (vr 4)) (ae (o2 aQ (vr 3) (vr 5)) (ae (vr 6) (ae (vr 7) aj))))))))))))
def bF:List T->Rs T:=val 3 8 di
def gO:En->Rs Fl:=
 (aF (dj (o2 aM (cn (.int 1)) (cl ax (ae (vr 0) (ae (vr 1) (ae (cn (.int 3)) aj))))) (gN 2)) (aF (dj (ba (ae (cl ax (ae (vr 0) (ae (o2 aM (vr 1) (cn (.int 2))) (ae (cn (.int 6)) aj)))) aj)) (gN 3)) (aF (fV (iR (ae (cl ax (ae (vr 0) (ae (o2 aM (vr 1) (cn (.int 1))) (ae (cn (.int 3)) aj)))) aj)) (gN 4) (dj (o2 aM (vr 3) (ba (ae (o2 aM (o2 aM (o2 aQ (vr 3) (o1 mf (cn (.int 1)))) (cn (.int 1))) (cl ax (ae (vr 0) (ae (o2 aM (o2 aM (vr 1) (cn (.int 3))) (vr 4)) (ae (cn (.int 5)) aj))))) aj))) (gN 3))) (aK (ba (ae (vr 2) (ae (o2 aM (vr 2) (cl ax (ae (vr 0) (ae (o2 aM (vr 1) (cn (.int 6))) (ae (cn (.int 3)) aj))))) (ae (vr 3) aj))))))))
def b9:List T->Rs T:=val 2 5 gO
def gc:En->Rs Fl:=
 (aF (dj (cl jG (ae (gu (iR (ae (o2 aM (cn (.int 1)) (cl ax (ae (vr 0) (ae (vr 1) (ae (cn (.int 3)) aj))))) aj)) [none,some 0,some 1] (gN 0) bT (cl b9 (ae (vr 1) (ae (o2 aM (o2 aM (vr 2) (cn (.int 1))) (o2 bL (cn (.int 8)) (vr 0))) aj)))) aj)) (gN 3)) (aF (dj (fj aj) (gN 4)) (aF (fV (iR (ae (cl ax (ae (vr 0) (ae (o2 aM (vr 1) (cn (.int 30))) (ae (o2 aM (vr 2) (cn (.int 1))) aj)))) aj)) (gN 5) (aF (dj (cl bF (ae (vr 0) (ae (o2 aM (o2 aM (vr 1) (cn (.int 31))) (o2 bL (cn (.int 6)) (vr 5))) (ae (vr 3) aj)))) (gN 6)) (dj (o2 aM (vr 4) (o2 bL (fj (ae (vr 6) aj)) (cl An (ae (o2 iy (vr 6) (cn .non)) aj)))) (gN 4)))) (aK (ba (ae (vr 3) (ae (cl jG (ae (vr 4) aj)) aj)))))))
def ee:List T->Rs T:=val 3 7 gc
def gg:En->Rs Fx:=
 (gq (yb (tb (o2 lx (ln 0 (cl cG (ae (o1 (jm "Sketch" "past") (vr 0)) aj))) (cn (.int 1)))) (CT "Nothing") mN) (gq (zQ 1 (uC 0 "Sketch" "past")) (gq (rG (sr 0 "Sketch" "ahead" (vr 1))) (jl (xP (o2 aQ (vr 1) (cn (.int 0))))))))
def aP:List Sl->Rs (T×OT):=fM 1 0 2 gg
def oI:En->Rs Fl:=
 (aF (uO (cl aJ (ae (vr 0) aj))) (aF (jy 1 aj) (aF (fV (iE (ae (o2 aQ (vr 0) (cn (.int 0))) aj)) (gT 2 (tU (gN 2) (tU (gN 3) Bt))) (m7 1 (gu (iR (ae (cl cG (ae (o2 aQ (vr 3) (cn (.int 2))) aj)) aj)) [none,some 2] (gN 0) bT (ba (ae (vr 1) (ae (vr 0) aj)))))) (qD 1 (aK (vr 1))))))
def iC:List T->Rs T:=val 1 4 oI
def iX:En->Rs Fl:=
 (aF (dj (oD gZ (vr 0) (o2 aQ (vr 1) (cn (.int 1)))) (gN 3)) (aK (Br (o2 mj (vr 3) (cn .non)) (o2 GB (o2 aM (o2 aQ (vr 2) (cn (.int 0))) (o2 aQ (vr 1) (cn (.int 2)))) (o2 aQ (vr 3) (cn (.int 0)))))))
def cV:List T->Rs T:=val 3 4 iX
def iV:En->Rs Fl:=
 (aF (pF 2 (gu (iS (vr 1)) [none] (gN 0) bT (ba (ae (vr 0) (ae (ba (ae (cn (.int 0)) (ae (fj aj) aj))) aj))))) (aF (dj (cn (.bl true)) (gN 3)) (aF (bH (tb (vr 3)) (aF (dj (cn (.bl false)) (gN 3)) (fV (iE (ae (vr 0) aj)) (gT 2 (tU (gN 4) (tU (gN 5) Bt))) (aF (dj (ln 2 (oD gZ (vr 2) (o2 aQ (vr 5) (cn (.int 0))))) (gN 6)) (aF (gV (qS (tb (o2 mj (vr 6) (cn .non))) (dH (ye 2 (tb (cl cV (ae (vr 2) (ae (vr 5) (ae (vr 6) aj)))))))) DE sN) (aF (dj (o2 aM (o2 aQ (vr 6) (cn (.int 1))) (fj (ae (vr 4) aj))) (gN 7)) (aF (dj (gu (iS (vr 7)) [none,some 0] (gN 0) bT (o2 aQ (o2 aQ (vr 1) (vr 0)) (cn (.int 0)))) (gN 8)) (aF (gV (tb (o2 GD (o2 aQ (vr 5) (cn (.int 1))) (vr 8))) (aK (ba (ae (cn .non) (ae (sl (vr 7) (pS (oL fQ (vr 8) (o2 aQ (vr 5) (cn (.int 1))))) pN) aj)))) sN) (aF (xN 2 (o2 aQ (vr 5) (cn (.int 1))) (ba (ae (o2 aM (o2 aQ (vr 6) (cn (.int 0))) (o2 aQ (vr 5) (cn (.int 2)))) (ae (vr 7) aj)))) (dj (cn (.bl true)) (gN 3)))))))))) FU) (qD 2 (aK (ba (ae (vr 2) (ae (cn .non) aj))))))))
def fE:List T->Rs T:=val 2 9 iV
def d7:En->Rs Fl:=
 (aF (dj (cl iC (ae (vr 0) aj)) (gN 2)) (aF (dj (o2 aQ (cl fE (ae (vr 1) (ae (vr 2) aj))) (cn (.int 0))) (gN 3)) (aF (gV (tb (o2 mj (vr 3) (cn .non))) (aK (cn .non)) sN) (aK (cl jG (ae (gu (iS (vr 2)) [none,some 3] (gN 0) bT (o2 aQ (o2 ug (vr 1) (vr 0)) (cn (.int 0)))) aj))))))
def cZ:List T->Rs T:=val 2 4 d7
def dO:En->Rs Fl:=
 (aF (dj (o2 aQ (vr 1) (cn (.int 2))) (gN 2)) (aF (jy 3 aj) (aF (fV (iR (ae (o2 ji (cl cG (ae (vr 2) aj)) (cn (.int 1))) aj)) (gN 4) (aF (dj (ba (ae (vr 0) (ae (vr 4) aj))) (gN 5)) (aF (dj (ba (ae (vr 0) (ae (o2 aM (vr 4) (cn (.int 1))) aj))) (gN 6)) (aF (dj (o2 ji (o2 aQ (vr 2) (o2 aM (vr 4) (cn (.int 1)))) (o2 aQ (vr 2) (vr 4))) (gN 7)) (aF (oQ 3 (ba (ae (vr 5) (ae (vr 6) (ae (o2 bL (vr 7) (o2 aQ (vr 1) (cn (.int 1)))) aj))))) (oQ 3 (ba (ae (vr 6) (ae (vr 5) (ae (o2 bL (o1 mf (vr 7)) (o2 aQ (vr 1) (cn (.int 0)))) aj)))))))))) (qD 3 (aK (vr 3))))))
def b8:List T->Rs T:=val 2 8 dO
def du:En->Rs Fl:=
 (aF (jy 1 (ae (ba (ae (o2 aQ (vr 0) (cn (.int 1))) (ae (o2 aQ (vr 0) (cn (.int 0))) (ae (o1 mf (o2 aQ (vr 0) (cn (.int 2)))) aj)))) aj)) (aF (gV (tb (o2 iy (o2 aQ (vr 0) (cn (.int 3))) (cn .non))) (oQ 1 (ba (ae (o2 aQ (vr 0) (cn (.int 0))) (ae (o2 aQ (vr 0) (cn (.int 1))) (ae (o2 aQ (vr 0) (cn (.int 3))) aj))))) sN) (qD 1 (aK (vr 1)))))
def bV:List T->Rs T:=val 1 2 du
def oJ:En->Rs Fl:=
 (aF (uO (cl aJ (ae (vr 0) aj))) (aF (jy 1 aj) (aF (fV (iE (ae (o2 aQ (vr 0) (cn (.int 0))) aj)) (gT 2 (tU (gN 2) (tU (gN 3) Bt))) (m7 1 (cl b8 (ae (vr 2) (ae (vr 3) aj))))) (aF (fV (iS (o2 aQ (vr 0) (cn (.int 1)))) (gN 4) (m7 1 (cl bV (ae (vr 4) aj)))) (qD 1 (aK (vr 1)))))))
def iD:List T->Rs T:=val 1 5 oJ
def Dx:En->Rs Fl:=
 (aK (cl cZ (ae (vr 0) (ae (cl iD (ae (vr 0) aj)) aj))))
def mI:List T->Rs T:=val 1 1 Dx
def uq:En->Rs Fl:=
 (aK (o2 iy (cl mI (ae (vr 0) aj)) (cn .non)))
def bo:List T->Rs T:=val 1 1 uq
def gf:En->Rs Fl:=
 (aF (fV (Ap (ae (o1 (jm "Sketch" "past") (vr 0)) aj)) (gN 1) (gV (tb (cl bo (ae (o2 aQ (vr 1) (cn (.int 1))) aj))) (aK (o2 aQ (vr 1) (cn (.int 1)))) sN)) (aK (cn .non)))
def ef:List T->Rs T:=val 1 2 gf
def mw:En->Rs Fl:=
 (aK (ba (ae (o2 ji (cl cG (ae (o1 (jm "Sketch" "past") (vr 0)) aj)) (cn (.int 1))) (ae (cl cG (ae (o1 (jm "Sketch" "ahead") (vr 0)) aj)) aj))))
def aV:List T->Rs T:=val 1 1 mw
def vL:En->Rs Fl:=
 (aK (ba (ae (mh "Sketch" "record" aA (vr 0) aj) (ae (mh "Sketch" "good" ef (vr 0) aj) (ae (mh "Sketch" "counts" aV (vr 0) aj) aj)))))
def aU:List T->Rs T:=val 1 1 vL
def fK:En->Rs Fx:=
 (gq (rG (sr 0 "Sketch" "past" (ba (ae (vr 1) (ae (vr 2) aj))))) (gq (tN 0 "Sketch" "ahead" aj) (jl (xP (cl bo (ae (vr 2) aj))))))
def bf:List Sl->Rs (T×OT):=fM 3 0 3 fK
def f9:En->Rs Fl:=
 (gV (dH (tb (cl aR (ae (vr 1) (ae (cn (.int 0)) (ae (o2 ji (vr 0) (cn (.int 1))) aj)))))) (xO "NoNumber") sN)
def cK:List T->Rs T:=val 2 2 f9
def d6:En->Rs Fl:=
 (aF (uO (cl aJ (ae (vr 0) aj))) (aF (dj (o2 aQ (vr 0) (cn (.int 1))) (gN 2)) (aF (uO (cl cK (ae (cl cG (ae (vr 2) aj)) (ae (vr 1) aj)))) (aK (ba (ae (o2 aQ (vr 0) (cn (.int 0))) (ae (o2 aM (sl (vr 2) pN (pS (vr 1))) (sl (vr 2) (pS (o2 aM (vr 1) (cn (.int 1)))) pN)) aj)))))))
def bR:List T->Rs T:=val 2 3 d6
def se:En->Rs Fx:=
 (jl (bP 0 "Sketch" "go_on" bf (ae (cn (.str "cut")) (ae (cl bR (ae (ln 0 (mh "Sketch" "record" aA (vr 0) aj)) (ae (vr 1) aj))) aj))))
def dJ:List Sl->Rs (T×OT):=fM 2 0 2 se
def eJ:En->Rs Fl:=
 (aF (uO (cl aJ (ae (vr 0) aj))) (aK (vr 0)))
def cw:List T->Rs T:=val 1 1 eJ
def gG:En->Rs Fl:=
 (aF (dj (o2 aQ (vr 0) (cn (.int 0))) (gN 3)) (aK (cl cw (ae (ba (ae (o2 aM (o2 aM (sl (vr 3) pN (pS (vr 1))) (ba (ae (vr 2) aj))) (sl (vr 3) (pS (o2 aM (vr 1) (cn (.int 1)))) pN)) (ae (o2 aQ (vr 0) (cn (.int 1))) aj))) aj))))
def ff:List T->Rs T:=val 3 4 gG
def fJ:En->Rs Fl:=
 (aF (uO (cl aJ (ae (vr 0) aj))) (aF (uO (cl cK (ae (cl cG (ae (o2 aQ (vr 0) (cn (.int 0))) aj)) (ae (vr 1) aj)))) (aF (dj (o2 aQ (o2 aQ (vr 0) (cn (.int 0))) (vr 1)) (gN 3)) (aK (cl ff (ae (vr 0) (ae (vr 1) (ae (ba (ae (o2 aQ (vr 3) (cn (.int 0))) (ae (o2 aQ (vr 3) (cn (.int 1))) (ae (o2 aM (o2 aQ (vr 3) (cn (.int 2))) (ba (ae (vr 2) aj))) aj)))) aj))))))))
def bU:List T->Rs T:=val 3 4 fJ
def pz:En->Rs Fx:=
 (jl (bP 0 "Sketch" "go_on" bf (ae (cn (.str "read")) (ae (cl bU (ae (ln 0 (mh "Sketch" "record" aA (vr 0) aj)) (ae (vr 1) (ae (vr 2) aj)))) aj))))
def cN:List Sl->Rs (T×OT):=fM 3 0 3 pz
def fZ:En->Rs Fl:=
 (aF (uO (cl aJ (ae (vr 0) aj))) (aK (cl cw (ae (ba (ae (o2 aQ (vr 0) (cn (.int 0))) (ae (o2 aM (o2 aQ (vr 0) (cn (.int 1))) (ba (ae (vr 1) aj))) aj))) aj))))
def cj:List T->Rs T:=val 2 2 fZ
def oK:En->Rs Fx:=
 (jl (bP 0 "Sketch" "go_on" bf (ae (cn (.str "write")) (ae (cl cj (ae (ln 0 (mh "Sketch" "record" aA (vr 0) aj)) (ae (vr 1) aj))) aj))))
def cp:List Sl->Rs (T×OT):=fM 2 0 2 oK
def iY:En->Rs Fx:=
 (gq (zQ 3 (xP (ln 2 (mh "Sketch" "record" aA (vr 2) aj)))) (gq (zQ 4 (xP (cl ax (ae (vr 0) (ae (vr 1) (ae (cn (.int 4)) aj)))))) (gq (zQ 5 (xP (cl bF (ae (vr 0) (ae (o2 aM (vr 1) (cn (.int 1))) (ae (o2 aQ (vr 3) (cn (.int 0))) aj)))))) (gq (zQ 6 (xP (cl ax (ae (vr 0) (ae (o2 aM (vr 1) (cn (.int 7))) (ae (cl cG (ae (o2 aQ (vr 3) (cn (.int 0))) aj)) aj)))))) (nV (yb (r8 (tb (o2 lx (vr 4) (cn (.int 0)))) (tb (o2 kM (o2 aQ (vr 3) (cn (.int 1))) (ba aj)))) (rG (bP 2 "Sketch" "cut" dJ (ae (cl ax (ae (vr 0) (ae (o2 aM (vr 1) (cn (.int 8))) (ae (cl cG (ae (o2 aQ (vr 3) (cn (.int 1))) aj)) aj)))) aj))) (yb (tb (o2 lx (vr 4) (cn (.int 1)))) (rG (bP 2 "Sketch" "read" cN (ae (vr 6) (ae (o2 aM (o2 aM (o2 aQ (o2 aQ (o2 aQ (o2 aQ (vr 3) (cn (.int 0))) (vr 6)) (cn (.int 2))) (o1 mf (cn (.int 1)))) (cn (.int 1))) (cl ax (ae (vr 0) (ae (o2 aM (vr 1) (cn (.int 8))) (ae (cn (.int 5)) aj))))) aj)))) (yb (tb (o2 iy (vr 5) (cn .non))) (rG (bP 2 "Sketch" "write" cp (ae (vr 5) aj))) mN))) (rQ "NoRecord" .non))))))
def bK:List Sl->Rs (T×OT):=fM 3 2 7 iY
def gL:En->Rs Fx:=
 (gq (yc (iR (ae (cn (.int 3)) aj)) (gN 2) (rG (mP 1 bK (ae (vr 0) (ae (o2 aM (cn (.int 200)) (o2 bL (cn (.int 10)) (vr 2))) aj))))) (jl (xP (ln 1 (cl aU (ae (vr 1) aj))))))
def dI:List Sl->Rs (T×OT):=fM 2 1 3 gL
def fL:En->Rs Fx:=
 (gq (yb (ye 0 (tb (o2 lx (o1 (jm "Sketch" "ahead") (vr 0)) (fj aj)))) (CT "Nothing") mN) (gq (zQ 1 (uC 0 "Sketch" "ahead")) (gq (rG (sr 0 "Sketch" "past" (vr 1))) (jl (xP (o2 aQ (vr 1) (cn (.int 0))))))))
def bW:List Sl->Rs (T×OT):=fM 1 0 2 fL
def Bj:En->Rs Fl:=
 (aF (dj (cl ee (ae (vr 0) (ae (cn (.int 0)) (ae (cn (.int 2)) aj)))) (gN 1)) (aF (m5 2 "Sketch" bM (ae (vr 1) aj)) (aF (fV (iR (ae (o2 aM (cn (.int 1)) (cl ax (ae (vr 0) (ae (cn (.int 70)) (ae (cn (.int 6)) aj))))) aj)) (gN 3) (m8 (mP 2 bK (ae (vr 0) (ae (o2 aM (cn (.int 80)) (o2 bL (cn (.int 10)) (vr 3))) aj))))) (aF (fV (iR (ae (cl CO (ae (o2 aQ (ln 2 (mh "Sketch" "counts" aV (vr 2) aj)) (cn (.int 0))) (ae (cl ax (ae (vr 0) (ae (cn (.int 71)) (ae (cn (.int 4)) aj)))) aj))) aj)) (gN 4) (m8 (bP 2 "Sketch" "back" aP aj))) (aF (dj (ln 2 (cl aU (ae (vr 2) aj))) (gN 5)) (aF (uN 6 2 "Sketch" "twin" cM) (aF (uN 7 6 "Sketch" "twin" cM) (aF (gV (ye 6 (ye 7 (tb (o2 kM (gu (iS (ba (ae (vr 6) (ae (vr 7) aj)))) [none] (gN 0) bT (cl aU (ae (vr 0) aj))) (o2 bL (fj (ae (vr 5) aj)) (cn (.int 2))))))) (aK (cn (.bl false))) sN) (aF (xQ 8 (mP 2 dI (ae (vr 0) aj))) (aF (qC (ql (BK (tb (o2 kM (ln 6 (cl aU (ae (vr 6) aj))) (vr 5)))) (yE (DB kM (mP 6 dI (ae (vr 0) aj)) (vr 8)))) (aK (cn (.bl false))) sN) (aF (gV (tb (o2 kM (ln 7 (cl aU (ae (vr 7) aj))) (vr 5))) (aK (cn (.bl false))) sN) (aF (fV (iR (ae (o2 aQ (ln 7 (mh "Sketch" "counts" aV (vr 7) aj)) (cn (.int 1))) aj)) (gN 4) (m8 (bP 7 "Sketch" "forth" bW aj))) (aF (fV (iR (ae (o2 aQ (ln 6 (mh "Sketch" "counts" aV (vr 6) aj)) (cn (.int 0))) aj)) (gN 4) (qC (ql (yE (Bo kM (bP 6 "Sketch" "back" aP aj) (bP 2 "Sketch" "back" aP aj))) (BK (tb (o2 kM (ln 6 (cl aU (ae (vr 6) aj))) (ln 2 (cl aU (ae (vr 2) aj))))))) (aK (cn (.bl false))) sN)) (aF (fV (iR (ae (o2 aQ (ln 7 (mh "Sketch" "counts" aV (vr 7) aj)) (cn (.int 0))) aj)) (gN 4) (m8 (bP 7 "Sketch" "back" aP aj))) (aK (ln 6 (ln 2 (ln 7 (o2 lx (gu (iS (ba (ae (vr 2) (ae (vr 6) (ae (vr 7) aj))))) [none] (gN 0) bT (mh "Sketch" "record" aA (vr 0) aj)) (o2 bL (fj (ae (vr 1) aj)) (cn (.int 3))))))))))))))))))))))
def m_law:List T->Rs T:=val 1 9 Bj
end G
namespace G
open PySem PySem.Spec PyProof.Rows L2 Tr
section
variable (P:KA)(w:K1){K:J5}{mg:Str->Option J7}(base:Heap)
abbrev mU:Stmt:=top 14
abbrev u5:List Str:=["thing","least","most"]
theorem uM:ay u5 ["thing","least","most"] (ai mU):=eV
theorem uX (F:gv K mg "is_long" mU ["thing","least","most"])(B:Bl mg):Cl P w K mg base 1 "is_long" 3 aN:=
 bD F uM rfl λf c A o s H E hr x=>(au (aC (dE (yM B.b_isinstance B.b_tuple et (af 0)) (dW (sj wo wo (af 1) (cF cv B.b_len LL (ah (af 0) ag)) (af 2))))))
abbrev lH:Stmt:=top 12
abbrev tD:List Str:=["thing"]
theorem sL:ay tD ["thing"] (ai lH):=eV
theorem sX (F:gv K mg "is_whole" lH ["thing"])(B:Bl mg):Cl P w K mg base 1 "is_whole" 1 gA:=
 bD F sL rfl λf c A o s H E hr x=>(au (aC (dE (yM B.b_isinstance B.b_int lV (af 0)) (dW (D8 (yM B.b_isinstance B.b_bool rZ (af 0)))))))
abbrev j8:Stmt:=top 13
abbrev ri:List Str:=["thing","least","most"]
theorem qw:ay ri ["thing","least","most"] (ai j8):=eV
theorem qT (F:gv K mg "is_within" j8 ["thing","least","most"])(aaI:Cl P w K mg base 1 "is_whole" 1 gA):Cl P w K mg base 2 "is_within" 3 aR:=
 bD F qw rfl λf c A o s H E hr x=>(au (aC (dE (aT aaI hr (ah (af 0) ag)) (dW (sj wo wo (af 1) (af 0) (af 2))))))
abbrev mT:Stmt:=top 17
abbrev u4:List Str:=["slow","fast"]
theorem uL:ay u4 ["slow","fast"] (ai mT):=eV
theorem uW (F:gv K mg "is_pace" mT ["slow","fast"])(aa2:Cl P w K mg base 2 "is_within" 3 aR)(C:Cs mg):Cl P w K mg base 3 "is_pace" 2 fq:=
 bD F uL rfl λf c A o s H E hr x=>(au (aC (dE (aT aa2 hr (ah (af 0) (ah ak (ah (si C.SLOWEST) ag)))) (dW (aT aa2 hr (ah (af 1) (ah (af 0) (ah (si C.SLOWEST) ag))))))))
abbrev mS:Stmt:=top 15
abbrev tu:List Str:=["numbers"]
theorem y8:ay tu ["numbers"] (ai mS):=eV
theorem zF (F:gv K mg "rises" mS ["numbers"])(B:Bl mg):Cl P w K mg base 1 "rises" 1 jd:=
 bD F y8 rfl λf c A o s H E hr x=>(au (aC (cF (rW rfl) B.b_all boot_all (ah (hW (N':=["k","numbers"]) (src:=[none,some 0]) rfl (LcScope.by (N:=tu) (names:=(ai mS).names) rfl rfl rfl (by decide+kernel)) (bz B.b_range (ah (aw ix (cF cv B.b_len LL (ah (af 0) ag)) ak) ag)) (λ_ _ _ _ _=>⟨(ar 0 (show Lx (["k","numbers"]:List Str)by decide+kernel)),cE,(hZ zB (aD (af 1) (af 0)) (aD (af 1) (aw aH (af 0) ak)))⟩)) ag))))
abbrev eK:Stmt:=top 16
abbrev gW:List Str:=["thing"]
theorem lW:ay gW ["thing"] (ai eK):=eV
theorem l0 (F:gv K mg "are_readings" eK ["thing"])(aa3:Cl P w K mg base 1 "is_long" 3 aN)(aaS:Cl P w K mg base 1 "rises" 1 jd)(aa2:Cl P w K mg base 2 "is_within" 3 aR)(B:Bl mg)(C:Cs mg):Cl P w K mg base 3 "are_readings" 1 bJ:=
 bD F lW rfl λf c A o s H E hr x=>(ao (dC (fN (d8 (aT aa3 hr (ah (af 0) (ah ak (ah (si C.MOST_READINGS) ag)))))) (au (aC jn)) ck) (au (aC (dE (cF (rW rfl) B.b_all boot_all (ah (hW (N':=["part"]) (src:=[none]) rfl (LcScope.by (N:=gW) (names:=(ai eK).names) rfl rfl rfl (by decide+kernel)) (eY (af 0)) (λ_ _ _ _ _=>⟨(ar 0 (show Lx (["part"]:List Str)by decide+kernel)),cE,(aT aa2 hr (ah (af 0) (ah ak (ah (si C.LAST_READING) ag))))⟩)) ag)) (dW (aT aaS hr (ah (af 0) ag)))))))
abbrev lK:Stmt:=top 18
abbrev tG:List Str:=["thing"]
theorem sP:ay tG ["thing"] (ai lK):=eV
theorem tf (F:gv K mg "is_clock" lK ["thing"])(aa3:Cl P w K mg base 1 "is_long" 3 aN)(aaN:Cl P w K mg base 3 "is_pace" 2 fq)(aap:Cl P w K mg base 3 "are_readings" 1 bJ):Cl P w K mg base 4 "is_clock" 1 cU:=
 bD F sP rfl λf c A o s H E hr x=>(au (aC (dE (aT aa3 hr (ah (af 0) (ah ak (ah ak ag)))) (dE (aT aaN hr (ah (aD (af 0) ak) (ah (aD (af 0) ak) ag))) (dW (aT aap hr (ah (aD (af 0) ak) ag)))))))
abbrev fU:Stmt:=top 19
abbrev jz:List Str:=["thing"]
theorem oO:ay jz ["thing"] (ai fU):=eV
theorem oX (F:gv K mg "are_clocks" fU ["thing"])(aa3:Cl P w K mg base 1 "is_long" 3 aN)(aaJ:Cl P w K mg base 4 "is_clock" 1 cU)(B:Bl mg)(C:Cs mg):Cl P w K mg base 5 "are_clocks" 1 c6:=
 bD F oO rfl λf c A o s H E hr x=>(au (aC (dE (aT aa3 hr (ah (af 0) (ah ak (ah (si C.MOST_CLOCKS) ag)))) (dW (cF (rW rfl) B.b_all boot_all (ah (hW (N':=["part"]) (src:=[none]) rfl (LcScope.by (N:=jz) (names:=(ai fU).names) rfl rfl rfl (by decide+kernel)) (eY (af 0)) (λ_ _ _ _ _=>⟨(ar 0 (show Lx (["part"]:List Str)by decide+kernel)),cE,(aT aaJ hr (ah (af 0) ag))⟩)) ag))))))
abbrev lI:Stmt:=top 20
abbrev tE:List Str:=["clocks","thing"]
theorem sM:ay tE ["clocks","thing"] (ai lI):=eV
theorem sY (F:gv K mg "is_event" lI ["clocks","thing"])(aa2:Cl P w K mg base 2 "is_within" 3 aR)(aa3:Cl P w K mg base 1 "is_long" 3 aN)(B:Bl mg):Cl P w K mg base 3 "is_event" 2 cT:=
 bD F sM rfl λf c A o s H E hr x=>(ao (dC (vN (uw (fN (d8 (aT aa3 hr (ah (af 1) (ah ak (ah ak ag)))))) (qf (fN (d8 (aT aa2 hr (ah (aD (af 1) ak) (ah ak (ah (aw ix (cF cv B.b_len LL (ah (af 0) ag)) ak) ag))))))))) (au (aC jn)) ck) (au (aC (aT aa2 hr (ah (aD (af 1) ak) (ah ak (ah (aw ix (cF cv B.b_len LL (ah (aD (aD (af 0) (aD (af 1) ak)) ak) ag)) ak) ag)))))))
abbrev lJ:Stmt:=top 21
abbrev tF:List Str:=["least","most"]
theorem sO:ay tF ["least","most"] (ai lJ):=eV
theorem sZ (F:gv K mg "is_delay" lJ ["least","most"])(aa2:Cl P w K mg base 2 "is_within" 3 aR)(C:Cs mg):Cl P w K mg base 3 "is_delay" 2 dn:=
 bD F sO rfl λf c A o s H E hr x=>(au (aC (dE (aT aa2 hr (ah (af 0) (ah ak (ah (si C.LONGEST) ag)))) (dW (DA (hZ wq (af 1) c9) (dW (aT aa2 hr (ah (af 1) (ah (af 0) (ah (si C.LONGEST) ag))))))))))
abbrev ka:Stmt:=top 22
abbrev rk:List Str:=["clocks","thing"]
theorem qy:ay rk ["clocks","thing"] (ai ka):=eV
theorem qV (F:gv K mg "is_letter" ka ["clocks","thing"])(aay:Cl P w K mg base 3 "is_event" 2 cT)(aa3:Cl P w K mg base 1 "is_long" 3 aN)(aaK:Cl P w K mg base 3 "is_delay" 2 dn):Cl P w K mg base 4 "is_letter" 2 bQ:=
 bD F qy rfl λf c A o s H E hr x=>(ao (dC (vN (uw (fN (d8 (aT aa3 hr (ah (af 1) (ah ak (ah ak ag)))))) (qf (fN (d8 (aT aaK hr (ah (aD (af 1) ak) (ah (aD (af 1) ak) ag)))))))) (au (aC jn)) ck) (au (aC (dE (aT aay hr (ah (af 0) (ah (aD (af 1) ak) ag))) (dE (aT aay hr (ah (af 0) (ah (aD (af 1) ak) ag))) (dW (hZ (lM (jR hr)) (aD (af 1) ak) (aD (af 1) ak))))))))
abbrev fy:Stmt:=top 23
abbrev iz:List Str:=["clocks","thing"]
theorem mZ:ay iz ["clocks","thing"] (ai fy):=eV
theorem nt (F:gv K mg "are_letters" fy ["clocks","thing"])(aa3:Cl P w K mg base 1 "is_long" 3 aN)(aaE:Cl P w K mg base 4 "is_letter" 2 bQ)(B:Bl mg)(C:Cs mg):Cl P w K mg base 5 "are_letters" 2 cL:=
 bD F mZ rfl λf c A o s H E hr x=>(au (aC (dE (aT aa3 hr (ah (af 1) (ah ak (ah (si C.MOST_LETTERS) ag)))) (dW (cF (rW rfl) B.b_all boot_all (ah (hW (N':=["part","clocks"]) (src:=[none,some 0]) rfl (LcScope.by (N:=iz) (names:=(ai fy).names) rfl rfl rfl (by decide+kernel)) (eY (af 1)) (λ_ _ _ _ _=>⟨(ar 0 (show Lx (["part","clocks"]:List Str)by decide+kernel)),cE,(aT aaE hr (ah (af 1) (ah (af 0) ag)))⟩)) ag))))))
abbrev j9:Stmt:=top 24
abbrev rj:List Str:=["thing"]
theorem qx:ay rj ["thing"] (ai j9):=eV
theorem qU (F:gv K mg "is_record" j9 ["thing"])(aa3:Cl P w K mg base 1 "is_long" 3 aN)(aaz:Cl P w K mg base 5 "are_clocks" 1 c6)(aas:Cl P w K mg base 5 "are_letters" 2 cL):Cl P w K mg base 6 "is_record" 1 cS:=
 bD F qx rfl λf c A o s H E hr x=>(au (aC (dE (aT aa3 hr (ah (af 0) (ah ak (ah ak ag)))) (dE (aT aaz hr (ah (aD (af 0) ak) ag)) (dW (aT aas hr (ah (aD (af 0) ak) (ah (aD (af 0) ak) ag))))))))
abbrev ie:Stmt:=top 25
abbrev nL:List Str:=["thing"]
theorem mX:ay nL ["thing"] (ai ie):=eV
theorem nq (F:gv K mg "need_record" ie ["thing"])(aaF:Cl P w K mg base 6 "is_record" 1 cS){C_NoRecord C_NoNumber C_Nothing C_ClockError:Addr}(S:Xs K mg C_NoRecord C_NoNumber C_Nothing C_ClockError):Cl P w K mg base 7 "need_record" 1 aJ:=
 bD F mX rfl λf c A o s H E hr x=>(au (dC (fN (d8 (aT aaF hr (ah (af 0) ag)))) (au (i5 S.o_NoRecord S.m_NoRecord)) ck))
abbrev fB:Stmt:=bY (top 46) 0
abbrev jO:List Str:=["self","record"]
theorem jH:ay jO ["self","record"] (ai fB):=eV
theorem jL (F:jW K "Sketch" "__init__" "Sketch.__init__" fB ["self","record"])(aa1:Cl P w K mg base 7 "need_record" 1 aJ)(K_Sketch:bB K mg):Mm P w K mg base 8 "Sketch" "__init__" 2 bM:=
 nU F jH rfl λf c A o s H E hr x=>(cx (lG (eX (aT aa1 hr (ah (af 1) ag)))) (cx (uB 0 K_Sketch.k K_Sketch.a_past (ah (bc (ah c9 (ah (af 1) ag))) ag)) (cO (uB 0 K_Sketch.k K_Sketch.a_ahead ag))))
abbrev gi:Stmt:=bY (top 46) 1
abbrev k8:List Str:=["self"]
theorem kO:ay k8 ["self"] (ai gi):=eV
theorem kS (F:jW K "Sketch" "record" "Sketch.record" gi ["self"])(K_Sketch:bB K mg):Ml P w K mg base 1 "Sketch" "record" aA:=
 zN F kO rfl λf c A o s H E hr x=>(au (aC (aD (aD (hY K_Sketch.k K_Sketch.a_past (af 0)) (mO ak)) ak)))
abbrev ik:Stmt:=bY (top 46) 10
abbrev nP:List Str:=["self","other"]
theorem sc_Sketch_twin:ay nP ["self"] (ai ik):=eV
theorem nA (F:jW K "Sketch" "twin" "Sketch.twin" ik ["self"])(c_Sketch___init__:Mm P w K mg base 8 "Sketch" "__init__" 2 bM)(c_Sketch_record:Ml P w K mg base 1 "Sketch" "record" aA)(B:Bl mg)(K_Sketch:bB K mg):Jl P w K mg base 10 "Sketch" "twin" cM:=
 HK F sc_Sketch_twin rfl λf c A o s H E hr x=>(qj (sg 1 sc_Sketch_twin.nd K_Sketch.k c_Sketch___init__ hr (ah (cY K_Sketch.k c_Sketch_record hr (af 0)) ag)) (qj (sh 1 K_Sketch.k K_Sketch.a_past B.b_list (hY K_Sketch.k K_Sketch.a_past (af 0))) (qj (sh 1 K_Sketch.k K_Sketch.a_ahead B.b_list (hY K_Sketch.k K_Sketch.a_ahead (af 0))) (Ed (BF 1)))))
abbrev kh:Stmt:=top 48
abbrev rB:List Str:=["_law_script","_law_k"]
theorem qB:ay rB ["_law_script","_law_k"] (ai kh):=eV
theorem rf (F:gv K mg "_law_cell" kh ["_law_script","_law_k"])(B:Bl mg):Cl P w K mg base 1 "_law_cell" 2 eF:=
 bD F qB rfl λf c A o s H E hr x=>(ao (dC (b7 (ni (jR hr)) (af 0) (gw ag)) (au (aC (aw cy ak (af 1)))) ck) (au (aC (aw aH (aD (af 0) (aw jJ (af 1) (cF cv B.b_len LL (ah (af 0) ag)))) (aw cy ak (aw mF (af 1) (cF cv B.b_len LL (ah (af 0) ag))))))))
abbrev jv:Stmt:=top 49
abbrev o8:List Str:=["_law_script","_law_k","_law_many","_law_cell_here"]
theorem aat:ay o8 ["_law_script","_law_k","_law_many"] (ai jv):=eV
theorem oZ (F:gv K mg "_law_drawn" jv ["_law_script","_law_k","_law_many"])(aaG:Cl P w K mg base 1 "_law_cell" 2 eF):Cl P w K mg base 2 "_law_drawn" 3 ax:=
 bD F aat rfl λf c A o s H E hr x=>(by(apply ao;exact(aS (aw jJ (aw aH (aw cy (aw jJ (aT aaG hr (ah (af 0) (ah (af 1) ag))) ak) ak) (aw cy ak (aw aH (af 1) ak))) ak) (ar 3 aat.nd));apply ao;exact(aS (aw jJ (aw aH (aw cy (af 3) (af 3)) (aw mF (af 3) ak)) ak) (ar 3 aat.nd));exact au (aC (aw jJ (aw mF (aw jJ (aw aH (aw cy (af 3) (af 3)) (aw mF (af 3) ak)) ak) ak) (af 2)))))
abbrev fA:Stmt:=top 52
abbrev iB:List Str:=["_law_clocks","_law_found","_law_number","_law_clock_here"]
theorem aab:ay iB ["_law_clocks"] (ai fA):=eV
theorem ny (F:gv K mg "_law_events" fA ["_law_clocks"])(B:Bl mg):Cl P w K mg base 1 "_law_events" 1 de:=
 bD F aab rfl λf c A o s H E hr x=>(by(apply ao;exact(aS (gw ag) (ar 1 aab.nd));apply ao;exact(cP rfl (j0 B.b_enumerate (ah (af 0) ag)) (mz rfl (dv (ar 2 aab.nd) (dv (ar 3 aab.nd) j4))) (au (aS (aw aH (af 1) (hW (N':=["_law_place","_law_number"]) (src:=[none,some 2]) rfl (LcScope.by (N:=iB) (names:=(ai fA).names) rfl rfl rfl (by decide+kernel)) (bz B.b_range (ah (cF cv B.b_len LL (ah (aD (af 3) ak) ag)) ag)) (λ_ _ _ _ _=>⟨(ar 0 (show Lx (["_law_place","_law_number"]:List Str)by decide+kernel)),cE,(bc (ah (af 1) (ah (af 0) ag)))⟩))) (ar 1 aab.nd))));exact au (aC (af 1))))
abbrev ij:Stmt:=top 51
abbrev nN:List Str:=["_law_script","_law_at","_law_clocks","_law_row","_law_place","_law_other","_law_least","_law_most"]
theorem aa7:ay nN ["_law_script","_law_at","_law_clocks"] (ai ij):=eV
theorem nv (F:gv K mg "_law_letter" ij ["_law_script","_law_at","_law_clocks"])(aau:Cl P w K mg base 1 "_law_events" 1 de)(aa0:Cl P w K mg base 2 "_law_drawn" 3 ax)(B:Bl mg):Cl P w K mg base 3 "_law_letter" 3 bF:=
 bD F aa7 rfl λf c A o s H E hr x=>(by(apply ao;exact(aS (aT aau hr (ah (af 2) ag)) (ar 3 aa7.nd));apply ao;exact(dC (b7 zB (cF cv B.b_len LL (ah (af 3) ag)) ak) (au (aC c9)) ck);apply ao;exact(aS (aT aa0 hr (ah (af 0) (ah (af 1) (ah (cF cv B.b_len LL (ah (af 3) ag)) ag)))) (ar 4 aa7.nd));apply ao;exact(aS (aw jJ (aw aH (aw aH (af 4) ak) (aT aa0 hr (ah (af 0) (ah (aw aH (af 1) ak) (ah (aw ix (cF cv B.b_len LL (ah (af 3) ag)) ak) ag))))) (cF cv B.b_len LL (ah (af 3) ag))) (ar 5 aa7.nd));apply ao;exact(aS (aT aa0 hr (ah (af 0) (ah (aw aH (af 1) ak) (ah ak ag)))) (ar 6 aa7.nd));apply ao;exact(aS (GH (b7 (ni (jR hr)) (aT aa0 hr (ah (af 0) (ah (aw aH (af 1) ak) (ah ak ag)))) ak) c9 (aw aH (af 6) (aT aa0 hr (ah (af 0) (ah (aw aH (af 1) ak) (ah ak ag)))))) (ar 7 aa7.nd));exact au (aC (bc (ah (aD (af 3) (af 4)) (ah (aD (af 3) (af 5)) (ah (af 6) (ah (af 7) ag))))))))
abbrev jw:Stmt:=top 50
abbrev o9:List Str:=["_law_script","_law_at","_law_slow","_law_readings","_law_k"]
theorem aac:ay o9 ["_law_script","_law_at"] (ai jw):=eV
theorem o4 (F:gv K mg "_law_clock" jw ["_law_script","_law_at"])(aa0:Cl P w K mg base 2 "_law_drawn" 3 ax)(B:Bl mg):Cl P w K mg base 3 "_law_clock" 2 b9:=
 bD F aac rfl λf c A o s H E hr x=>(by(apply ao;exact(aS (aw aH ak (aT aa0 hr (ah (af 0) (ah (af 1) (ah ak ag))))) (ar 2 aac.nd));apply ao;exact(aS (bc (ah (aT aa0 hr (ah (af 0) (ah (aw aH (af 1) ak) (ah ak ag)))) ag)) (ar 3 aac.nd));apply ao;exact(cP rfl (bz B.b_range (ah (aT aa0 hr (ah (af 0) (ah (aw aH (af 1) ak) (ah ak ag)))) ag)) (ar 4 aac.nd) (au (aS (aw aH (af 3) (bc (ah (aw aH (aw aH (aD (af 3) (mO ak)) ak) (aT aa0 hr (ah (af 0) (ah (aw aH (aw aH (af 1) ak) (af 4)) (ah ak ag))))) ag))) (ar 3 aac.nd))));exact au (aC (bc (ah (af 2) (ah (aw aH (af 2) (aT aa0 hr (ah (af 0) (ah (aw aH (af 1) ak) (ah ak ag))))) (ah (af 3) ag)))))))
abbrev fz:Stmt:=top 53
abbrev iA:List Str:=["_law_script","_law_at","_law_most","_law_clocks","_law_letters","_law_k","_law_letter_here"]
theorem aa8:ay iA ["_law_script","_law_at","_law_most"] (ai fz):=eV
theorem nu (F:gv K mg "_law_record" fz ["_law_script","_law_at","_law_most"])(aa0:Cl P w K mg base 2 "_law_drawn" 3 ax)(aa9:Cl P w K mg base 3 "_law_letter" 3 bF)(aaA:Cl P w K mg base 3 "_law_clock" 2 b9)(B:Bl mg):Cl P w K mg base 4 "_law_record" 3 ee:=
 bD F aa8 rfl λf c A o s H E hr x=>(by(apply ao;exact(aS (vR oy B.b_tuple et (ah (hW (N':=["_law_k","_law_script","_law_at"]) (src:=[none,some 0,some 1]) rfl (LcScope.by (N:=iA) (names:=(ai fz).names) rfl rfl rfl (by decide+kernel)) (bz B.b_range (ah (aw aH ak (aT aa0 hr (ah (af 0) (ah (af 1) (ah ak ag))))) ag)) (λ_ _ _ _ _=>⟨(ar 0 (show Lx (["_law_k","_law_script","_law_at"]:List Str)by decide+kernel)),cE,(aT aaA hr (ah (af 1) (ah (aw aH (aw aH (af 2) ak) (aw cy ak (af 0))) ag)))⟩)) ag)) (ar 3 aa8.nd));apply ao;exact(aS (gw ag) (ar 4 aa8.nd));apply ao;exact(cP rfl (bz B.b_range (ah (aT aa0 hr (ah (af 0) (ah (aw aH (af 1) ak) (ah (aw aH (af 2) ak) ag)))) ag)) (ar 5 aa8.nd) (ao (aS (aT aa9 hr (ah (af 0) (ah (aw aH (aw aH (af 1) ak) (aw cy ak (af 5))) (ah (af 3) ag)))) (ar 6 aa8.nd)) (au (aS (aw aH (af 4) (aw cy (gw (ah (af 6) ag)) (vR Gw B.b_int lV (ah (hZ ko (af 6) c9) ag)))) (ar 4 aa8.nd)))));exact au (aC (bc (ah (af 3) (ah (vR oy B.b_tuple et (ah (af 4) ag)) ag))))))
abbrev iq:Stmt:=bY (top 46) 7
abbrev nS:List Str:=["self","step"]
theorem sc_Sketch_back:ay nS ["self"] (ai iq):=eV
theorem nE (F:jW K "Sketch" "back" "Sketch.back" iq ["self"])(B:Bl mg)(K_Sketch:bB K mg){C_NoRecord C_NoNumber C_Nothing C_ClockError:Addr}(S:Xs K mg C_NoRecord C_NoNumber C_Nothing C_ClockError):Mm P w K mg base 1 "Sketch" "back" 1 aP:=
 nU F sc_Sketch_back rfl λf c A o s H E hr x=>(cx (sk (b7 (ni (jR hr)) (dD 0 (cF cv B.b_len LL (ah (hY K_Sketch.k K_Sketch.a_past (af 0)) ag))) ak) (cO (yN (i5 S.o_Nothing S.m_Nothing))) uA) (cx (pA 1 sc_Sketch_back.nd (yJ 0 K_Sketch.k K_Sketch.a_past)) (cx (lG (uv 0 K_Sketch.k K_Sketch.a_ahead (af 1))) (cO (jE (eX (aD (af 1) ak)))))))
abbrev kN:Stmt:=top 27
abbrev pI:List Str:=["record","told","number","clock"]
theorem aaC:ay pI ["record"] (ai kN):=eV
theorem xX (F:gv K mg "events" kN ["record"])(aa1:Cl P w K mg base 7 "need_record" 1 aJ)(B:Bl mg):Cl P w K mg base 8 "events" 1 iC:=
 bD F aaC rfl λf c A o s H E hr x=>(by(apply ao;exact(eC (aT aa1 hr (ah (af 0) ag)));apply ao;exact(jY 1 aaC.nd ag);apply ao;exact(cP rfl (j0 B.b_enumerate (ah (aD (af 0) ak) ag)) (mz rfl (dv (ar 2 aaC.nd) (dv (ar 3 aaC.nd) j4))) (au (qh 1 (hW (N':=["k","number"]) (src:=[none,some 2]) rfl (LcScope.by (N:=pI) (names:=(ai kN).names) rfl rfl rfl (by decide+kernel)) (bz B.b_range (ah (cF cv B.b_len LL (ah (aD (af 3) ak) ag)) ag)) (λ_ _ _ _ _=>⟨(ar 0 (show Lx (["k","number"]:List Str)by decide+kernel)),cE,(bc (ah (af 1) (ah (af 0) ag)))⟩)))));exact au (jZ 1 (aC (af 1)))))
abbrev kc:Stmt:=top 40
abbrev rn:List Str:=["best","bound","ahead","known"]
theorem aaO:ay rn ["best","bound","ahead"] (ai kc):=eV
theorem qW (F:gv K mg "is_better" kc ["best","bound","ahead"]):Cl P w K mg base 1 "is_better" 3 cV:=
 bD F aaO rfl λf c A o s H E hr x=>(ao (aS (vQ (Jd hr) (af 0) (aD (af 1) ak)) (ar 3 aaO.nd)) (au (aC (DA (hZ wq (af 3) c9) (dW (hZ zB (aw aH (aD (af 2) ak) (aD (af 1) ak)) (aD (af 3) ak)))))))
abbrev i8:Stmt:=top 39
abbrev kZ:List Str:=["limits","starts","best","moved","number","bound","ahead","walk","passed"]
theorem aa6:ay kZ ["limits","starts"] (ai i8):=eV
theorem xW (F:gv K mg "settle" i8 ["limits","starts"])(aaH:Cl P w K mg base 1 "is_better" 3 cV)(B:Bl mg):Cl P w K mg base 2 "settle" 2 fE:=
 bD F aa6 rfl λf c A o s H E hr x=>(by(apply ao;exact(yL 2 (hu8 hr) rfl B.b_dict aa6.nd (hW (N':=["event"]) (src:=[none]) rfl (LcScope.by (N:=kZ) (names:=(ai i8).names) rfl rfl rfl (by decide+kernel)) (eY (af 1)) (λ_ _ _ _ _=>⟨(ar 0 (show Lx (["event"]:List Str)by decide+kernel)),cE,(bc (ah (af 0) (ah (bc (ah ak (ah (gw ag) ag))) ag)))⟩)));apply ao;exact(aS jn (ar 3 aa6.nd));apply ao;exact(xC FU (d8 (af 3)) (ao (aS jn (ar 3 aa6.nd)) (au (cP rfl (j0 B.b_enumerate (ah (af 0) ag)) (mz rfl (dv (ar 4 aa6.nd) (dv (ar 5 aa6.nd) j4))) (by(apply ao;exact(aS (dD 2 (vQ (Jd hr) (af 2) (aD (af 5) ak))) (ar 6 aa6.nd));apply ao;exact(dC (vN (uw (b7 wq (af 6) c9) (qf (fN (qg 2 (d8 (aT aaH hr (ah (af 2) (ah (af 5) (ah (af 6) ag)))))))))) (au D7) ck);apply ao;exact(aS (aw aH (aD (af 6) ak) (gw (ah (af 4) ag))) (ar 7 aa6.nd));apply ao;exact(D6 8 (N':=["step","limits"]) (src:=[none,some 0]) rfl (LcScope.by (N:=kZ) (names:=(ai i8).names) rfl rfl rfl (by decide+kernel)) (eY (af 7)) (λ_ _ _ _ _=>⟨(ar 0 (show Lx (["step","limits"]:List Str)by decide+kernel)),cE,(aD (aD (af 1) (af 0)) ak)⟩) aa6.nd);apply ao;exact(dC (b7 (HA (Iy hr)) (aD (af 5) ak) (af 8)) (au (aC (bc (ah c9 (ah (hV (af 7) (g9 (xE (Iy hr) (af 8) (aD (af 5) ak))) hI) ag))))) ck);apply ao;exact(BA 2 (Jd hr) (aD (af 5) ak) (bc (ah (aw aH (aD (af 6) ak) (aD (af 5) ak)) (ah (af 7) ag))));exact au (aS jn (ar 3 aa6.nd))))))));exact au (jZ 2 (aC (bc (ah (af 2) (ah c9 ag)))))))
abbrev dF:Stmt:=top 42
abbrev fP:List Str:=["record","limits","places","best"]
theorem aaj:ay fP ["record","limits"] (ai dF):=eV
theorem kr (F:gv K mg "greatest_world" dF ["record","limits"])(aaP:Cl P w K mg base 8 "events" 1 iC)(aaQ:Cl P w K mg base 2 "settle" 2 fE)(B:Bl mg):Cl P w K mg base 9 "greatest_world" 2 cZ:=
 bD F aaj rfl λf c A o s H E hr x=>(by(apply ao;exact(aS (aT aaP hr (ah (af 0) ag)) (ar 2 aaj.nd));apply ao;exact(aS (aD (aT aaQ hr (ah (af 1) (ah (af 2) ag))) ak) (ar 3 aaj.nd));apply ao;exact(dC (b7 wq (af 3) c9) (au (aC c9)) ck);exact au (aC (vR oy B.b_tuple et (ah (hW (N':=["event","best"]) (src:=[none,some 3]) rfl (LcScope.by (N:=fP) (names:=(ai dF).names) rfl rfl rfl (by decide+kernel)) (eY (af 2)) (λ_ _ _ _ _=>⟨(ar 0 (show Lx (["event","best"]:List Str)by decide+kernel)),cE,(aD (D9 (Jd hr) (af 1) (af 0)) ak)⟩)) ag)))))
abbrev fx:Stmt:=top 35
abbrev jN:List Str:=["number","clock","readings","told","k","first","second","steps"]
theorem aa4:ay jN ["number","clock"] (ai fx):=eV
theorem jK (F:gv K mg "bounds_of_clock" fx ["number","clock"])(B:Bl mg):Cl P w K mg base 1 "bounds_of_clock" 2 b8:=
 bD F aa4 rfl λf c A o s H E hr x=>(by(apply ao;exact(aS (aD (af 1) ak) (ar 2 aa4.nd));apply ao;exact(jY 3 aa4.nd ag);apply ao;exact(cP rfl (bz B.b_range (ah (aw ix (cF cv B.b_len LL (ah (af 2) ag)) ak) ag)) (ar 4 aa4.nd) (by(apply ao;exact(aS (bc (ah (af 0) (ah (af 4) ag))) (ar 5 aa4.nd));apply ao;exact(aS (bc (ah (af 0) (ah (aw aH (af 4) ak) ag))) (ar 6 aa4.nd));apply ao;exact(aS (aw ix (aD (af 2) (aw aH (af 4) ak)) (aD (af 2) (af 4))) (ar 7 aa4.nd));apply ao;exact(qi 3 (bc (ah (af 5) (ah (af 6) (ah (aw cy (af 7) (aD (af 1) ak)) ag)))));exact au (qi 3 (bc (ah (af 6) (ah (af 5) (ah (aw cy (mO (af 7)) (aD (af 1) ak)) ag))))))));exact au (jZ 3 (aC (af 3)))))
abbrev eR:Stmt:=top 36
abbrev jk:List Str:=["letter","told"]
theorem aao:ay jk ["letter"] (ai eR):=eV
theorem jj (F:gv K mg "bounds_of_letter" eR ["letter"]):Cl P w K mg base 1 "bounds_of_letter" 1 bV:=
 bD F aao rfl λf c A o s H E hr x=>(by(apply ao;exact(jY 1 aao.nd (ah (bc (ah (aD (af 0) ak) (ah (aD (af 0) ak) (ah (mO (aD (af 0) ak)) ag)))) ag));apply ao;exact(dC (b7 ko (aD (af 0) ak) c9) (au (qi 1 (bc (ah (aD (af 0) ak) (ah (aD (af 0) ak) (ah (aD (af 0) ak) ag)))))) ck);exact au (jZ 1 (aC (af 1)))))
abbrev pD:Stmt:=top 37
abbrev x5:List Str:=["record","told","number","clock","letter"]
theorem aar:ay x5 ["record"] (ai pD):=eV
theorem xY (F:gv K mg "bounds" pD ["record"])(aa1:Cl P w K mg base 7 "need_record" 1 aJ)(aak:Cl P w K mg base 1 "bounds_of_clock" 2 b8)(aah:Cl P w K mg base 1 "bounds_of_letter" 1 bV)(B:Bl mg):Cl P w K mg base 8 "bounds" 1 iD:=
 bD F aar rfl λf c A o s H E hr x=>(by(apply ao;exact(eC (aT aa1 hr (ah (af 0) ag)));apply ao;exact(jY 1 aar.nd ag);apply ao;exact(cP rfl (j0 B.b_enumerate (ah (aD (af 0) ak) ag)) (mz rfl (dv (ar 2 aar.nd) (dv (ar 3 aar.nd) j4))) (au (qh 1 (aT aak hr (ah (af 2) (ah (af 3) ag))))));apply ao;exact(cP rfl (eY (aD (af 0) ak)) (ar 4 aar.nd) (au (qh 1 (aT aah hr (ah (af 4) ag)))));exact au (jZ 1 (aC (af 1)))))
abbrev sG:Stmt:=top 43
abbrev zJ:List Str:=["record"]
theorem y6:ay zJ ["record"] (ai sG):=eV
theorem zD (F:gv K mg "world" sG ["record"])(aal:Cl P w K mg base 9 "greatest_world" 2 cZ)(aaR:Cl P w K mg base 8 "bounds" 1 iD):Cl P w K mg base 10 "world" 1 mI:=
 bD F y6 rfl λf c A o s H E hr x=>(au (aC (aT aal hr (ah (af 0) (ah (aT aaR hr (ah (af 0) ag)) ag)))))
abbrev kf:Stmt:=top 44
abbrev rz:List Str:=["record"]
theorem qA:ay rz ["record"] (ai kf):=eV
theorem qY (F:gv K mg "has_world" kf ["record"])(aaT:Cl P w K mg base 10 "world" 1 mI):Cl P w K mg base 11 "has_world" 1 bo:=
 bD F qA rfl λf c A o s H E hr x=>(au (aC (hZ ko (aT aaT hr (ah (af 0) ag)) c9)))
abbrev ip:Stmt:=bY (top 46) 6
abbrev nR:List Str:=["self","step"]
theorem sc_Sketch_good:ay nR ["self"] (ai ip):=eV
theorem nC (F:jW K "Sketch" "good" "Sketch.good" ip ["self"])(aae:Cl P w K mg base 11 "has_world" 1 bo)(B:Bl mg)(K_Sketch:bB K mg):Ml P w K mg base 12 "Sketch" "good" ef:=
 zN F sc_Sketch_good rfl λf c A o s H E hr x=>(ao (cP rfl (BD B.b_reversed (ah (hY K_Sketch.k K_Sketch.a_past (af 0)) ag)) (ar 1 sc_Sketch_good.nd) (au (dC (d8 (aT aae hr (ah (aD (af 1) ak) ag))) (au (aC (aD (af 1) ak))) ck))) (au (aC c9)))
abbrev gj:Stmt:=bY (top 46) 9
abbrev k9:List Str:=["self"]
theorem kP:ay k9 ["self"] (ai gj):=eV
theorem kU (F:jW K "Sketch" "counts" "Sketch.counts" gj ["self"])(B:Bl mg)(K_Sketch:bB K mg):Ml P w K mg base 1 "Sketch" "counts" aV:=
 zN F kP rfl λf c A o s H E hr x=>(au (aC (bc (ah (aw ix (cF cv B.b_len LL (ah (hY K_Sketch.k K_Sketch.a_past (af 0)) ag)) ak) (ah (cF cv B.b_len LL (ah (hY K_Sketch.k K_Sketch.a_ahead (af 0)) ag)) ag)))))
abbrev lL:Stmt:=top 55
abbrev tH:List Str:=["_law_sketch"]
theorem sQ:ay tH ["_law_sketch"] (ai lL):=eV
theorem ti (F:gv K mg "_law_now" lL ["_law_sketch"])(c_Sketch_record:Ml P w K mg base 1 "Sketch" "record" aA)(c_Sketch_good:Ml P w K mg base 12 "Sketch" "good" ef)(c_Sketch_counts:Ml P w K mg base 1 "Sketch" "counts" aV)(K_Sketch:bB K mg):Cl P w K mg base 13 "_law_now" 1 aU:=
 bD F sQ rfl λf c A o s H E hr x=>(au (aC (bc (ah (cY K_Sketch.k c_Sketch_record hr (af 0)) (ah (cY K_Sketch.k c_Sketch_good hr (af 0)) (ah (cY K_Sketch.k c_Sketch_counts hr (af 0)) ag))))))
abbrev gS:Stmt:=bY (top 46) 2
abbrev l9:List Str:=["self","word","record"]
theorem lY:ay l9 ["self","word","record"] (ai gS):=eV
theorem l5 (F:jW K "Sketch" "go_on" "Sketch.go_on" gS ["self","word","record"])(aae:Cl P w K mg base 11 "has_world" 1 bo)(K_Sketch:bB K mg):Mm P w K mg base 12 "Sketch" "go_on" 3 bf:=
 nU F lY rfl λf c A o s H E hr x=>(cx (lG (uv 0 K_Sketch.k K_Sketch.a_past (bc (ah (af 1) (ah (af 2) ag))))) (cx (uB 0 K_Sketch.k K_Sketch.a_ahead ag) (cO (jE (eX (aT aae hr (ah (af 2) ag)))))))
abbrev ig:Stmt:=top 26
abbrev nM:List Str:=["many","thing"]
theorem mY:ay nM ["many","thing"] (ai ig):=eV
theorem nr (F:gv K mg "need_number" ig ["many","thing"])(aa2:Cl P w K mg base 2 "is_within" 3 aR){C_NoRecord C_NoNumber C_Nothing C_ClockError:Addr}(S:Xs K mg C_NoRecord C_NoNumber C_Nothing C_ClockError):Cl P w K mg base 3 "need_number" 2 cK:=
 bD F mY rfl λf c A o s H E hr x=>(au (dC (fN (d8 (aT aa2 hr (ah (af 1) (ah ak (ah (aw ix (af 0) ak) ag)))))) (au (i5 S.o_NoNumber S.m_NoNumber)) ck))
abbrev fO:Stmt:=top 31
abbrev kz:List Str:=["record","number","letters"]
theorem aax:ay kz ["record","number"] (ai fO):=eV
theorem kq (F:gv K mg "without_letter" fO ["record","number"])(aa1:Cl P w K mg base 7 "need_record" 1 aJ)(aaa:Cl P w K mg base 3 "need_number" 2 cK)(B:Bl mg):Cl P w K mg base 8 "without_letter" 2 bR:=
 bD F aax rfl λf c A o s H E hr x=>(by(apply ao;exact(eC (aT aa1 hr (ah (af 0) ag)));apply ao;exact(aS (aD (af 0) ak) (ar 2 aax.nd));apply ao;exact(eC (aT aaa hr (ah (cF cv B.b_len LL (ah (af 2) ag)) (ah (af 1) ag))));exact au (aC (bc (ah (aD (af 0) ak) (ah (aw aH (hV (af 2) hI (g9 (af 1))) (hV (af 2) (g9 (aw aH (af 1) ak)) hI)) ag))))))
abbrev jx:Stmt:=bY (top 46) 5
abbrev pd:List Str:=["self","number"]
theorem oP:ay pd ["self","number"] (ai jx):=eV
theorem o5 (F:jW K "Sketch" "cut" "Sketch.cut" jx ["self","number"])(c_Sketch_go_on:Mm P w K mg base 12 "Sketch" "go_on" 3 bf)(aam:Cl P w K mg base 8 "without_letter" 2 bR)(c_Sketch_record:Ml P w K mg base 1 "Sketch" "record" aA)(K_Sketch:bB K mg):Mm P w K mg base 13 "Sketch" "cut" 2 dJ:=
 nU F oP rfl λf c A o s H E hr x=>(cO (jE (i0 0 K_Sketch.k c_Sketch_go_on hr (ah uz (ah (aT aam hr (ah (dD 0 (cY K_Sketch.k c_Sketch_record hr (af 0))) (ah (af 1) ag))) ag)))))
abbrev ke:Stmt:=top 29
abbrev rq:List Str:=["thing"]
theorem qz:ay rq ["thing"] (ai ke):=eV
theorem qX (F:gv K mg "if_record" ke ["thing"])(aa1:Cl P w K mg base 7 "need_record" 1 aJ):Cl P w K mg base 8 "if_record" 1 cw:=
 bD F qz rfl λf c A o s H E hr x=>(ao (eC (aT aa1 hr (ah (af 0) ag))) (au (aC (af 0))))
abbrev jt:Stmt:=top 32
abbrev o6:List Str:=["record","number","clock","clocks"]
theorem aaL:ay o6 ["record","number","clock"] (ai jt):=eV
theorem oV (F:gv K mg "with_clock" jt ["record","number","clock"])(aaf:Cl P w K mg base 8 "if_record" 1 cw):Cl P w K mg base 9 "with_clock" 3 ff:=
 bD F aaL rfl λf c A o s H E hr x=>(ao (aS (aD (af 0) ak) (ar 3 aaL.nd)) (au (aC (aT aaf hr (ah (bc (ah (aw aH (aw aH (hV (af 3) hI (g9 (af 1))) (bc (ah (af 2) ag))) (hV (af 3) (g9 (aw aH (af 1) ak)) hI)) (ah (aD (af 0) ak) ag))) ag)))))
abbrev gQ:Stmt:=top 33
abbrev l7:List Str:=["record","clock","reading","old"]
theorem aaD:ay l7 ["record","clock","reading"] (ai gQ):=eV
theorem lZ (F:gv K mg "with_reading" gQ ["record","clock","reading"])(aa1:Cl P w K mg base 7 "need_record" 1 aJ)(aaa:Cl P w K mg base 3 "need_number" 2 cK)(aaB:Cl P w K mg base 9 "with_clock" 3 ff)(B:Bl mg):Cl P w K mg base 10 "with_reading" 3 bU:=
 bD F aaD rfl λf c A o s H E hr x=>(by(apply ao;exact(eC (aT aa1 hr (ah (af 0) ag)));apply ao;exact(eC (aT aaa hr (ah (cF cv B.b_len LL (ah (aD (af 0) ak) ag)) (ah (af 1) ag))));apply ao;exact(aS (aD (aD (af 0) ak) (af 1)) (ar 3 aaD.nd));exact au (aC (aT aaB hr (ah (af 0) (ah (af 1) (ah (bc (ah (aD (af 3) ak) (ah (aD (af 3) ak) (ah (aw aH (aD (af 3) ak) (bc (ah (af 2) ag))) ag)))) ag)))))))
abbrev il:Stmt:=bY (top 46) 4
abbrev nQ:List Str:=["self","clock","reading"]
theorem m4:ay nQ ["self","clock","reading"] (ai il):=eV
theorem nB (F:jW K "Sketch" "read" "Sketch.read" il ["self","clock","reading"])(c_Sketch_go_on:Mm P w K mg base 12 "Sketch" "go_on" 3 bf)(aaq:Cl P w K mg base 10 "with_reading" 3 bU)(c_Sketch_record:Ml P w K mg base 1 "Sketch" "record" aA)(K_Sketch:bB K mg):Mm P w K mg base 13 "Sketch" "read" 3 cN:=
 nU F m4 rfl λf c A o s H E hr x=>(cO (jE (i0 0 K_Sketch.k c_Sketch_go_on hr (ah uz (ah (aT aaq hr (ah (dD 0 (cY K_Sketch.k c_Sketch_record hr (af 0))) (ah (af 1) (ah (af 2) ag)))) ag)))))
abbrev ib:Stmt:=top 30
abbrev nK:List Str:=["record","letter"]
theorem mW:ay nK ["record","letter"] (ai ib):=eV
theorem nj (F:gv K mg "with_letter" ib ["record","letter"])(aa1:Cl P w K mg base 7 "need_record" 1 aJ)(aaf:Cl P w K mg base 8 "if_record" 1 cw):Cl P w K mg base 9 "with_letter" 2 cj:=
 bD F mW rfl λf c A o s H E hr x=>(ao (eC (aT aa1 hr (ah (af 0) ag))) (au (aC (aT aaf hr (ah (bc (ah (aD (af 0) ak) (ah (aw aH (aD (af 0) ak) (bc (ah (af 1) ag))) ag))) ag)))))
abbrev gR:Stmt:=bY (top 46) 3
abbrev l8:List Str:=["self","letter"]
theorem lX:ay l8 ["self","letter"] (ai gR):=eV
theorem l4 (F:jW K "Sketch" "write" "Sketch.write" gR ["self","letter"])(c_Sketch_go_on:Mm P w K mg base 12 "Sketch" "go_on" 3 bf)(aav:Cl P w K mg base 9 "with_letter" 2 cj)(c_Sketch_record:Ml P w K mg base 1 "Sketch" "record" aA)(K_Sketch:bB K mg):Mm P w K mg base 13 "Sketch" "write" 2 cp:=
 nU F lX rfl λf c A o s H E hr x=>(cO (jE (i0 0 K_Sketch.k c_Sketch_go_on hr (ah uz (ah (aT aav hr (ah (dD 0 (cY K_Sketch.k c_Sketch_record hr (af 0))) (ah (af 1) ag))) ag)))))
abbrev kg:Stmt:=top 54
abbrev rA:List Str:=["_law_script","_law_at","_law_sketch","_law_record_here","_law_deed","_law_letter_here","_law_clock_here"]
theorem aai:ay rA ["_law_script","_law_at","_law_sketch"] (ai kg):=eV
theorem qZ (F:gv K mg "_law_step" kg ["_law_script","_law_at","_law_sketch"])(c_Sketch_record:Ml P w K mg base 1 "Sketch" "record" aA)(aa0:Cl P w K mg base 2 "_law_drawn" 3 ax)(aa9:Cl P w K mg base 3 "_law_letter" 3 bF)(c_Sketch_cut:Mm P w K mg base 13 "Sketch" "cut" 2 dJ)(c_Sketch_read:Mm P w K mg base 13 "Sketch" "read" 3 cN)(c_Sketch_write:Mm P w K mg base 13 "Sketch" "write" 2 cp)(B:Bl mg)(K_Sketch:bB K mg){C_NoRecord C_NoNumber C_Nothing C_ClockError:Addr}(S:Xs K mg C_NoRecord C_NoNumber C_Nothing C_ClockError):Ce P w K mg base 14 "_law_step" 3 2 bK:=
 DW F aai rfl λf c A o s H E hr x=>(cx (pA 3 aai.nd (eX (dD 2 (cY K_Sketch.k c_Sketch_record hr (af 2))))) (cx (pA 4 aai.nd (eX (aT aa0 hr (ah (af 0) (ah (af 1) (ah ak ag)))))) (cx (pA 5 aai.nd (eX (aT aa9 hr (ah (af 0) (ah (aw aH (af 1) ak) (ah (aD (af 3) ak) ag)))))) (cx (pA 6 aai.nd (eX (aT aa0 hr (ah (af 0) (ah (aw aH (af 1) ak) (ah (cF cv B.b_len LL (ah (aD (af 3) ak) ag)) ag)))))) (cO (BG S.m_NoRecord S.o_NoRecord (λ_ _=>(cO (sk (vN (Bz (b7 (ni (jR hr)) (af 4) ak) (yK (b7 (lM (jR hr)) (aD (af 3) ak) (bc ag))))) (cO (lG (i0 2 K_Sketch.k c_Sketch_cut hr (ah (aT aa0 hr (ah (af 0) (ah (aw aH (af 1) ak) (ah (cF cv B.b_len LL (ah (aD (af 3) ak) ag)) ag)))) ag)))) (cO (sk (b7 (ni (jR hr)) (af 4) ak) (cO (lG (i0 2 K_Sketch.k c_Sketch_read hr (ah (af 6) (ah (aw aH (aw aH (aD (aD (aD (aD (af 3) ak) (af 6)) ak) (mO ak)) ak) (aT aa0 hr (ah (af 0) (ah (aw aH (af 1) ak) (ah ak ag))))) ag))))) (cO (sk (b7 ko (af 5) c9) (cO (lG (i0 2 K_Sketch.k c_Sketch_write hr (ah (af 5) ag)))) uA))))))) (λ_ _=>(au (aC c9))) (hcl:=λ_ _ z=>by cases z)))))))
abbrev ju:Stmt:=top 56
abbrev o7:List Str:=["_law_script","_law_sketch","_law_k"]
theorem aaM:ay o7 ["_law_script","_law_sketch"] (ai ju):=eV
theorem oY (F:gv K mg "_law_go_on" ju ["_law_script","_law_sketch"])(aa5:Cl P w K mg base 13 "_law_now" 1 aU)(aag:Ce P w K mg base 14 "_law_step" 3 2 bK)(B:Bl mg):Ce P w K mg base 15 "_law_go_on" 2 1 dI:=
 DW F aaM rfl λf c A o s H E hr x=>(cx (Ee rfl (bz B.b_range (ah ak ag)) (BH 2 aaM.nd) (cO (lG (qe aag hr (gh (af 0) (gh (aw aH ak (aw cy ak (af 2))) (mB 1))))))) (cO (jE (eX (dD 1 (aT aa5 hr (ah (af 1) ag)))))))
abbrev gU:Stmt:=bY (top 46) 8
abbrev md:List Str:=["self","step"]
theorem sc_Sketch_forth:ay md ["self"] (ai gU):=eV
theorem l6 (F:jW K "Sketch" "forth" "Sketch.forth" gU ["self"])(K_Sketch:bB K mg){C_NoRecord C_NoNumber C_Nothing C_ClockError:Addr}(S:Xs K mg C_NoRecord C_NoNumber C_Nothing C_ClockError):Mm P w K mg base 1 "Sketch" "forth" 1 bW:=
 nU F sc_Sketch_forth rfl λf c A o s H E hr x=>(cx (sk (qg 0 (b7 (ni (jR hr)) (hY K_Sketch.k K_Sketch.a_ahead (af 0)) (gw ag))) (cO (yN (i5 S.o_Nothing S.m_Nothing))) uA) (cx (pA 1 sc_Sketch_forth.nd (yJ 0 K_Sketch.k K_Sketch.a_ahead)) (cx (lG (uv 0 K_Sketch.k K_Sketch.a_past (af 1))) (cO (jE (eX (aD (af 1) ak)))))))
abbrev qr:Stmt:=top 57
abbrev uZ:List Str:=["_law_script","_law_first","_law_sketch","_law_k","_law_turn","_law_before","_law_twin","_law_third","_law_there"]
theorem aad:ay uZ ["_law_script"] (ai qr):=eV
theorem FA {f:Addr}{fd:KY}(aaU:Fn K mg "law" qr ["_law_script"] f fd)(c_Sketch___init__:Mm P w K mg base 8 "Sketch" "__init__" 2 bM)(c_Sketch_twin:Jl P w K mg base 10 "Sketch" "twin" cM)(aaw:Cl P w K mg base 4 "_law_record" 3 ee)(c_Sketch_back:Mm P w K mg base 1 "Sketch" "back" 1 aP)(aa5:Cl P w K mg base 13 "_law_now" 1 aU)(aan:Ce P w K mg base 15 "_law_go_on" 2 1 dI)(c_Sketch_forth:Mm P w K mg base 1 "Sketch" "forth" 1 bW)(aag:Ce P w K mg base 14 "_law_step" 3 2 bK)(c_Sketch_counts:Ml P w K mg base 1 "Sketch" "counts" aV)(c_Sketch_record:Ml P w K mg base 1 "Sketch" "record" aA)(aa0:Cl P w K mg base 2 "_law_drawn" 3 ax)(B:Bl mg)(K_Sketch:bB K mg):Bx P w K mg base 16 f fd ["_law_script"] 1 m_law:=
 qk aaU.fn aad rfl λc A o s H E hr x=>(by(apply ao;exact(aS (aT aaw hr (ah (af 0) (ah ak (ah ak ag)))) (ar 1 aad.nd));apply ao;exact(sg 2 aad.nd K_Sketch.k c_Sketch___init__ hr (ah (af 1) ag));apply ao;exact(cP rfl (bz B.b_range (ah (aw aH ak (aT aa0 hr (ah (af 0) (ah ak (ah ak ag))))) ag)) (ar 3 aad.nd) (au (my (qe aag hr (gh (af 0) (gh (aw aH ak (aw cy ak (af 3))) (mB 2)))))));apply ao;exact(cP rfl (bz B.b_range (ah (cF (Gv rfl) B.b_min boot_min (ah (aD (dD 2 (cY K_Sketch.k c_Sketch_counts hr (af 2))) ak) (ah (aT aa0 hr (ah (af 0) (ah ak (ah ak ag)))) ag))) ag)) (ar 4 aad.nd) (au (my (g8 2 K_Sketch.k c_Sketch_back hr))));apply ao;exact(aS (dD 2 (aT aa5 hr (ah (af 2) ag))) (ar 5 aad.nd));apply ao;exact(vO 6 2 aad.nd K_Sketch.k c_Sketch_twin hr);apply ao;exact(vO 7 6 aad.nd K_Sketch.k c_Sketch_twin hr);apply ao;exact(dC (qg 6 (qg 7 (b7 (lM (jR hr)) (hW (N':=["_law_one"]) (src:=[none]) rfl (LcScope.by (N:=uZ) (names:=(ai qr).names) rfl rfl rfl (by decide+kernel)) (eY (bc (ah (af 6) (ah (af 7) ag)))) (λ_ _ _ _ _=>⟨(ar 0 (show Lx (["_law_one"]:List Str)by decide+kernel)),cE,(aT aa5 hr (ah (af 0) ag))⟩)) (aw cy (gw (ah (af 5) ag)) ak)))) (au (aC jn)) ck);apply ao;exact(BB 8 aad.nd (qe aan hr (gh (af 0) (mB 2))));apply ao;exact(vP (Dz (yH (sf (b7 (lM (jR hr)) (dD 6 (aT aa5 hr (ah (af 6) ag))) (af 5))) (vM (By (lM (jR hr)) (qe aan hr (gh (af 0) (mB 6))) (af 8))))) (au (aC jn)) ck);apply ao;exact(dC (b7 (lM (jR hr)) (dD 7 (aT aa5 hr (ah (af 7) ag))) (af 5)) (au (aC jn)) ck);apply ao;exact(cP rfl (bz B.b_range (ah (aD (dD 7 (cY K_Sketch.k c_Sketch_counts hr (af 7))) ak) ag)) (ar 4 aad.nd) (au (my (g8 7 K_Sketch.k c_Sketch_forth hr))));apply ao;exact(cP rfl (bz B.b_range (ah (aD (dD 6 (cY K_Sketch.k c_Sketch_counts hr (af 6))) ak) ag)) (ar 4 aad.nd) (au (vP (Dz (yH (yI (lM (jR hr)) (g8 6 K_Sketch.k c_Sketch_back hr) (g8 2 K_Sketch.k c_Sketch_back hr)) (vM (sf (b7 (lM (jR hr)) (dD 6 (aT aa5 hr (ah (af 6) ag))) (dD 2 (aT aa5 hr (ah (af 2) ag)))))))) (au (aC jn)) ck)));apply ao;exact(cP rfl (bz B.b_range (ah (aD (dD 7 (cY K_Sketch.k c_Sketch_counts hr (af 7))) ak) ag)) (ar 4 aad.nd) (au (my (g8 7 K_Sketch.k c_Sketch_back hr))));exact au (aC (dD 6 (dD 2 (dD 7 (hZ (ni (jR hr)) (hW (N':=["_law_one"]) (src:=[none]) rfl (LcScope.by (N:=uZ) (names:=(ai qr).names) rfl rfl rfl (by decide+kernel)) (eY (bc (ah (af 2) (ah (af 6) (ah (af 7) ag))))) (λ_ _ _ _ _=>⟨(ar 0 (show Lx (["_law_one"]:List Str)by decide+kernel)),cE,(cY K_Sketch.k c_Sketch_record hr (af 0))⟩)) (aw cy (gw (ah (af 1) ag)) ak))))))))
end
@[elab_as_elim] theorem df {α:Type} {p:List α->Prop} (h:∀a0,p [a0]):∀us:List α,us.length=1->p us
 | [a0],_=>h a0
@[elab_as_elim] theorem eG {α:Type} {p:List α->Prop} (h:∀a0 a1,p [a0,a1]):∀us:List α,us.length=2->p us
 | [a0,a1],_=>h a0 a1
@[elab_as_elim] theorem iG {α:Type} {p:List α->Prop} (h:∀a0 a1 a2,p [a0,a1,a2]):∀us:List α,us.length=3->p us
 | [a0,a1,a2],_=>h a0 a1 a2
theorem all_ok {l:PySem.W.OpenLaw}{w:K1}{K:J5}{h:Heap}{mg:Str->Option J7}{fa:Addr}(X:K.In h)(e0:zG asks K=yU asks top)(G:h.Ns KN mg)(hfa:mg "law" =some (.ref fa)) :
  ∃fd:KY,(∀(s:J9) (v:J7),Oe s fd ⟨[v],[]⟩ [("_law_script",v)])/\∀base:Heap,K.In base->base.Ns KN mg->FnOk l.prog w K mg base CX0 16 fa fd ["_law_script"] (spP K 1 m_law):=by
 have e:tj A8 K=sy A8 top:=congrArg (·.1) e0
 obtain⟨kc0,ka0,km0⟩:=Ir (A:=⟨"Sketch",46,["past","ahead"],[("__init__","Sketch.__init__",0),("record","Sketch.record",1),("twin","Sketch.twin",10),("back","Sketch.back",7),("good","Sketch.good",6),("counts","Sketch.counts",9),("go_on","Sketch.go_on",2),("cut","Sketch.cut",5),("read","Sketch.read",4),("write","Sketch.write",3),("forth","Sketch.forth",8)]⟩) X G (lh 0 (congrArg (·.2) e0) rfl)
 have K_Sketch:bB K mg:=⟨kc0,ka0 _ (by decide),ka0 _ (by decide)⟩
 have B:Bl mg:=⟨eO 0 X G e rfl,eO 1 X G e rfl,eO 2 X G e rfl,eO 3 X G e rfl,eO 4 X G e rfl,eO 5 X G e rfl,eO 6 X G e rfl,eO 7 X G e rfl,eO 8 X G e rfl,eO 9 X G e rfl,eO 10 X G e rfl,eO 11 X G e rfl⟩
 have C:Cs mg:=⟨pQ 0 X G e rfl,pQ 1 X G e rfl,pQ 2 X G e rfl,pQ 3 X G e rfl,pQ 4 X G e rfl,pQ 5 X G e rfl⟩;obtain⟨C_ClockError,ls,xD,xl,nd⟩:=FC (Ip e);obtain⟨C_NoRecord,ls0,x_NoRecord,rfl,xl0⟩:=lC xl;obtain⟨C_NoNumber,ls1,x_NoNumber,rfl,xl1⟩:=lC xl0;obtain⟨C_Nothing,ls2,x_Nothing,rfl,xl2⟩:=lC xl1;cases Ba xl2
 have S:Xs K mg C_NoRecord C_NoNumber C_Nothing C_ClockError:=⟨N6 X G (jM x_NoRecord).1,N6 X G (jM x_NoNumber).1,N6 X G (jM x_Nothing).1,N6 X G (jM xD).1,ox1 x_NoRecord xD,ox1 x_NoNumber xD,ox1 x_Nothing xD,ox0 xD,nd⟩;obtain⟨fd38,aaU,bnd⟩:=Ii (n:="law") (i:=57) (x:="_law_script") 38 X G e rfl hfa λ_ _ _ _ _ _ _=>rfl
 refine⟨fd38,bnd,λbase _ _=> ?_⟩
 have aa3:=uX l.prog w base (cI 0 X G e rfl λ_ _ _ _ _ _ us hl=>iG (λ_ _ _=>rfl) us hl) B
 have aaI:=sX l.prog w base (cI 1 X G e rfl λ_ _ _ _ _ _ us hl=>df (λ_=>rfl) us hl) B
 have aa2:=qT l.prog w base (cI 2 X G e rfl λ_ _ _ _ _ _ us hl=>iG (λ_ _ _=>rfl) us hl) aaI
 have aaN:=uW l.prog w base (cI 3 X G e rfl λ_ _ _ _ _ _ us hl=>eG (λ_ _=>rfl) us hl) aa2 C
 have aaS:=zF l.prog w base (cI 4 X G e rfl λ_ _ _ _ _ _ us hl=>df (λ_=>rfl) us hl) B
 have aap:=l0 l.prog w base (cI 5 X G e rfl λ_ _ _ _ _ _ us hl=>df (λ_=>rfl) us hl) aa3 aaS aa2 B C
 have aaJ:=tf l.prog w base (cI 6 X G e rfl λ_ _ _ _ _ _ us hl=>df (λ_=>rfl) us hl) aa3 aaN aap
 have aaz:=oX l.prog w base (cI 7 X G e rfl λ_ _ _ _ _ _ us hl=>df (λ_=>rfl) us hl) aa3 aaJ B C
 have aay:=sY l.prog w base (cI 8 X G e rfl λ_ _ _ _ _ _ us hl=>eG (λ_ _=>rfl) us hl) aa2 aa3 B
 have aaK:=sZ l.prog w base (cI 9 X G e rfl λ_ _ _ _ _ _ us hl=>eG (λ_ _=>rfl) us hl) aa2 C
 have aaE:=qV l.prog w base (cI 10 X G e rfl λ_ _ _ _ _ _ us hl=>eG (λ_ _=>rfl) us hl) aay aa3 aaK
 have aas:=nt l.prog w base (cI 11 X G e rfl λ_ _ _ _ _ _ us hl=>eG (λ_ _=>rfl) us hl) aa3 aaE B C
 have aaF:=qU l.prog w base (cI 12 X G e rfl λ_ _ _ _ _ _ us hl=>df (λ_=>rfl) us hl) aa3 aaz aas
 have aa1:=nq l.prog w base (cI 13 X G e rfl λ_ _ _ _ _ _ us hl=>df (λ_=>rfl) us hl) aaF S
 have c_Sketch___init__:=jL l.prog w base (fG 0 km0 rfl λ_ _ _ _ _ _ us hl=>eG (λ_ _=>rfl) us hl) aa1 K_Sketch
 have c_Sketch_record:=kS l.prog w base (fG 1 km0 rfl λ_ _ _ _ _ _ us hl=>df (λ_=>rfl) us hl) K_Sketch
 have c_Sketch_twin:=nA l.prog w base (fG 2 km0 rfl λ_ _ _ _ _ _ us hl=>df (λ_=>rfl) us hl) c_Sketch___init__ c_Sketch_record B K_Sketch
 have aaG:=rf l.prog w base (cI 14 X G e rfl λ_ _ _ _ _ _ us hl=>eG (λ_ _=>rfl) us hl) B
 have aa0:=oZ l.prog w base (cI 15 X G e rfl λ_ _ _ _ _ _ us hl=>iG (λ_ _ _=>rfl) us hl) aaG
 have aau:=ny l.prog w base (cI 16 X G e rfl λ_ _ _ _ _ _ us hl=>df (λ_=>rfl) us hl) B
 have aa9:=nv l.prog w base (cI 17 X G e rfl λ_ _ _ _ _ _ us hl=>iG (λ_ _ _=>rfl) us hl) aau aa0 B
 have aaA:=o4 l.prog w base (cI 18 X G e rfl λ_ _ _ _ _ _ us hl=>eG (λ_ _=>rfl) us hl) aa0 B
 have aaw:=nu l.prog w base (cI 19 X G e rfl λ_ _ _ _ _ _ us hl=>iG (λ_ _ _=>rfl) us hl) aa0 aa9 aaA B
 have c_Sketch_back:=nE l.prog w base (fG 3 km0 rfl λ_ _ _ _ _ _ us hl=>df (λ_=>rfl) us hl) B K_Sketch S
 have aaP:=xX l.prog w base (cI 20 X G e rfl λ_ _ _ _ _ _ us hl=>df (λ_=>rfl) us hl) aa1 B
 have aaH:=qW l.prog w base (cI 21 X G e rfl λ_ _ _ _ _ _ us hl=>iG (λ_ _ _=>rfl) us hl)
 have aaQ:=xW l.prog w base (cI 22 X G e rfl λ_ _ _ _ _ _ us hl=>eG (λ_ _=>rfl) us hl) aaH B
 have aal:=kr l.prog w base (cI 23 X G e rfl λ_ _ _ _ _ _ us hl=>eG (λ_ _=>rfl) us hl) aaP aaQ B
 have aak:=jK l.prog w base (cI 24 X G e rfl λ_ _ _ _ _ _ us hl=>eG (λ_ _=>rfl) us hl) B
 have aah:=jj l.prog w base (cI 25 X G e rfl λ_ _ _ _ _ _ us hl=>df (λ_=>rfl) us hl)
 have aaR:=xY l.prog w base (cI 26 X G e rfl λ_ _ _ _ _ _ us hl=>df (λ_=>rfl) us hl) aa1 aak aah B
 have aaT:=zD l.prog w base (cI 27 X G e rfl λ_ _ _ _ _ _ us hl=>df (λ_=>rfl) us hl) aal aaR
 have aae:=qY l.prog w base (cI 28 X G e rfl λ_ _ _ _ _ _ us hl=>df (λ_=>rfl) us hl) aaT
 have c_Sketch_good:=nC l.prog w base (fG 4 km0 rfl λ_ _ _ _ _ _ us hl=>df (λ_=>rfl) us hl) aae B K_Sketch
 have c_Sketch_counts:=kU l.prog w base (fG 5 km0 rfl λ_ _ _ _ _ _ us hl=>df (λ_=>rfl) us hl) B K_Sketch
 have aa5:=ti l.prog w base (cI 29 X G e rfl λ_ _ _ _ _ _ us hl=>df (λ_=>rfl) us hl) c_Sketch_record c_Sketch_good c_Sketch_counts K_Sketch
 have c_Sketch_go_on:=l5 l.prog w base (fG 6 km0 rfl λ_ _ _ _ _ _ us hl=>iG (λ_ _ _=>rfl) us hl) aae K_Sketch
 have aaa:=nr l.prog w base (cI 30 X G e rfl λ_ _ _ _ _ _ us hl=>eG (λ_ _=>rfl) us hl) aa2 S
 have aam:=kq l.prog w base (cI 31 X G e rfl λ_ _ _ _ _ _ us hl=>eG (λ_ _=>rfl) us hl) aa1 aaa B
 have c_Sketch_cut:=o5 l.prog w base (fG 7 km0 rfl λ_ _ _ _ _ _ us hl=>eG (λ_ _=>rfl) us hl) c_Sketch_go_on aam c_Sketch_record K_Sketch
 have aaf:=qX l.prog w base (cI 32 X G e rfl λ_ _ _ _ _ _ us hl=>df (λ_=>rfl) us hl) aa1
 have aaB:=oV l.prog w base (cI 33 X G e rfl λ_ _ _ _ _ _ us hl=>iG (λ_ _ _=>rfl) us hl) aaf
 have aaq:=lZ l.prog w base (cI 34 X G e rfl λ_ _ _ _ _ _ us hl=>iG (λ_ _ _=>rfl) us hl) aa1 aaa aaB B
 have c_Sketch_read:=nB l.prog w base (fG 8 km0 rfl λ_ _ _ _ _ _ us hl=>iG (λ_ _ _=>rfl) us hl) c_Sketch_go_on aaq c_Sketch_record K_Sketch
 have aav:=nj l.prog w base (cI 35 X G e rfl λ_ _ _ _ _ _ us hl=>eG (λ_ _=>rfl) us hl) aa1 aaf
 have c_Sketch_write:=l4 l.prog w base (fG 9 km0 rfl λ_ _ _ _ _ _ us hl=>eG (λ_ _=>rfl) us hl) c_Sketch_go_on aav c_Sketch_record K_Sketch
 have aag:=qZ l.prog w base (cI 36 X G e rfl λ_ _ _ _ _ _ us hl=>iG (λ_ _ _=>rfl) us hl) c_Sketch_record aa0 aa9 c_Sketch_cut c_Sketch_read c_Sketch_write B K_Sketch S
 have aan:=oY l.prog w base (cI 37 X G e rfl λ_ _ _ _ _ _ us hl=>eG (λ_ _=>rfl) us hl) aa5 aag B
 have c_Sketch_forth:=l6 l.prog w base (fG 10 km0 rfl λ_ _ _ _ _ _ us hl=>df (λ_=>rfl) us hl) K_Sketch S
 exact(FA l.prog w base aaU c_Sketch___init__ c_Sketch_twin aaw c_Sketch_back aa5 aan c_Sketch_forth aag c_Sketch_counts c_Sketch_record aa0 B K_Sketch).h
end G
namespace Tr
open PySem
abbrev RR (cs ls:List T):T:=.tup [.tup cs,.tup ls]
mutual
def T.pl:T->Bool
 | .scr _=>false
 | .dct _ _=>false
 | .ob _ _ _=>false
 | .tup l=>plS l
 | .lst l=>plS l
 | _=>true
def plS:List T->Bool
 | [] =>true
 | t::l=>t.pl&&plS l
end
theorem e9:∀{l:List T} {t:T},plS l=true->t∈l->t.pl=true
 | [],_,_,h=>by cases h
 | u::l,t,h,m=>by
  unfold plS at h;rw[J8]at h;rcases Kf.mp m with rfl | m
  ·exact h.1
  ·exact e9 h.2 m
mutual
theorem T.Js:∀(t:T),t.pl=true->t.nd=true
 | .non,_=>rfl
 | .bl _,_=>rfl
 | .int _,_=>rfl
 | .str _,_=>rfl
 | .scr _,h=>by cases h
 | .dct _ _,h=>by cases h
 | .ob _ _ _,h=>by cases h
 | .tup l,h=>by unfold T.pl at h;unfold T.nd;exact plS_nds l h
 | .lst l,h=>by unfold T.pl at h;unfold T.nd;exact plS_nds l h
theorem plS_nds:∀(l:List T),plS l=true->nds l=true
 | [],_=>rfl
 | t::l,h=>by
  unfold plS at h;rw[J8]at h;unfold nds;rw[T.Js t h.1,plS_nds l h.2];rfl
end
theorem ve {fe:En->Rs T}{h:T->T}:∀(ts:List T) (Z:En),0<Z.length->(∀t∈ts,fe (Z.set 0 (.va t))= .ok (h t))->dM (gN 0) bT fe ts Z= .ok (ts.map h)
 | [],_,_,_=>rfl
 | t::r,Z,hl,hf=>by
  unfold dM
  have e1:gN 0 t Z= .ok (Z.set 0 (.va t)):=by unfold gN;rw[if_pos hl]
  have ih:=ve r (Z.set 0 (.va t)) (by rw[Lm];exact hl) (λu hu=>by rw[Qi];exact hf u (J6 _ hu))
  simp only[e1,az,bT,if_true,hf t Ke,ih,Ka]
theorem pZ (p:T->Bool):∀l:List T,oC (l.map λt=>T.bl (p t))=some (l.map p)
 | [] =>rfl
 | t::l=>by rw[Ka,oC,pZ p l];rfl
theorem all_map (p:T->Bool)(l:List T):pq [.lst (l.map λt=>T.bl (p t))] = .ok (.bl (l.all p)):=by
 simp only[pq,pZ,List.all_map]
 rfl
theorem jU {α:Type}{l:List α}{k:Nat}{t:α}(h:l[k]? =some t):L2.atI l (k:Int)=some t:=by
 have hk:k<l.length:=(Ki.mp h).1
 unfold L2.atI L2.ixN;rw[if_pos (by omega),if_pos (by omega),Lv]
 exact h
theorem aB {n k:Nat}(h:n<=k)(hk:autoParam (k<=1000) aqb._auto_1):n<=sizeLine:=by unfold sizeLine;omega
section
variable {f fa fb fc:En->Rs T}{fs:En->Rs (List T)}{b c:En->Rs Bool}{F G:En->Rs Fl}{Z Z' Z1 Z2:En}{t u r:T}{ts l m:List T}
theorem FT {i:Nat}(h:Z[i]? =some (.va t)):vr i Z= .ok t:=by unfold vr;rw[h]
theorem aL {g:T->T->Rs T}{x:Rs T}(ha:fa Z= .ok t)(hb:fb Z= .ok u)(hg:g t u=x):o2 g fa fb Z=x:=by unfold o2;rw[ha,hb];exact hg
theorem Ih {g:T->Rs T}{x:Rs T}(ha:fa Z= .ok t)(hg:g t=x):o1 g fa Z=x:=by unfold o1;rw[ha];exact hg
theorem Ig {g:T->T->Rs T}{x:Rs T}{ks vs:List T}(ha:fa Z= .ok (.dct ks vs))(hb:fb Z= .ok u)(hg:g (.dct ks vs) u=x):oD g fa fb Z=x:=by unfold oD;rw[ha];show(fb Z >>= g (.dct ks vs))=_;rw[hb];exact hg
theorem k_oL {g:T->T->Rs T}{x:Rs T}{ks:List T}(ha:fa Z= .ok (.lst ks))(hb:fb Z= .ok u)(hg:g (.lst ks) u=x):oL g fa fb Z=x:=by unfold oL;rw[ha];show(fb Z >>= g (.lst ks))=_;rw[hb];exact hg
theorem aq (h:f Z= .ok t)(hs:fs Z= .ok ts):ae f fs Z= .ok (t::ts):=by unfold ae;rw[h,hs];rfl
theorem bx {g:List T->Rs T}{x:Rs T}(h:fs Z= .ok ts)(hg:g ts=x):cl g fs Z=x:=by unfold cl;rw[h];exact hg
theorem dS {k:Bool}(h:f Z= .ok (.bl k)):tb f Z= .ok k:=by unfold tb;rw[h];rfl
theorem wN {k:Bool}(h:b Z= .ok k):dH b Z= .ok (!k):=by unfold dH;rw[h];rfl
theorem Ic (h:b Z= .ok true):qS b c Z= .ok true:=by unfold qS;rw[h];rfl
theorem Ie {x:Rs Bool}(h:b Z= .ok false)(h2:c Z=x):qS b c Z=x:=by unfold qS;rw[h];exact h2
theorem F4 (h:b Z= .ok false):r8 b c Z= .ok false:=by unfold r8;rw[h];rfl
theorem Ak {x:Rs Bool}(h:b Z= .ok true)(h2:c Z=x):r8 b c Z=x:=by unfold r8;rw[h];exact h2
theorem FZ (h:fa Z= .ok (.bl true)):Br fa fb Z= .ok (.bl true):=by unfold Br;rw[h];rfl
theorem F0 (h:fa Z= .ok (.bl false)):Br fa fb Z=fb Z:=by unfold Br;rw[h];rfl
theorem Ik {p:Bool}(h:b Z= .ok p):GF b fa fb Z=if p then fa Z else fb Z:=by unfold GF;rw[h];rfl
theorem da {g:T->En->Rs En}(h:f Z= .ok t)(hg:g t Z= .ok Z'):dj f g Z= .ok (.nx Z'):=by unfold dj;rw[h];show(match g t Z with | .ok Z'=>Rs.ok (Fl.nx Z') | _=> .bad)=_;rw[hg]
theorem aG (h:F Z= .ok (.nx Z')):aF F G Z=G Z':=by unfold aF;rw[h];rfl
theorem lq (h:F Z= .ok (.rt t)):aF F G Z= .ok (.rt t):=by unfold aF;rw[h];rfl
theorem Aa (h:F Z= .ok (.ct Z')):aF F G Z= .ok (.ct Z'):=by unfold aF;rw[h];rfl
theorem FV {c:Str}(h:F Z= .err c):aF F G Z= .err c:=by unfold aF;rw[h];rfl
theorem kE (h:b Z= .ok true):gV b F G Z=F Z:=by unfold gV;rw[h];rfl
theorem iI (h:b Z= .ok false):gV b F G Z=G Z:=by unfold gV;rw[h];rfl
theorem dy (h:f Z= .ok t):aK f Z= .ok (.rt t):=by unfold aK;rw[h];rfl
theorem FW {c:Str}(h:f Z= .err c):aK f Z= .err c:=by unfold aK;rw[h];rfl
theorem tT (h:f Z= .ok t):uO f Z= .ok (.nx Z):=by unfold uO;rw[h];rfl
theorem Io {c:Str}(h:f Z= .err c):uO f Z= .err c:=by unfold uO;rw[h];rfl
theorem fH {fi:En->Rs (List T)}{g:T->En->Rs En}{x:Fl}(h:fi Z= .ok ts)(h2:bp g F ts Z= .ok x):fV fi g F Z= .ok x:=by unfold fV;rw[h];show(match bp g F ts Z with | .ok f=>Rs.ok f | _=> .bad)=_;rw[h2]
theorem eQ {g:T->En->Rs En}(h:g t Z= .ok Z1)(h2:F Z1= .ok (.nx Z2)):bp g F (t::ts) Z=bp g F ts Z2:=by rw[bp,h];show(F Z1 >>= _)=_;rw[h2];rfl
theorem CZ {g:T->En->Rs En}(h:g t Z= .ok Z1)(h2:F Z1= .ok (.ct Z2)):bp g F (t::ts) Z=bp g F ts Z2:=by rw[bp,h];show(F Z1 >>= _)=_;rw[h2];rfl
theorem wQ {g:T->En->Rs En}(h:g t Z= .ok Z1)(h2:F Z1= .ok (.rt r)):bp g F (t::ts) Z= .ok (.rt r):=by rw[bp,h];show(F Z1 >>= _)=_;rw[h2];rfl
theorem z8 {n:Nat}(h:c Z= .ok false):bH c F (n+1) Z= .ok (.nx Z):=by unfold bH;rw[h]
theorem tR {n:Nat}(h:c Z= .ok true)(h2:F Z= .ok (.nx Z')):bH c F (n+1) Z=bH c F n Z':=by rw[bH,h];simp only[h2]
theorem z6 {n:Nat}(h:c Z= .ok true)(h2:F Z= .ok (.rt t)):bH c F (n+1) Z= .ok (.rt t):=by rw[bH,h];simp only[h2]
theorem cq {n m:Nat}(hl:ts.length=n)(h:F (aI m ts)= .ok (.rt t)):val n m F ts= .ok t:=by unfold val;rw[if_pos hl];unfold bw;rw[h];rfl
theorem vg {n m:Nat}{c:Str}(hl:ts.length=n)(h:F (aI m ts)= .err c):val n m F ts= .err c:=by unfold val;rw[if_pos hl];unfold bw;rw[h];rfl
theorem z9 {n m:Nat}(hl:ts.length=n)(h:F (aI m ts)= .ok (.nx Z)):val n m F ts= .ok .non:=by unfold val;rw[if_pos hl];unfold bw;rw[h];rfl
theorem vi {fi:En->Rs (List T)}{src:List (Option Nat)}{fe:En->Rs T}{h:T->T}(hi:fi Z= .ok ts)(hs:ts.length<=sizeLine)(hn:0<src.length)(hf:∀t∈ts,fe ((dg src Z).set 0 (.va t))= .ok (h t)) :
  gu fi src (gN 0) bT fe Z= .ok (.lst (ts.map h)):=by
 have e:=ve (fe:=fe) (h:=h) ts (dg src Z) (by unfold dg;rw[Kc];exact hn) hf
 unfold gu;rw[hi,az,if_pos hs,e]
theorem bX (h:fs Z= .ok ts)(hl:ts.length<=sizeLine):ba fs Z= .ok (.tup ts):=by unfold ba;rw[h];show jA ts=_;unfold jA;rw[if_pos hl]
theorem lR (h:fs Z= .ok ts)(hl:ts.length<=sizeLine):fj fs Z= .ok (.lst ts):=by unfold fj;rw[h];show jB ts=_;unfold jB;rw[if_pos hl]
theorem Ab {f:En->Rs (List T)}{i:Nat}(h:f Z= .ok l)(hi:i<Z.length)(hl:l.length<=1000):jy i f Z= .ok (.nx (Z.set i (.ow (.lst l)))):=by
 unfold jy;rw[h,az,if_pos ⟨hi,aB hl (by omega)⟩]
theorem Ac {i:Nat}(hi:i<Z.length):jy i aj Z= .ok (.nx (Z.set i (.ow (.lst [])))):=Ab rfl hi (LP _)
theorem Aj {i:Nat}(h:f Z= .ok t)(hi:Z[i]? =some (.ow (.lst l)))(hl:l.length<=1000):oQ i f Z= .ok (.nx (Z.set i (.ow (.lst (l++ [t]))))):=by
 unfold oQ;rw[hi];simp only[h,az];rw[if_pos (by unfold sizeLine;omega)]
theorem Ai {i:Nat}(h:f Z= .ok (.lst m))(hi:Z[i]? =some (.ow (.lst l)))(hl:l.length+m.length<=1000):m7 i f Z= .ok (.nx (Z.set i (.ow (.lst (l++m))))):=by
 unfold m7;rw[hi];simp only[h,az,Gd];rw[if_pos (by unfold sizeLine;omega)]
theorem Il (h:f Z= .ok (.tup l)):iS f Z= .ok l:=by unfold iS;rw[h];rfl
theorem Ag (h:f Z= .ok (.lst l)):iS f Z= .ok l:=by unfold iS;rw[h];rfl
theorem Im (h:fs Z= .ok [.lst l]):iE fs Z= .ok (cJ 0 l):=by unfold iE;rw[h];rfl
theorem DM {n:Nat}(e:l[n]? =some t):aQ (.tup l) (.int (n:Int))= .ok t:=by show(match L2.atI l _ with | some t=>Rs.ok t | none=> .bad)=_;rw[jU e]
theorem F2 {n:Nat}(e:l[n]? =some t):aQ (.lst l) (.int (n:Int))= .ok t:=by show(match L2.atI l _ with | some t=>Rs.ok t | none=> .bad)=_;rw[jU e]
theorem kD {n:Nat}(h:fa Z= .ok (.tup l))(h2:fb Z= .ok (.int (n:Int)))(e:l[n]? =some t):o2 aQ fa fb Z= .ok t:=aL h h2 (DM e)
theorem Ij {n:Nat}(h:fa Z= .ok (.lst l))(h2:fb Z= .ok (.int (n:Int)))(e:l[n]? =some t):o2 aQ fa fb Z= .ok t:=aL h h2 (F2 e)
theorem Ib {fe:En->Rs T}{fl fu:En->Rs (Option Int)}{lo hi:Option Int}(h:fe Z= .ok (.tup l))(h1:fl Z= .ok lo)(h2:fu Z= .ok hi):sl fe fl fu Z= .ok (.tup (mn l lo hi)):=by
 unfold sl;rw[h,h1,h2];rfl
theorem Ia {fe:En->Rs T}{fl fu:En->Rs (Option Int)}{lo hi:Option Int}(h:fe Z= .ok (.lst l))(h1:fl Z= .ok lo)(h2:fu Z= .ok hi):sl fe fl fu Z= .ok (.lst (mn l lo hi)):=by
 unfold sl;rw[h,h1,h2];rfl
theorem FY {i:Int}(h:f Z= .ok (.int i)):pS f Z= .ok (some i):=by unfold pS;rw[h];rfl
theorem AX (l:List T)(n:Nat):mn l none (some (n:Int))=l.take n:=by
 unfold mn;rw[HT.sIx_none,HT.sIx_nat,List.drop_zero,OG,List.take_eq_take_iff];omega
theorem ui (l:List T)(n:Nat):mn l (some (n:Int)) none=l.drop n:=by
 unfold mn;rw[HT.sIx_none,HT.sIx_nat]
 by_cases h:n<=l.length
 ·rw[Nat.min_eq_left h]
  exact List.take_of_length_le (by rw[Mp];omega)
 ·rw[Nat.min_eq_right (by omega),MZ (Kj _),MZ (by omega),List.take_nil]
theorem tS {i:Nat}{o:OT}(hi:Z[i]? =some (.ow o))(h:f (disown i Z)= .ok t)(hk:t.nk o.isD=true):ln i f Z= .ok t:=by
 unfold ln;rw[hi];simp only[h,az,hk,if_true]
theorem wR {i:Nat}{k:Bool}(h:b (disown i Z)= .ok k):ye i b Z= .ok k:=h
theorem Iq {i:Nat}{x:Rs Fl}(h:F (disown i Z)=x):qD i F Z=x:=h
end
theorem mk2 (a b:T):jA [a,b] = .ok (.tup [a,b]):=by unfold jA;rw[if_pos (aB (k:=1000) (by simp only[Kd,OD];omega))]
theorem eZ (n:Nat):(rng 0 n).length=n:=by unfold rng;rw[Kc,L9];omega
section
variable {Z Z':En}{f fa fo:En->Rs T}{fs:En->Rs (List T)}{t u:T}{ts l:List T}{x:En->Rs (T×En)}{c m n a:Str}{ns:List Str}{ls:List (List T)}{i j:Nat}{F G:En->Rs Fx}{o:OT}{g:List Sl->Rs (T×OT)}{d:Str}
theorem og {gm:List T->Rs T}{r:Rs T}(h:fo Z= .ok (.ob c ns ts))(hm:ns.contains m=false)(hs:fs Z= .ok l)(hg:gm (.ob c ns ts::l)=r):mh c m gm fo fs Z=r:=by
 unfold mh;rw[h];show(if _ then _ else _)=_;rw[if_pos ⟨rfl,hm⟩,hs];exact hg
theorem lS (h:fa Z= .ok (.ob c ns ts))(hg:iO a ns ts=some t):o1 (jm c a) fa Z= .ok t:=Ih h (by show(if _ then _ else _)=_;rw[if_pos rfl,hg])
theorem rK (h:f Z= .ok t):xP f Z= .ok (t,Z):=by unfold xP;rw[h];rfl
theorem vf (hi:Z[i]? =some (.ow (.ob c ns ls)))(hf:iO a ns ls=some l)(h:fa Z= .ok t)(hl:l.length<=1000):sr i c a fa Z= .ok (.non,Z.set i (.ow (.ob c ns (fY a (l++ [t]) ns ls)))):=by
 unfold sr;rw[hi];show(if _ then _ else _)=_;rw[if_pos rfl,hf];show(fa Z >>= _)=_;rw[h];show(if _ then _ else _)=_;rw[if_pos (by unfold sizeLine;omega)]
theorem z4 (hi:Z[i]? =some (.ow (.ob c ns ls)))(hf:iO a ns ls=some (l++ [t])):uC i c a Z= .ok (t,Z.set i (.ow (.ob c ns (fY a l ns ls)))):=by
 unfold uC;rw[hi];show(if _ then _ else _)=_;rw[if_pos rfl,hf];simp
theorem z0 {r:Rs (T×OT)}(h:r= .ok (t,o)):yQ i Z r= .ok (t,Z.set i (.ow o)):=by rw[h];rfl
theorem gD (hi:Z[i]? =some (.ow (.ob c ns ls)))(hm:ns.contains m=false)(hs:fs Z= .ok ts)(h:g (.ow (.ob c ns ls)::ts.map Sl.va)= .ok (t,o)):bP i c m g fs Z= .ok (t,Z.set i (.ow o)):=by
 unfold bP;rw[hi];show(if _ then _ else _)=_;rw[if_pos ⟨rfl,hm⟩,hs];exact z0 h
theorem tQ (hi:Z[i]? =some (.ow (.ob c ns ls)))(hm:ns.contains m=false)(hs:fs Z= .ok ts)(h:g (.ow (.ob c ns ls)::ts.map Sl.va)= .err d):bP i c m g fs Z= .err d:=by
 unfold bP;rw[hi];show(if _ then _ else _)=_;rw[if_pos ⟨rfl,hm⟩,hs];show yQ i Z _=_;rw[h];rfl
theorem z5 (hi:Z[i]? =some (.ow (.ob c ns ls)))(hm:ns.contains m=false)(hs:fs Z= .err d):bP i c m g fs Z= .err d:=by
 unfold bP;rw[hi];show(if _ then _ else _)=_;rw[if_pos ⟨rfl,hm⟩,hs];rfl
theorem rL (hi:Z[i]? =some (.ow o))(hs:fs Z= .ok ts){o':OT}(h:g (ts.map Sl.va++ [.ow o])= .ok (t,o')):mP i g fs Z= .ok (t,Z.set i (.ow o')):=by
 unfold mP;rw[hi];show(fs Z >>= _)=_;rw[hs];exact z0 h
theorem dt {k:Fx}(h:F Z= .ok (.nx Z'))(h2:G Z'= .ok k):gq F G Z= .ok k:=by unfold gq;rw[h];show nJ (G Z')=_;rw[h2];rfl
theorem lQ (h:x Z= .ok (t,Z')):rG x Z= .ok (.nx Z'):=by unfold rG;rw[h];rfl
theorem Af (h:x Z= .err d):rG x Z= .err d:=by unfold rG;rw[h];rfl
theorem oh (h:x Z= .ok (t,Z')):jl x Z= .ok (.rt t Z'):=by unfold jl;rw[h];rfl
theorem CW (h:x Z= .err d):jl x Z= .err d:=by unfold jl;rw[h];rfl
theorem pP (h:x Z= .ok (t,Z'))(hl:i<Z'.length):zQ i x Z= .ok (.nx (Z'.set i (.va t))):=by unfold zQ;rw[h];show(if _ then _ else _)=_;rw[if_pos hl]
theorem eU {b:En->Rs Bool}{k:Bool}(h:b Z= .ok k):yb b F G Z=if k then F Z else G Z:=by unfold yb;rw[h];rfl
theorem vh (hi:Z[i]? =some (.ow (.ob c ns ls)))(hs:fs Z= .ok l)(hl:l.length<=1000)(hn:ns.length<1000):tN i c a fs Z= .ok (.nx (Z.set i (.ow (if ns.contains a then .ob c ns (fY a l ns ls)else .ob c (ns++ [a]) (ls++ [l]))))):=by
 unfold tN;rw[hi];show(fs Z >>= _)=_;rw[hs];show(if _ then _ else _)=_;rw[if_pos ⟨rfl,by unfold sizeLine;omega,hn⟩]
theorem rM {h:Str->Rs T}{k:Fx}(e:F Z= .ok k):nV F h Z= .ok k:=by unfold nV;rw[e]
theorem wO {h:Str->Rs T}(e:F Z= .err d)(e2:h d= .ok t):nV F h Z= .ok (.rt t Z):=by unfold nV;rw[e];simp only[e2]
theorem iH {sls:List Sl}{N M:Nat}(hl:sls.length=N)(h:F (dX M sls)= .ok (.rt t Z))(hj:Z[j]? =some (.ow o)):fM N j M F sls= .ok (t,o):=by unfold fM;rw[if_pos hl,h];show oU j (.rt t Z)=_;unfold oU;simp only[hj]
theorem wL {sls:List Sl}{N M:Nat}(hl:sls.length=N)(h:F (dX M sls)= .ok (.nx Z))(hj:Z[j]? =some (.ow o)):fM N j M F sls= .ok (.non,o):=by unfold fM;rw[if_pos hl,h];show oU j (.nx Z)=_;unfold oU;simp only[hj]
theorem wM {sls:List Sl}{N M:Nat}(hl:sls.length=N)(h:F (dX M sls)= .err d):fM N j M F sls= .err d:=by unfold fM;rw[if_pos hl,h];rfl
theorem DP (h:x Z= .ok (t,Z')):m8 x Z= .ok (.nx Z'):=by unfold m8;rw[h];rfl
theorem Iu (h:x Z= .ok (t,Z'))(hl:i<Z'.length):xQ i x Z= .ok (.nx (Z'.set i (.va t))):=by unfold xQ;rw[h];show(if _ then _ else _)=_;rw[if_pos hl]
theorem Ae (hs:fs Z= .ok ts)(h:g (.ow (.ob c [] [])::ts.map Sl.va)= .ok (.non,o))(hl:i<Z.length):m5 i c g fs Z= .ok (.nx (Z.set i (.ow o))):=by
 unfold m5;rw[hs];show(nJ (g _) >>= _)=_;rw[h];show(if _ then _ else _)=_;rw[if_pos hl]
theorem HZ {r:T->T->Rs T}{v:T}(h:x Z= .ok (t,Z'))(h2:f Z'= .ok u)(hr:r t u= .ok v):DB r x f Z= .ok (v,Z'):=by unfold DB;rw[h];show(nJ (f Z' >>= _) >>= _)=_;rw[h2];show(nJ (r t u) >>= _)=_;rw[hr];rfl
theorem DK {b:Bool}(h:x Z= .ok (.bl b,Z')):yE x Z= .ok (b,Z'):=by unfold yE;rw[h];rfl
theorem DJ {b:En->Rs Bool}{k:Bool}(h:b Z= .ok k):BK b Z= .ok (k,Z):=by unfold BK;rw[h];rfl
theorem wK {y z:En->Rs (Bool×En)}{p:Bool×En}(h:y Z= .ok (false,Z'))(h2:z Z'= .ok p):ql y z Z= .ok p:=by unfold ql;rw[h];show nJ (z Z')=_;rw[h2];rfl
theorem DN {y:En->Rs (Bool×En)}{A B:En->Rs Fl}{b:Bool}(h:y Z= .ok (b,Z')):qC y A B Z=if b then A Z' else B Z':=by unfold qC;rw[h];rfl
end
end Tr
namespace Gr
variable {ν:Type}[DecidableEq ν]
abbrev cR (ν:Type):=List (ν×ν×Int)
inductive Wk (L:cR ν):ν->ν->Int->Prop
 | nil (a:ν):Wk L a a 0
 | step {a b c:ν} {m s:Int}:(a,b,m)∈L->Wk L b c s->Wk L a c (m+s)
theorem Wk.one {L:cR ν}{a b:ν}{m:Int}(h:(a,b,m)∈L):Wk L a b m:=by
 have:=Wk.step h (Wk.nil (L:=L) b)
 rwa [Int.add_zero]at this
theorem Wk.app {L:cR ν}{a b c:ν}{s t:Int}(h:Wk L a b s)(k:Wk L b c t):Wk L a c (s+t):=by
 induction h with
 | nil a=>rwa [Int.zero_add]
 | step e _ ih=>rw[Int.add_assoc];exact .step e (ih k)
def Holds (L:cR ν)(t:ν->Int):Prop:=∀a b m,(a,b,m)∈L->t b - t a<=m
theorem Holds.walk {L:cR ν}{t:ν->Int}(h:Holds L t){a b:ν}{s:Int}(w:Wk L a b s):t b - t a<=s:=by
 induction w with
 | nil a=>omega
 | step e _ ih=>have:=h _ _ _ e;omega
def Bi (L:cR ν):Prop:=∀a s,Wk L a a s->0<=s
theorem Holds.JV {L:cR ν}{t:ν->Int}(h:Holds L t):Bi L:=λa s w=>by have:=h.walk w;omega
def Ch (L:cR ν):ν->List Nat->ν->Prop
 | a,[],b=>a=b
 | a,k::r,b=> ∃c m,L[k]? =some (a,c,m)/\Ch L c r b
def most (L:cR ν)(k:Nat):Int:=match L[k]? with
 | some x=>x.2.2
 | none=>0
def dU (L:cR ν):List Nat->Int
 | [] =>0
 | k::r=>most L k+dU L r
theorem kI (L:cR ν):∀(p q:List Nat),dU L (p++q)=dU L p+dU L q
 | [],q=>by simp[dU]
 | k::p,q=>by rw[Om,dU,dU,kI L p q];omega
theorem Ch.wk {L:cR ν}:∀{ks:List Nat} {a b:ν},Ch L a ks b->Wk L a b (dU L ks)
 | [],a,b,h=>by cases h;exact .nil a
 | k::r,a,b,⟨c,m,e,h⟩=>by
  have:dU L (k::r)=m+dU L r:=by rw[dU,most,e]
  rw[this];exact .step (L5 e) h.wk
theorem Ch.app {L:cR ν}:∀{p q:List Nat} {a b c:ν},Ch L a p b->Ch L b q c->Ch L a (p++q) c
 | [],q,a,b,c,h,k=>by cases h;exact k
 | x::p,q,a,b,c,⟨d,m,e,h⟩,k=>⟨d,m,e,Ch.app h k⟩
theorem Ch.lt {L:cR ν}:∀{ks:List Nat} {a b:ν},Ch L a ks b->∀k∈ks,k<L.length
 | [],_,_,_,k,hk=>by simp at hk
 | x::r,a,b,⟨c,m,e,h⟩,k,hk=>by
  rcases Kf.mp hk with rfl | hk
  ·exact(Ki.mp e).1
  ·exact h.lt k hk
theorem Ch.snoc {L:cR ν}{p:List Nat}{k:Nat}{a b c:ν}{m:Int}(h:Ch L a p b)(e:L[k]? =some (b,c,m)):Ch L a (p++ [k]) c:=h.app ⟨c,m,e,rfl⟩
def src (L:cR ν)(k:Nat):Option ν:=(L[k]?).map (·.1)
abbrev cf (ν:Type):=ν->Option (Int×List Nat)
def put (b:cf ν)(v:ν)(x:Int×List Nat):cf ν:=λu=>if u=v then some x else b u
theorem dG {b:cf ν}{v:ν}{x:Int×List Nat}:put b v x v=some x:=by unfold put;rw[if_pos rfl]
theorem jI {b:cf ν}{u v:ν}{x:Int×List Nat}(h:u≠v):put b v x u=b u:=by unfold put;rw[if_neg h]
def dR (L:cR ν)(ks:List Nat):List ν:=ks.filterMap (src L)
def dN (b:cf ν)(v:ν)(d:Int):Bool:=match b v with
 | none=>true
 | some x=>decide (d<x.1)
def gp (L:cR ν)(b:cf ν)(k:Nat)(x:ν×ν×Int):Sum (Option (cf ν)) (List Nat):=match b x.1 with
 | none=> .inl none
 | some (d,w)=>if dN b x.2.1 (d+x.2.2)=true then
   if x.2.1∈dR L (w++ [k])then .inr ((w++ [k]).drop ((dR L (w++ [k])).idxOf x.2.1))else .inl (some (put b x.2.1 (d+x.2.2,w++ [k])))
  else .inl none
def gP (L:cR ν):Nat->cR ν->cf ν->Bool->Sum (cf ν×Bool) (List Nat)
 | _,[],b,mv=> .inl (b,mv)
 | k,x::r,b,mv=>match gp L b k x with
  | .inr q=> .inr q
  | .inl none=>gP L (k+1) r b mv
  | .inl (some b')=>gP L (k+1) r b' true
def settle (L:cR ν):Nat->cf ν->Option (Sum (cf ν) (List Nat))
 | 0,_=>none
 | n+1,b=>match gP L 0 L b false with
  | .inr q=>some (.inr q)
  | .inl (b',true)=>settle L n b'
  | .inl (b',false)=>some (.inl b')
theorem qO (L:cR ν)(p q:List Nat):dR L (p++q)=dR L p++dR L q:=by unfold dR;rw[List.filterMap_append]
theorem qN {L:cR ν}{k:Nat}{x:ν×ν×Int}(e:L[k]? =some x):dR L [k] = [x.1]:=by unfold dR src;simp[e]
theorem Ch.Jp {L:cR ν}{k:Nat}{r:List Nat}{a b:ν}(h:Ch L a (k::r) b):dR L (k::r)=a::dR L r:=by
 obtain⟨c,m,e,_⟩:=h;rw[show k::r= [k] ++r from rfl,qO,qN e];rfl
theorem Ch.cut {L:cR ν}{v:ν}:∀{ks:List Nat} {a b:ν},Ch L a ks b->v∈dR L ks->Ch L a (ks.take ((dR L ks).idxOf v)) v/\Ch L v (ks.drop ((dR L ks).idxOf v)) b/\(dR L ks).idxOf v<ks.length
 | [],a,b,_,hv=>by simp[dR]at hv
 | k::r,a,b,h,hv=>by
  rw[h.Jp]at hv ⊢
  have h0:=h;obtain⟨c,m,e,h⟩:=h
  by_cases z:a=v
  ·subst z
   rw[List.idxOf_cons_self];exact⟨rfl,h0,by simp⟩
  ·have hv':v∈dR L r:=by
    rcases Kf.mp hv with q | q
    ·exact absurd q.symm z
    ·exact q
   obtain⟨h1,h2,h3⟩:=h.cut hv'
   have ei:(a::dR L r).idxOf v=(dR L r).idxOf v+1:=by
    rw[QZ]
    have:(a == v)=false:=by rw[beq_eq_false_iff_ne];exact z
    rw[this];rfl
   rw[ei];exact⟨⟨c,m,e,h1⟩,h2,by simpa using h3⟩
structure Kept (L:cR ν)(S:List ν)(b:cf ν):Prop where
 walk:∀v d w,b v=some (d,w)->∃s∈S,Ch L s w v/\dU L w=d/\v∉dR L w/\(dR L w).Nodup/\∀p q u,w=p++q->Ch L s p u->∃d' w',b u=some (d',w')/\d'<=dU L p
 start:∀s∈S,∃d w,b s=some (d,w)/\d<=0
theorem Kept.put {L:cR ν}{S:List ν}{b:cf ν}(K:Kept L S b){k:Nat}{a c:ν}{m d:Int}{w:List Nat}(e:L[k]? =some (a,c,m))(ha:b a=some (d,w))(hb:dN b c (d+m)=true)(hn:c∉dR L (w++ [k])) :
  Kept L S (put b c (d+m,w++ [k])):=by
 have low:∀u d' w',b u=some (d',w')->∃d'' w'',Gr.put b c (d+m,w++ [k]) u=some (d'',w'')/\d''<=d':=λu d' w' h=>by
  by_cases z:u=c
  ·subst z
   refine⟨_,_,dG,?_⟩
   unfold dN at hb;rw[h]at hb
   have:=of_decide_eq_true hb;omega
  ·exact⟨d',w',by rw[jI z];exact h,Pe _⟩
 obtain⟨s,hs,h1,h2,h3,h4,h5⟩:=K.walk a d w ha
 have hch:Ch L s (w++ [k]) c:=h1.snoc e
 have hcost:dU L (w++ [k])=d+m:=by rw[kI,h2,dU,dU,most,e];simp
 refine⟨λv d' w' h=> ?_,λs' hs'=> ?_⟩
 ·by_cases z:v=c
  ·subst z
   rw[dG]at h;cases h;refine⟨s,hs,hch,hcost,hn,?_,λp q u hpq hp=> ?_⟩
   ·rw[qO,qN e]
    exact K5.mpr ⟨h4,by simp,λx hx y hy=>by simp at hy;subst hy;exact λz=>h3 (z▸hx)⟩
   ·by_cases hq:q= []
    ·subst hq
     rw[KO]at hpq;subst hpq
     have:u=v:=by
      clear low hb hn h5
      have aux:∀{ks:List Nat} {x y z:ν},Ch L x ks y->Ch L x ks z->y=z:=by
       intro ks
       induction ks with
       | nil=>intro x y z h1 h2;cases h1;cases h2;rfl
       | cons k r ih=>
        rintro x y z ⟨c1,m1,e1,r1⟩ ⟨c2,m2,e2,r2⟩
        rw[e1]at e2;cases e2;exact ih r1 r2
      exact aux hp hch
     subst this;exact⟨_,_,dG,by rw[hcost];exact Pe _⟩
    ·have hw:∃q',w=p++q':=by
      refine⟨q.dropLast,?_⟩
      have:=congrArg List.dropLast hpq;rw[List.dropLast_concat,List.dropLast_append_of_ne_nil hq]at this;exact this
     obtain⟨q',hw⟩:=hw;obtain⟨d1,w1,e1,l1⟩:=h5 p q' u hw hp;obtain⟨d2,w2,e2,l2⟩:=low u d1 w1 e1;exact⟨d2,w2,e2,by omega⟩
  ·rw[jI z]at h
   obtain⟨s',hs',g1,g2,g3,g4,g5⟩:=K.walk v d' w' h;refine⟨s',hs',g1,g2,g3,g4,λp q u hpq hp=> ?_⟩
   obtain⟨d1,w1,e1,l1⟩:=g5 p q u hpq hp;obtain⟨d2,w2,e2,l2⟩:=low u d1 w1 e1;exact⟨d2,w2,e2,by omega⟩
 ·obtain⟨d1,w1,e1,l1⟩:=K.start s' hs'
  obtain⟨d2,w2,e2,l2⟩:=low s' d1 w1 e1;exact⟨d2,w2,e2,by omega⟩
def Bar (L:cR ν)(q:List Nat):Prop:=q≠ []/\(∃a,Ch L a q a)/\dU L q<0/\(dR L q).Nodup
theorem Ch.JB {L:cR ν}:∀{ks:List Nat} {a b:ν} (i:Nat),Ch L a ks b->dR L (ks.drop i)=(dR L ks).drop i
 | [],_,_,i,_=>by simp[dR]
 | k::r,a,b,0,_=>rfl
 | k::r,a,b,i+1,h=>by
  have:=h;obtain⟨c,m,e,h'⟩:=this;rw[h.Jp,Ph,Ph,h'.JB i]
theorem Kept.round {L:cR ν}{S:List ν}{b:cf ν}(K:Kept L S b){k:Nat}{a c:ν}{m d:Int}{w:List Nat}(e:L[k]? =some (a,c,m))(ha:b a=some (d,w))(hb:dN b c (d+m)=true)(hn:c∈dR L (w++ [k])) :
  Bar L ((w++ [k]).drop ((dR L (w++ [k])).idxOf c)):=by
 obtain⟨s,hs,h1,h2,h3,h4,h5⟩:=K.walk a d w ha
 have hch:Ch L s (w++ [k]) c:=h1.snoc e
 have hcost:dU L (w++ [k])=d+m:=by rw[kI,h2,dU,dU,most,e];simp
 obtain⟨c1,c2,c3⟩:=hch.cut hn
 generalize hi:(dR L (w++ [k])).idxOf c=i at c1 c2 c3
 refine⟨λz=> ?_,⟨c,c2⟩,?_,?_⟩
 ·have:=congrArg LQ z
  rw[Mp]at this
  simp at this c3
  omega
 ·have hsum:dU L ((w++ [k]).take i)+dU L ((w++ [k]).drop i)=d+m:=by rw[<-kI,OJ,hcost]
  have hiw:i<=w.length:=by simp at c3;omega
  have ht:(w++ [k]).take i=w.take i:=by rw[List.take_append_of_le_length hiw]
  rw[ht]at c1 hsum;obtain⟨d1,w1,e1,l1⟩:=h5 (w.take i) (w.drop i) c (OJ i w).symm c1;unfold dN at hb;rw[e1]at hb
  have:=of_decide_eq_true hb;simp only at this;omega
 ·rw[hch.JB,qO,qN e]
  refine(List.drop_sublist _ _).nodup (K5.mpr ⟨h4,by simp,λx hx y hy=> ?_⟩)
  rw[Km.mp hy];exact λz=>h3 (by have z:x=a:=z;rw[<-z];exact hx)
def size (L:cR ν):Nat:=(L.map λx=>x.2.2.natAbs).sum
theorem jr {f:Nat->Nat}:∀{ks rs:List Nat},ks.Nodup->(∀k∈ks,k∈rs)->(ks.map f).sum<=(rs.map f).sum
 | [],rs,_,_=>by simp
 | k::ks,rs,hn,hs=>by
  have hk:k∈rs:=hs k Ke;rw[KJ]at hn
  have hp:=List.perm_cons_erase hk
  have e:(rs.map f).sum=f k+((rs.erase k).map f).sum:=by
   have:=(hp.map f).sum_nat
   rwa [Ka,LJ]at this
  rw[e,Ka,LJ]
  have:=jr (f:=f) hn.2 (rs:=rs.erase k) λj hj=>by
   have h1:=hs j (J6 _ hj);exact(O4 (λ(z:j=k)=>hn.1 (z▸hj))).mpr h1
  omega
theorem uH (L:cR ν):size L=((K9 L.length).map λk=>(most L k).natAbs).sum:=by
 unfold size
 congr 1
 apply List.ext_getElem
 ·simp
 ·intro i h1 h2
  simp only[Ol,List.getElem_range];unfold most;rw[Kq (by simpa using h1)]
theorem xm (L:cR ν):∀(ks:List Nat),(dU L ks).natAbs<=(ks.map λk=>(most L k).natAbs).sum
 | [] =>by simp[dU]
 | k::r=>by
  have:=xm L r;rw[dU,Ka,LJ];omega
theorem Ch.nodup {L:cR ν}:∀{ks:List Nat} {a b:ν},Ch L a ks b->(dR L ks).Nodup->ks.Nodup
 | [],_,_,_,_=>M6
 | k::r,a,b,h,hn=>by
  have h0:=h;rw[h.Jp,KJ]at hn;obtain⟨c,m,e,h⟩:=h;rw[KJ];refine⟨λhk=>hn.1 ?_,h.nodup hn.2⟩
  unfold dR src;exact NJ.mpr ⟨k,hk,by rw[e];rfl⟩
theorem Ch.small {L:cR ν}{ks:List Nat}{a b:ν}(h:Ch L a ks b)(hn:(dR L ks).Nodup):(dU L ks).natAbs<=size L:=by
 rw[uH];exact KW (xm L ks) (jr (h.nodup hn) λk hk=>LB.mpr (h.lt k hk))
def val (M:Nat)(b:cf ν)(v:ν):Nat:=match b v with
 | none=>2*M+1
 | some x=>(x.1+M).toNat
def left (M:Nat)(b:cf ν)(L:cR ν):Nat:=(L.map λx=>val M b x.2.1).sum
theorem wC {M:Nat}{b b':cf ν}:∀{L:cR ν},(∀x∈L,val M b' x.2.1<=val M b x.2.1)->left M b' L<=left M b L
 | [],_=>by simp[left]
 | x::L,h=>by
  have h1:=h x Ke
  have h2:=wC (L:=L) λy hy=>h y (J6 _ hy)
  unfold left at h2 ⊢;rw[Ka,LJ,Ka,LJ];omega
theorem wB {M:Nat}{b b':cf ν}{x:ν×ν×Int}:∀{L:cR ν},x∈L->(∀x∈L,val M b' x.2.1<=val M b x.2.1)->val M b' x.2.1<val M b x.2.1->left M b' L<left M b L
 | [],hx,_,_=>by simp at hx
 | y::L,hx,h,hl=>by
  have h1:=h y Ke
  have h2:=wC (L:=L) λy hy=>h y (J6 _ hy)
  unfold left at h2 ⊢;rw[Ka,LJ,Ka,LJ];rcases Kf.mp hx with rfl | hx
  ·omega
  ·have h3:=wB (L:=L) hx (λy hy=>h y (J6 _ hy)) hl
   unfold left at h3;omega
theorem zS {L:cR ν}{S:List ν}{b:cf ν}(K:Kept L S b){k:Nat}{a c:ν}{m d:Int}{w:List Nat}(e:L[k]? =some (a,c,m))(ha:b a=some (d,w))(hb:dN b c (d+m)=true)(hn:c∉dR L (w++ [k])) :
  left (size L) (put b c (d+m,w++ [k])) L<left (size L) b L:=by
 have K':=K.put e ha hb hn;obtain⟨s,hs,h1,h2,h3,h4,h5⟩:=K'.walk c (d+m) (w++ [k]) dG
 have sm:=h1.small h4;rw[h2]at sm
 have lt:val (size L) (put b c (d+m,w++ [k])) c<val (size L) b c:=by
  unfold val dN at*;rw[dG]
  cases z:b c with
  | none=>simp only;omega
  | some y=>
   rw[z]at hb
   have hb:=of_decide_eq_true hb;simp only;omega
 refine wB (x:=(a,c,m)) (L5 e) (λy _=> ?_) lt
 by_cases z:y.2.1=c
 ·rw[z];exact MI lt
 ·unfold val;rw[jI z];exact Kj _
def Bd (b:cf ν)(x:ν×ν×Int):Prop:=∀d w,b x.1=some (d,w)->∃d' w',b x.2.1=some (d',w')/\d'<=d+x.2.2
theorem yY {b:cf ν}{x:ν×ν×Int}(h:∀d w,b x.1=some (d,w)->dN b x.2.1 (d+x.2.2)=false):Bd b x:=λd w e=>by
 have:=h d w e;unfold dN at this
 cases z:b x.2.1 with
 | none=>rw[z]at this;cases this
 | some y=>
  rw[z]at this
  have:=of_decide_eq_false this;exact⟨y.1,y.2,rfl,by omega⟩
theorem ia {L:cR ν}{S:List ν}:∀(r:cR ν) (k:Nat) (b:cf ν) (mv:Bool),L.drop k=r->Kept L S b->match gP L k r b mv with
  | .inr q=>Bar L q
  | .inl (b',mv')=>Kept L S b'/\(mv'=false->mv=false/\b'=b/\∀x∈r,Bd b x)/\left (size L) b' L<=left (size L) b L/\(mv'=true->mv=true\/left (size L) b' L<left (size L) b L)
 | [],k,b,mv,_,K=>⟨K,λh=>⟨h,rfl,λx hx=>by simp at hx⟩,Kj _,λh=> .inl h⟩
 | x::r,k,b,mv,hr,K=>by
  have e:L[k]? =some x:=by
   have:=congrArg (·[0]?) hr
   simpa using this
  have hr':L.drop (k+1)=r:=by
   have:=congrArg (List.drop 1) hr
   simpa [List.drop_drop,Qb]using this
  rw[gP];obtain⟨a,c,m⟩:=x;unfold gp
  cases z:b a with
  | none=>
   simp only[z]
   have ih:=ia r (k+1) b mv hr' K
   revert ih
   generalize gP L (k+1) r b mv=R
   cases R with
   | inr q=>exact id
   | inl p=>
    obtain⟨b',mv'⟩:=p
    rintro ⟨i1,i2,i3,i4⟩
    refine⟨i1,λh=> ?_,i3,i4⟩
    obtain⟨j1,j2,j3⟩:=i2 h;refine⟨j1,j2,λx hx=> ?_⟩
    rcases Kf.mp hx with rfl | hx
    ·intro d w q;rw[z]at q;cases q
    ·exact j3 x hx
  | some y=>
   obtain⟨d,w⟩:=y;simp only[z]
   by_cases hb:dN b c (d+m)=true
   ·rw[if_pos hb]
    by_cases hn:c∈dR L (w++ [k])
    ·rw[if_pos hn]
     exact K.round e z hb hn
    ·rw[if_neg hn]
     have K':=K.put e z hb hn
     have lt:=zS K e z hb hn
     have ih:=ia r (k+1) (put b c (d+m,w++ [k])) true hr' K'
     revert ih
     simp only
     generalize gP L (k+1) r (put b c (d+m,w++ [k])) true=R
     cases R with
     | inr q=>exact id
     | inl p=>
      obtain⟨b',mv'⟩:=p
      rintro ⟨i1,i2,i3,i4⟩
      refine⟨i1,λh=> ?_,by omega,λ_=> .inr (by omega)⟩
      obtain⟨j1,_⟩:=i2 h;cases j1
   ·rw[if_neg hb]
    have ih:=ia r (k+1) b mv hr' K
    revert ih
    simp only
    generalize gP L (k+1) r b mv=R
    cases R with
    | inr q=>exact id
    | inl p=>
     obtain⟨b',mv'⟩:=p
     rintro ⟨i1,i2,i3,i4⟩
     refine⟨i1,λh=> ?_,i3,i4⟩
     obtain⟨j1,j2,j3⟩:=i2 h;refine⟨j1,j2,λx hx=> ?_⟩
     rcases Kf.mp hx with rfl | hx
     ·refine yY λd' w' q=> ?_
      simp only at q;rw[z]at q;cases q
      simpa using hb
     ·exact j3 x hx
structure Settled (L:cR ν)(S:List ν)(b:cf ν):Prop where
 walk:∀v d w,b v=some (d,w)->∃s∈S,Ch L s w v/\dU L w=d/\v∉dR L w/\(dR L w).Nodup
 least:∀s∈S,∀v t,Wk L s v t->∃d w,b v=some (d,w)/\d<=t
theorem uI {L:cR ν}{S:List ν}{b:cf ν}(K:Kept L S b)(h:∀x∈L,Bd b x):Settled L S b where
 walk:=λv d w e=>by
  obtain⟨s,h1,h2,h3,h4,h5,_⟩:=K.walk v d w e;exact⟨s,h1,h2,h3,h4,h5⟩
 least:=by
  have go:∀{u v:ν} {t:Int},Wk L u v t->∀d w,b u=some (d,w)->∃d' w',b v=some (d',w')/\d'<=d+t:=by
   intro u v t hw
   induction hw with
   | nil a=>exact λd w e=>⟨d,w,e,by omega⟩
   | step e _ ih=>
    intro d w q;obtain⟨d1,w1,e1,l1⟩:=h _ e d w q;obtain⟨d2,w2,e2,l2⟩:=ih d1 w1 e1;exact⟨d2,w2,e2,by simp only at l1;omega⟩
  intro s hs v t hw;obtain⟨d,w,e,l⟩:=K.start s hs;obtain⟨d2,w2,e2,l2⟩:=go hw d w e;exact⟨d2,w2,e2,by omega⟩
theorem pE {L:cR ν}{S:List ν}:∀(n:Nat) (b:cf ν),Kept L S b->left (size L) b L<n->∃r,settle L n b=some r/\match r with
  | .inr q=>Bar L q
  | .inl b'=>Settled L S b'
 | 0,b,K,h=>by omega
 | n+1,b,K,h=>by
  have s:=ia (S:=S) L 0 b false rfl K;rw[settle]
  revert s
  generalize gP L 0 L b false=R
  cases R with
  | inr q=>exact λs=>⟨_,rfl,s⟩
  | inl p=>
   obtain⟨b',mv'⟩:=p
   rintro ⟨i1,i2,i3,i4⟩
   cases mv' with
   | false=>
    obtain⟨_,j2,j3⟩:=i2 rfl;subst j2
    exact⟨_,rfl,uI i1 j3⟩
   | true=>
    rcases i4 rfl with z | z
    ·cases z
    ·exact pE n b' i1 (by omega)
def start (S:List ν):cf ν:=λv=>if v∈S then some (0,[])else none
theorem oa (L:cR ν)(S:List ν):Kept L S (start S) where
 walk:=λv d w e=>by
  unfold start at e
  split at e
  ·rename_i h
   cases e;refine⟨v,h,rfl,rfl,by simp[dR],by simp[dR],λp q u hpq hp=> ?_⟩
   obtain⟨rfl,rfl⟩:=List.append_eq_nil_iff.mp hpq.symm;cases hp;exact⟨0,[],by unfold start;rw[if_pos h],by simp[dU]⟩
  ·cases e
 start:=λs hs=>⟨0,[],by unfold start;rw[if_pos hs],Pe _⟩
theorem zT (L:cR ν)(S:List ν):left (size L) (start S) L<=L.length*(2*size L+1):=by
 unfold left
 have:∀M:cR ν,(M.map λx=>val (size L) (start S) x.2.1).sum<=M.length*(2*size L+1):=by
  intro M
  induction M with
  | nil=>simp
  | cons x M ih=>
   rw[Ka,LJ,Kd,Nat.succ_mul]
   have:val (size L) (start S) x.2.1<=2*size L+1:=by
    unfold val start;split
    ·exact Kj _
    ·rename_i h
     split at h
     ·cases h;simp;omega
     ·cases h
   omega
 exact this L
theorem uJ (L:cR ν)(S:List ν){n:Nat}(h:L.length*(2*size L+1)<n):∃r,settle L n (start S)=some r/\match r with
  | .inr q=>Bar L q
  | .inl b'=>Settled L S b':=pE n (start S) (oa L S) (Pv (zT L S) h)
theorem Bar.neg {L:cR ν}{q:List Nat}(h:Bar L q):¬ Bi L:=λn=>by
 obtain⟨_,⟨a,ha⟩,hc,_⟩:=h
 have:=n a _ ha.wk;omega
theorem Settled.holds {L:cR ν}{S:List ν}{b:cf ν}(h:Settled L S b)(hS:∀x∈L,x.1∈S/\x.2.1∈S){t:ν->Int}(ht:∀v∈S,∃w,b v=some (t v,w)):Holds L t:=λa c m hx=>by
 obtain⟨ha,hc⟩:=hS _ hx;obtain⟨w,e⟩:=ht a ha;obtain⟨s,hs,h1,h2,_⟩:=h.walk a _ _ e;obtain⟨d,w',e',l⟩:=h.least s hs c _ (h1.wk.app (.one hx));obtain⟨w2,e2⟩:=ht c hc;rw[e2]at e';cases e';omega
abbrev vH (ν:Type):=ν->ν->Option Int
def IB (f:vH ν)(a b:ν)(x:Int):vH ν:=λu v=>if u=a/\v=b then some x else f u v
def IH (f:vH ν)(a b:ν)(x:Int):vH ν:=match f a b with
 | none=>IB f a b x
 | some y=>if x<y then IB f a b x else f
def IA (mid one other:ν)(f:vH ν):vH ν:=match f one mid,f mid other with
 | some x,some y=>IH f one other (x+y)
 | _,_=>f
def tab0 (P:List ν):vH ν:=λu v=>if u∈P/\u=v then some 0 else none
def tab1 (P:List ν)(L:cR ν):vH ν:=L.foldl (λf x=>IH f x.1 x.2.1 x.2.2) (tab0 P)
def C4 (mid one:ν)(P:List ν)(f:vH ν):vH ν:=P.foldl (λf other=>IA mid one other f) f
def IC (mid:ν)(Q P:List ν)(f:vH ν):vH ν:=Q.foldl (λf one=>C4 mid one P f) f
def IG (M P:List ν)(f:vH ν):vH ν:=M.foldl (λf mid=>IC mid P P f) f
def table (P:List ν)(L:cR ν):vH ν:=IG P P (tab1 P L)
end Gr
namespace G
open PySem Tr
def isI:T->Bool
 | .int _=>true
 | _=>false
theorem C9 (t:T)(h:t.pl=true):gA [t] = .ok (.bl (isI t)):=by
 cases t <;> first | rfl | (simp[T.pl]at h;done)
def aX (t:T)(a b:Int):Bool:=match t with
 | .int i=>decide (a<=i)&&decide (i<=b)
 | _=>false
theorem eI (t:T)(a b:Int)(h:t.pl=true):aR [t,.int a,.int b] = .ok (.bl (aX t a b)):=by
 have w:=C9 t h
 cases t with
 | int i=>
  simp[aR,val,bw,iW,aI,aK,cD,vr,ch,cl,ae,aj,vz,aX,w,isI]
  cases decide (a<=i) <;> rfl
 | scr _=>simp[T.pl]at h
 | dct _ _=>simp[T.pl]at h
 | ob _ _ _=>simp[T.pl]at h
 | _=>simp[aR,val,bw,iW,aI,aK,cD,vr,ch,cl,ae,aj,aX,w,isI]
def dq (t:T)(a b:Nat):Bool:=match t with
 | .tup l=>decide (a<=l.length)&&decide (l.length<=b)
 | _=>false
theorem jS (t:T)(a b:Nat)(h:t.pl=true):aN [t,.int a,.int b] = .ok (.bl (dq t a b)):=by
 cases t with
 | tup l=>
  simp[aN,val,bw,qc,aI,aK,cD,o1,vr,C1,T.ty,wX,ch,cl,ae,aj,cG,T.items,vz,dq]
  cases decide (a<=l.length) <;> rfl
 | scr _=>simp[T.pl]at h
 | dct _ _=>simp[T.pl]at h
 | ob _ _ _=>simp[T.pl]at h
 | _=>rfl
def oR (x y:T):Bool:=aX x 1 9&&(match x with
 | .int i=>aX y i 9
 | _=>false)
theorem Gh (x y:T)(hx:x.pl=true)(hy:y.pl=true):fq [x,y] = .ok (.bl (oR x y)):=by
 have w:=eI x 1 9 hx;unfold oR
 cases q:aX x 1 9 with
 | false=>rw[q]at w;simp[fq,val,bw,lF,aI,aK,cD,vr,cn,cl,ae,aj,w]
 | true=>
  rw[q]at w
  cases x with
  | int i=>simp[fq,val,bw,lF,aI,aK,cD,vr,cn,cl,ae,aj,w,eI y i 9 hy]
  | _=>cases q
def oM:List Int->Bool
 | a::b::r=>decide (a<b)&&oM (b::r)
 | _=>true
theorem G4 (a b:Int)(r:List Int):oM (a::b::r)=(decide (a<b)&&oM (b::r)):=rfl
theorem r9 {fe:En->Rs T}{p:T->Bool}{l:List T}{fi:En->Rs (List T)}{src:List (Option Nat)}{Z:En}(hi:fi Z= .ok l)(hs:l.length<=sizeLine)(hn:0<src.length)(hf:∀t∈l,fe ((dg src Z).set 0 (.va t))= .ok (.bl (p t))) :
  cl pq (ae (gu fi src (gN 0) bT fe) aj) Z= .ok (.bl (l.all p)):=by
 have e:=ve (fe:=fe) (h:=λt=>T.bl (p t)) l (dg src Z) (by unfold dg;rw[Kc];exact hn) hf
 simp only[cl,ae,aj,gu,hi,az,if_pos hs,e,all_map]
def lj (l:List T):T->Bool
 | .int k=>match L2.atI l k,L2.atI l (k+1)with
  | some (.int a),some (.int b)=>decide (a<b)
  | _,_=>false
 | _=>false
theorem qF {t:T}{j:Int}(h:t∈rng 0 j):∃k:Nat,t= .int k/\(k:Int)<j:=by
 unfold rng at h;obtain⟨k,hk,e⟩:=K7.mp h;rw[LB]at hk;exact⟨k,by rw[<-e];simp,by omega⟩
theorem Et:(l:List Int)->l.length<=4->(rng 0 ((l.length:Int) - 1)).all (lj (l.map .int))=oM l
 | [],_=>rfl
 | [a],_=>rfl
 | [a,b],_=>by simp[rng,OK,lj,L2.atI,L2.ixN,oM]
 | [a,b,c],_=>by simp[rng,OK,lj,L2.atI,L2.ixN,oM]
 | [a,b,c,d],_=>by simp[rng,OK,lj,L2.atI,L2.ixN,oM,Bool.and_assoc]
 | a::b::c::d::e::r,h=>absurd h (by simp only[Kd];omega)
theorem Dc (l:List Int)(h:l.length<=4):jd [.tup (l.map .int)] = .ok (.bl (oM l)):=by
 have hr:iR (ae (o2 ji (cl cG (ae (vr 0) aj)) (cn (.int 1))) aj) [.va (.tup (l.map .int))] = .ok (rng 0 ((l.length:Int) - 1)):=by
  have:Bs ((l.length:Int) - 1)=true:=by unfold Bs;rw[J8];exact⟨decide_eq_true (by omega),decide_eq_true (by omega)⟩
  simp[iR,ae,aj,o2,cl,vr,cn,cG,T.items,ji,this]
 have hs:(rng 0 ((l.length:Int) - 1)).length<=sizeLine:=by
  unfold rng sizeLine;rw[Kc,L9];omega
 have e:=r9 (fe:=o2 GB (o2 aQ (vr 1) (vr 0)) (o2 aQ (vr 1) (o2 aM (vr 0) (cn (.int 1))))) (p:=lj (l.map .int)) (src:=[none,some 0]) hr hs (by decide) (λt ht=>by
  obtain⟨k,rfl,hk⟩:=qF ht
  have h1:(l.map T.int)[k]? =some (.int (l[k]'(by omega))):=by simp
  have h2:(l.map T.int)[k+1]? =some (.int (l[k+1]'(by omega))):=by rw[Kz,Kq (by omega)];rfl
  have g1:=jU h1
  have g2:L2.atI (l.map T.int) ((k:Int)+1)=some (.int (l[k+1]'(by omega))):=jU h2
  simp[o2,vr,dg,cn,aM,aQ,T.items,g1,g2,vz,lj])
 rw[Et l h]at e;simp only[jd,val,LC,if_true,xA,bw,aK,aI]
 show(do let f <-(do let t <-cl pq _ [.va (.tup (l.map .int))];Rs.ok (Fl.rt t));_)=_
 rw[e]
 rfl
def ku:List T->Option (List Int)
 | [] =>some []
 | .int i::l=>match ku l with
  | some m=>some (i::m)
  | none=>none
 | _::_=>none
def cQ (t:T):Bool:=dq t 1 4&&(match t with
 | .tup l=>l.all (λu=>aX u 0 99)&&(match ku l with | some m=>oM m | none=>false)
 | _=>false)
theorem nG:∀{l:List T} {m:List Int},ku l=some m->l=m.map .int
 | [],m,h=>by cases h;rfl
 | t::l,m,h=>by
  cases t with
  | int i=>
   unfold ku at h
   cases q:ku l with
   | none=>rw[q]at h;cases h
   | some m'=>rw[q]at h;cases h;rw[Ka,<-nG q]
  | _=>cases h
theorem rg:∀{l:List T} {a b:Int},(l.all λu=>aX u a b)=true->∃m,ku l=some m
 | [],_,_,_=>⟨[],rfl⟩
 | t::l,a,b,h=>by
  rw[N8,J8]at h
  cases t with
  | int i=>
   obtain⟨m,e⟩:=rg h.2
   exact⟨i::m,by unfold ku;rw[e]⟩
  | _=>exact absurd h.1 (by simp[aX])
theorem cW {t:T}{a b:Nat}(h:dq t a b=true):∃l,t= .tup l/\a<=l.length/\l.length<=b:=by
 cases t with
 | tup l=>unfold dq at h;rw[J8]at h;exact⟨l,rfl,of_decide_eq_true h.1,of_decide_eq_true h.2⟩
 | _=>cases h
theorem small {n k:Nat}(h:n<=k)(hk:autoParam (k<=1000) aqb._auto_1):n<=sizeLine:=by unfold sizeLine;omega
theorem vq (t:T)(h:t.pl=true):bJ [t] = .ok (.bl (cQ t)):=by
 have w:aN [t,.int 1,.int 4] = .ok (.bl (dq t 1 4)):=jS t 1 4 h;unfold cQ
 cases q:dq t 1 4 with
 | false=>rw[q]at w;simp[bJ,val,bw,dP,aI,aF,gV,dH,tb,sN,aK,cl,vr,cn,ae,aj,w]
 | true=>
  rw[q]at w;obtain⟨l,rfl,h1,h2⟩:=cW q
  have hp:∀u∈l,u.pl=true:=λu hu=>e9 (by unfold T.pl at h;exact h) hu
  have e:=r9 (fe:=cl aR (ae (vr 0) (ae (cn (.int 0)) (ae (cn (.int 99)) aj)))) (p:=λu=>aX u 0 99) (src:=[none]) (fi:=iS (vr 0)) (Z:=[.va (.tup l)]) rfl (small h2) (by decide) (λu hu=>by
   simp[cl,ae,aj,vr,cn,dg,eI u 0 99 (hp u hu)])
  have w':cl aN (ae (vr 0) (ae (cn (.int 1)) (ae (cn (.int 4)) aj))) [.va (.tup l)] = .ok (.bl true):=w
  show bJ _= .ok (.bl (true&&(l.all (λu=>aX u 0 99)&&(match ku l with | some m=>oM m | none=>false))))
  cases qa:l.all λu=>aX u 0 99 with
  | false=>
   rw[qa]at e
   simp[bJ,val,bw,dP,aI,aF,gV,dH,tb,sN,aK,cD,e,w']
  | true=>
   rw[qa]at e;obtain⟨m,em⟩:=rg qa
   have el:=nG em
   have er:=Dc m (by rw[el,Kc]at h2;exact h2)
   rw[<-el]at er
   have er':cl jd (ae (vr 0) aj) [.va (.tup l)] = .ok (.bl (oM m)):=er;simp[bJ,val,bw,dP,aI,aF,gV,dH,tb,sN,aK,cD,e,w',er',em]
def at_ (t:T)(k:Nat):T:=match t.items with
 | some l=>l.getD k .non
 | none=> .non
def br (t:T):Bool:=dq t 3 3&&(match t with
 | .tup [x,y,r] =>oR x y&&cQ r
 | _=>false)
theorem Dg (t:T)(h:t.pl=true):cU [t] = .ok (.bl (br t)):=by
 have w:aN [t,.int 3,.int 3] = .ok (.bl (dq t 3 3)):=jS t 3 3 h;unfold br
 cases q:dq t 3 3 with
 | false=>rw[q]at w;simp[cU,val,bw,gJ,aI,aK,cD,cl,vr,cn,ae,aj,w]
 | true=>
  rw[q]at w;obtain⟨l,rfl,h1,h2⟩:=cW q
  match l,h1,h2 with
  | [x,y,r],_,_=>
   simp[T.pl,plS]at h;obtain⟨px,py,pr⟩:=h
   have g0:aQ (.tup [x,y,r]) (.int 0)= .ok x:=rfl
   have g1:aQ (.tup [x,y,r]) (.int 1)= .ok y:=rfl
   have g2:aQ (.tup [x,y,r]) (.int 2)= .ok r:=rfl
   have ep:=Gh x y px py
   have er:=vq r pr
   cases qp:oR x y with
   | false=>rw[qp]at ep;simp[cU,val,bw,gJ,aI,aK,cD,cl,vr,cn,ae,aj,o2,w,g0,g1,ep,qp]
   | true=>rw[qp]at ep;simp[cU,val,bw,gJ,aI,aK,cD,cl,vr,cn,ae,aj,o2,w,g0,g1,g2,ep,er,qp]
def aZ (t:T):Bool:=dq t 1 4&&(match t with
 | .tup l=>l.all br
 | _=>false)
theorem AL (t:T)(h:t.pl=true):c6 [t] = .ok (.bl (aZ t)):=by
 have w:aN [t,.int 1,.int 4] = .ok (.bl (dq t 1 4)):=jS t 1 4 h;unfold aZ
 cases q:dq t 1 4 with
 | false=>rw[q]at w;simp[c6,val,bw,gK,aI,aK,cD,cl,vr,cn,ae,aj,w]
 | true=>
  rw[q]at w;obtain⟨l,rfl,h1,h2⟩:=cW q
  have hp:∀u∈l,u.pl=true:=λu hu=>e9 (by unfold T.pl at h;exact h) hu
  have e:=r9 (fe:=cl cU (ae (vr 0) aj)) (p:=br) (src:=[none]) (fi:=iS (vr 0)) (Z:=[.va (.tup l)]) rfl (small h2) (by decide) (λu hu=>by
   simp[cl,ae,aj,vr,cn,dg,Dg u (hp u hu)])
  have w':cl aN (ae (vr 0) (ae (cn (.int 1)) (ae (cn (.int 4)) aj))) [.va (.tup l)] = .ok (.bl true):=w;simp[c6,val,bw,gK,aI,aK,cD,e,w']
def c8 (x y:T):Bool:=aX x 0 999&&(match x,y with
 | _,.non=>true
 | .int i,_=>aX y i 999
 | _,_=>false)
theorem Df (x y:T)(hx:x.pl=true)(hy:y.pl=true):dn [x,y] = .ok (.bl (c8 x y)):=by
 have w:=eI x 0 999 hx;unfold c8
 cases q:aX x 0 999 with
 | false=>rw[q]at w;simp[dn,val,bw,gI,aI,aK,cD,vr,cn,cl,ae,aj,w]
 | true=>
  rw[q]at w
  cases x with
  | int i=>
   have e:=eI y i 999 hy
   cases y with
   | non=>simp[dn,val,bw,gI,aI,aK,cD,Br,vr,cn,cl,ae,aj,o2,mj,T.isN,w]
   | _=>simp[dn,val,bw,gI,aI,aK,cD,Br,vr,cn,cl,ae,aj,o2,mj,T.isN,w,e]
  | _=>cases q
def reads (cs:List T)(c:Int):Nat:=if 0<=c then(match cs[c.toNat]? with
 | some (.tup [_,_,.tup r])=>r.length
 | _=>0)else 0
def aY (cs:List T)(t:T):Bool:=match t with
 | .tup [.int c,.int k] =>decide (0<=c)&&decide (c<cs.length)&&(decide (0<=k)&&decide (k<reads cs c))
 | _=>false
theorem lU {t:T}(h:br t=true):∃x y r,t= .tup [x,y,.tup r]:=by
 unfold br at h;rw[J8]at h;obtain⟨h1,h2⟩:=h;obtain⟨l,rfl,h3,h4⟩:=cW h1
 match l,h3,h4,h2 with
 | [x,y,r],_,_,h2=>
  simp only[J8]at h2;obtain⟨_,h5⟩:=h2;unfold cQ at h5;rw[J8]at h5;obtain⟨m,rfl,_⟩:=cW h5.1;exact⟨x,y,m,rfl⟩
theorem cg {t:T}{a b:Int}(h:aX t a b=true):∃i,t= .int i/\a<=i/\i<=b:=by
 cases t with
 | int i=>unfold aX at h;rw[J8]at h;exact⟨i,rfl,of_decide_eq_true h.1,of_decide_eq_true h.2⟩
 | _=>cases h
theorem xg (cs:List T)(t:T)(hc:aZ (.tup cs)=true)(h:t.pl=true):cT [.tup cs,t] = .ok (.bl (aY cs t)):=by
 have w:aN [t,.int 2,.int 2] = .ok (.bl (dq t 2 2)):=jS t 2 2 h
 cases q:dq t 2 2 with
 | false=>
  rw[q]at w
  have:aY cs t=false:=by
   unfold aY;split
   ·cases q
   ·rfl
  simp[cT,val,bw,gH,aI,aF,gV,qS,dH,tb,sN,aK,cl,vr,cn,ae,aj,w,this]
 | true=>
  rw[q]at w;obtain⟨l,rfl,h1,h2⟩:=cW q
  match l,h1,h2 with
  | [x,y],_,_=>
   simp[T.pl,plS]at h;obtain⟨px,py⟩:=h
   have g0:aQ (.tup [x,y]) (.int 0)= .ok x:=rfl
   have g1:aQ (.tup [x,y]) (.int 1)= .ok y:=rfl
   have gl:cG [.tup cs] = .ok (.int cs.length):=rfl
   have e1:=eI x 0 ((cs.length:Int) - 1) px
   cases q1:aX x 0 ((cs.length:Int) - 1)with
   | false=>
    rw[q1]at e1
    have:aY cs (.tup [x,y])=false:=by
     cases x with
     | int c=>
      cases y with
      | int k=>
       simp only[aX,OL,decide_eq_false_iff_not]at q1;simp only[aY,OL,decide_eq_false_iff_not]
       omega
      | _=>rfl
     | _=>rfl
    simp[cT,val,bw,gH,aI,aF,gV,qS,dH,tb,sN,aK,cl,vr,cn,ae,aj,o2,ji,w,g0,gl,e1,this]
   | true=>
    rw[q1]at e1;obtain⟨c,rfl,c1,c2⟩:=cg q1;obtain⟨n,rfl⟩:=KC c1
    have hn:n<cs.length:=by omega
    have hcl:br cs[n] =true:=by
     unfold aZ at hc;rw[J8]at hc;exact KF.mp hc.2 _ (LH hn)
    obtain⟨a,b,r,er⟩:=lU hcl
    have g2:aQ (.tup cs) (.int (n:Int))= .ok (.tup [a,b,.tup r]):=by
     simp only[aQ,T.items];rw[jU (Kq hn),er]
    have g3:aQ (.tup [a,b,.tup r]) (.int 2)= .ok (.tup r):=rfl
    have gr:cG [.tup r] = .ok (.int r.length):=rfl
    have e2:=eI y 0 ((r.length:Int) - 1) py
    have:aY cs (.tup [.int n,y])=aX y 0 ((r.length:Int) - 1):=by
     have er2:reads cs (n:Int)=r.length:=by
      unfold reads;rw[if_pos c1,Lv,Kq hn,er]
     cases y with
     | int k=>
      simp only[aY,aX,er2];rw[decide_eq_true c1,decide_eq_true (show(n:Int)<cs.length by omega)]
      simp only[Ob]
      congr 1
      exact decide_eq_decide.mpr (by omega)
     | _=>rfl
    simp[cT,val,bw,gH,aI,aF,gV,qS,dH,tb,sN,aK,cl,vr,cn,ae,aj,o2,ji,w,g0,g1,g2,g3,gl,gr,e1,e2,this]
def bh (cs:List T)(t:T):Bool:=match t with
 | .tup [a,b,x,y] =>c8 x y&&(aY cs a&&(aY cs b&& !a6 a b))
 | _=>false
theorem cX {cs:List T}{t:T}(h:aY cs t=true):∃c k:Int,t= .tup [.int c,.int k]:=by
 unfold aY at h
 split at h
 ·exact⟨_,_,rfl⟩
 ·cases h
theorem AF (cs:List T)(t:T)(hc:aZ (.tup cs)=true)(h:t.pl=true):bQ [.tup cs,t] = .ok (.bl (bh cs t)):=by
 have w:aN [t,.int 4,.int 4] = .ok (.bl (dq t 4 4)):=jS t 4 4 h
 cases q:dq t 4 4 with
 | false=>
  rw[q]at w
  have:bh cs t=false:=by
   unfold bh;split
   ·cases q
   ·rfl
  simp[bQ,val,bw,dA,aI,aF,gV,qS,dH,tb,sN,aK,cl,vr,cn,ae,aj,w,this]
 | true=>
  rw[q]at w;obtain⟨l,rfl,h1,h2⟩:=cW q
  match l,h1,h2 with
  | [a,b,x,y],_,_=>
   simp[T.pl,plS]at h;obtain⟨pa,pb,px,py⟩:=h
   have g0:aQ (.tup [a,b,x,y]) (.int 0)= .ok a:=rfl
   have g1:aQ (.tup [a,b,x,y]) (.int 1)= .ok b:=rfl
   have g2:aQ (.tup [a,b,x,y]) (.int 2)= .ok x:=rfl
   have g3:aQ (.tup [a,b,x,y]) (.int 3)= .ok y:=rfl
   have e1:=Df x y px py
   have e2:=xg cs a hc pa
   have e3:=xg cs b hc pb
   show _=Rs.ok (T.bl (c8 x y&&(aY cs a&&(aY cs b&& !a6 a b))))
   cases q1:c8 x y with
   | false=>
    rw[q1]at e1
    simp[bQ,val,bw,dA,aI,aF,gV,qS,dH,tb,sN,aK,cl,vr,cn,ae,aj,o2,w,g2,g3,e1]
   | true=>
    rw[q1]at e1
    cases q2:aY cs a with
    | false=>
     rw[q2]at e2
     simp[bQ,val,bw,dA,aI,aF,gV,qS,dH,tb,sN,aK,cD,cl,vr,cn,ae,aj,o2,w,g0,g2,g3,e1,e2]
    | true=>
     rw[q2]at e2
     cases q3:aY cs b with
     | false=>
      rw[q3]at e3
      simp[bQ,val,bw,dA,aI,aF,gV,qS,dH,tb,sN,aK,cD,cl,vr,cn,ae,aj,o2,w,g0,g1,g2,g3,e1,e2,e3]
     | true=>
      rw[q3]at e3;obtain⟨c,k,rfl⟩:=cX q2
      have f:fI (.tup [.int c,.int k]) b=true:=iN (by simp[T.dep,deps]) rfl (T.Js _ pb)
      have g4:kM (.tup [.int c,.int k]) b= .ok (.bl (!a6 (.tup [.int c,.int k]) b)):=by unfold kM;rw[if_pos f]
      simp[bQ,val,bw,dA,aI,aF,gV,qS,dH,tb,sN,aK,cD,cl,vr,cn,ae,aj,o2,w,g0,g1,g2,g3,g4,e1,e2,e3]
def je (cs:List T)(t:T):Bool:=dq t 0 8&&(match t with
 | .tup l=>l.all (bh cs)
 | _=>false)
theorem yp (cs:List T)(t:T)(hc:aZ (.tup cs)=true)(h:t.pl=true):cL [.tup cs,t] = .ok (.bl (je cs t)):=by
 have w:aN [t,.int 0,.int 8] = .ok (.bl (dq t 0 8)):=jS t 0 8 h;unfold je
 cases q:dq t 0 8 with
 | false=>rw[q]at w;simp[cL,val,bw,gb,aI,aK,cD,cl,vr,cn,ae,aj,w]
 | true=>
  rw[q]at w;obtain⟨l,rfl,h1,h2⟩:=cW q
  have hp:∀u∈l,u.pl=true:=λu hu=>e9 (by unfold T.pl at h;exact h) hu
  have e:=r9 (fe:=cl bQ (ae (vr 1) (ae (vr 0) aj))) (p:=bh cs) (src:=[none,some 0]) (fi:=iS (vr 1)) (Z:=[.va (.tup cs),.va (.tup l)]) rfl (small h2) (by decide) (λu hu=>by
   simp[cl,ae,aj,vr,cn,dg,AF cs u hc (hp u hu)])
  have w':cl aN (ae (vr 1) (ae (cn (.int 0)) (ae (cn (.int 8)) aj))) [.va (.tup cs),.va (.tup l)] = .ok (.bl true):=w;simp[cL,val,bw,gb,aI,aK,cD,e,w']
def dz (t:T):Bool:=match t with
 | .tup [.tup cs,ls] =>aZ (.tup cs)&&je cs ls
 | _=>false
theorem ub (t:T)(h:t.pl=true):cS [t] = .ok (.bl (dz t)):=by
 have w:aN [t,.int 2,.int 2] = .ok (.bl (dq t 2 2)):=jS t 2 2 h
 cases q:dq t 2 2 with
 | false=>
  rw[q]at w
  have:dz t=false:=by
   unfold dz;split
   ·cases q
   ·rfl
  simp[cS,val,bw,fT,aI,aK,cD,cl,vr,cn,ae,aj,w,this]
 | true=>
  rw[q]at w;obtain⟨l,rfl,h1,h2⟩:=cW q
  match l,h1,h2 with
  | [x,y],_,_=>
   simp[T.pl,plS]at h;obtain⟨px,py⟩:=h
   have g0:aQ (.tup [x,y]) (.int 0)= .ok x:=rfl
   have g1:aQ (.tup [x,y]) (.int 1)= .ok y:=rfl
   have e1:=AL x px
   cases q1:aZ x with
   | false=>
    rw[q1]at e1
    have:dz (.tup [x,y])=false:=by
     cases x with
     | tup cs=>show(aZ (.tup cs)&&_)=false;rw[q1];rfl
     | _=>rfl
    simp[cS,val,bw,fT,aI,aK,cD,cl,vr,cn,ae,aj,o2,w,g0,e1,this]
   | true=>
    rw[q1]at e1
    cases x with
    | tup cs=>
     have e2:=yp cs y q1 py
     have:dz (.tup [.tup cs,y])=je cs y:=by show(aZ (.tup cs)&&_)=_;rw[q1];rfl
     simp[cS,val,bw,fT,aI,aK,cD,cl,vr,cn,ae,aj,o2,w,g0,g1,e1,e2,this]
    | _=>cases q1
theorem ft:∀m:List Int,deps (m.map .int)=0
 | [] =>rfl
 | a::m=>by rw[Ka,deps,ft m];rfl
def mm (i n:Nat):List T:=(rng 0 n).map λt=>T.tup [.int i,t]
def Ew:T->Nat
 | .tup [_,_,.tup r] =>r.length
 | _=>0
def eh:Nat->List T->List T
 | _,[] => []
 | i,c::r=>mm i (Ew c)++eh (i+1) r
theorem fS {t:T}(h:br t=true):∃x y r,t= .tup [x,y,.tup r]/\1<=r.length/\r.length<=4:=by
 obtain⟨x,y,r,rfl⟩:=lU h
 have:cQ (.tup r)=true:=by
  have h':(oR x y&&cQ (.tup r))=true:=h;rw[J8]at h';exact h'.2
 unfold cQ at this;rw[J8]at this;obtain⟨l,e,h1,h2⟩:=cW this.1;cases e;exact⟨x,y,r,rfl,h1,h2⟩
theorem iP (i n:Nat):(mm i n).length=n:=by unfold mm;rw[Kc,eZ]
abbrev evF:En->Rs Fl:=dj (o2 aM (vr 1) (gu (iR (ae (cl cG (ae (o2 aQ (vr 3) (cn (.int 2))) aj)) aj)) [none,some 2] (gN 0) bT (ba (ae (vr 1) (ae (vr 0) aj))))) (gN 1)
abbrev evG:T->En->Rs En:=gT 2 (tU (gN 2) (tU (gN 3) Bt))
theorem yG {f:En->Rs (List T)}{Z:En}{j:Int}(h:f Z= .ok [.int j])(h0:0<=j)(h1:j<=100000):iR f Z= .ok (rng 0 j):=by
 have e:Bs j=true:=by unfold Bs;rw[J8];exact⟨decide_eq_true (by omega),decide_eq_true (by omega)⟩
 unfold iR;rw[h]
 show(if Bs j=true then _ else _)=_
 rw[e];rfl
theorem xu (l m:List T)(h:(l++m).length<=1000):aM (.lst l) (.lst m)= .ok (.lst (l++m)):=by
 show jB (l++m)=_
 unfold jB;rw[if_pos (aB h)]
theorem jh (l m:List T)(h:(l++m).length<=1000):aM (.tup l) (.tup m)= .ok (.tup (l++m)):=by
 show jA (l++m)=_
 unfold jA;rw[if_pos (aB h)]
theorem IJ (c0 acc x y:T)(r:List T)(i:Nat)(h:r.length<=4) :
  gu (iR (ae (cl cG (ae (o2 aQ (vr 3) (cn (.int 2))) aj)) aj)) [none,some 2] (gN 0) bT (ba (ae (vr 1) (ae (vr 0) aj))) [.va c0,.va acc,.va (.int i),.va (.tup [x,y,.tup r])] = .ok (.lst (mm i r.length)):=
 vi (yG (j:=(r.length:Int)) rfl (by omega) (by omega)) (aB (k:=4) (by rw[eZ];exact h)) (by simp) λt _=>mk2 _ _
theorem C5 (c0 x y:T)(acc r:List T)(i:Nat)(h:r.length<=4)(ha:acc.length<=100):evF [.va c0,.va (.lst acc),.va (.int i),.va (.tup [x,y,.tup r])] = .ok (.nx [.va c0,.va (.lst (acc++mm i r.length)),.va (.int i),.va (.tup [x,y,.tup r])]):=
 da (aL (t:=.lst acc) rfl (IJ c0 (.lst acc) x y r i h) (xu _ _ (by rw[Kh,iP];omega))) rfl
theorem xb:∀(cs:List T) (c0:T) (acc:List T) (i:Nat) (s2 s3:Sl),(∀c∈cs,br c=true)->acc.length+4*cs.length<=100 →
  ∃y2 y3,bp evG evF (cJ i cs) [.va c0,.va (.lst acc),s2,s3] = .ok (.nx [.va c0,.va (.lst (acc++eh i cs)),y2,y3])
 | [],c0,acc,i,s2,s3,_,_=>⟨s2,s3,by simp[cJ,bp,eh]⟩
 | c::cs,c0,acc,i,s2,s3,hc,hl=>by
  obtain⟨x,y,r,rfl,r1,r2⟩:=fS (hc c Ke);rw[Kd]at hl;obtain⟨z2,z3,ih⟩:=xb cs c0 (acc++mm i r.length) (i+1) (.va (.int i)) (.va (.tup [x,y,.tup r])) (λc h=>hc c (J6 _ h)) (by rw[Kh,iP];omega)
  refine⟨z2,z3,?_⟩
  rw[cJ,eQ (Z1:=[.va c0,.va (.lst acc),.va (.int i),.va (.tup [x,y,.tup r])]) rfl (C5 c0 x y acc r i r2 (by omega)),ih,eh,Ld]
  rfl
theorem bO {cs:List T}(hc:aZ (.tup cs)=true):(∀c∈cs,br c=true)/\1<=cs.length/\cs.length<=4:=by
 unfold aZ at hc;rw[J8]at hc;obtain⟨l,e,h1,h2⟩:=cW hc.1;cases e;exact⟨λc h=>KF.mp hc.2 c h,h1,h2⟩
theorem AJ (cs:List T)(hc:aZ (.tup cs)=true):de [.tup cs] = .ok (.lst (eh 0 cs)):=by
 obtain⟨ha,h1,h2⟩:=bO hc;obtain⟨y2,y3,e⟩:=xb cs (.tup cs) [] 0 .em .em ha (by simp;omega)
 rw[Nu]at e;refine cq rfl ?_
 unfold jD;rw[aG (Z':=[.va (.tup cs),.va (.lst []),.em,.em]) rfl,aG ((fH (ts:=cJ 0 cs) rfl e))]
 rfl
theorem CQ {n k:Nat}(h:k<n):T.int (k:Int)∈rng 0 (n:Int):=by
 unfold rng;exact K7.mpr ⟨k,LB.mpr (by omega),by simp⟩
theorem pG (cs:List T)(c:Nat):reads cs (c:Int)=Ew (cs.getD c .non):=by
 unfold reads;rw[if_pos (by omega),Lv,List.getD_eq_getElem?_getD]
 cases cs[c]? with
 | none=>rfl
 | some t=>
  cases t with
  | tup l=>
   match l with
   | [] =>rfl
   | [_] =>rfl
   | [_,_] =>rfl
   | [_,_,z] =>cases z <;> rfl
   | _::_::z::_::_=>cases z <;> rfl
  | _=>rfl
mutual
def sm (n:Nat):T->Bool
 | .dct _ _=>false
 | .ob _ _ _=>false
 | .scr _=>false
 | .tup l=>decide (l.length<=n)&&sms n l
 | .lst l=>decide (l.length<=n)&&sms n l
 | _=>true
def sms (n:Nat):List T->Bool
 | [] =>true
 | t::l=>sm n t&&sms n l
end
mutual
theorem y0 {n:Nat}:∀(t:T),sm n t=true->t.pl=true
 | .scr _,h=>by simp[sm]at h
 | .dct _ _,h=>by simp[sm]at h
 | .ob _ _ _,h=>by simp[sm]at h
 | .tup l,h=>by rw[sm,J8]at h;rw[T.pl];exact sms_pl l h.2
 | .lst l,h=>by rw[sm,J8]at h;rw[T.pl];exact sms_pl l h.2
 | .non,_=>by simp[T.pl]
 | .bl _,_=>by simp[T.pl]
 | .int _,_=>by simp[T.pl]
 | .str _,_=>by simp[T.pl]
theorem sms_pl {n:Nat}:∀(l:List T),sms n l=true->plS l=true
 | [],_=>by simp[plS]
 | t::l,h=>by rw[sms,J8]at h;rw[plS,y0 t h.1,sms_pl l h.2];rfl
end
theorem vZ {n:Nat}:∀{l:List T},sms n l=true↔ ∀t∈l,sm n t=true
 | [] =>by simp[sms]
 | t::l=>by rw[sms,J8,vZ (l:=l)];simp
theorem sm_tup {n:Nat}{l:List T}:sm n (.tup l)=true↔l.length<=n/\∀t∈l,sm n t=true:=by rw[sm,J8,vZ,decide_eq_true_iff]
theorem jP {i j:Int}(h:0<j):kB (.int i) (.int j)= .ok (.int (i % j)):=by show(if _ then _ else _)=_;rw[if_pos h]
theorem mM {i j:Int}(h:0<j)(h2:j<1073741824):kG (.int i) (.int j)= .ok (.int (i / j)):=by show(if _ then _ else _)=_;rw[if_pos ⟨h,h2⟩]
theorem kA {i j:Int}(h : -18446744073709551616<i)(h2:i<18446744073709551616):bL (.int i) (.int j)= .ok (.int (i*j)):=by
 show u7 (.int i) (.int j)=_
 show(if _ then _ else _)=_
 rw[if_pos (.inl ⟨by omega,by omega⟩)]
theorem zL {i j:Int}(h : -18446744073709551616<j)(h2:j<18446744073709551616):bL (.int i) (.int j)= .ok (.int (i*j)):=by
 show u7 (.int i) (.int j)=_
 show(if _ then _ else _)=_
 rw[if_pos (.inr ⟨by omega,by omega⟩)]
theorem Gk (ns:List Int)(k:Nat)(hn:ns.length<=63):∃c,eF [.scr ns,.int k] = .ok (.int c):=by
 have e0:o2 lx (vr 0) (fj aj) [.va (.scr ns),.va (.int k)] = .ok (.bl (jC ns [])):=by
  refine aL (t:=.scr ns) (u:=.lst []) rfl (lR (ts:=[]) rfl (aB (k:=0) (Kj _))) ?_
  unfold lx;rw[if_pos (iN (by simp[T.dep]) rfl rfl)]
  rfl
 cases ns with
 | nil=>
  refine⟨7*k,cq rfl ?_⟩
  unfold iZ
  refine lq ((kE (dS e0)).trans (dy (aL (t:=.int 7) (u:=.int k) rfl rfl (kA (by omega) (by omega)))))
 | cons a r=>
  have hl:(0:Int)<((a::r).length:Nat):=by simp only[Kd];omega
  have hl2:(((a::r).length:Nat):Int)<1073741824:=by simp only[Kd]at hn ⊢;omega
  have hi:k % (a::r).length<(a::r).length:=Nat.mod_lt _ (by simp)
  have g0:o2 kB (vr 1) (cl cG (ae (vr 0) aj)) [.va (.scr (a::r)),.va (.int k)] = .ok (.int ((k % (a::r).length:Nat):Int)):=by
   refine aL (t:=.int k) (u:=.int ((a::r).length:Nat)) rfl ?_ (by rw[jP hl];rfl)
   refine bx (ts:=[.scr (a::r)]) rfl ?_
   show Rs.ok (T.int (((a::r).map T.int).length:Nat))=_
   rw[Kc]
  have g1:aQ (.scr (a::r)) (.int ((k % (a::r).length:Nat):Int))= .ok (.int (a::r)[k % (a::r).length]):=by
   have e:((a::r).map T.int)[k % (a::r).length]? =some (.int (a::r)[k % (a::r).length]):=by rw[Kz,Kq hi];rfl
   show(match L2.atI ((a::r).map T.int) ((k % (a::r).length:Nat):Int)with | some t=>Rs.ok t | none=> .bad)=_
   rw[jU e]
  have g2:o2 kG (vr 1) (cl cG (ae (vr 0) aj)) [.va (.scr (a::r)),.va (.int k)] = .ok (.int ((k:Int) / ((a::r).length:Nat))):=by
   refine aL (t:=.int k) (u:=.int ((a::r).length:Nat)) rfl ?_ (mM hl hl2)
   refine bx (ts:=[.scr (a::r)]) rfl ?_
   show Rs.ok (T.int (((a::r).map T.int).length:Nat))=_
   rw[Kc]
  refine⟨(a::r)[k % (a::r).length] +6553*((k:Int) / ((a::r).length:Nat)),cq rfl ?_⟩
  unfold iZ
  show aF _ _ [.va (.scr (a::r)),.va (.int k)] =_
  refine(aG (Z':=[.va (.scr (a::r)),.va (.int k)]) ((iI (dS e0)).trans rfl)).trans ?_
  exact dy (aL (aL (t:=.scr (a::r)) rfl g0 g1) (aL (t:=.int 6553) rfl g2 (kA (by omega) (by omega))) rfl)
theorem bZ (ns:List Int)(k:Nat)(m:Int)(hn:ns.length<=63)(hm:0<m):∃r,ax [.scr ns,.int k,.int m] = .ok (.int r)/\0<=r/\r<m:=by
 obtain⟨c,hc⟩:=Gk ns k hn
 have b1:∀x:Int,0<=x % 2147483563/\x % 2147483563<2147483563:=λx=>⟨OM _ (by omega),NL _ (by omega)⟩
 have b2:∀x:Int,0<=x % 2147483399/\x % 2147483399<2147483399:=λx=>⟨OM _ (by omega),NL _ (by omega)⟩
 generalize hx:(c % 2147483563*69069+104723*((k:Int)+1)) % 2147483563=x
 have hx':=b1 (c % 2147483563*69069+104723*((k:Int)+1));rw[hx]at hx'
 generalize hy:(x*x+x / 3) % 2147483399=y
 have hy':=b2 (x*x+x / 3);rw[hy]at hy';refine⟨(y*y+y / 7) % 2147483647 / 11 % m,cq rfl ?_,OM _ (by omega),NL _ hm⟩
 show gM [.va (.scr ns),.va (.int k),.va (.int m),.em] =_
 unfold gM
 have s1:dj (o2 kB (o2 aM (o2 bL (o2 kB (cl eF (ae (vr 0) (ae (vr 1) aj))) (cn (.int 2147483563))) (cn (.int 69069))) (o2 bL (cn (.int 104723)) (o2 aM (vr 1) (cn (.int 1))))) (cn (.int 2147483563))) (gN 3) [.va (.scr ns),.va (.int k),.va (.int m),.em] = .ok (.nx [.va (.scr ns),.va (.int k),.va (.int m),.va (.int x)]):=by
  refine da (t:=.int x) (aL (u:=.int 2147483563) (aL (aL (u:=.int 69069) (aL (u:=.int 2147483563) (bx (ts:=[.scr ns,.int k]) rfl hc) rfl (jP (by omega))) rfl (zL (by omega) (by omega))) (aL (t:=.int 104723) (u:=.int ((k:Int)+1)) rfl rfl (kA (by omega) (by omega))) rfl) rfl ?_) rfl
  rw[jP (by omega),hx]
 have s2:dj (o2 kB (o2 aM (o2 bL (vr 3) (vr 3)) (o2 kG (vr 3) (cn (.int 3)))) (cn (.int 2147483399))) (gN 3) [.va (.scr ns),.va (.int k),.va (.int m),.va (.int x)] = .ok (.nx [.va (.scr ns),.va (.int k),.va (.int m),.va (.int y)]):=by
  refine da (t:=.int y) (aL (u:=.int 2147483399) (aL (aL (t:=.int x) (u:=.int x) rfl rfl (kA (by omega) (by omega))) (aL (t:=.int x) (u:=.int 3) rfl rfl (mM (by omega) (by omega))) rfl) rfl ?_) rfl
  rw[jP (by omega),hy]
 rw[aG s1,aG s2];exact dy (aL (u:=.int m) (aL (u:=.int 11) (aL (u:=.int 2147483647) (aL (aL (t:=.int y) (u:=.int y) rfl rfl (kA (by omega) (by omega))) (aL (t:=.int y) (u:=.int 7) rfl rfl (mM (by omega) (by omega))) rfl) rfl (jP (by omega))) rfl (mM (by omega) (by omega))) rfl (jP hm))
theorem dm {ns:List Int}{k:Nat}{m r:Int}{f g h:En->Rs T}{Z:En}(e:ax [.scr ns,.int k,.int m] = .ok (.int r))(h1:f Z= .ok (.scr ns))(h2:g Z= .ok (.int k))(h3:h Z= .ok (.int m)) :
  cl ax (ae f (ae g (ae h aj))) Z= .ok (.int r):=bx (aq h1 (aq h2 (aq h3 rfl))) e
theorem sS:∀(l:List Int) (z y:Int),oM (l++ [z])=true->z<y->oM (l++ [z] ++ [y])=true
 | [],z,y,_,h=>by simp[oM,h]
 | [a],z,y,h,hy=>by
  simp[oM]at h ⊢
  omega
 | a::b::l,z,y,h,hy=>by
  have h':oM (a::b::(l++ [z]))=true:=h;rw[G4,J8]at h'
  have ih:=sS (b::l) z y h'.2 hy
  show oM (a::b::(l++ [z] ++ [y]))=true
  rw[G4,h'.1];exact ih
theorem nH:∀l:List Int,ku (l.map .int)=some l
 | [] =>rfl
 | a::l=>by rw[Ka,ku,nH l]
def RdOk (l:List Int):Prop:=∃(l':List Int) (z:Int),l=l'++ [z]/\oM l=true/\(∀x∈l,0<=x/\x<=5*l.length)/\z<=5*l.length
abbrev clF:En->Rs Fl:=dj (o2 aM (vr 3) (ba (ae (o2 aM (o2 aM (o2 aQ (vr 3) (o1 mf (cn (.int 1)))) (cn (.int 1))) (cl ax (ae (vr 0) (ae (o2 aM (o2 aM (vr 1) (cn (.int 3))) (vr 4)) (ae (cn (.int 5)) aj))))) aj))) (gN 3)
theorem rN (l:List T)(z:T):aQ (.tup (l++ [z])) (.int (-1))= .ok z:=by
 have e:L2.atI (l++ [z]) (-1)=some z:=by
  unfold L2.atI L2.ixN;simp;rw[if_pos (by omega)]
  have q:(-1+((l.length:Int)+1)).toNat=l.length:=by omega
  show(l++ [z])[(-1+((l.length:Int)+1)).toNat]? =some z
  rw[q];simp
 show(match L2.atI (l++ [z]) (-1)with | some t=>Rs.ok t | none=> .bad)=_
 rw[e]
theorem Di (ns:List Int)(hn:ns.length<=63)(a j:Nat)(s:T)(l:List Int)(h:RdOk l)(hl:l.length<=3):∃l2,clF [.va (.scr ns),.va (.int a),.va s,.va (.tup (l.map .int)),.va (.int j)] = .ok (.nx [.va (.scr ns),.va (.int a),.va s,.va (.tup (l2.map .int)),.va (.int j)])/\RdOk l2/\l2.length=l.length+1:=by
 obtain⟨l',z,rfl,h1,h2,h3⟩:=h;obtain⟨d,ed,d0,d1⟩:=bZ ns (a+3+j) 5 hn (by omega)
 refine⟨l'++ [z] ++ [z+1+d],?_,⟨l'++ [z],z+1+d,rfl,sS l' z _ h1 (by omega),?_,?_⟩,by simp⟩
 ·refine da (t:=.tup ((l'++ [z] ++ [z+1+d]).map .int)) (aL (t:=.tup ((l'++ [z]).map .int)) (u:=.tup [.int (z+1+d)]) rfl (bX (ts:=[.int (z+1+d)]) (aq (aL (t:=.int (z+1)) (u:=.int d) (aL (t:=.int z) (u:=.int 1) (aL (t:=.tup ((l'++ [z]).map .int)) (u:=.int (-1)) rfl rfl ?_) rfl rfl) (dm (k:=a+3+j) ed rfl ?_ rfl) rfl) rfl) (aB (k:=1) (by simp))) ?_) rfl
  ·rw[LD];exact rN _ _
  ·refine aL (t:=.int ((a:Int)+3)) (u:=.int j) (aL (t:=.int a) (u:=.int 3) rfl rfl rfl) rfl ?_
   show Rs.ok (T.int ((a:Int)+3+j))=_
   congr 2
  ·rw[LD (l₁:=l'++ [z])]
   exact jh _ _ (by rw[Kh,Kc];simp at hl ⊢;omega)
 ·intro x hx
  rcases Ky.mp hx with hx | hx
  ·have:=h2 x hx
   simp only[Kh,LC]at this ⊢;omega
  ·rw[Km]at hx
   subst hx
   have hz:=h2 z (by simp)
   simp only[Kh,LC]at h3 ⊢;omega
 ·simp only[Kh,LC]at h3 ⊢
  omega
theorem xo (ns:List Int)(hn:ns.length<=63)(a:Nat)(s:T):∀(js:List Nat) (l:List Int) (s4:Sl),RdOk l->l.length+js.length<=4->∃l2 s5,bp (gN 4) clF (js.map λ(j:Nat)=>T.int j) [.va (.scr ns),.va (.int a),.va s,.va (.tup (l.map .int)),s4] = .ok (.nx [.va (.scr ns),.va (.int a),.va s,.va (.tup (l2.map .int)),s5])/\RdOk l2/\l2.length=l.length+js.length
 | [],l,s4,h,_=>⟨l,s4,rfl,h,rfl⟩
 | j::js,l,s4,h,hl=>by
  rw[Kd]at hl;obtain⟨l2,e2,h2,n2⟩:=Di ns hn a j s l h (by omega)
  obtain⟨l3,s5,e3,h3,n3⟩:=xo ns hn a s js l2 (.va (.int j)) h2 (by omega)
  refine⟨l3,s5,?_,h3,by rw[n3,n2,Kd];omega⟩
  rw[Ka,eQ (Z1:=[.va (.scr ns),.va (.int a),.va s,.va (.tup (l.map .int)),.va (.int j)]) rfl e2];exact e3
theorem ki (n:Nat):rng 0 (n:Int)=(K9 n).map λ(j:Nat)=>T.int j:=by
 unfold rng;simp
theorem RdOk.reads {l:List Int}(h:RdOk l)(hl:l.length<=4):cQ (.tup (l.map .int))=true:=by
 obtain⟨l',z,rfl,h1,h2,h3⟩:=h;unfold cQ;rw[J8];refine⟨?_,?_⟩
 ·simp[dq];simp at hl;omega
 ·show(((l'++ [z]).map T.int).all (λu=>aX u 0 99)&&(match ku ((l'++ [z]).map T.int)with | some m=>oM m | none=>false))=true
  rw[nH]
  show(_&&oM (l'++ [z]))=true
  rw[h1,Pw,KF];intro t ht;obtain⟨x,hx,rfl⟩:=K7.mp ht
  have:=h2 x hx;simp only[aX,J8,decide_eq_true_eq];omega
theorem BS (n:Nat)(l:List Int)(h:l.length<=n):sm n (.tup (l.map .int))=true:=sm_tup.mpr ⟨by rw[Kc];exact h,λt ht=>by obtain⟨x,_,rfl⟩:=K7.mp ht;simp[sm]⟩
theorem AK (ns:List Int)(hn:ns.length<=63)(a:Nat):∃c,b9 [.scr ns,.int a] = .ok c/\br c=true/\sm 8 c=true:=by
 obtain⟨d1,e1,p1,q1⟩:=bZ ns a 3 hn (by omega)
 obtain⟨d2,e2,p2,q2⟩:=bZ ns (a+2) 6 hn (by omega)
 obtain⟨d3,e3,p3,q3⟩:=bZ ns (a+1) 3 hn (by omega)
 obtain⟨d4,e4,p4,q4⟩:=bZ ns (a+6) 3 hn (by omega)
 obtain⟨n3,rfl⟩:=KC p3;obtain⟨l,s5,el,hl,nl⟩:=xo ns hn a (.int (1+d1)) (K9 n3) [d2] .em ⟨[],d2,rfl,rfl,λx hx=>by rw[Km]at hx;subst hx;simp;omega,by simp;omega⟩ (by simp;omega)
 have nl':l.length<=4:=by rw[nl];simp;omega
 have hr:=hl.reads nl';refine⟨.tup [.int (1+d1),.int (1+d1+d4),.tup (l.map .int)],cq rfl ?_,?_,?_⟩
 ·show gO [.va (.scr ns),.va (.int a),.em,.em,.em] =_
  unfold gO;rw[aG (Z':=[.va (.scr ns),.va (.int a),.va (.int (1+d1)),.em,.em]) (da (t:=.int (1+d1)) (aL (t:=.int 1) rfl (dm e1 rfl rfl rfl) rfl) rfl)];rw[aG (Z':=[.va (.scr ns),.va (.int a),.va (.int (1+d1)),.va (.tup ([d2].map .int)),.em]) (da (t:=.tup [.int d2]) (bX (ts:=[.int d2]) (aq (dm (k:=a+2) e2 rfl rfl rfl) rfl) (aB (k:=1) (by simp))) rfl)]
  rw[aG ((fH (yG (aq (dm (k:=a+1) e3 rfl rfl rfl) rfl) (by omega) (by omega)) (by rw[ki];exact el)))]
  exact dy (bX (aq (t:=.int (1+d1)) rfl (aq (aL (t:=.int (1+d1)) rfl (dm (k:=a+6) e4 rfl rfl rfl) rfl) (aq (t:=.tup (l.map .int)) rfl rfl))) (aB (k:=3) (by simp)))
 ·show(true&&(oR (.int (1+d1)) (.int (1+d1+d4))&&cQ _))=true
  rw[hr];simp only[oR,aX,Ob,Pw,J8,decide_eq_true_eq];omega
 ·refine sm_tup.mpr ⟨by simp,λt ht=> ?_⟩
  rcases Kf.mp ht with rfl | ht
  ·simp[sm]
  ·rcases Kf.mp ht with rfl | ht
   ·simp[sm]
   ·rw[Km]at ht;subst ht;exact BS 8 l (by omega)
theorem mH {y:T}:∀(cs:List T) (i:Nat),y∈eh i cs->∃c k:Nat,y= .tup [.int c,.int k]/\i<=c/\c<i+cs.length/\k<Ew (cs.getD (c - i) .non)
 | [],i,h=>by cases h
 | x::cs,i,h=>by
  rw[eh]at h;rcases Ky.mp h with h | h
  ·unfold mm at h
   obtain⟨t,ht,rfl⟩:=K7.mp h;obtain⟨j,rfl,hj⟩:=qF ht;refine⟨i,j,rfl,Kj _,by rw[Kd];omega,?_⟩
   rw[OF]
   show j<Ew x
   omega
  ·obtain⟨c,k,e,h1,h2,h3⟩:=mH cs (i+1) h
   refine⟨c,k,e,by omega,by rw[Kd];omega,?_⟩
   have:c - i=(c - (i+1))+1:=by omega
   rw[this];exact h3
theorem DS {cs:List T}{y:T}(h:y∈eh 0 cs):aY cs y=true:=by
 obtain⟨c,k,rfl,_,h2,h3⟩:=mH cs 0 h
 show(decide ((0:Int)<=(c:Int))&&decide ((c:Int)<(cs.length:Int))&&(decide ((0:Int)<=(k:Int))&&decide ((k:Int)<(reads cs (c:Int):Int))))=true
 rw[OG]at h3;rw[pG];simp only[J8,decide_eq_true_eq];omega
theorem kX:∀(cs:List T) (i:Nat),(eh i cs).Nodup
 | [],i=>M6
 | x::cs,i=>by
  rw[eh,K5];refine⟨?_,kX cs (i+1),?_⟩
  ·unfold mm rng
   rw[Qe];rw[NF,List.pairwise_map];refine List.nodup_range.imp ?_
   intro a b hab e
   simp at e
   exact hab (by omega)
  ·intro a ha b hb e
   subst e;unfold mm at ha;obtain⟨t,ht,rfl⟩:=K7.mp ha;obtain⟨c,k,e,h1,_,_⟩:=mH cs (i+1) hb
   simp at e
   omega
theorem zI {l:List T}(h:l.Nodup){i j:Nat}(hi:i<l.length)(hj:j<l.length)(hij:i≠j):l[i] ≠l[j]:=by
 rw[NF,List.pairwise_iff_getElem]at h;rcases Nat.lt_or_ge i j with q | q
 ·exact h i j hi hj q
 ·exact λe=>h j i hj hi (by omega) e.symm
theorem rR:∀(cs:List T) (i:Nat),(∀c∈cs,br c=true)->(eh i cs).length<=4*cs.length
 | [],i,_=>Kj _
 | x::cs,i,h=>by
  obtain⟨a,b,r,rfl,_,h2⟩:=fS (h x Ke)
  have:=rR cs (i+1) λc hc=>h c (J6 _ hc)
  rw[eh,Kh,iP,Kd]
  show r.length+_<=_
  omega
theorem AA {cs:List T}{a b:T}(ha:aY cs a=true)(hb:aY cs b=true)(h:a≠b):a6 a b=false:=by
 obtain⟨c,k,rfl⟩:=cX ha;obtain⟨c',k',rfl⟩:=cX hb;rw[Bool.eq_false_iff];intro e;simp[a6,beqTs]at e;exact h (by rw[e.1,e.2])
theorem sH {cs:List T}{a:T}(ha:aY cs a=true):sm 8 a=true:=by
 obtain⟨c,k,rfl⟩:=cX ha;simp[sm,sms]
theorem Al {l:List T}{i:Nat}(h:i<l.length):aQ (.lst l) (.int (i:Int))= .ok l[i]:=by
 show(match L2.atI l (i:Int)with | some t=>Rs.ok t | none=> .bad)=_
 rw[jU (Kq h)]
theorem oo (a b:Int):lx (.int a) (.int b)= .ok (.bl (a == b)):=by
 unfold lx;rw[if_pos (iN (by simp[T.dep]) rfl rfl)]
 rfl
theorem vt (ns:List Int)(hn:ns.length<=63)(a:Nat)(cs:List T)(hc:aZ (.tup cs)=true):∃r,bF [.scr ns,.int a,.tup cs] = .ok r/\((r= .non/\(eh 0 cs).length<2)\/(bh cs r=true/\sm 8 r=true)):=by
 obtain⟨ha,h1,h4⟩:=bO hc
 have hlen:=rR cs 0 ha
 have er:=AJ cs hc
 have gl:∀s4 s5 s6 s7:Sl,cl cG (ae (vr 3) aj) [.va (.scr ns),.va (.int a),.va (.tup cs),.va (.lst (eh 0 cs)),s4,s5,s6,s7] = .ok (.int ((eh 0 cs).length:Nat)):=λ_ _ _ _=>rfl
 have s1:dj (cl de (ae (vr 2) aj)) (gN 3) [.va (.scr ns),.va (.int a),.va (.tup cs),.em,.em,.em,.em,.em] = .ok (.nx [.va (.scr ns),.va (.int a),.va (.tup cs),.va (.lst (eh 0 cs)),.em,.em,.em,.em]):=da (bx (ts:=[.tup cs]) rfl er) rfl
 have lt:o2 GB (cl cG (ae (vr 3) aj)) (cn (.int 2)) [.va (.scr ns),.va (.int a),.va (.tup cs),.va (.lst (eh 0 cs)),.em,.em,.em,.em] = .ok (.bl (decide (((eh 0 cs).length:Int)<2))):=aL (t:=.int ((eh 0 cs).length:Nat)) (u:=.int 2) (gl _ _ _ _) rfl rfl
 by_cases hs:(eh 0 cs).length<2
 ·refine⟨.non,cq rfl ?_,.inl ⟨rfl,hs⟩⟩
  show di [.va (.scr ns),.va (.int a),.va (.tup cs),.em,.em,.em,.em,.em] =_
  unfold di;rw[aG s1];rw[decide_eq_true (by omega)]at lt
  exact lq ((kE (dS lt)).trans rfl)
 ·rw[decide_eq_false (by omega)]at lt
  generalize hN:(eh 0 cs).length=n at*
  obtain⟨d1,e1,p1,q1⟩:=bZ ns a (n:Int) hn (by omega)
  obtain⟨d2,e2,p2,q2⟩:=bZ ns (a+1) ((n:Int) - 1) hn (by omega)
  obtain⟨d3,e3,p3,q3⟩:=bZ ns (a+2) 8 hn (by omega)
  obtain⟨d4,e4,p4,q4⟩:=bZ ns (a+3) 3 hn (by omega)
  obtain⟨d5,e5,p5,q5⟩:=bZ ns (a+4) 9 hn (by omega)
  obtain⟨i,rfl⟩:=KC p1;obtain⟨d2,rfl⟩:=KC p2
  have hi:i<(eh 0 cs).length:=by omega
  have hj:(i+1+d2) % n<(eh 0 cs).length:=by rw[hN];exact Nat.mod_lt _ (by omega)
  have hij:i≠(i+1+d2) % n:=by
   rcases Nat.lt_or_ge (i+1+d2) n with q | q
   ·rw[Qt q];omega
   ·have:(i+1+d2) % n=i+1+d2 - n:=by
     rw[Nat.mod_eq_sub_mod q,Qt (by omega)]
    rw[this];omega
  have eA:=DS (LH hi)
  have eB:=DS (LH hj)
  have eN:(eh 0 cs)[i] ≠(eh 0 cs)[(i+1+d2) % n]:=zI (kX cs 0) hi hj hij
  generalize hA:(eh 0 cs)[i] =A at*
  generalize hB:(eh 0 cs)[(i+1+d2) % n] =B at*
  let y:T:=if d4 == 0 then .non else .int (d3+d5)
  refine⟨.tup [A,B,.int d3,y],cq rfl ?_,.inr ⟨?_,?_⟩⟩
  ·show di [.va (.scr ns),.va (.int a),.va (.tup cs),.em,.em,.em,.em,.em] =_
   unfold di;rw[aG s1];rw[aG (Z':=[.va (.scr ns),.va (.int a),.va (.tup cs),.va (.lst (eh 0 cs)),.em,.em,.em,.em]) ((iI (dS lt)).trans rfl)];rw[aG (Z':=[.va (.scr ns),.va (.int a),.va (.tup cs),.va (.lst (eh 0 cs)),.va (.int (i:Nat)),.em,.em,.em]) (da (dm e1 rfl rfl (gl _ _ _ _)) rfl)];rw[aG (Z':=[.va (.scr ns),.va (.int a),.va (.tup cs),.va (.lst (eh 0 cs)),.va (.int (i:Nat)),.va (.int ((i+1+d2) % n:Nat)),.em,.em]) (da (t:=.int ((i+1+d2) % n:Nat)) (aL (t:=.int ((i:Int)+1+d2)) (u:=.int n) (aL (t:=.int ((i:Int)+1)) (u:=.int d2) rfl (dm (k:=a+1) e2 rfl rfl (aL (t:=.int n) (u:=.int 1) (gl _ _ _ _) rfl rfl)) rfl) (gl _ _ _ _) (jP (by omega))) rfl)]
   rw[aG (Z':=[.va (.scr ns),.va (.int a),.va (.tup cs),.va (.lst (eh 0 cs)),.va (.int (i:Nat)),.va (.int ((i+1+d2) % n:Nat)),.va (.int d3),.em]) (da (dm (k:=a+2) e3 rfl rfl rfl) rfl)]
   have ey:GF (tb (o2 lx (cl ax (ae (vr 0) (ae (o2 aM (vr 1) (cn (.int 3))) (ae (cn (.int 3)) aj)))) (cn (.int 0)))) (cn .non) (o2 aM (vr 6) (cl ax (ae (vr 0) (ae (o2 aM (vr 1) (cn (.int 4))) (ae (cn (.int 9)) aj))))) [.va (.scr ns),.va (.int a),.va (.tup cs),.va (.lst (eh 0 cs)),.va (.int (i:Nat)),.va (.int ((i+1+d2) % n:Nat)),.va (.int d3),.em] = .ok y:=by
    rw[Ik (dS (aL (u:=.int 0) (dm (k:=a+3) e4 rfl rfl rfl) rfl (oo _ _)))]
    show _=Rs.ok (if d4 == 0 then T.non else .int (d3+d5))
    cases d4 == 0 with
    | true=>rfl
    | false=>exact aL (t:=.int d3) rfl (dm (k:=a+4) e5 rfl rfl rfl) rfl
   rw[aG (Z':=[.va (.scr ns),.va (.int a),.va (.tup cs),.va (.lst (eh 0 cs)),.va (.int (i:Nat)),.va (.int ((i+1+d2) % n:Nat)),.va (.int d3),.va y]) (da ey rfl)];refine dy (bX (aq (t:=A) (aL (t:=.lst (eh 0 cs)) (u:=.int (i:Nat)) rfl rfl ?_) (aq (t:=B) (aL (t:=.lst (eh 0 cs)) (u:=.int ((i+1+d2) % n:Nat)) rfl rfl ?_) (aq (t:=.int d3) rfl (aq (t:=y) rfl rfl)))) (aB (k:=4) (by simp)))
   ·rw[<-hA];exact Al hi
   ·rw[<-hB];exact Al hj
  ·show(c8 (.int d3) y&&(aY cs A&&(aY cs B&& !a6 A B)))=true
   rw[eA,eB,AA eA eB eN]
   have:c8 (.int d3) y=true:=by
    show(aX (.int d3) 0 999&&(match(T.int d3),(if d4 == 0 then T.non else .int (d3+d5))with | _,.non=>true | .int i,_=>aX (if d4 == 0 then T.non else .int (d3+d5)) i 999 | _,_=>false))=true
    cases d4 == 0 with
    | true=>simp[aX];omega
    | false=>simp[aX];omega
   rw[this];rfl
  ·refine sm_tup.mpr ⟨by simp,λt ht=> ?_⟩
   have hy:sm 8 y=true:=by show sm 8 (if d4 == 0 then T.non else .int (d3+d5))=true;cases d4 == 0 <;> simp[sm]
   simp only[Kf,Li,or_false]at ht;rcases ht with rfl | rfl | rfl | rfl
   ·exact sH eA
   ·exact sH eB
   ·simp[sm]
   ·exact hy
theorem pX (ns:List Int)(hn:ns.length<=63)(a:Nat)(cs:List T)(hc:aZ (.tup cs)=true):∃r,bF [.scr ns,.int a,.tup cs] = .ok r/\(r= .non\/(bh cs r=true/\sm 8 r=true)):=by
 obtain⟨r,e,h⟩:=vt ns hn a cs hc;exact⟨r,e,h.imp_left (·.1)⟩
def okv:Rs T->T
 | .ok t=>t
 | _=> .non
theorem mG (l:List T)(k:Int)(h : -(2 ^ 63)<=k/\k<2 ^ 63/\l.length*k.toNat<=sizeLine):bL (.lst l) (.int k)= .ok (.lst (Kx k.toNat l).flatten):=by
 show u7 (.lst l) (.int k)=_
 unfold u7;exact if_pos h
theorem mul_one (x:T)(b:Bool):bL (.lst [x]) (.int (if b then 1 else 0))= .ok (.lst (if b then [x]else [])):=by
 cases b with
 | true=>exact mG [x] 1 ⟨by decide,by decide,aB (k:=1) (by simp)⟩
 | false=>exact mG [x] 0 ⟨by decide,by decide,aB (k:=1) (by simp)⟩
abbrev leF:En->Rs Fl:=aF (dj (cl bF (ae (vr 0) (ae (o2 aM (o2 aM (vr 1) (cn (.int 31))) (o2 bL (cn (.int 6)) (vr 5))) (ae (vr 3) aj)))) (gN 6)) (dj (o2 aM (vr 4) (o2 bL (fj (ae (vr 6) aj)) (cl An (ae (o2 iy (vr 6) (cn .non)) aj)))) (gN 4))
def yD (cs ls:List T):Prop:=∀t∈ls,bh cs t=true/\sm 8 t=true
theorem CV (ns:List Int)(hn:ns.length<=63)(a j:Nat)(m:T)(cs ls:List T)(hc:aZ (.tup cs)=true)(h:yD cs ls)(hl:ls.length<=100)(s6:Sl) :
  ∃ls2 s7,leF [.va (.scr ns),.va (.int a),.va m,.va (.tup cs),.va (.lst ls),.va (.int j),s6] = .ok (.nx [.va (.scr ns),.va (.int a),.va m,.va (.tup cs),.va (.lst ls2),.va (.int j),s7])/\yD cs ls2/\ls2.length<=ls.length+1:=by
 obtain⟨r,er,hr⟩:=pX ns hn (a+31+6*j) cs hc
 have e1:∀G,aF (dj (cl bF (ae (vr 0) (ae (o2 aM (o2 aM (vr 1) (cn (.int 31))) (o2 bL (cn (.int 6)) (vr 5))) (ae (vr 3) aj)))) (gN 6)) G [.va (.scr ns),.va (.int a),.va m,.va (.tup cs),.va (.lst ls),.va (.int j),s6] =G [.va (.scr ns),.va (.int a),.va m,.va (.tup cs),.va (.lst ls),.va (.int j),.va r]:=λG=>by
  refine aG (da (t:=r) (bx (ts:=[.scr ns,.int (a+31+6*j:Nat),.tup cs]) (aq (t:=.scr ns) rfl (aq (t:=.int (a+31+6*j:Nat)) (aL (t:=.int ((a:Int)+31)) (u:=.int (6*(j:Int))) rfl (aL (t:=.int 6) (u:=.int j) rfl rfl (kA (by omega) (by omega))) rfl) (aq (t:=.tup cs) rfl rfl))) er) rfl)
 have e2:cl An (ae (o2 iy (vr 6) (cn .non)) aj) [.va (.scr ns),.va (.int a),.va m,.va (.tup cs),.va (.lst ls),.va (.int j),.va r] = .ok (.int (if !r.isN then 1 else 0)):=bx (ts:=[.bl (!r.isN)]) rfl rfl
 refine⟨ls++(if !r.isN then [r]else []),.va r,?_,?_,?_⟩
 ·refine(e1 _).trans (da (aL (t:=.lst ls) (u:=.lst (if !r.isN then [r]else [])) rfl (aL (t:=.lst [r]) (lR (ts:=[r]) rfl (aB (k:=1) (by simp))) e2 (mul_one _ _)) (xu _ _ ?_)) rfl)
  rw[Kh];cases r.isN <;> simp <;> omega
 ·intro t ht
  rcases Ky.mp ht with ht | ht
  ·exact h t ht
  ·rcases hr with rfl | hr
   ·cases ht
   ·cases q:r.isN with
    | true=>rw[q]at ht;cases ht
    | false=>
     rw[q]at ht;rw[show t=r by simpa using ht]
     exact hr
 ·rw[Kh]
  cases r.isN <;> simp
theorem wG (ns:List Int)(hn:ns.length<=63)(a:Nat)(m:T)(cs:List T)(hc:aZ (.tup cs)=true):∀(js:List Nat) (ls:List T) (s5 s6:Sl),yD cs ls->ls.length+js.length<=100 →
  ∃ls2 t5 t6,bp (gN 5) leF (js.map λ(j:Nat)=>T.int j) [.va (.scr ns),.va (.int a),.va m,.va (.tup cs),.va (.lst ls),s5,s6] = .ok (.nx [.va (.scr ns),.va (.int a),.va m,.va (.tup cs),.va (.lst ls2),t5,t6])/\yD cs ls2/\ls2.length<=ls.length+js.length
 | [],ls,s5,s6,h,_=>⟨ls,s5,s6,rfl,h,Kj _⟩
 | j::js,ls,s5,s6,h,hl=>by
  rw[Kd]at hl;obtain⟨l2,s7,e2,h2,n2⟩:=CV ns hn a j m cs ls hc h (by omega) s6
  obtain⟨l3,t5,t6,e3,h3,n3⟩:=wG ns hn a m cs hc js l2 (.va (.int j)) s7 h2 (by omega)
  refine⟨l3,t5,t6,?_,h3,by rw[Kd];omega⟩
  rw[Ka,eQ (Z1:=[.va (.scr ns),.va (.int a),.va m,.va (.tup cs),.va (.lst ls),.va (.int j),s6]) rfl e2];exact e3
theorem Gj (ns:List Int)(hn:ns.length<=63)(a m:Nat)(hm:m<=8):∃cs ls,ee [.scr ns,.int a,.int m] = .ok (RR cs ls)/\aZ (.tup cs)=true/\cs.length<=3/\(∀c∈cs,sm 8 c=true)/\yD cs ls/\ls.length<=m:=by
 obtain⟨d1,e1,p1,q1⟩:=bZ ns a 3 hn (by omega)
 obtain⟨d2,e2,p2,q2⟩:=bZ ns (a+30) ((m:Int)+1) hn (by omega)
 obtain⟨d1,rfl⟩:=KC p1;obtain⟨d2,rfl⟩:=KC p2
 let hcl:T->T:=λt=>match t with
  | .int k=>okv (b9 [.scr ns,.int ((a:Int)+1+8*k)])
  | _=> .non
 have hh:∀t∈rng 0 ((1+d1:Nat):Int),∃k:Nat,t= .int k/\b9 [.scr ns,.int ((a+1+8*k:Nat):Int)] = .ok (hcl t)/\br (hcl t)=true/\sm 8 (hcl t)=true:=λt ht=>by
  obtain⟨k,rfl,_⟩:=qF ht;obtain⟨c,ec,h1,h2⟩:=AK ns hn (a+1+8*k)
  have e:hcl (.int k)=c:=by
   show okv (b9 [.scr ns,.int ((a+1+8*k:Nat):Int)])=c
   rw[ec];rfl
  exact⟨k,rfl,by rw[e];exact ec,by rw[e];exact h1,by rw[e];exact h2⟩
 generalize hcs:(rng 0 ((1+d1:Nat):Int)).map hcl=cs
 have lc:cs.length=1+d1:=by rw[<-hcs,Kc,eZ]
 have hc:aZ (.tup cs)=true:=by
  show(dq (.tup cs) 1 4&&cs.all br)=true
  rw[J8,KF];refine⟨by simp[dq];omega,λc h=> ?_⟩
  rw[<-hcs]at h;obtain⟨t,ht,rfl⟩:=K7.mp h;obtain⟨_,_,_,h1,_⟩:=hh t ht;exact h1
 have hsm:∀c∈cs,sm 8 c=true:=λc h=>by
  rw[<-hcs]at h;obtain⟨t,ht,rfl⟩:=K7.mp h;obtain⟨_,_,_,_,h1⟩:=hh t ht;exact h1
 obtain⟨ls,t5,t6,el,hl,nl⟩:=wG ns hn a (.int m) cs hc (K9 d2) [] .em .em (λt h=>by cases h) (by simp;omega)
 refine⟨cs,ls,cq rfl ?_,hc,by omega,hsm,hl,by simp at nl;omega⟩
 show gc [.va (.scr ns),.va (.int a),.va (.int m),.em,.em,.em,.em] =_
 unfold gc
 have s1:dj (cl jG (ae (gu (iR (ae (o2 aM (cn (.int 1)) (cl ax (ae (vr 0) (ae (vr 1) (ae (cn (.int 3)) aj))))) aj)) [none,some 0,some 1] (gN 0) bT (cl b9 (ae (vr 1) (ae (o2 aM (o2 aM (vr 2) (cn (.int 1))) (o2 bL (cn (.int 8)) (vr 0))) aj)))) aj)) (gN 3) [.va (.scr ns),.va (.int a),.va (.int m),.em,.em,.em,.em] = .ok (.nx [.va (.scr ns),.va (.int a),.va (.int m),.va (.tup cs),.em,.em,.em]):=by
  refine da (t:=.tup cs) (bx (ts:=[.lst cs]) (aq (t:=.lst cs) ?_ rfl) rfl) rfl
  rw[<-hcs];refine vi (ts:=rng 0 ((1+d1:Nat):Int)) (h:=hcl) (yG (aq (t:=.int ((1+d1:Nat):Int)) (aL (t:=.int 1) (u:=.int d1) rfl (dm e1 rfl rfl rfl) rfl) rfl) (by omega) (by omega)) (aB (k:=3) (by rw[eZ];omega)) (by simp) λt ht=> ?_
  obtain⟨k,rfl,ek,_,_⟩:=hh t ht;refine bx (ts:=[.scr ns,.int ((a+1+8*k:Nat):Int)]) (aq (t:=.scr ns) rfl (aq (aL (t:=.int ((a:Int)+1)) (u:=.int (8*(k:Int))) rfl (aL (t:=.int 8) (u:=.int k) rfl rfl (kA (by omega) (by omega))) rfl) rfl)) ek
 rw[aG s1];rw[aG (Z':=[.va (.scr ns),.va (.int a),.va (.int m),.va (.tup cs),.va (.lst []),.em,.em]) (da (lR (ts:=[]) rfl (aB (k:=0) (by simp))) rfl)]
 rw[aG ((fH (yG (aq (dm (k:=a+30) e2 rfl rfl (aL (t:=.int m) (u:=.int 1) rfl rfl rfl)) rfl) (by omega) (by omega)) (by rw[ki];exact el)))]
 exact dy (bX (aq (t:=.tup cs) rfl (aq (t:=.tup ls) rfl rfl)) (aB (k:=2) (by simp)))
theorem c7 {cs:List T}{t:T}(h:bh cs t=true):∃a b x y,t= .tup [a,b,x,y]/\c8 x y=true/\aY cs a=true/\aY cs b=true/\a6 a b=false:=by
 unfold bh at h
 split at h
 ·simp only[J8,PU]at h
  exact⟨_,_,_,_,rfl,h.1,h.2.1,h.2.2.1,h.2.2.2⟩
 ·cases h
theorem Eu {cs ls:List T}(hc:aZ (.tup cs)=true)(hs:∀c∈cs,sm 8 c=true)(hl:yD cs ls)(hn:ls.length<=8):dz (RR cs ls)=true/\sm 8 (RR cs ls)=true:=by
 refine⟨?_,?_⟩
 ·show(aZ (.tup cs)&&(dq (.tup ls) 0 8&&ls.all (bh cs)))=true
  rw[hc,Ob,J8,KF];exact⟨by simp[dq];exact hn,λt ht=>(hl t ht).1⟩
 ·refine sm_tup.mpr ⟨by simp,λt ht=> ?_⟩
  simp only[Kf,Li,or_false]at ht;rcases ht with rfl | rfl
  ·exact sm_tup.mpr ⟨by have:=(bO hc).2.2;omega,hs⟩
  ·exact sm_tup.mpr ⟨hn,λt ht=>(hl t ht).2⟩
end G
namespace Tr
open PySem
section
variable {f fa fb:En->Rs T}{fs:En->Rs (List T)}{b c:En->Rs Bool}{F G:En->Rs Fl}{Z Z' Z1 Z2:En}{t u r:T}{ts l m:List T}
mutual
theorem lA:∀(t:T),t.pl=true->a6 t t=true
 | .non,_=>rfl
 | .bl a,_=>by simp[a6]
 | .int a,_=>by simp[a6]
 | .str a,_=>by simp[a6]
 | .tup l,h=>by rw[a6];exact beqTs_refl l (by unfold T.pl at h;exact h)
 | .lst l,h=>by rw[a6];exact beqTs_refl l (by unfold T.pl at h;exact h)
 | .scr _,h=>by simp[T.pl]at h
theorem beqTs_refl:∀(l:List T),plS l=true->beqTs l l=true
 | [],_=>rfl
 | t::l,h=>by
  unfold plS at h;rw[J8]at h;rw[beqTs,lA t h.1,beqTs_refl l h.2];rfl
end
theorem rE (hp:t.pl=true)(hd:t.dep<=60):kM t t= .ok (.bl false):=by
 unfold kM;rw[if_pos (iN hd (T.Js _ hp) (T.Js _ hp)),lA t hp];rfl
theorem C6 (hp:t.pl=true)(hd:t.dep<=60):lx t t= .ok (.bl true):=by
 unfold lx;rw[if_pos (iN hd (T.Js _ hp) (T.Js _ hp)),lA t hp]
theorem rS {n:Nat}:∀{l:List T},(∀t∈l,t.dep<=n)->deps l<=n
 | [],_=>by unfold deps;omega
 | t::l,h=>by
  unfold deps
  have:=rS (l:=l) λu hu=>h u (J6 _ hu)
  have:=h t Ke;omega
theorem gy:∀{l:List T},(∀t∈l,t.pl=true)->plS l=true
 | [],_=>rfl
 | t::l,h=>by unfold plS;rw[h t Ke,gy λu hu=>h u (J6 _ hu)];rfl
theorem FF {n:Nat}(hn:n<=59)(h:∀t∈l,t.pl=true/\t.dep<=n):kM (.lst l) (.lst l)= .ok (.bl false):=
 rE (by unfold T.pl;exact gy λt ht=>(h t ht).1) (by unfold T.dep;have:=rS (l:=l) (n:=n) λt ht=>(h t ht).2;omega)
end
end Tr
namespace G
open PySem Tr
def dr (r:List Int)(k:Nat):Int:=r.getD (k+1) 0 - r.getD k 0
def pr (n:Nat)(x y:Int)(r:List Int)(k:Nat):List T:=
 [.tup [.tup [.int n,.int k],.tup [.int n,.int ((k+1:Nat):Int)],.int (dr r k*y)],.tup [.tup [.int n,.int ((k+1:Nat):Int)],.tup [.int n,.int k],.int (-dr r k*x)]]
def cB (n:Nat)(x y:Int)(r:List Int):List T:=(K9 (r.length - 1)).flatMap (pr n x y r)
abbrev A7 (n:Nat)(x y:Int)(r:List Int)(acc:List T)(s4 s5 s6 s7:Sl):En:=[.va (.int n),.va (.tup [.int x,.int y,.tup (r.map .int)]),.va (.tup (r.map .int)),.ow (.lst acc),s4,s5,s6,s7]
abbrev bcF:En->Rs Fl:=(aF (dj (ba (ae (vr 0) (ae (vr 4) aj))) (gN 5)) (aF (dj (ba (ae (vr 0) (ae (o2 aM (vr 4) (cn (.int 1))) aj))) (gN 6)) (aF (dj (o2 ji (o2 aQ (vr 2) (o2 aM (vr 4) (cn (.int 1)))) (o2 aQ (vr 2) (vr 4))) (gN 7)) (aF (oQ 3 (ba (ae (vr 5) (ae (vr 6) (ae (o2 bL (vr 7) (o2 aQ (vr 1) (cn (.int 1)))) aj))))) (oQ 3 (ba (ae (vr 6) (ae (vr 5) (ae (o2 bL (o1 mf (vr 7)) (o2 aQ (vr 1) (cn (.int 0)))) aj)))))))))
theorem mL {r:List Int}{k:Nat}(h:k<r.length):(r.map T.int)[k]? =some (.int (r.getD k 0)):=by
 rw[Kz,Kq h]
 simp[h]
theorem Dm (n:Nat)(x y:Int)(r:List Int)(acc:List T)(k:Nat)(s5 s6 s7:Sl)(hk:k+1<r.length)(hx:0<=x/\x<=9)(hy:0<=y/\y<=9)(ha:acc.length<=100) :
  bcF (A7 n x y r acc (.va (.int k)) s5 s6 s7)= .ok (.nx (A7 n x y r (acc++pr n x y r k) (.va (.int k)) (.va (.tup [.int n,.int k])) (.va (.tup [.int n,.int ((k+1:Nat):Int)])) (.va (.int (dr r k))))):=by
 have h2:([T.int n,T.int k]:List T).length<=sizeLine:=aB (k:=2) (by simp)
 have ek:((k:Int)+1)=((k+1:Nat):Int):=by omega
 refine(aG (Z':=A7 n x y r acc (.va (.int k)) (.va (.tup [.int n,.int k])) s6 s7) (da (bX rfl (aB (k:=2) (by simp))) rfl)).trans ?_
 refine(aG (Z':=A7 n x y r acc (.va (.int k)) (.va (.tup [.int n,.int k])) (.va (.tup [.int n,.int ((k+1:Nat):Int)])) s7) (da (bX (aq rfl (aq (t:=.int ((k+1:Nat):Int)) (aL (t:=.int k) (u:=.int 1) rfl rfl (congrArg (λz=>Rs.ok (T.int z)) ek)) rfl)) (aB (k:=2) (by simp))) rfl)).trans ?_
 refine(aG (Z':=A7 n x y r acc (.va (.int k)) (.va (.tup [.int n,.int k])) (.va (.tup [.int n,.int ((k+1:Nat):Int)])) (.va (.int (dr r k)))) (da (t:=.int (dr r k)) (aL (t:=.int (r.getD (k+1) 0)) (u:=.int (r.getD k 0)) (kD (n:=k+1) rfl (aL (t:=.int k) (u:=.int 1) rfl rfl (congrArg (λz=>Rs.ok (T.int z)) ek)) (mL hk)) (kD (n:=k) rfl rfl (mL (by omega))) rfl) rfl)).trans ?_
 refine(aG (Z':=A7 n x y r (acc++ [.tup [.tup [.int n,.int k],.tup [.int n,.int ((k+1:Nat):Int)],.int (dr r k*y)]]) (.va (.int k)) (.va (.tup [.int n,.int k])) (.va (.tup [.int n,.int ((k+1:Nat):Int)])) (.va (.int (dr r k)))) (Aj (l:=acc) (bX (aq rfl (aq rfl (aq (aL (t:=.int (dr r k)) (u:=.int y) rfl rfl (zL (by omega) (by omega))) rfl))) (aB (k:=3) (by simp))) rfl (by omega))).trans ?_
 refine(Aj (l:=acc++ [.tup [.tup [.int n,.int k],.tup [.int n,.int ((k+1:Nat):Int)],.int (dr r k*y)]]) (bX (aq rfl (aq rfl (aq (aL (t:=.int (-dr r k)) (u:=.int x) rfl rfl (zL (by omega) (by omega))) rfl))) (aB (k:=3) (by simp))) rfl (by rw[Kh];simp;omega)).trans ?_
 rw[Ld]
 rfl
theorem xt (n:Nat)(x y:Int)(r:List Int)(hx:0<=x/\x<=9)(hy:0<=y/\y<=9):∀(js:List Nat) (acc:List T) (s4 s5 s6 s7:Sl),(∀k∈js,k+1<r.length)->acc.length+2*js.length<=100 →
  ∃t4 t5 t6 t7,bp (gN 4) bcF (js.map λ(k:Nat)=>T.int k) (A7 n x y r acc s4 s5 s6 s7)= .ok (.nx (A7 n x y r (acc++js.flatMap (pr n x y r)) t4 t5 t6 t7))
 | [],acc,s4,s5,s6,s7,_,_=>⟨s4,s5,s6,s7,by simp[bp]⟩
 | k::js,acc,s4,s5,s6,s7,hk,hl=>by
  rw[Kd]at hl
  have e:=Dm n x y r acc k s5 s6 s7 (hk k Ke) hx hy (by omega)
  obtain⟨t4,t5,t6,t7,ih⟩:=xt n x y r hx hy js (acc++pr n x y r k) (.va (.int k)) (.va (.tup [.int n,.int k])) (.va (.tup [.int n,.int ((k+1:Nat):Int)])) (.va (.int (dr r k))) (λj hj=>hk j (J6 _ hj)) (by rw[Kh];simp[pr];omega)
  refine⟨t4,t5,t6,t7,?_⟩
  rw[Ka,eQ (Z1:=A7 n x y r acc (.va (.int k)) s5 s6 s7) rfl e,ih,NX,Ld]
theorem AO (n:Nat)(x y:Int)(r:List Int)(hx:0<=x/\x<=9)(hy:0<=y/\y<=9)(h1:1<=r.length)(h4:r.length<=4):b8 [.int n,.tup [.int x,.int y,.tup (r.map .int)]] = .ok (.lst (cB n x y r)):=by
 refine cq rfl ?_
 show dO [.va (.int n),.va (.tup [.int x,.int y,.tup (r.map .int)]),.em,.em,.em,.em,.em,.em] =_
 unfold dO;rw[aG (Z':=[.va (.int n),.va (.tup [.int x,.int y,.tup (r.map .int)]),.va (.tup (r.map .int)),.em,.em,.em,.em,.em]) (da (t:=.tup (r.map .int)) rfl rfl)];rw[aG (Z':=A7 n x y r [] .em .em .em .em) rfl];obtain⟨t4,t5,t6,t7,e⟩:=xt n x y r hx hy (K9 (r.length - 1)) [] .em .em .em .em (λk hk=>by have:=LB.mp hk;omega) (by simp;omega)
 have e1:iR (ae (o2 ji (cl cG (ae (vr 2) aj)) (cn (.int 1))) aj) (A7 n x y r [] .em .em .em .em)= .ok (rng 0 ((r.length - 1:Nat):Int)):=by
  refine yG (j:=((r.length - 1:Nat):Int)) (aq (aL (t:=.int (r.length:Nat)) (u:=.int 1) (bx (ts:=[.tup (r.map .int)]) rfl (by show Rs.ok (T.int ((r.map T.int).length:Nat))=_;rw[Kc])) rfl (congrArg (λz=>Rs.ok (T.int z)) (by omega))) rfl) (by omega) (by omega)
 rw[aG ((fH (ts:=(K9 (r.length - 1)).map λ(k:Nat)=>T.int k) (by rw[e1,ki]) e))]
 rfl
theorem dZ {t:T}(h:br t=true):∃(x y:Int) (r:List Int),t= .tup [.int x,.int y,.tup (r.map .int)]/\(0<=x/\x<=9)/\(0<=y/\y<=9)/\1<=r.length/\r.length<=4:=by
 obtain⟨x,y,r,rfl,h1,h4⟩:=fS h
 have h':(oR x y&&cQ (.tup r))=true:=h;rw[J8]at h';obtain⟨hp,hr⟩:=h';unfold oR at hp;rw[J8]at hp;obtain⟨i,rfl,i1,i2⟩:=cg hp.1;obtain⟨j,rfl,j1,j2⟩:=cg (t:=y) (a:=i) (b:=9) hp.2;unfold cQ at hr;rw[J8]at hr
 have hr2:((r.all λu=>aX u 0 99)&&(match ku r with | some m=>oM m | none=>false))=true:=hr.2
 rw[J8]at hr2;obtain⟨m,em⟩:=rg hr2.1
 have e:=nG em;subst e;rw[Kc]at h1 h4;exact⟨i,j,m,rfl,⟨by omega,by omega⟩,⟨by omega,by omega⟩,h1,h4⟩
def xB (n:Nat)(t:T):List T:=match t with
 | .tup [.int x,.int y,.tup r] =>match ku r with
  | some m=>cB n x y m
  | none=> []
 | _=> []
def bC:Nat->List T->List T
 | _,[] => []
 | i,c::r=>xB i c++bC (i+1) r
def lB (t:T):List T:=match t with
 | .tup [a,b,.int le,mo] => .tup [b,a,.int (-le)] ::(if mo.isN then []else [.tup [a,b,mo]])
 | _=> []
def GG (cs ls:List T):List T:=bC 0 cs++ls.flatMap lB
theorem vU (n:Nat)(x y:Int)(r:List Int):xB n (.tup [.int x,.int y,.tup (r.map .int)])=cB n x y r:=by
 unfold xB;simp only[nH]
theorem Gx (n:Nat)(x y:Int)(r:List Int):(cB n x y r).length=2*(r.length - 1):=by
 unfold cB;rw[List.length_flatMap]
 have:∀l:List Nat,(l.map λk=>(pr n x y r k).length).sum=2*l.length:=by
  intro l
  induction l with
  | nil=>rfl
  | cons a l ih=>rw[Ka,LJ,ih,Kd];simp[pr];omega
 rw[this,L9]
theorem yR {n:Nat}{t:T}(h:br t=true):(xB n t).length<=6:=by
 obtain⟨x,y,r,rfl,_,_,h1,h4⟩:=dZ h;rw[vU,Gx];omega
theorem vE:∀{cs:List T} {i:Nat},(∀c∈cs,br c=true)->(bC i cs).length<=6*cs.length
 | [],i,_=>by simp[bC]
 | c::cs,i,h=>by
  rw[bC,Kh,Kd]
  have:=yR (n:=i) (h c Ke)
  have:=vE (cs:=cs) (i:=i+1) λc hc=>h c (J6 _ hc)
  omega
theorem zZ (t:T):(lB t).length<=2:=by
 unfold lB;split
 ·rename_i a b le mo
  cases mo.isN <;> simp
 ·simp
theorem wJ:∀(ls:List T),(ls.flatMap lB).length<=2*ls.length
 | [] =>by simp
 | t::ls=>by
  rw[NX,Kh,Kd]
  have:=zZ t
  have:=wJ ls;omega
theorem lO {cs:List T}{t:T}(h:bh cs t=true):∃(a b mo:T) (le:Int),t= .tup [a,b,.int le,mo]/\aY cs a=true/\aY cs b=true:=by
 obtain⟨a,b,x,y,rfl,hd,ha,hb,_⟩:=c7 h;unfold c8 at hd;rw[J8]at hd;obtain⟨i,rfl,_⟩:=cg hd.1;exact⟨a,b,y,i,rfl,ha,hb⟩
theorem yq {cs:List T}{t:T}(h:bh cs t=true):bV [t] = .ok (.lst (lB t)):=by
 obtain⟨a,b,mo,le,rfl,_,_⟩:=lO h;refine cq rfl ?_
 show du [.va (.tup [a,b,.int le,mo]),.em] =_
 unfold du;rw[aG (Z':=[.va (.tup [a,b,.int le,mo]),.ow (.lst [.tup [b,a,.int (-le)]])]) (Ab (l:=[.tup [b,a,.int (-le)]]) (aq (bX (aq rfl (aq rfl (aq rfl rfl))) (aB (k:=3) (by simp))) rfl) (by simp) (by simp))]
 have e:∀(Z:En) l,Z= [.va (.tup [a,b,.int le,mo]),.ow (.lst l)]->o2 iy (o2 aQ (vr 0) (cn (.int 3))) (cn .non) Z= .ok (.bl (!mo.isN)):=λZ l z=>by subst z;rfl
 have e2:lB (.tup [a,b,.int le,mo])= .tup [b,a,.int (-le)] ::(if mo.isN then []else [.tup [a,b,mo]]):=rfl
 rw[e2]
 cases q:mo.isN with
 | true=>
  rw[aG (Z':=[.va (.tup [a,b,.int le,mo]),.ow (.lst [.tup [b,a,.int (-le)]])]) ((iI (dS (by rw[e _ _ rfl,q];rfl))).trans rfl)]
  rfl
 | false=>
  rw[aG (Z':=[.va (.tup [a,b,.int le,mo]),.ow (.lst ([.tup [b,a,.int (-le)]] ++ [.tup [a,b,mo]]))]) ((kE (dS (by rw[e _ _ rfl,q];rfl))).trans (Aj (l:=[.tup [b,a,.int (-le)]]) (bX (aq rfl (aq rfl (aq rfl rfl))) (aB (k:=3) (by simp))) rfl (by simp)))]
  rfl
abbrev bdF:En->Rs Fl:=m7 1 (cl b8 (ae (vr 2) (ae (vr 3) aj)))
abbrev bdG:T->En->Rs En:=gT 2 (tU (gN 2) (tU (gN 3) Bt))
theorem xr (R:T)(s4:Sl):∀(cs:List T) (acc:List T) (i:Nat) (s2 s3:Sl),(∀c∈cs,br c=true)->acc.length+6*cs.length<=100 →
  ∃y2 y3,bp bdG bdF (cJ i cs) [.va R,.ow (.lst acc),s2,s3,s4] = .ok (.nx [.va R,.ow (.lst (acc++bC i cs)),y2,y3,s4])
 | [],acc,i,s2,s3,_,_=>⟨s2,s3,by simp[cJ,bp,bC]⟩
 | c::cs,acc,i,s2,s3,hc,hl=>by
  have h0:=hc c Ke
  have hx:=yR (n:=i) h0;obtain⟨x,y,r,rfl,a1,a2,a3,a4⟩:=dZ h0;rw[Kd]at hl;rw[vU]at hx
  have st:bdF [.va R,.ow (.lst acc),.va (.int i),.va (.tup [.int x,.int y,.tup (r.map .int)]),s4] = .ok (.nx [.va R,.ow (.lst (acc++cB i x y r)),.va (.int i),.va (.tup [.int x,.int y,.tup (r.map .int)]),s4]):=
   Ai (l:=acc) (bx (ts:=[.int i,.tup [.int x,.int y,.tup (r.map .int)]]) rfl (AO i x y r a1 a2 a3 a4)) rfl (by omega)
  obtain⟨z2,z3,ih⟩:=xr R s4 cs (acc++cB i x y r) (i+1) (.va (.int i)) (.va (.tup [.int x,.int y,.tup (r.map .int)])) (λc h=>hc c (J6 _ h)) (by rw[Kh];omega)
  refine⟨z2,z3,?_⟩
  rw[cJ,eQ (Z1:=[.va R,.ow (.lst acc),.va (.int i),.va (.tup [.int x,.int y,.tup (r.map .int)]),s4]) rfl st,ih,bC,vU,Ld]
abbrev blF:En->Rs Fl:=m7 1 (cl bV (ae (vr 4) aj))
theorem xq (R:T)(cs:List T)(s2 s3:Sl):∀(ls:List T) (acc:List T) (s4:Sl),(∀t∈ls,bh cs t=true)->acc.length+2*ls.length<=100 →
  ∃y4,bp (gN 4) blF ls [.va R,.ow (.lst acc),s2,s3,s4] = .ok (.nx [.va R,.ow (.lst (acc++ls.flatMap lB)),s2,s3,y4])
 | [],acc,s4,_,_=>⟨s4,by simp[bp]⟩
 | t::ls,acc,s4,hl,hn=>by
  rw[Kd]at hn
  have:=zZ t
  have st:blF [.va R,.ow (.lst acc),s2,s3,.va t] = .ok (.nx [.va R,.ow (.lst (acc++lB t)),s2,s3,.va t]):=Ai (l:=acc) (bx (ts:=[t]) rfl (yq (hl t Ke))) rfl (by omega)
  obtain⟨y4,ih⟩:=xq R cs s2 s3 ls (acc++lB t) (.va t) (λu h=>hl u (J6 _ h)) (by rw[Kh];omega)
  refine⟨y4,?_⟩
  rw[eQ (Z1:=[.va R,.ow (.lst acc),s2,s3,.va t]) rfl st,ih,NX,Ld]
theorem fD {R:T}(hp:R.pl=true)(h:dz R=true):aJ [R] = .ok .non:=by
 refine z9 (Z:=[.va R]) rfl ?_
 show dh [.va R] =_
 unfold dh;exact(iI ((wN (k:=true) (dS (bx (ts:=[R]) rfl (by rw[ub R hp,h])))))).trans rfl
theorem x8 {R:T}(hp:R.pl=true)(h:dz R=false):aJ [R] = .err "NoRecord":=by
 refine vg rfl ?_
 show dh [.va R] =_
 unfold dh;exact(kE ((wN (k:=false) (dS (bx (ts:=[R]) rfl (by rw[ub R hp,h])))))).trans rfl
structure Good (cs ls:List T):Prop where
 c:aZ (.tup cs)=true
 l:∀t∈ls,bh cs t=true
 n:ls.length<=8
 p:(RR cs ls).pl=true
theorem Good.ok {cs ls:List T}(g:Good cs ls):dz (RR cs ls)=true:=by
 show(aZ (.tup cs)&&(dq (.tup ls) 0 8&&ls.all (bh cs)))=true
 rw[g.c,Ob,J8,KF];exact⟨by simp[dq];exact g.n,g.l⟩
theorem AM {cs ls:List T}(g:Good cs ls):iD [RR cs ls] = .ok (.lst (GG cs ls)):=by
 obtain⟨hc,c1,c4⟩:=bO g.c
 have hn:=g.n;refine cq rfl ?_
 show oJ [.va (RR cs ls),.em,.em,.em,.em] =_
 unfold oJ;rw[aG (tT (t:=.non) (bx (ts:=[RR cs ls]) rfl (fD g.p g.ok)))];rw[aG (Z':=[.va (RR cs ls),.ow (.lst []),.em,.em,.em]) (Ac (by simp))]
 obtain⟨y2,y3,e⟩:=xr (RR cs ls) .em cs [] 0 .em .em hc (by simp;omega)
 rw[aG ((fH (ts:=cJ 0 cs) rfl e))]
 have:=vE (i:=0) hc;obtain⟨y4,e2⟩:=xq (RR cs ls) cs y2 y3 ls ([] ++bC 0 cs) .em g.l (by rw[Nu];omega)
 rw[aG ((fH (ts:=ls) rfl e2))]
 rfl
theorem iu {l:List T}:(T.tup l).pl=plS l:=by unfold T.pl;rfl
theorem Good.parts {cs ls:List T}(g:Good cs ls):(T.tup cs).pl=true/\∀t∈ls,t.pl=true:=by
 have:=g.p;rw[iu]at this;unfold plS at this;rw[J8]at this
 have h2:=this.2;unfold plS at h2;rw[J8,iu]at h2;exact⟨this.1,λt ht=>e9 h2.1 ht⟩
theorem Good.sub {cs ls ms:List T}(g:Good cs ls)(hm:∀t∈ms,t∈ls)(hn:ms.length<=8):Good cs ms:=⟨g.c,λt ht=>g.l t (hm t ht),hn,by
 obtain⟨h1,h2⟩:=g.parts;rw[iu];refine gy λt ht=> ?_
 simp only[Kf,Li,or_false]at ht;rcases ht with rfl | rfl
 ·exact h1
 ·rw[iu];exact gy λt ht=>h2 t (hm t ht)⟩
theorem DT {cs:List T}{y:T}(h:aY cs y=true):y.pl=true/\y.dep<=1:=by
 obtain⟨c,k,rfl⟩:=cX h;exact⟨rfl,by simp[T.dep,deps]⟩
theorem HL {cs:List T}{a b x y:T}(h:bh cs (.tup [a,b,x,y])=true):y.pl=true/\y.dep=0:=by
 obtain⟨a',b',x',y',e,hd,_⟩:=c7 h;cases e;unfold c8 at hd;rw[J8]at hd;obtain⟨i,rfl,_⟩:=cg hd.1
 cases y with
 | non=>exact⟨rfl,rfl⟩
 | int j=>exact⟨rfl,rfl⟩
 | bl j=>exact⟨rfl,rfl⟩
 | str j=>exact⟨rfl,rfl⟩
 | tup j=>cases hd.2
 | lst j=>cases hd.2
 | scr j=>cases hd.2
 | dct _ _=>cases hd.2
 | ob _ _ _=>cases hd.2
abbrev peF:En->Rs Fl:=m7 1 (gu (iR (ae (cl cG (ae (o2 aQ (vr 3) (cn (.int 2))) aj)) aj)) [none,some 2] (gN 0) bT (ba (ae (vr 1) (ae (vr 0) aj))))
theorem zr (c0 s1:Sl)(x y:T)(r:List T)(i:Nat)(h:r.length<=4) :
  gu (iR (ae (cl cG (ae (o2 aQ (vr 3) (cn (.int 2))) aj)) aj)) [none,some 2] (gN 0) bT (ba (ae (vr 1) (ae (vr 0) aj))) [c0,s1,.va (.int i),.va (.tup [x,y,.tup r])] = .ok (.lst (mm i r.length)):=
 vi (yG (j:=(r.length:Int)) rfl (by omega) (by omega)) (aB (k:=4) (by rw[eZ];exact h)) (by simp) λt _=>mk2 _ _
theorem we:∀(cs:List T) (c0:T) (acc:List T) (i:Nat) (s2 s3:Sl),(∀c∈cs,br c=true)->acc.length+4*cs.length<=100 →
  ∃y2 y3,bp evG peF (cJ i cs) [.va c0,.ow (.lst acc),s2,s3] = .ok (.nx [.va c0,.ow (.lst (acc++eh i cs)),y2,y3])
 | [],c0,acc,i,s2,s3,_,_=>⟨s2,s3,by simp[cJ,bp,eh]⟩
 | c::cs,c0,acc,i,s2,s3,hc,hl=>by
  obtain⟨x,y,r,rfl,r1,r2⟩:=fS (hc c Ke);rw[Kd]at hl
  have st:peF [.va c0,.ow (.lst acc),.va (.int i),.va (.tup [x,y,.tup r])] = .ok (.nx [.va c0,.ow (.lst (acc++mm i r.length)),.va (.int i),.va (.tup [x,y,.tup r])]):=Ai (l:=acc) (zr _ _ x y r i r2) rfl (by rw[iP];omega)
  obtain⟨z2,z3,ih⟩:=we cs c0 (acc++mm i r.length) (i+1) (.va (.int i)) (.va (.tup [x,y,.tup r])) (λc h=>hc c (J6 _ h)) (by rw[Kh,iP];omega)
  refine⟨z2,z3,?_⟩
  rw[cJ,eQ (Z1:=[.va c0,.ow (.lst acc),.va (.int i),.va (.tup [x,y,.tup r])]) rfl st,ih,eh,Ld]
  rfl
theorem zy {cs ls:List T}(g:Good cs ls):iC [RR cs ls] = .ok (.lst (eh 0 cs)):=by
 obtain⟨hc,c1,c4⟩:=bO g.c;refine cq rfl ?_
 show oI [.va (RR cs ls),.em,.em,.em] =_
 unfold oI;rw[aG (tT (t:=.non) (bx (ts:=[RR cs ls]) rfl (fD g.p g.ok)))];rw[aG (Z':=[.va (RR cs ls),.ow (.lst []),.em,.em]) (Ac (by simp))]
 obtain⟨y2,y3,e⟩:=we cs (RR cs ls) [] 0 .em .em hc (by simp;omega)
 rw[aG ((fH (ts:=cJ 0 cs) rfl e))]
 rfl
theorem p2 {a b:En->Rs T}{t u:T}{Z:En}(ha:a Z= .ok t)(hb:b Z= .ok u):ba (ae a (ae b aj)) Z= .ok (.tup [t,u]):=bX (aq ha (aq hb rfl)) (aB (k:=2) (by simp))
theorem Dl {cs ls:List T}(g:Good cs ls):(GG cs ls).length<=60:=by
 unfold GG;rw[Kh];obtain⟨hc,c1,c4⟩:=bO g.c
 have:=vE (i:=0) hc
 have:=wJ ls
 have:=g.n;omega
end G
namespace G
open PySem Tr Gr
structure N2 where
 c:Int
 k:Int
deriving DecidableEq
theorem N2.ext':∀{u v:N2},u.c=v.c->u.k=v.k->u=v
 | ⟨_,_⟩,⟨_,_⟩,rfl,rfl=>rfl
def en (v:N2):T:=.tup [.int v.c,.int v.k]
def eB (x:N2×N2×Int):T:=.tup [en x.1,en x.2.1,.int x.2.2]
def eN (ks:List Nat):List T:=ks.map λk=> .int (k:Nat)
def eW (x:Int×List Nat):T:=.tup [.int x.1,.lst (eN x.2)]
def ky (v:N2):List L2.Key:=[.inl v.c,.inl v.k]
theorem cH (v:N2):keyOf (en v)=some (ky v):=rfl
theorem rJ {u v:N2}(h:some (ky u)=some (ky v)):u=v:=by
 injection h with h
 injection h with h1 h2
 injection h2 with h2 _
 injection h1 with h1
 injection h2 with h2
 exact N2.ext' h1 h2
theorem Ge {u v:N2}(h:en u=en v):u=v:=rJ (by rw[<-cH u,<-cH v,h])
theorem A6 (u v:N2):a6 (en u) (en v)=decide (u=v):=by
 unfold en a6 beqTs a6 beqTs beqTs
 by_cases h:u=v
 ·subst h;simp[a6]
 ·have:¬ (u.c=v.c/\u.k=v.k):=λz=>h (N2.ext' z.1 z.2)
  simp[h,a6];exact λz=>λy=>this ⟨z,y⟩
theorem xj (g:N2->T)(v:N2):∀(ns:List N2),ph (ns.map en) (ns.map g) (ky v)=if v∈ns then some (g v)else none
 | [] =>rfl
 | u::ns=>by
  rw[Ka,Ka,ph,cH]
  by_cases h:u=v
  ·subst h;rw[if_pos rfl,if_pos Ke]
  ·rw[if_neg (λz=>h (rJ z)),xj g v ns]
   have:(v∈u::ns)↔v∈ns:=by rw[Kf];exact⟨λz=>z.elim (λy=>absurd y.symm h) id,.inr⟩
   simp only[this]
theorem ou (x:T)(v:N2)(g:N2->T):∀(ns:List N2),v∉ns->gF (en v) x (ns.map en) (ns.map g)=(ns.map en++ [en v],ns.map g++ [x])
 | [],_=>rfl
 | u::ns,h=>by
  rw[Kf,not_or]at h;rw[Ka,Ka,gF,cH,cH,if_neg (λz=>h.1 (rJ z).symm),ou x v g ns h.2]
  rfl
theorem xh (x:T)(v:N2)(g:N2->T):∀(ns:List N2),ns.Nodup->v∈ns->gF (en v) x (ns.map en) (ns.map g)=(ns.map en,ns.map λu=>if u=v then x else g u)
 | [],_,h=>by simp at h
 | u::ns,hn,h=>by
  rw[KJ]at hn;rw[Ka,Ka,Ka,gF,cH,cH]
  by_cases z:u=v
  ·subst z
   rw[if_pos rfl,if_pos rfl]
   congr 2
   exact Mj λw hw=>by rw[if_neg (λ(y:w=u)=>hn.1 (y▸hw))]
  ·rw[if_neg (λy=>z (rJ y)),if_neg z]
   have h':v∈ns:=(Kf.mp h).elim (λy=>absurd y.symm z) id
   rw[xh x v g ns hn.2 h']
theorem jb {α:Type}[DecidableEq α]:∀{l m:List α},l.Nodup->(∀x∈l,x∈m)->l.length<=m.length
 | [],_,_,_=>LP _
 | x::l,m,hn,h=>by
  rw[KJ]at hn
  have hx:=h x Ke
  have:=jb (m:=m.erase x) hn.2 λy hy=>(O4 (λ(z:y=x)=>hn.1 (z▸hy))).mpr (h y (J6 _ hy))
  rw[List.length_erase_of_mem hx]at this
  have:0<m.length:=List.length_pos_of_mem hx;rw[Kd];omega
def oW (o:Option (Int×List Nat)):T:=match o with
 | some x=>eW x
 | none=> .non
structure DR (P ns:List N2)(b:cf N2):Prop where
 nd:ns.Nodup
 mem:∀v,v∈ns↔(b v).isSome=true
 sub:∀v∈ns,v∈P
def dV (ns:List N2)(b:cf N2):List T:=ns.map λv=>oW (b v)
theorem DR.get {P ns:List N2}{b:cf N2}(D:DR P ns b)(v:N2):ph (ns.map en) (dV ns b) (ky v)=(b v).map eW:=by
 unfold dV;rw[xj (λv=>oW (b v))]
 have:=D.mem v
 cases q:b v with
 | none=>rw[q]at this;rw[if_neg (λz=>by simpa using this.mp z)];rfl
 | some x=>rw[q]at this;rw[if_pos (this.mpr rfl)];rfl
theorem DR.put {P ns:List N2}{b:cf N2}(D:DR P ns b){v:N2}(hv:v∈P)(y:Int×List Nat):∃ns',DR P ns' (Gr.put b v y)/\gF (en v) (eW y) (ns.map en) (dV ns b)=(ns'.map en,dV ns' (Gr.put b v y)):=by
 by_cases h:v∈ns
 ·refine⟨ns,⟨D.nd,λu=> ?_,D.sub⟩,?_⟩
  ·by_cases z:u=v
   ·subst z;rw[dG];exact⟨λ_=>rfl,λ_=>h⟩
   ·rw[jI z];exact D.mem u
  ·unfold dV
   rw[xh _ _ _ _ D.nd h]
   congr 1
   refine Mj λu _=> ?_
   by_cases z:u=v
   ·subst z;rw[if_pos rfl,dG];rfl
   ·rw[if_neg z,jI z]
 ·refine⟨ns++ [v],⟨?_,λu=> ?_,λu hu=> ?_⟩,?_⟩
  ·exact K5.mpr ⟨D.nd,by simp,λx hx y hy=>by simp at hy;subst hy;exact λz=>h (z▸hx)⟩
  ·rw[Ky,Km]
   by_cases z:u=v
   ·subst z;rw[dG];exact⟨λ_=>rfl,λ_=> .inr rfl⟩
   ·rw[jI z,<-D.mem u];exact⟨λw=>w.elim id λy=>absurd y z,.inl⟩
  ·rcases Ky.mp hu with w | w
   ·exact D.sub u w
   ·rw[Km.mp w];exact hv
  ·unfold dV
   rw[ou _ _ _ _ h,LD,LD]
   congr 1
   congr 1
   ·refine Mj λu hu=> ?_
    rw[jI (λ(z:u=v)=>h (z▸hu))]
   ·simp[dG,oW]
theorem AN {P ns:List N2}{b:cf N2}(D:DR P ns b)(x:N2×N2×Int)(d:Int)(w:List Nat) :
  cV [.dct (ns.map en) (dV ns b),eB x,eW (d,w)] = .ok (.bl (dN b x.2.1 (d+x.2.2))):=by
 refine cq rfl ?_
 show iX [.va (.dct (ns.map en) (dV ns b)),.va (eB x),.va (eW (d,w)),.em] =_
 unfold iX
 have g:oD gZ (vr 0) (o2 aQ (vr 1) (cn (.int 1))) [.va (.dct (ns.map en) (dV ns b)),.va (eB x),.va (eW (d,w)),.em] = .ok (oW (b x.2.1)):=by
  refine Ig (ks:=ns.map en) (vs:=dV ns b) (u:=en x.2.1) rfl rfl ?_
  unfold gZ;rw[cH];simp only[D.get];cases b x.2.1 <;> rfl
 rw[aG (da (t:=oW (b x.2.1)) (Z':=[.va (.dct (ns.map en) (dV ns b)),.va (eB x),.va (eW (d,w)),.va (oW (b x.2.1))]) g rfl)];refine dy ?_
 unfold dN
 cases q:b x.2.1 with
 | none=>exact FZ (aL (t:=.non) (u:=.non) rfl rfl rfl)
 | some y=>exact(F0 (aL (t:=eW y) (u:=.non) rfl rfl rfl)).trans (aL (t:=.int (d+x.2.2)) (u:=.int y.1) rfl rfl rfl)
abbrev Bq:En->Rs Fl:=(aF (dj (ln 2 (oD gZ (vr 2) (o2 aQ (vr 5) (cn (.int 0))))) (gN 6)) (aF (gV (qS (tb (o2 mj (vr 6) (cn .non))) (dH (ye 2 (tb (cl cV (ae (vr 2) (ae (vr 5) (ae (vr 6) aj)))))))) DE sN) (aF (dj (o2 aM (o2 aQ (vr 6) (cn (.int 1))) (fj (ae (vr 4) aj))) (gN 7)) (aF (dj (gu (iS (vr 7)) [none,some 0] (gN 0) bT (o2 aQ (o2 aQ (vr 1) (vr 0)) (cn (.int 0)))) (gN 8)) (aF (gV (tb (o2 GD (o2 aQ (vr 5) (cn (.int 1))) (vr 8))) (aK (ba (ae (cn .non) (ae (sl (vr 7) (pS (oL fQ (vr 8) (o2 aQ (vr 5) (cn (.int 1))))) pN) aj)))) sN) (aF (xN 2 (o2 aQ (vr 5) (cn (.int 1))) (ba (ae (o2 aM (o2 aQ (vr 6) (cn (.int 0))) (o2 aQ (vr 5) (cn (.int 2)))) (ae (vr 7) aj)))) (dj (cn (.bl true)) (gN 3))))))))
abbrev IY:T->En->Rs En:=gT 2 (tU (gN 4) (tU (gN 5) Bt))
def eL (L:cR N2):T:=.lst (L.map eB)
def yZ (L:cR N2)(t:T):T:=match t with
 | .int j=>match L[j.toNat]? with
  | some x=>en x.1
  | none=> .non
 | _=> .non
theorem wj {L:cR N2}:∀{ks:List Nat} {a b:N2},Ch L a ks b->(eN ks).map (yZ L)=(dR L ks).map en
 | [],_,_,_=>rfl
 | k::r,a,b,h=>by
  rw[h.Jp];obtain⟨c,m,e,h⟩:=h
  show yZ L (.int k)::(eN r).map (yZ L)=en a::(dR L r).map en
  rw[wj h]
  congr 1
  unfold yZ;simp only[Lv,e]
theorem A9 (v:N2):∀(l:List N2),qb (en v) (l.map en)=decide (v∈l)
 | [] =>rfl
 | u::l=>by
  have ih:=A9 v l;unfold qb at ih ⊢;rw[Ka,Mi,ih,A6]
  by_cases h:u=v
  ·subst h;simp
  ·have h':¬ v=u:=λz=>h z.symm
   simp[h,h']
theorem tZ (v:N2):∀(l:List N2) (n:Nat),v∈l->jg (en v) (l.map en) n=some (n+l.idxOf v)
 | [],n,h=>by simp at h
 | u::l,n,h=>by
  rw[Ka,jg,A6,QZ]
  by_cases z:u=v
  ·subst z;simp
  ·have h':v∈l:=(Kf.mp h).elim (λy=>absurd y.symm z) id
   have zb:(u == v)=false:=by rw[beq_eq_false_iff_ne];exact z
   rw[zb,decide_eq_false z,if_neg Kt,tZ v l (n+1) h'];simp only[cond_false]
   congr 1
   omega
theorem DG (v:N2):(en v).nd=true:=rfl
theorem rF {α:Type}(f:α->T)(h:∀a,(f a).nd=true):∀l:List α,nds (l.map f)=true
 | [] =>rfl
 | a::l=>by rw[Ka,nds,h a,rF f h l];rfl
theorem AS (v:N2):(en v).dep<=60:=by show(T.tup [.int v.c,.int v.k]).dep<=60;simp[T.dep,deps]
theorem Iv (v:N2)(l:List N2):GD (en v) (.lst (l.map en))= .ok (.bl (decide (v∈l))):=by
 show(if (_\/_)/\_/\(T.lst (l.map en)).nd=true then _ else _)=_
 rw[if_pos ⟨.inl (AS v),rfl,rF en DG l⟩,A9]
theorem Ao (v:N2)(l:List N2)(h:v∈l):fQ (.lst (l.map en)) (en v)= .ok (.int ((l.idxOf v:Nat):Int)):=by
 unfold fQ;simp only;rw[if_pos ⟨.inl (AS v),rfl,rF en DG l⟩,tZ v l 0 h,Nat.zero_add]
theorem Gn (p q:List Nat):eN (p++q)=eN p++eN q:=by unfold eN;rw[LD]
theorem zK (D:Bool):∀ks:List Nat,nks D (eN ks)=true
 | [] =>rfl
 | k::r=>by show nks D (.int k::eN r)=true;unfold nks;rw[zK D r];rfl
theorem Ch.len {L:cR N2}{ks:List Nat}{a b:N2}(h:Ch L a ks b)(hn:(dR L ks).Nodup):ks.length<=L.length:=by
 have:=jb (h.nodup hn) (m:=K9 L.length) λk hk=>LB.mpr (h.lt k hk)
 rwa [L9]at this
abbrev sE (L:cR N2)(st:T)(o:OT)(b:Bool)(k:Nat)(x:N2×N2×Int)(s6 s7 s8:Sl):En:=[.va (eL L),.va st,.ow o,.va (.bl b),.va (.int k),.va (eB x),s6,s7,s8]
def DY (L:cR N2)(P ns:List N2)(b:cf N2)(k:Nat)(x:N2×N2×Int)(st:T)(mv:Bool)(s6 s7 s8:Sl):Sum (Option (cf N2)) (List Nat)->Prop
 | .inl none=> ∃s6' s7' s8',Bq (sE L st (.dct (ns.map en) (dV ns b)) mv k x s6 s7 s8)= .ok (.ct (sE L st (.dct (ns.map en) (dV ns b)) mv k x s6' s7' s8'))
 | .inl (some b')=> ∃ns' s6' s7' s8',DR P ns' b'/\Bq (sE L st (.dct (ns.map en) (dV ns b)) mv k x s6 s7 s8)= .ok (.nx (sE L st (.dct (ns'.map en) (dV ns' b')) true k x s6' s7' s8'))
 | .inr q=>Bq (sE L st (.dct (ns.map en) (dV ns b)) mv k x s6 s7 s8)= .ok (.rt (.tup [.non,.lst (eN q)]))
theorem BX {L:cR N2}{S P ns:List N2}{b:cf N2}{k:Nat}{x:N2×N2×Int}(K:Kept L S b)(D:DR P ns b)(hL:L.length<=500)(hP:P.length<1000)(e:L[k]? =some x)(hx:x.2.1∈P)(st:T)(mv:Bool)(s6 s7 s8:Sl) :
  DY L P ns b k x st mv s6 s7 s8 (gp L b k x):=by
 obtain⟨a,c,m⟩:=x;unfold DY
 generalize hks:ns.map en=ks
 generalize hvs:dV ns b=vs
 have get:∀s7 s8,ln 2 (oD gZ (vr 2) (o2 aQ (vr 5) (cn (.int 0)))) (sE L st (.dct ks vs) mv k (a,c,m) s6 s7 s8)= .ok (oW (b a)):=λs7 s8=>by
  refine tS (o:=.dct ks vs) rfl (Ig (ks:=ks) (vs:=vs) (u:=en a) rfl rfl ?_) ?_
  ·unfold gZ
   rw[cH,<-hks,<-hvs];simp only[D.get];cases b a <;> rfl
  ·cases b a with
   | none=>rfl
   | some y=>show nks true [.int y.1,.lst (eN y.2)] =true;simp[nks,T.nk,zK]
 have s1:∀G,aF (dj (ln 2 (oD gZ (vr 2) (o2 aQ (vr 5) (cn (.int 0))))) (gN 6)) G (sE L st (.dct ks vs) mv k (a,c,m) s6 s7 s8)=G (sE L st (.dct ks vs) mv k (a,c,m) (.va (oW (b a))) s7 s8):=λG=>
  aG (da (t:=oW (b a)) (get s7 s8) rfl)
 cases qa:b a with
 | none=>
  rw[show gp L b k (a,c,m)= .inl none from by unfold gp;simp only[qa]]
  simp only;refine⟨.va .non,s7,s8,?_⟩
  unfold Bq;rw[s1,qa]
  exact Aa (kE (F:=DE) (Ic (dS (aL (t:=.non) (u:=.non) rfl rfl rfl))))
 | some y=>
  obtain⟨d,w⟩:=y
  have bt:∀s7 s8,ye 2 (tb (cl cV (ae (vr 2) (ae (vr 5) (ae (vr 6) aj))))) (sE L st (.dct ks vs) mv k (a,c,m) (.va (eW (d,w))) s7 s8)= .ok (dN b c (d+m)):=λs7 s8=>by
   refine wR (dS (bx (ts:=[.dct ks vs,eB (a,c,m),eW (d,w)]) rfl ?_))
   rw[<-hks,<-hvs];exact AN D (a,c,m) d w
  have nn:tb (o2 mj (vr 6) (cn .non)) (sE L st (.dct ks vs) mv k (a,c,m) (.va (eW (d,w))) s7 s8)= .ok false:=dS (aL (t:=eW (d,w)) (u:=.non) rfl rfl rfl)
  have cond:=Ie nn (wN (bt s7 s8))
  have s1':∀G,aF (dj (ln 2 (oD gZ (vr 2) (o2 aQ (vr 5) (cn (.int 0))))) (gN 6)) G (sE L st (.dct ks vs) mv k (a,c,m) s6 s7 s8)=G (sE L st (.dct ks vs) mv k (a,c,m) (.va (eW (d,w))) s7 s8):=λG=>by rw[s1 G,qa];rfl
  cases hb:dN b c (d+m)with
  | false=>
   rw[show gp L b k (a,c,m)= .inl none from by unfold gp;simp only[qa,hb];rfl]
   simp only;rw[hb]at cond;refine⟨.va (eW (d,w)),s7,s8,?_⟩
   unfold Bq;rw[s1']
   exact Aa (kE (F:=DE) cond)
  | true=>
   rw[hb]at cond;obtain⟨s,hs,h1,h2,h3,h4,h5⟩:=K.walk a d w qa
   have hch:Ch L s (w++ [k]) c:=h1.snoc e
   have hwl:w.length<=500:=KW (Ch.len h1 h4) hL
   have s2:∀G,aF (gV (qS (tb (o2 mj (vr 6) (cn .non))) (dH (ye 2 (tb (cl cV (ae (vr 2) (ae (vr 5) (ae (vr 6) aj)))))))) DE sN) G (sE L st (.dct ks vs) mv k (a,c,m) (.va (eW (d,w))) s7 s8)=G (sE L st (.dct ks vs) mv k (a,c,m) (.va (eW (d,w))) s7 s8):=λG=>
    aG (Z':=(sE L st (.dct ks vs) mv k (a,c,m) (.va (eW (d,w))) s7 s8)) ((iI (F:=DE) (G:=sN) cond).trans rfl)
   have wk:o2 aM (o2 aQ (vr 6) (cn (.int 1))) (fj (ae (vr 4) aj)) (sE L st (.dct ks vs) mv k (a,c,m) (.va (eW (d,w))) s7 s8)= .ok (.lst (eN (w++ [k]))):=by
    refine aL (t:=.lst (eN w)) (u:=.lst (eN [k])) rfl (lR (ts:=[.int k]) rfl (aB (k:=1) (by simp))) ?_
    show jB (eN w++eN [k])=_
    rw[<-Gn];unfold jB;rw[if_pos (aB (k:=1000) (by unfold eN;rw[Kc,Kh];simp;omega))]
   have s3:∀G,aF (dj (o2 aM (o2 aQ (vr 6) (cn (.int 1))) (fj (ae (vr 4) aj))) (gN 7)) G (sE L st (.dct ks vs) mv k (a,c,m) (.va (eW (d,w))) s7 s8)=G (sE L st (.dct ks vs) mv k (a,c,m) (.va (eW (d,w))) (.va (.lst (eN (w++ [k])))) s8):=λG=>aG (da wk rfl)
   have ps:gu (iS (vr 7)) [none,some 0] (gN 0) bT (o2 aQ (o2 aQ (vr 1) (vr 0)) (cn (.int 0))) (sE L st (.dct ks vs) mv k (a,c,m) (.va (eW (d,w))) (.va (.lst (eN (w++ [k])))) s8)= .ok (.lst ((dR L (w++ [k])).map en)):=by
    rw[<-wj hch];refine vi (ts:=eN (w++ [k])) (Ag rfl) (aB (k:=1000) (by unfold eN;rw[Kc,Kh];simp;omega)) (by simp) λt ht=> ?_
    unfold eN at ht;obtain⟨j,hj,rfl⟩:=K7.mp ht
    have hjl:=hch.lt j hj;refine aL (t:=eB L[j]) (u:=.int 0) (Ij (l:=L.map eB) (n:=j) rfl rfl (by rw[Kz,Kq hjl];rfl)) rfl ?_
    unfold yZ;simp only[Lv,Kq hjl]
    rfl
   have s4:∀G,aF (dj (gu (iS (vr 7)) [none,some 0] (gN 0) bT (o2 aQ (o2 aQ (vr 1) (vr 0)) (cn (.int 0)))) (gN 8)) G (sE L st (.dct ks vs) mv k (a,c,m) (.va (eW (d,w))) (.va (.lst (eN (w++ [k])))) s8)=G (sE L st (.dct ks vs) mv k (a,c,m) (.va (eW (d,w))) (.va (.lst (eN (w++ [k])))) (.va (.lst ((dR L (w++ [k])).map en)))):=λG=>aG (da ps rfl)
   have inn:tb (o2 GD (o2 aQ (vr 5) (cn (.int 1))) (vr 8)) (sE L st (.dct ks vs) mv k (a,c,m) (.va (eW (d,w))) (.va (.lst (eN (w++ [k])))) (.va (.lst ((dR L (w++ [k])).map en))))= .ok (decide (c∈dR L (w++ [k]))):=
    dS (aL (t:=en c) (u:=.lst ((dR L (w++ [k])).map en)) rfl rfl (Iv c _))
   by_cases hn:c∈dR L (w++ [k])
   ·rw[show gp L b k (a,c,m)= .inr ((w++ [k]).drop ((dR L (w++ [k])).idxOf c))from by unfold gp;simp only[qa,hb,if_pos hn,if_true]]
    simp only;unfold Bq;rw[s1',s2,s3,s4];rw[decide_eq_true hn]at inn;refine lq ((kE inn).trans (dy ?_))
    have sle:sl (vr 7) (pS (oL fQ (vr 8) (o2 aQ (vr 5) (cn (.int 1))))) pN (sE L st (.dct ks vs) mv k (a,c,m) (.va (eW (d,w))) (.va (.lst (eN (w++ [k])))) (.va (.lst ((dR L (w++ [k])).map en))))= .ok (.lst (eN ((w++ [k]).drop ((dR L (w++ [k])).idxOf c)))):=by
     rw[Ia (l:=eN (w++ [k])) (lo:=some (((dR L (w++ [k])).idxOf c:Nat):Int)) (hi:=none) rfl (FY (k_oL (ks:=(dR L (w++ [k])).map en) (u:=en c) rfl rfl (Ao c _ hn))) rfl,ui];unfold eN;rw[List.map_drop]
    exact(bX (ts:=[.non,.lst (eN ((w++ [k]).drop ((dR L (w++ [k])).idxOf c)))]) (aq rfl (aq sle rfl)) (aB (k:=2) (by simp)))
   ·rw[show gp L b k (a,c,m)= .inl (some (Gr.put b c (d+m,w++ [k])))from by unfold gp;simp only[qa,hb,if_neg hn,if_true]]
    simp only;rw[decide_eq_false hn]at inn;obtain⟨ns',D',hd⟩:=D.put hx (d+m,w++ [k]);refine⟨ns',.va (eW (d,w)),.va (.lst (eN (w++ [k]))),.va (.lst ((dR L (w++ [k])).map en)),D',?_⟩
    unfold Bq;rw[s1',s2,s3,s4];rw[aG (Z':=(sE L st (.dct ks vs) mv k (a,c,m) (.va (eW (d,w))) (.va (.lst (eN (w++ [k])))) (.va (.lst ((dR L (w++ [k])).map en))))) ((iI (G:=sN) inn).trans rfl)]
    have pt:xN 2 (o2 aQ (vr 5) (cn (.int 1))) (ba (ae (o2 aM (o2 aQ (vr 6) (cn (.int 0))) (o2 aQ (vr 5) (cn (.int 2)))) (ae (vr 7) aj))) (sE L st (.dct ks vs) mv k (a,c,m) (.va (eW (d,w))) (.va (.lst (eN (w++ [k])))) (.va (.lst ((dR L (w++ [k])).map en))))
      = .ok (.nx (sE L st (.dct (ns'.map en) (dV ns' (Gr.put b c (d+m,w++ [k])))) mv k (a,c,m) (.va (eW (d,w))) (.va (.lst (eN (w++ [k])))) (.va (.lst ((dR L (w++ [k])).map en))))):=by
     have ev:ba (ae (o2 aM (o2 aQ (vr 6) (cn (.int 0))) (o2 aQ (vr 5) (cn (.int 2)))) (ae (vr 7) aj)) (sE L st (.dct ks vs) mv k (a,c,m) (.va (eW (d,w))) (.va (.lst (eN (w++ [k])))) (.va (.lst ((dR L (w++ [k])).map en))))= .ok (eW (d+m,w++ [k])):=
      bX (ts:=[.int (d+m),.lst (eN (w++ [k]))]) rfl (aB (k:=2) (by simp))
     have ek:o2 aQ (vr 5) (cn (.int 1)) (sE L st (.dct ks vs) mv k (a,c,m) (.va (eW (d,w))) (.va (.lst (eN (w++ [k])))) (.va (.lst ((dR L (w++ [k])).map en))))= .ok (en c):=rfl
     show(ba _ _ >>= λv=>o2 aQ (vr 5) (cn (.int 1)) _ >>= λkk=>match keyOf kk with | some _=>if ks.length<1000 then Rs.ok (Fl.nx _)else .bad | none=> .bad)=_
     rw[ev,az,ek,az,cH]
     have hlen:ks.length<1000:=by rw[<-hks,Kc];exact Pv (jb D.nd D.sub) hP
     simp only[if_pos hlen]
     have hd1:gF (en c) (eW (d+m,w++ [k])) ks vs=(ns'.map en,dV ns' (Gr.put b c (d+m,w++ [k]))):=by rw[<-hks,<-hvs];exact hd
     rw[hd1]
     rfl
    rw[aG pt];exact da (t:=.bl true) rfl rfl
def yF (L:cR N2)(st:T)(ns:List N2)(b:cf N2)(mv:Bool)(s4 s5 s6 s7 s8:Sl):En:=[.va (eL L),.va st,.ow (.dct (ns.map en) (dV ns b)),.va (.bl mv),s4,s5,s6,s7,s8]
def Bb (L:cR N2)(P:List N2)(st:T)(X:Rs Fl):Sum (cf N2×Bool) (List Nat)->Prop
 | .inr q=>X= .ok (.rt (.tup [.non,.lst (eN q)]))
 | .inl (b',mv')=> ∃ns' s4 s5 s6 s7 s8,DR P ns' b'/\X= .ok (.nx (yF L st ns' b' mv' s4 s5 s6 s7 s8))
theorem qu {L:cR N2}{S P:List N2}(hL:L.length<=500)(hP:P.length<1000)(hx:∀x∈L,x.2.1∈P)(st:T):∀(r:cR N2) (k:Nat) (b:cf N2) (mv:Bool) (ns:List N2) (s4 s5 s6 s7 s8:Sl),L.drop k=r->Kept L S b->DR P ns b →
  Bb L P st (bp IY Bq (cJ k (r.map eB)) (yF L st ns b mv s4 s5 s6 s7 s8)) (gP L k r b mv)
 | [],k,b,mv,ns,s4,s5,s6,s7,s8,_,K,D=>⟨ns,s4,s5,s6,s7,s8,D,rfl⟩
 | x::r,k,b,mv,ns,s4,s5,s6,s7,s8,hr,K,D=>by
  have e:L[k]? =some x:=by
   have:=congrArg (·[0]?) hr
   simpa using this
  have hr':L.drop (k+1)=r:=by
   have:=congrArg (List.drop 1) hr
   simpa [List.drop_drop,Qb]using this
  have tg:IY (.tup [.int k,eB x]) (yF L st ns b mv s4 s5 s6 s7 s8)= .ok [.va (eL L),.va st,.ow (.dct (ns.map en) (dV ns b)),.va (.bl mv),.va (.int k),.va (eB x),s6,s7,s8]:=rfl
  have tn:=BX K D hL hP e (hx x (L5 e)) st mv s6 s7 s8;rw[gP,Ka,cJ]
  cases q:gp L b k x with
  | inr w=>
   rw[q]at tn;simp only;unfold Bb
   exact wQ tg tn
  | inl o=>
   rw[q]at tn
   cases o with
   | none=>
    obtain⟨s6',s7',s8',tn⟩:=tn;simp only;rw[CZ tg tn]
    exact qu hL hP hx st r (k+1) b mv ns _ _ _ _ _ hr' K D
   | some b'=>
    obtain⟨ns',s6',s7',s8',D',tn⟩:=tn;simp only;rw[eQ tg tn];refine qu (S:=S) hL hP hx st r (k+1) b' true ns' _ _ _ _ _ hr' ?_ D'
    -- what is kept stays so
    obtain⟨a,c,m⟩:=x;unfold gp at q
    cases qa:b a with
    | none=>simp only[qa]at q;cases q
    | some y=>
     obtain⟨d,w⟩:=y;simp only[qa]at q
     split at q
     ·rename_i hb
      split at q
      ·cases q
      ·rename_i hn
       cases q;exact K.put e qa hb hn
     ·cases q
abbrev wF:En->Rs Fl:=aF (dj (cn (.bl false)) (gN 3)) (fV (iE (ae (vr 0) aj)) IY Bq)
def SetP (L:cR N2)(P:List N2)(st:T)(X:Rs Fl):Sum (cf N2) (List Nat)->Prop
 | .inr q=>X= .ok (.rt (.tup [.non,.lst (eN q)]))
 | .inl b'=> ∃ns' s4 s5 s6 s7 s8,DR P ns' b'/\X= .ok (.nx (yF L st ns' b' false s4 s5 s6 s7 s8))
theorem sJ {L:cR N2}{S P:List N2}(hL:L.length<=500)(hP:P.length<1000)(hx:∀x∈L,x.2.1∈P)(st:T):∀(n:Nat) (b:cf N2) (ns:List N2) (s4 s5 s6 s7 s8:Sl) (r:Sum (cf N2) (List Nat)),Kept L S b->DR P ns b->Gr.settle L n b=some r →
  SetP L P st (bH (tb (vr 3)) wF (n+1) (yF L st ns b true s4 s5 s6 s7 s8)) r
 | 0,_,_,_,_,_,_,_,_,_,_,h=>by cases h
 | n+1,b,ns,s4,s5,s6,s7,s8,r,K,D,h=>by
  have sw:=qu hL hP hx st L 0 b false ns s4 s5 s6 s7 s8 rfl K D
  have ok:=ia (S:=S) L 0 b false rfl K
  have body:∀X,bp IY Bq (cJ 0 (L.map eB)) (yF L st ns b false s4 s5 s6 s7 s8)= .ok X->wF (yF L st ns b true s4 s5 s6 s7 s8)= .ok X:=λX hX=>by
   show aF _ _ _=_
   rw[aG (Z':=yF L st ns b false s4 s5 s6 s7 s8) (da (t:=.bl false) rfl rfl)];exact fH (ts:=cJ 0 (L.map eB)) (Im rfl) hX
  have tt:tb (vr 3) (yF L st ns b true s4 s5 s6 s7 s8)= .ok true:=rfl;rw[Gr.settle]at h
  revert sw ok h
  generalize gP L 0 L b false=R
  intro h sw ok
  cases R with
  | inr q=>
   simp only at h;cases h
   exact z6 tt (body _ sw)
  | inl p=>
   obtain⟨b',mv'⟩:=p;obtain⟨ns',t4,t5,t6,t7,t8,D',sw⟩:=sw;obtain⟨K',_⟩:=ok
   cases mv' with
   | true=>
    simp only at h
    have ih:=sJ hL hP hx st n b' ns' t4 t5 t6 t7 t8 r K' D' h;rw[tR tt (body _ sw)]
    exact ih
   | false=>
    simp only at h;cases h;refine⟨ns',t4,t5,t6,t7,t8,D',?_⟩
    rw[tR tt (body _ sw)];exact z8 rfl
theorem gx {c:En->Rs Bool}{F:En->Rs Fl}{x:Fl}:∀{n m:Nat} {Z:En},n<=m->bH c F n Z= .ok x->bH c F m Z= .ok x
 | 0,_,_,_,h=>by cases h
 | n+1,0,_,hl,_=>absurd hl (by omega)
 | n+1,m+1,Z,hl,h=>by
  unfold bH at h ⊢
  cases q:c Z with
  | bad=>rw[q]at h;cases h
  | err _=>rw[q]at h;cases h
  | ok k=>
   rw[q]at h
   cases k with
   | false=>exact h
   | true=>
    simp only at h ⊢
    cases q2:F Z with
    | bad=>rw[q2]at h;cases h
    | err _=>rw[q2]at h;cases h
    | ok f=>
     rw[q2]at h
     cases f with
     | nx Z'=>exact gx (by omega) h
     | ct Z'=>exact gx (by omega) h
     | bk Z'=>exact h
     | rt t=>exact h
theorem zm (w:T):∀S:List N2,GA (S.map λv=> .tup [en v,w])=some (S.map λv=>(en v,w))
 | [] =>rfl
 | v::S=>by rw[Ka,GA,cH,zm w S];rfl
theorem ue (w:T):∀(S ns:List N2) (g:N2->T),(ns++S).Nodup->(∀v∈S,g v=w)->iQ (S.map λv=>(en v,w)) (ns.map en,ns.map g)=((ns++S).map en,(ns++S).map g)
 | [],ns,g,_,_=>by rw[KO];rfl
 | v::S,ns,g,hn,hg=>by
  have hv:v∉ns:=λz=>by
   rw[K5]at hn;exact hn.2.2 v z v Ke rfl
  rw[Ka,iQ,ou _ _ _ _ hv]
  have e1:ns.map en++ [en v] =(ns++ [v]).map en:=by rw[LD];rfl
  have e2:ns.map g++ [w] =(ns++ [v]).map g:=by rw[LD,<-hg v Ke];rfl
  rw[e1,e2,ue w S (ns++ [v]) g (by rw[Ld];exact hn) λu hu=>hg u (J6 _ hu),Ld]
  rfl
theorem Dh (w:T)(S:List N2)(hn:S.Nodup)(hl:S.length<=1000):xi [.lst (S.map λv=> .tup [en v,w])] = .ok (.dct (S.map en) (S.map λ_=>w)):=by
 unfold xi;simp only[zm];rw[if_pos (by rw[Kc];exact hl)]
 have:=ue w S [] (λ_=>w) (by simpa using hn) (λ_ _=>rfl)
 rw[Nu]at this;rw[show(([]:List T),([]:List T))=(([]:List N2).map en,([]:List N2).map λ_=>w)from rfl,this]
def eS (S:List N2):T:=.lst (S.map en)
def Ds (L:cR N2)(P:List N2)(X:Rs T):Sum (cf N2) (List Nat)->Prop
 | .inr q=>X= .ok (.tup [.non,.lst (eN q)])
 | .inl b'=> ∃ns',DR P ns' b'/\X= .ok (.tup [.dct (ns'.map en) (dV ns' b'),.non])
structure IW (L:cR N2)(P:List N2):Prop where
 len:L.length<=500
 size:size L<=100000000
 ends:∀x∈L,x.1∈P/\x.2.1∈P
 pl:P.length<1000
def SOk (L:cR N2)(S:List N2):Sum (cf N2) (List Nat)->Prop
 | .inr q=>Bar L q
 | .inl b'=>Settled L S b'
theorem AE {L:cR N2}{S P:List N2}(F:IW L P)(hS:S.Nodup)(hSP:∀v∈S,v∈P):∃r,Ds L P (fE [eL L,eS S]) r/\SOk L S r:=by
 have bound:L.length*(2*size L+1)<1000000000000 - 1:=by
  have h1:=F.len
  have h2:=F.size
  have:L.length*(2*size L+1)<=500*(2*100000000+1):=Nat.mul_le_mul h1 (by omega)
  omega
 obtain⟨r,hr,ok⟩:=uJ L S bound
 have ok':SOk L S r:=by cases r <;> exact ok
 refine⟨r,?_,ok'⟩
 have hSl:S.length<=1000:=KW (jb hS hSP) (by have:=F.pl;omega)
 have D0:DR P S (Gr.start S):=⟨hS,λv=>by unfold Gr.start;by_cases h:v∈S <;> simp[h],hSP⟩
 have dv0:dV S (Gr.start S)=S.map λ_=>eW (0,[]):=Mj λv hv=>by unfold Gr.start;rw[if_pos hv];rfl
 have w:=sJ F.len F.pl (λx hx=>(F.ends x hx).2) (eS S) _ (Gr.start S) S .em .em .em .em .em r (oa L S) D0 hr
 have lc:gu (iS (vr 1)) [none] (gN 0) bT (ba (ae (vr 0) (ae (ba (ae (cn (.int 0)) (ae (fj aj) aj))) aj))) [.va (eL L),.va (eS S),.em,.em,.em,.em,.em,.em,.em] = .ok (.lst (S.map λv=> .tup [en v,eW (0,[])])):=by
  have:=vi (fi:=iS (vr 1)) (src:=[none]) (fe:=ba (ae (vr 0) (ae (ba (ae (cn (.int 0)) (ae (fj aj) aj))) aj))) (h:=λt=> .tup [t,eW (0,[])]) (Z:=[.va (eL L),.va (eS S),.em,.em,.em,.em,.em,.em,.em]) (ts:=S.map en) (Ag rfl) (aB (k:=1000) (by rw[Kc];exact hSl)) (by simp) λt _=>
   bX (ts:=[t,eW (0,[])]) (aq rfl (aq (bX (ts:=[.int 0,.lst []]) (aq rfl (aq (lR (ts:=[]) rfl (LP _)) rfl)) (aB (k:=2) (by simp))) rfl)) (aB (k:=2) (by simp))
  rw[this,Qe];rfl
 have n0:pF 2 (gu (iS (vr 1)) [none] (gN 0) bT (ba (ae (vr 0) (ae (ba (ae (cn (.int 0)) (ae (fj aj) aj))) aj)))) [.va (eL L),.va (eS S),.em,.em,.em,.em,.em,.em,.em] = .ok (.nx [.va (eL L),.va (eS S),.ow (.dct (S.map en) (dV S (Gr.start S))),.em,.em,.em,.em,.em,.em]):=by
  unfold pF;rw[lc,az,Dh _ S hS hSl,az,dv0]
  rfl
 have main:∀G X,bH (tb (vr 3)) wF FU (yF L (eS S) S (Gr.start S) true .em .em .em .em .em)= .ok X->iV [.va (eL L),.va (eS S),.em,.em,.em,.em,.em,.em,.em] =G->(aF (bH (tb (vr 3)) wF FU) (qD 2 (aK (ba (ae (vr 2) (ae (cn .non) aj)))))) (yF L (eS S) S (Gr.start S) true .em .em .em .em .em)=G:=λG X _ h=>by
  rw[<-h];unfold iV;rw[aG n0,aG (Z':=yF L (eS S) S (Gr.start S) true .em .em .em .em .em) (da (t:=.bl true) rfl rfl)]
 cases r with
 | inr q=>
  have w':=gx (m:=FU) (by unfold FU;omega) w
  refine cq rfl ?_
  show iV [.va (eL L),.va (eS S),.em,.em,.em,.em,.em,.em,.em] =_
  rw[<-main _ _ w' rfl]
  exact lq w'
 | inl b'=>
  obtain⟨ns',s4,s5,s6,s7,s8,D',w⟩:=w
  have w':=gx (m:=FU) (by unfold FU;omega) w
  refine⟨ns',D',cq rfl ?_⟩
  show iV [.va (eL L),.va (eS S),.em,.em,.em,.em,.em,.em,.em] =_
  rw[<-main _ _ w' rfl,aG w'];exact Iq (dy (bX (ts:=[.dct (ns'.map en) (dV ns' b'),.non]) rfl (aB (k:=2) (by simp))))
theorem nX {α:Type}{f:α->T}{p:α->Prop}:∀{l:List T},(∀t∈l,∃x,t=f x/\p x)->∃L:List α,l=L.map f/\∀x∈L,p x
 | [],_=>⟨[],rfl,λ_ h=>nomatch h⟩
 | t::l,h=>by
  obtain⟨x,e,hx⟩:=h t Ke;obtain⟨L,e2,h2⟩:=nX (l:=l) λu hu=>h u (J6 _ hu)
  exact⟨x::L,by rw[e,e2];rfl,λy hy=>(Kf.mp hy).elim (λz=>z▸hx) (h2 y)⟩
theorem vB {t:T}(h:br t=true):∃(x y:Int) (r:List Int),t= .tup [.int x,.int y,.tup (r.map .int)]/\(0<=x/\x<=9)/\(0<=y/\y<=9)/\∀k,0<=r.getD k 0/\r.getD k 0<=99:=by
 obtain⟨x,y,r,rfl,h1,h2,h3,h4⟩:=dZ h;refine⟨x,y,r,rfl,h1,h2,λk=> ?_⟩
 have h':(oR (.int x) (.int y)&&cQ (.tup (r.map .int)))=true:=h;rw[J8]at h'
 have hr:=h'.2;unfold cQ at hr;rw[J8]at hr
 have hr2:(((r.map T.int).all λu=>aX u 0 99)&&(match ku (r.map .int)with | some m=>oM m | none=>false))=true:=hr.2
 rw[J8]at hr2
 by_cases hk:k<r.length
 ·have:=KF.mp hr2.1 (.int r[k]) (K7.mpr ⟨_,LH hk,rfl⟩)
  obtain⟨i,e,a,b⟩:=cg this;cases e;simp[hk];exact⟨a,b⟩
 ·simp[hk]
theorem wz {cs:List T}{i:Nat}:∀{cs0:List T} {c k:Nat},i<=c->c<i+cs0.length->k<Ew (cs0.getD (c - i) .non)->T.tup [.int c,.int k] ∈eh i cs0:=by
 intro cs0
 induction cs0 generalizing i with
 | nil=>intro c k h1 h2;simp at h2;omega
 | cons a r ih=>
  intro c k h1 h2 h3;rw[eh,Ky]
  by_cases e:c=i
  ·subst e
   rw[OF]at h3
   have h3':k<Ew a:=h3;exact .inl (K7.mpr ⟨.int k,CQ h3',rfl⟩)
  ·refine .inr (ih (by omega) (by rw[Kd]at h2;omega) ?_)
   rw[show c - i=(c - (i+1))+1 by omega]at h3
   exact h3
theorem pU {cs:List T}{t:T}(h:aY cs t=true):t∈eh 0 cs:=by
 obtain⟨c,k,rfl⟩:=cX h;unfold aY at h;simp only[J8,decide_eq_true_eq]at h;obtain⟨⟨h1,h2⟩,h3,h4⟩:=h;obtain⟨c,rfl⟩:=KC h1;obtain⟨k,rfl⟩:=KC h3;rw[pG]at h4;exact wz (cs:=cs) (LP _) (by omega) (by rw[OG];omega)
theorem AB {cs:List T}{t:T}(h:t∈eh 0 cs):∃v:N2,t=en v/\True:=by
 obtain⟨c,k,rfl,_⟩:=mH cs 0 h;exact⟨⟨c,k⟩,rfl,trivial⟩
def big (x:N2×N2×Int):Prop:=x.2.2.natAbs<=999
theorem pJ {a b:Int}(ha : -99<=a/\a<=99)(hb:0<=b/\b<=9):(a*b).natAbs<=999:=by
 rw[Int.natAbs_mul]
 have h1:a.natAbs<=99:=by omega
 have h2:b.natAbs<=9:=by omega
 exact KW (Nat.mul_le_mul h1 h2) (by decide)
theorem DX {cs0:List T}:∀{cs:List T} {i:Nat},(∀c∈cs,br c=true)->(∀c k:Nat,i<=c->c<i+cs.length->k<Ew (cs.getD (c - i) .non)->T.tup [.int c,.int k] ∈eh 0 cs0) →
  ∀t∈bC i cs,∃x,t=eB x/\(en x.1∈eh 0 cs0/\en x.2.1∈eh 0 cs0/\big x)
 | [],_,_,_,t,h=>by simp[bC]at h
 | c::cs,i,hc,hm,t,h=>by
  rw[bC,Ky]at h;rcases h with h | h
  ·obtain⟨x,y,r,rfl,hx,hy,hr⟩:=vB (hc c Ke)
   have hm0:∀k,k<r.length->T.tup [.int i,.int k] ∈eh 0 cs0:=λk hk=>hm i k (Kj _) (by simp) (by rw[OF];show k<(r.map T.int).length;rw[Kc];exact hk)
   rw[vU]at h;unfold cB at h;obtain⟨k,hk,hp⟩:=Qu.mp h
   have hk:=LB.mp hk
   have d : -99<=dr r k/\dr r k<=99:=by have:=hr k;have:=hr (k+1);unfold dr;omega
   unfold pr at hp;simp only[Kf,Li,or_false]at hp;rcases hp with rfl | rfl
   ·exact⟨(⟨i,k⟩,⟨i,((k+1:Nat):Int)⟩,dr r k*y),rfl,hm0 k (by omega),hm0 (k+1) (by omega),pJ d hy⟩
   ·exact⟨(⟨i,((k+1:Nat):Int)⟩,⟨i,k⟩,-dr r k*x),rfl,hm0 (k+1) (by omega),hm0 k (by omega),pJ (by omega) hx⟩
  ·exact DX (cs:=cs) (i:=i+1) (λc h=>hc c (J6 _ h)) (λc k h1 h2 h3=>hm c k (by omega) (by rw[Kd];omega) (by rw[show c - i=(c - (i+1))+1 by omega];exact h3)) t h
theorem HX {cs:List T}{u:T}(hu:bh cs u=true):∀t∈lB u,∃x,t=eB x/\(en x.1∈eh 0 cs/\en x.2.1∈eh 0 cs/\big x):=by
 intro t ht;obtain⟨a,b,x,y,rfl,hd,ha,hb,_⟩:=c7 hu
 have ma:=pU ha
 have mb:=pU hb;obtain⟨va,rfl,_⟩:=AB ma;obtain⟨vb,rfl,_⟩:=AB mb;unfold c8 at hd;rw[J8]at hd;obtain⟨i,rfl,i1,i2⟩:=cg hd.1
 have e2:lB (.tup [en va,en vb,.int i,y])= .tup [en vb,en va,.int (-i)] ::(if y.isN then []else [.tup [en va,en vb,y]]):=rfl
 rw[e2]at ht;rcases Kf.mp ht with rfl | ht
 ·exact⟨(vb,va,-i),rfl,mb,ma,by unfold big;simp only;omega⟩
 ·cases q:y.isN with
  | true=>rw[q]at ht;simp at ht
  | false=>
   rw[q]at ht
   have ht:t= .tup [en va,en vb,y]:=by simpa using ht
   have hw:aX y i 999=true:=by
    cases y with
    | non=>cases q
    | _=>exact hd.2
   obtain⟨j,rfl,j1,j2⟩:=cg hw;exact⟨(va,vb,j),ht,ma,mb,by unfold big;simp only;omega⟩
structure Rd (cs ls:List T)(L:cR N2)(P:List N2):Prop where
 g:Good cs ls
 b:GG cs ls=L.map eB
 e:eh 0 cs=P.map en
 f:IW L P
 nd:P.Nodup
 pl:P.length<=16
 ll:L.length<=60
 bg:∀x∈L,big x
theorem BV {L:cR N2}(h:∀x∈L,big x):size L<=999*L.length:=by
 unfold size
 induction L with
 | nil=>simp
 | cons x L ih=>
  rw[Ka,LJ,Kd]
  have:=ih λy hy=>h y (J6 _ hy)
  have:=h x Ke;unfold big at this;omega
theorem zH {P:List N2}(h:(P.map en).Nodup):P.Nodup:=by
 induction P with
 | nil=>exact M6
 | cons a r ih=>
  rw[Ka,KJ]at h;exact KJ.mpr ⟨λz=>h.1 (K7.mpr ⟨a,z,rfl⟩),ih h.2⟩
theorem v5 {cs ls:List T}(g:Good cs ls):∃L P,Rd cs ls L P:=by
 obtain⟨hc,c1,c4⟩:=bO g.c;obtain⟨P,eP,_⟩:=nX (f:=en) (p:=λ_=>True) (l:=eh 0 cs) λt ht=>AB ht
 have key:∀t∈GG cs ls,∃x,t=eB x/\(en x.1∈eh 0 cs/\en x.2.1∈eh 0 cs/\big x):=λt ht=>by
  unfold GG at ht;rw[Ky]at ht;rcases ht with h | h
  ·exact DX hc (λc k h1 h2 h3=>wz (cs:=cs) h1 h2 h3) t h
  ·obtain⟨u,hu,h⟩:=Qu.mp h
   exact HX (g.l u hu) t h
 obtain⟨L,eL,hL⟩:=nX key
 have mem:∀v:N2,en v∈eh 0 cs->v∈P:=λv hv=>by
  rw[eP]at hv;obtain⟨u,hu,e⟩:=K7.mp hv;rw[<-Ge e];exact hu
 have hl:=Dl g;rw[eL,Kc]at hl
 have hp:=rR cs 0 hc;rw[eP,Kc]at hp
 have hs:=BV λx hx=>(hL x hx).2.2
 exact⟨L,P,g,eL,eP,⟨by omega,by omega,λx hx=>⟨mem _ (hL x hx).1,mem _ (hL x hx).2.1⟩,by omega⟩,zH (eP▸kX cs 0),by omega,hl,λx hx=>(hL x hx).2.2⟩
theorem Fb {l:List T}:(T.lst l).pl=plS l:=by unfold T.pl;rfl
def run (L:cR N2):N2->List Nat->Option N2
 | a,[] =>some a
 | a,k::r=>match L[k]? with
  | some x=>if x.1=a then run L x.2.1 r else none
  | none=>none
section
variable {cs ls:List T}{L:cR N2}{P:List N2}
theorem Rd.bounds (R:Rd cs ls L P):iD [RR cs ls] = .ok (eL L):=by rw[AM R.g,R.b];rfl
end
section
variable {cs ls:List T}{L:cR N2}{P:List N2}
theorem Rd.events (R:Rd cs ls L P):iC [RR cs ls] = .ok (eS P):=by rw[zy R.g,R.e];rfl
theorem Gq {ns:List N2}{b:cf N2}(D:DR P ns b){v:N2}{x:Int×List Nat}(e:b v=some x):ug (.dct (ns.map en) (dV ns b)) (en v)= .ok (eW x):=by
 unfold ug;simp only[cH];rw[D.get,e];rfl
theorem Rd.J4 (R:Rd cs ls L P):∃hw:Bool,bo [RR cs ls] = .ok (.bl hw)/\(hw=true↔Bi L):=by
 obtain⟨r,hr,ok⟩:=AE R.f R.nd (λv h=>h)
 have wrap:∀{w:T},cZ [RR cs ls,eL L] = .ok w->bo [RR cs ls] = .ok (.bl (!w.isN)):=λ{w} e=>by
  have e2:mI [RR cs ls] = .ok w:=by
   refine cq rfl (dy (bx (ts:=[RR cs ls,eL L]) (aq rfl (aq (bx (ts:=[RR cs ls]) rfl R.bounds) rfl)) e))
  refine cq rfl (dy (aL (t:=w) (u:=.non) (bx (ts:=[RR cs ls]) rfl e2) rfl ?_))
  cases w <;> rfl
 have begin_:∀{x:T} {y:Rs Fl},fE [eL L,eS P] = .ok (.tup [x,.non])\/(∃q,fE [eL L,eS P] = .ok (.tup [x,.lst q]))->((aF (gV (tb (o2 mj (vr 3) (cn .non))) (aK (cn .non)) sN) (aK (cl jG (ae (gu (iS (vr 2)) [none,some 3] (gN 0) bT (o2 aQ (o2 ug (vr 1) (vr 0)) (cn (.int 0)))) aj)))) [.va (RR cs ls),.va (eL L),.va (eS P),.va x] =y) →
   d7 [.va (RR cs ls),.va (eL L),.em,.em] =y:=λ{x y} hs hy=>by
  unfold d7;rw[aG (Z':=[.va (RR cs ls),.va (eL L),.va (eS P),.em]) (da (bx (ts:=[RR cs ls]) rfl R.events) rfl)]
  have:o2 aQ (cl fE (ae (vr 1) (ae (vr 2) aj))) (cn (.int 0)) [.va (RR cs ls),.va (eL L),.va (eS P),.em] = .ok x:=by
   rcases hs with e | ⟨q,e⟩
   ·exact aL (u:=.int 0) (bx (ts:=[eL L,eS P]) rfl e) rfl rfl
   ·exact aL (u:=.int 0) (bx (ts:=[eL L,eS P]) rfl e) rfl rfl
  rw[aG (Z':=[.va (RR cs ls),.va (eL L),.va (eS P),.va x]) (da this rfl)];exact hy
 cases r with
 | inr q=>
  refine⟨false,wrap (w:=.non) (cq rfl (begin_ (x:=.non) (.inr ⟨_,hr⟩) (lq ((kE (dS (aL (t:=.non) (u:=.non) rfl rfl rfl))).trans rfl)))),λz=>(by cases z),λn=>absurd n (Bar.neg ok)⟩
 | inl b=>
  obtain⟨ns,D,hr⟩:=hr
  have ok:Settled L P b:=ok
  have all:∀v∈P,∃d w,b v=some (d,w):=λv hv=>by
   obtain⟨d,w,e,_⟩:=ok.least v hv v 0 (.nil v);exact⟨d,w,e⟩
  let tm:N2->Int:=λv=>match b v with | some x=>x.1 | none=>0
  have htm:∀v∈P,∃w,b v=some (tm v,w):=λv hv=>by
   obtain⟨d,w,e⟩:=all v hv;refine⟨w,?_⟩
   show b v=some ((match b v with | some x=>x.1 | none=>0),w)
   rw[e]
  have lc:gu (iS (vr 2)) [none,some 3] (gN 0) bT (o2 aQ (o2 ug (vr 1) (vr 0)) (cn (.int 0))) [.va (RR cs ls),.va (eL L),.va (eS P),.va (.dct (ns.map en) (dV ns b))] = .ok (.lst ((P.map en).map λt=>match t with | .tup [.int c,.int k] => .int (tm ⟨c,k⟩) | _=> .non)):=
   vi (ts:=P.map en) (Ag rfl) (aB (k:=16) (by rw[Kc];exact R.pl)) (by simp) λt ht=>by
    obtain⟨v,hv,rfl⟩:=K7.mp ht;obtain⟨w,e⟩:=htm v hv;exact aL (t:=eW (tm v,w)) (u:=.int 0) (aL (t:=.dct (ns.map en) (dV ns b)) (u:=en v) rfl rfl (Gq D e)) rfl rfl
  refine⟨true,wrap (w:=.tup ((P.map en).map λt=>match t with | .tup [.int c,.int k] => .int (tm ⟨c,k⟩) | _=> .non)) (cq rfl (begin_ (.inl hr) ?_)),λ_=>(ok.holds R.f.ends htm).JV,λ_=>rfl⟩
  rw[aG (Z':=[.va (RR cs ls),.va (eL L),.va (eS P),.va (.dct (ns.map en) (dV ns b))]) ((iI (dS (aL (t:=.dct (ns.map en) (dV ns b)) (u:=.non) rfl rfl rfl))).trans rfl)];exact dy (bx (aq lc rfl) rfl)
end
theorem tJ {n:Int}{t:T}(ht:t.pl=true)(h:aX t 0 (n - 1)=true):cK [.int n,t] = .ok .non:=by
 refine z9 (Z:=[.va (.int n),.va t]) rfl ?_
 show f9 [.va (.int n),.va t] =_
 unfold f9;exact(iI (wN (k:=true) (dS (bx (ts:=[t,.int 0,.int (n - 1)]) rfl (by rw[eI _ _ _ ht,h]))))).trans rfl
theorem AH {t:T}(hp:t.pl=true)(h:dz t=true):cw [t] = .ok t:=by
 refine cq rfl ?_
 show eJ [.va t] =_
 unfold eJ;rw[aG (tT (t:=.non) (bx (ts:=[t]) rfl (fD hp h)))];exact dy rfl
theorem AI {t:T}(hp:t.pl=true)(h:dz t=false):cw [t] = .err "NoRecord":=by
 refine vg rfl ?_
 show eJ [.va t] =_
 unfold eJ;exact FV (Io (bx (ts:=[t]) rfl (x8 hp h)))
def m9 (t:T):Rs T:=if dz t then .ok t else .err "NoRecord"
theorem xf {t:T}(hp:t.pl=true):cw [t] =m9 t:=by
 unfold m9
 cases h:dz t with
 | true=>exact AH hp h
 | false=>exact AI hp h
theorem qG {f:En->Rs T}{Z:En}{t:T}(h:f Z=m9 t):aK f Z=(if dz t then .ok (.rt t)else .err "NoRecord"):=by
 unfold m9 at h
 cases q:dz t with
 | true=>rw[q]at h;exact dy h
 | false=>rw[q]at h;exact FW h
theorem qm {n m:Nat}{F:En->Rs Fl}{ts:List T}{t:T}(hl:ts.length=n)(h:F (aI m ts)=(if dz t then .ok (.rt t)else .err "NoRecord")):val n m F ts=m9 t:=by
 unfold m9
 cases q:dz t with
 | true=>rw[q]at h;exact cq hl h
 | false=>rw[q]at h;exact vg hl h
theorem kn {a b:T}(ha:a.pl=true)(hb:b.pl=true):(T.tup [a,b]).pl=true:=by simp[T.pl,plS,ha,hb]
theorem qM {l m:List T}(h1:(T.tup l).pl=true)(h2:(T.tup m).pl=true):(T.tup (l++m)).pl=true:=by
 rw[iu]at*;exact gy λt ht=>(Ky.mp ht).elim (e9 h1) (e9 h2)
theorem Good.pls {cs ls:List T}(g:Good cs ls):(T.tup ls).pl=true:=by rw[iu];exact gy g.parts.2
theorem qP {cs ls:List T}{t:T}(hc:(T.tup cs).pl=true)(hl:(T.tup ls).pl=true)(hn:ls.length<=20)(ht:t.pl=true)(ok:dz (RR cs ls)=true):cj [RR cs ls,t] =m9 (.tup [.tup cs,.tup (ls++ [t])]):=by
 refine qm rfl ?_
 show fZ [.va (RR cs ls),.va t] =_
 unfold fZ;rw[aG (tT (t:=.non) (bx (ts:=[RR cs ls]) rfl (fD (kn hc hl) ok)))];refine qG (bx (ts:=[.tup [.tup cs,.tup (ls++ [t])]]) (aq (bX (aq (t:=.tup cs) rfl (aq (t:=.tup (ls++ [t])) (aL (t:=.tup ls) (u:=.tup [t]) rfl (bX rfl (aB (k:=1) (by simp))) (jh _ _ (by simp;omega))) rfl)) (aB (k:=2) (by simp))) rfl) (xf (kn hc (qM hl (by simp[T.pl,plS,ht])))))
theorem AW {l:List T}{n:Nat}{f:En->Rs T}{g:En->Rs T}{Z:En}(h:f Z= .ok (.tup l))(hg:g Z= .ok (.int n)):sl f pN (pS g) Z= .ok (.tup (l.take n)):=by
 rw[<-AX];exact Ib h rfl (FY hg)
theorem Gu {l:List T}{n:Nat}{f:En->Rs T}{g:En->Rs T}{Z:En}(h:f Z= .ok (.tup l))(hg:g Z= .ok (.int n)):sl f (pS g) pN Z= .ok (.tup (l.drop n)):=by
 rw[<-ui];exact Ib h (FY hg) rfl
theorem xk {l:List T}{n:Nat}{f:En->Rs T}{g:En->Rs T}{Z:En}(h:f Z= .ok (.tup l))(hg:g Z= .ok (.int n)):sl f (pS (o2 aM g (cn (.int 1)))) pN Z= .ok (.tup (l.drop (n+1))):=
 Gu h (aL (t:=.int n) (u:=.int 1) hg rfl rfl)
def uU (l:List T)(n:Nat):List T:=l.take n++l.drop (n+1)
theorem qR (l:List T)(n:Nat):(uU l n).length<=l.length:=by unfold uU;rw[Kh,Lh,Mp];omega
theorem xV {cs ls:List T}{n:Nat}(g:Good cs ls)(hn:n<ls.length):bR [RR cs ls,.int n] = .ok (.tup [.tup cs,.tup (uU ls n)]):=by
 have hl:=g.n;refine cq rfl ?_
 show d6 [.va (RR cs ls),.va (.int n),.em] =_
 unfold d6;rw[aG (tT (t:=.non) (bx (ts:=[RR cs ls]) rfl (fD g.p g.ok)))];rw[aG (Z':=[.va (RR cs ls),.va (.int n),.va (.tup ls)]) ((da (t:=.tup ls) rfl rfl))]
 have w:aX (.int n) 0 ((ls.length:Int) - 1)=true:=by unfold aX;simp;omega
 rw[aG (tT (t:=.non) (bx (ts:=[.int (ls.length:Int),.int n]) rfl (tJ rfl w)))];exact dy (bX (aq (t:=.tup cs) rfl (aq (t:=.tup (uU ls n)) (aL (t:=.tup (ls.take n)) (u:=.tup (ls.drop (n+1))) (AW rfl rfl) (xk rfl rfl) (jh _ _ (by have:=qR ls n;unfold uU at this;omega))) rfl)) (aB (k:=2) (by simp)))
def nc (l:List T)(n:Nat)(c:T):List T:=(l.take n++ [c])++l.drop (n+1)
theorem Co (l:List T)(n:Nat)(c:T):(nc l n c).length<=l.length+1:=by unfold nc;rw[Kh,Kh,Lh,Mp];simp;omega
theorem zi {l:List T}{n:Nat}{c:T}(h:(T.tup l).pl=true)(hc:c.pl=true):(T.tup (nc l n c)).pl=true:=by
 rw[iu]at*;refine gy λt ht=> ?_
 unfold nc at ht;rcases Ky.mp ht with ht | ht
 ·rcases Ky.mp ht with ht | ht
  ·exact e9 h (O5 ht)
  ·cases Km.mp ht;exact hc
 ·exact e9 h (O6 ht)
theorem FX {l:List T}{n:Nat}{c:T}{f g h:En->Rs T}{Z:En}(hl:l.length<=100)(hf:f Z= .ok (.tup l))(hg:g Z= .ok (.int n))(hc:h Z= .ok c) :
  o2 aM (o2 aM (sl f pN (pS g)) (ba (ae h aj))) (sl f (pS (o2 aM g (cn (.int 1)))) pN) Z= .ok (.tup (nc l n c)):=by
 have:=Co l n c;refine aL (t:=.tup (l.take n++ [c])) (u:=.tup (l.drop (n+1))) (aL (t:=.tup (l.take n)) (u:=.tup [c]) (AW hf hg) (bX (aq hc rfl) (aB (k:=1) (by simp))) (jh _ _ (by simp;omega))) (xk hf hg) (jh _ _ (by unfold nc at this;omega))
theorem sW {cs ls:List T}{n:Nat}{c:T}(g:Good cs ls)(hc:c.pl=true):ff [RR cs ls,.int n,c] =m9 (.tup [.tup (nc cs n c),.tup ls]):=by
 obtain⟨_,_,h4⟩:=bO g.c;refine qm rfl ?_
 show gG [.va (RR cs ls),.va (.int n),.va c,.em] =_
 unfold gG;rw[aG (Z':=[.va (RR cs ls),.va (.int n),.va c,.va (.tup cs)]) (da (t:=.tup cs) rfl rfl)];exact qG (bx (ts:=[.tup [.tup (nc cs n c),.tup ls]]) (aq (bX (aq (t:=.tup (nc cs n c)) (FX (by omega) rfl rfl rfl) (aq (t:=.tup ls) rfl rfl)) (aB (k:=2) (by simp))) rfl) (xf (kn (zi g.parts.1 hc) g.pls)))
theorem w_in {n m:Nat}(h:n<m):aX (.int n) 0 ((m:Int) - 1)=true:=by unfold aX;simp;omega
theorem AZ {cs ls:List T}{n:Nat}(g:Good cs ls)(hn:n<cs.length):∃(x y:Int) (r:List Int),cs[n]? =some (.tup [.int x,.int y,.tup (r.map .int)])/\1<=r.length/\r.length<=4:=by
 obtain⟨hc,_,h4⟩:=bO g.c;obtain⟨x,y,r,e,_,_,h1,h2⟩:=dZ (hc _ (LH hn));exact⟨x,y,r,by rw[Kq hn,e],h1,h2⟩
theorem oS {cs ls:List T}{n:Nat}{x y u:T}{r:List T}(g:Good cs ls)(hn:n<cs.length)(e:cs[n]? =some (.tup [x,y,.tup r]))(hr:r.length<=4)(hx:x.pl=true)(hy:y.pl=true)(hp:(T.tup r).pl=true)(hu:u.pl=true) :
  bU [RR cs ls,.int n,u] =m9 (.tup [.tup (nc cs n (.tup [x,y,.tup (r++ [u])])),.tup ls]):=by
 refine qm rfl ?_
 show fJ [.va (RR cs ls),.va (.int n),.va u,.em] =_
 unfold fJ;rw[aG (tT (t:=.non) (bx (ts:=[RR cs ls]) rfl (fD g.p g.ok)))];rw[aG (tT (t:=.non) (bx (ts:=[.int (cs.length:Int),.int n]) rfl (tJ rfl (w_in hn))))];rw[aG (Z':=[.va (RR cs ls),.va (.int n),.va u,.va (.tup [x,y,.tup r])]) (da (t:=.tup [x,y,.tup r]) (kD (n:=n) (l:=cs) rfl rfl e) rfl)];refine qG (bx (ts:=[RR cs ls,.int n,.tup [x,y,.tup (r++ [u])]]) (aq rfl (aq rfl (aq (bX (aq (t:=x) rfl (aq (t:=y) rfl (aq (t:=.tup (r++ [u])) (aL (t:=.tup r) (u:=.tup [u]) rfl (bX rfl (aB (k:=1) (by simp))) (jh _ _ (by simp;omega))) rfl))) (aB (k:=3) (by simp))) rfl))) (sW g ?_))
 have:=qM hp (m:=[u]) (by simp[T.pl,plS,hu])
 simp[T.pl,plS,hx,hy]at this ⊢;exact this
theorem kH {n:Nat}{l:List T}(h:∀t∈l,t.dep<=n):(T.tup l).dep<=n+1:=by unfold T.dep;have:=rS h;omega
theorem yy {c:T}(h:br c=true):c.dep<=2:=by
 obtain⟨x,y,r,rfl,_⟩:=dZ h;refine kH λt ht=> ?_
 simp only[Kf,Li,or_false]at ht;rcases ht with rfl | rfl | rfl
 ·simp[T.dep]
 ·simp[T.dep]
 ·exact kH (n:=0) λt ht=>by obtain⟨i,_,rfl⟩:=K7.mp ht;simp[T.dep]
theorem vd {cs:List T}{t:T}(h:bh cs t=true):t.dep<=2:=by
 obtain⟨a,b,x,y,rfl,hd,ha,hb,_⟩:=c7 h;obtain⟨m1,m2⟩:=HL h
 have:=(DT ha).2
 have:=(DT hb).2
 have hx:x.dep<=2:=by
  unfold c8 at hd;rw[J8]at hd;obtain⟨i,rfl,_⟩:=cg hd.1;simp[T.dep]
 unfold T.dep deps deps deps deps deps;obtain⟨a',b',mo,le,e,_⟩:=lO h;cases e;simp only[T.dep];omega
theorem v3 {cs ls:List T}(g:Good cs ls):(T.tup cs).dep<=3/\(T.tup ls).dep<=3:=⟨kH λt ht=>yy ((bO g.c).1 t ht),kH λt ht=>vd (g.l t ht)⟩
theorem BZ {cs ls:List T}(h:dz (RR cs ls)=true)(hp:(RR cs ls).pl=true):Good cs ls:=by
 have h':(aZ (.tup cs)&&(dq (.tup ls) 0 8&&ls.all (bh cs)))=true:=h;rw[J8,J8,KF]at h';exact⟨h'.1,h'.2.2,by have:=h'.2.1;simp[dq]at this;exact this,hp⟩
end G
set_option maxHeartbeats 1000000
namespace G
open PySem Tr
theorem rC {D:Bool}:∀{l:List T},(∀t∈l,t.nk D=true)->nks D l=true
 | [],_=>rfl
 | t::l,h=>by unfold nks;rw[h t (.head _),rC λu hu=>h u (.tail _ hu)];rfl
theorem la {D:Bool}{l:List T}(h:∀t∈l,t.nk D=true):(T.tup l).nk D=true:=by unfold T.nk;exact rC h
theorem AY {c:T}(h:br c=true):c.nk false=true:=by
 obtain⟨x,y,r,rfl,_⟩:=dZ h;refine la λt ht=> ?_
 simp at ht
 rcases ht with rfl | rfl | rfl
 ·rfl
 ·rfl
 ·exact la λu hu=>by obtain⟨k,_,rfl⟩:=K7.mp hu;rfl
theorem t9 {cs:List T}{t:T}(h:aY cs t=true):t.nk false=true:=by
 obtain⟨c,k,rfl⟩:=cX h;rfl
theorem yf {cs:List T}{t:T}(h:bh cs t=true):t.nk false=true:=by
 obtain⟨a,b,x,y,rfl,hd,ha,hb,_⟩:=c7 h;unfold c8 at hd;rw[J8]at hd;obtain⟨i,rfl,_⟩:=cg hd.1;refine la λt ht=> ?_
 simp at ht
 rcases ht with rfl | rfl | rfl | rfl
 ·exact t9 ha
 ·exact t9 hb
 ·rfl
 ·have:=hd.2
  cases t <;> first | rfl | simp[aX]at this
def GR (r:T):Prop:=∃cs ls,r=RR cs ls/\Good cs ls
theorem GR.pl {r:T}(h:GR r):r.pl=true:=by obtain⟨cs,ls,rfl,g⟩:=h;exact g.p
theorem GR.nk {r:T}(h:GR r):r.nk false=true:=by
 obtain⟨cs,ls,rfl,g⟩:=h;refine la λt ht=> ?_
 simp at ht
 rcases ht with rfl | rfl
 ·exact la λc hc=>AY ((bO g.c).1 c hc)
 ·exact la λu hu=>yf (g.l u hu)
theorem GR.dep {r:T}(h:GR r):r.dep<=4:=by
 obtain⟨cs,ls,rfl,g⟩:=h;refine kH λt ht=> ?_
 simp at ht
 rcases ht with rfl | rfl
 ·exact(v3 g).1
 ·exact(v3 g).2
theorem GR.hw {r:T}(h:GR r):∃b,bo [r] = .ok (.bl b):=by
 obtain⟨cs,ls,rfl,g⟩:=h;obtain⟨L,P,R⟩:=v5 g;obtain⟨b,e,_⟩:=R.J4;exact⟨b,e⟩
theorem GR.need {r:T}(h:GR r):aJ [r] = .ok .non:=by
 obtain⟨cs,ls,rfl,g⟩:=h;exact fD g.p g.ok
theorem GR.of {cs ls:List T}(hp:(RR cs ls).pl=true)(h:dz (RR cs ls)=true):GR (RR cs ls):=⟨cs,ls,rfl,BZ h hp⟩
abbrev sp (w r:T):T:=.tup [w,r]
abbrev SK (P A:List T):OT:=.ob "Sketch" ["past","ahead"] [P,A]
abbrev SV (P A:List T):T:=.ob "Sketch" ["past","ahead"] [.lst P,.lst A]
theorem Am (l:List T)(z:T):aQ (.lst (l++ [z])) (.int (-1))= .ok z:=by
 have:=rN l z;exact this
theorem iM {α:Type}(P A:α):iO "past" ["past","ahead"] [P,A] =some P:=by unfold iO;rw[if_pos rfl]
theorem kF {α:Type}(P A:α):iO "ahead" ["past","ahead"] [P,A] =some A:=by unfold iO;rw[if_neg (by decide)];unfold iO;rw[if_pos rfl]
theorem qQ (P A Q:List T):fY "past" Q ["past","ahead"] [P,A] = [Q,A]:=by unfold fY;rw[if_pos rfl]
theorem mE (P A Q:List T):fY "ahead" Q ["past","ahead"] [P,A] = [P,Q]:=by unfold fY;rw[if_neg (by decide)];unfold fY;rw[if_pos rfl]
theorem xc (P A:List T)(w r:T):aA [SV (P++ [sp w r]) A] = .ok r:=
 cq rfl (dy (aL (aL (lS (ns:=["past","ahead"]) (ts:=[.lst (P++ [sp w r]),.lst A]) rfl (iM _ _)) (Ih rfl rfl) (Am P (sp w r))) rfl (DM (n:=1) rfl)))
theorem uc (P A:List T):aV [SV P A] = .ok (.tup [.int ((P.length:Int) - 1),.int (A.length:Nat)]):=by
 refine cq rfl (dy (bX (ts:=[.int ((P.length:Int) - 1),.int (A.length:Nat)]) (aq (aL (t:=.int (P.length:Nat)) (u:=.int 1) (bx (ts:=[.lst P]) (aq (lS (ns:=["past","ahead"]) (ts:=[.lst P,.lst A]) rfl (iM _ _)) rfl) rfl) rfl rfl) (aq (bx (ts:=[.lst A]) (aq (lS (ns:=["past","ahead"]) (ts:=[.lst P,.lst A]) rfl (kF _ _)) rfl) rfl) rfl)) (aB (k:=2) (by simp))))
theorem AG {r:T}(h:GR r):bM [.ow (.ob "Sketch" [] []),.va r] = .ok (.non,SK [sp .non r] []):=by
 refine wL (Z:=[.ow (SK [sp .non r] []),.va r]) rfl ?_ rfl
 show dQ [.ow (.ob "Sketch" [] []),.va r] =_
 unfold dQ;refine dt (Z':=[.ow (.ob "Sketch" [] []),.va r]) (lQ (t:=.non) (rK (bx (ts:=[r]) rfl h.need))) ?_
 refine dt (Z':=[.ow (.ob "Sketch" ["past"] [[sp .non r]]),.va r]) ((vh (c:="Sketch") (ns:=[]) (ls:=[]) (l:=[sp .non r]) rfl (aq (bX rfl (aB (k:=2) (by simp))) rfl) (by simp) (by simp)).trans rfl) ?_
 refine(vh (c:="Sketch") (ns:=["past"]) (ls:=[[sp .non r]]) (l:=[]) rfl rfl (by simp) (by simp)).trans ?_
 rw[if_neg (by decide)];rfl
theorem e_go {P A:List T}{w:Str}{r:T}{b:Bool}(hb:bo [r] = .ok (.bl b))(hl:P.length<=1000):bf [.ow (SK P A),.va (.str w),.va r] = .ok (.bl b,SK (P++ [sp (.str w) r]) []):=by
 refine iH (Z:=[.ow (SK (P++ [sp (.str w) r]) []),.va (.str w),.va r]) rfl ?_ rfl
 show fK [.ow (SK P A),.va (.str w),.va r] =_
 unfold fK;refine dt (Z':=[.ow (SK (P++ [sp (.str w) r]) A),.va (.str w),.va r]) (lQ (t:=.non) ((vf (ns:=["past","ahead"]) (ls:=[P,A]) (l:=P) (t:=sp (.str w) r) rfl (iM _ _) (bX rfl (aB (k:=2) (by simp))) hl).trans (by rw[qQ];rfl))) ?_
 refine dt (Z':=[.ow (SK (P++ [sp (.str w) r]) []),.va (.str w),.va r]) ((vh (c:="Sketch") (ns:=["past","ahead"]) (ls:=[P++ [sp (.str w) r],A]) (l:=[]) rfl rfl (by simp) (by simp)).trans (by rw[if_pos (by decide),mE];rfl)) ?_
 exact oh (rK (bx (ts:=[r]) rfl hb))
section
variable {P A:List T}{w r r' t u:T}{X:En->Rs T}{Z:En}{v:Str}
theorem pO {i:Nat}(hi:Z[i]? =some (.ow (SK (P++ [sp w r]) A)))(h:GR r):ln i (mh "Sketch" "record" aA (vr i) aj) Z= .ok r:=by
 have hl:i<Z.length:=(Ki.mp hi).1
 refine tS hi (og (c:="Sketch") (ns:=["past","ahead"]) (ts:=[.lst (P++ [sp w r]),.lst A]) (FT ?_) (by decide) rfl (xc P A w r)) h.nk
 unfold disown;rw[hi];simp[hl];rfl
theorem wU {i:Nat}(hi:Z[i]? =some (.ow (SK P A))):ln i (mh "Sketch" "counts" aV (vr i) aj) Z= .ok (.tup [.int ((P.length:Int) - 1),.int (A.length:Nat)]):=by
 have hl:i<Z.length:=(Ki.mp hi).1
 refine tS hi (og (c:="Sketch") (ns:=["past","ahead"]) (ts:=[.lst P,.lst A]) (FT ?_) (by decide) rfl (uc P A)) rfl
 unfold disown;rw[hi];simp[hl];rfl
theorem F3 (hi:Z[0]? =some (.ow (SK P A)))(hx:X Z= .ok r')(h:GR r')(hl:P.length<=1000):∃b,jl (bP 0 "Sketch" "go_on" bf (ae (cn (.str v)) (ae X aj))) Z= .ok (.rt (.bl b) (Z.set 0 (.ow (SK (P++ [sp (.str v) r']) [])))):=by
 obtain⟨b,hb⟩:=h.hw;exact⟨b,oh (gD (ns:=["past","ahead"]) (ls:=[P,A]) (ts:=[.str v,r']) hi (by decide) (aq rfl (aq hx rfl)) (e_go hb hl))⟩
theorem DO {d:Str}(hi:Z[0]? =some (.ow (SK P A)))(hx:X Z= .err d):jl (bP 0 "Sketch" "go_on" bf (ae (cn (.str v)) (ae X aj))) Z= .err d:=by
 refine CW (z5 (ns:=["past","ahead"]) (ls:=[P,A]) hi (by decide) ?_)
 unfold ae;rw[show cn (.str v) Z= .ok (.str v)from rfl,az,hx];rfl
theorem C8 (h:GR r)(hl:(P++ [sp w r]).length<=1000)(hx:cj [r,t] = .ok r')(h':GR r'):∃b,cp [.ow (SK (P++ [sp w r]) A),.va t] = .ok (.bl b,SK (P++ [sp w r] ++ [sp (.str "write") r']) []):=by
 obtain⟨b,hb⟩:=F3 (v:="write") (P:=P++ [sp w r]) (A:=A) (Z:=[.ow (SK (P++ [sp w r]) A),.va t]) (X:=cl cj (ae (ln 0 (mh "Sketch" "record" aA (vr 0) aj)) (ae (vr 1) aj))) rfl (bx (aq (pO rfl h) rfl) hx) h' hl;exact⟨b,iH rfl hb rfl⟩
theorem AD {d:Str}(h:GR r)(hx:cj [r,t] = .err d):cp [.ow (SK (P++ [sp w r]) A),.va t] = .err d:=
 wM rfl (DO (P:=P++ [sp w r]) (A:=A) (Z:=[.ow (SK (P++ [sp w r]) A),.va t]) rfl (bx (aq (pO rfl h) rfl) hx))
theorem IL (h:GR r)(hl:(P++ [sp w r]).length<=1000)(hx:bR [r,t] = .ok r')(h':GR r'):∃b,dJ [.ow (SK (P++ [sp w r]) A),.va t] = .ok (.bl b,SK (P++ [sp w r] ++ [sp (.str "cut") r']) []):=by
 obtain⟨b,hb⟩:=F3 (v:="cut") (P:=P++ [sp w r]) (A:=A) (Z:=[.ow (SK (P++ [sp w r]) A),.va t]) (X:=cl bR (ae (ln 0 (mh "Sketch" "record" aA (vr 0) aj)) (ae (vr 1) aj))) rfl (bx (aq (pO rfl h) rfl) hx) h' hl;exact⟨b,iH rfl hb rfl⟩
theorem Gg (h:GR r)(hl:(P++ [sp w r]).length<=1000)(hx:bU [r,t,u] = .ok r')(h':GR r'):∃b,cN [.ow (SK (P++ [sp w r]) A),.va t,.va u] = .ok (.bl b,SK (P++ [sp w r] ++ [sp (.str "read") r']) []):=by
 obtain⟨b,hb⟩:=F3 (v:="read") (P:=P++ [sp w r]) (A:=A) (Z:=[.ow (SK (P++ [sp w r]) A),.va t,.va u]) (X:=cl bU (ae (ln 0 (mh "Sketch" "record" aA (vr 0) aj)) (ae (vr 1) (ae (vr 2) aj)))) rfl (bx (aq (pO rfl h) rfl) hx) h' hl;exact⟨b,iH rfl hb rfl⟩
theorem Dd {d:Str}(h:GR r)(hx:bU [r,t,u] = .err d):cN [.ow (SK (P++ [sp w r]) A),.va t,.va u] = .err d:=
 wM rfl (DO (P:=P++ [sp w r]) (A:=A) (Z:=[.ow (SK (P++ [sp w r]) A),.va t,.va u]) rfl (bx (aq (pO rfl h) rfl) hx))
theorem Gm (hp:P≠ [])(hl:P.length<=1000)(ha:A.length<=1000):aP [.ow (SK (P++ [sp w r]) A)] = .ok (w,SK P (A++ [sp w r])):=by
 refine iH (Z:=[.ow (SK P (A++ [sp w r])),.va (sp w r)]) rfl ?_ rfl
 show gg [.ow (SK (P++ [sp w r]) A),.em] =_
 unfold gg
 have hn:((P++ [sp w r]).length:Int)≠1:=by
  rw[Kh]
  have:P.length≠0:=λz=>hp (Oc.mp z)
  simp;omega
 have c0:tb (o2 lx (ln 0 (cl cG (ae (o1 (jm "Sketch" "past") (vr 0)) aj))) (cn (.int 1))) [.ow (SK (P++ [sp w r]) A),.em] = .ok false:=by
  refine dS (aL (t:=.int ((P++ [sp w r]).length:Nat)) (u:=.int 1) (tS (o:=SK (P++ [sp w r]) A) rfl (bx (ts:=[.lst (P++ [sp w r])]) (aq (lS (ns:=["past","ahead"]) (ts:=[.lst (P++ [sp w r]),.lst A]) rfl (iM _ _)) rfl) rfl) rfl) rfl ?_)
  rw[oo,beq_eq_false_iff_ne.mpr hn]
 refine dt (Z':=[.ow (SK (P++ [sp w r]) A),.em]) ((eU c0).trans rfl) ?_
 refine dt (Z':=[.ow (SK P A),.va (sp w r)]) (pP (Z':=[.ow (SK P A),.em]) ((z4 (ns:=["past","ahead"]) (ls:=[P++ [sp w r],A]) (l:=P) (t:=sp w r) rfl (iM _ _)).trans (by rw[qQ];rfl)) (by simp)) ?_
 refine dt (Z':=[.ow (SK P (A++ [sp w r])),.va (sp w r)]) (lQ (t:=.non) ((vf (ns:=["past","ahead"]) (ls:=[P,A]) (l:=A) (t:=sp w r) rfl (kF _ _) rfl ha).trans (by rw[mE];rfl))) ?_
 exact oh (rK (kD (n:=0) (l:=[w,r]) rfl rfl rfl))
theorem De (hl:P.length<=1000)(hd:∀s∈A++ [sp w r],s.pl=true):bW [.ow (SK P (A++ [sp w r]))] = .ok (w,SK (P++ [sp w r]) A):=by
 refine iH (Z:=[.ow (SK (P++ [sp w r]) A),.va (sp w r)]) rfl ?_ rfl
 show fL [.ow (SK P (A++ [sp w r])),.em] =_
 unfold fL
 have c0:ye 0 (tb (o2 lx (o1 (jm "Sketch" "ahead") (vr 0)) (fj aj))) [.ow (SK P (A++ [sp w r])),.em] = .ok false:=by
  refine wR (dS (aL (t:=.lst (A++ [sp w r])) (u:=.lst []) (lS (ns:=["past","ahead"]) (ts:=[.lst P,.lst (A++ [sp w r])]) rfl (kF _ _)) (lR rfl (by unfold sizeLine;simp)) ?_))
  unfold lx;rw[if_pos (tW (by simp[T.dep,deps]) (T.Js _ (by unfold T.pl;exact gy hd)) rfl)]
  cases A <;> rfl
 refine dt (Z':=[.ow (SK P (A++ [sp w r])),.em]) ((eU c0).trans rfl) ?_
 refine dt (Z':=[.ow (SK P A),.va (sp w r)]) (pP (Z':=[.ow (SK P A),.em]) ((z4 (ns:=["past","ahead"]) (ls:=[P,A++ [sp w r]]) (l:=A) (t:=sp w r) rfl (kF _ _)).trans (by rw[mE];rfl)) (by simp)) ?_
 refine dt (Z':=[.ow (SK (P++ [sp w r]) A),.va (sp w r)]) (lQ (t:=.non) ((vf (ns:=["past","ahead"]) (ls:=[P,A]) (l:=P) (t:=sp w r) rfl (iM _ _) rfl hl).trans (by rw[qQ];rfl))) ?_
 exact oh (rK (kD (n:=0) (l:=[w,r]) rfl rfl rfl))
end
end G
set_option maxHeartbeats 1000000
namespace G
open PySem Tr
abbrev stB:En->Rs Fx:=(yb (r8 (tb (o2 lx (vr 4) (cn (.int 0)))) (tb (o2 kM (o2 aQ (vr 3) (cn (.int 1))) (ba aj)))) (rG (bP 2 "Sketch" "cut" dJ (ae (cl ax (ae (vr 0) (ae (o2 aM (vr 1) (cn (.int 8))) (ae (cl cG (ae (o2 aQ (vr 3) (cn (.int 1))) aj)) aj)))) aj))) (yb (tb (o2 lx (vr 4) (cn (.int 1)))) (rG (bP 2 "Sketch" "read" cN (ae (vr 6) (ae (o2 aM (o2 aM (o2 aQ (o2 aQ (o2 aQ (o2 aQ (vr 3) (cn (.int 0))) (vr 6)) (cn (.int 2))) (o1 mf (cn (.int 1)))) (cn (.int 1))) (cl ax (ae (vr 0) (ae (o2 aM (vr 1) (cn (.int 8))) (ae (cn (.int 5)) aj))))) aj)))) (yb (tb (o2 iy (vr 5) (cn .non))) (rG (bP 2 "Sketch" "write" cp (ae (vr 5) aj))) mN)))
def Word (v:Str):Prop:=v= "write"\/v= "read"\/v= "cut"
def Dr (P A:List T)(o:OT):Prop:=o=SK P A\/∃v r',Word v/\GR r'/\o=SK (P++ [sp (.str v) r']) []
theorem u6 {l:List T}(h:(T.tup l).pl=true):kM (.tup l) (.tup [])= .ok (.bl (!l.isEmpty)):=by
 unfold kM;rw[if_pos (tW (by simp[T.dep,deps]) (T.Js _ h) rfl)]
 cases l <;> rfl
theorem wm {l:List T}{n:Nat}{t:T}(h:t∈uU l n):t∈l:=by
 unfold uU at h;rcases Ky.mp h with h | h
 ·exact O5 h
 ·exact O6 h
theorem Gf (ns:List Int)(hn:ns.length<=63)(a:Nat){P A:List T}{w r:T}(h:GR r)(hl:(P++ [sp w r]).length<=1000) :
  ∃o,bK [.va (.scr ns),.va (.int a),.ow (SK (P++ [sp w r]) A)] = .ok (.non,o)/\Dr (P++ [sp w r]) A o:=by
 have hG:=h;obtain⟨cs,ls,rfl,g⟩:=h
 have hcl:=bO g.c;obtain⟨d1,e1,p1,q1⟩:=bZ ns a 4 hn (by omega)
 obtain⟨t5,e5,h5⟩:=pX ns hn (a+1) cs g.c;obtain⟨d2,e2,p2,q2⟩:=bZ ns (a+7) (cs.length:Int) hn (by omega)
 obtain⟨d1,rfl⟩:=KC p1;obtain⟨d2,rfl⟩:=KC p2
 let o0:OT:=SK (P++ [sp w (RR cs ls)]) A
 let E:OT->En:=λo=> [.va (.scr ns),.va (.int a),.ow o,.va (RR cs ls),.va (.int d1),.va t5,.va (.int d2)]
 have key:∀k,nV stB (rQ "NoRecord" .non) (E o0)= .ok k->iY [.va (.scr ns),.va (.int a),.ow o0,.em,.em,.em,.em] = .ok k:=λk hk=>by
  unfold iY;refine dt (pP (t:=RR cs ls) (rK (pO rfl hG)) (by simp)) ?_
  refine dt (pP (t:=.int d1) (rK (bx (ts:=[.scr ns,.int (a:Nat),.int 4]) rfl e1)) (by simp)) ?_
  refine dt (pP (t:=t5) (rK (bx (ts:=[.scr ns,.int ((a+1:Nat):Int),.tup cs]) rfl e5)) (by simp)) ?_
  refine dt (pP (t:=.int d2) (rK (bx (ts:=[.scr ns,.int ((a+7:Nat):Int),.int (cs.length:Nat)]) rfl e2)) (by simp)) ?_
  exact hk
 have done:∀o,nV stB (rQ "NoRecord" .non) (E o0)= .ok (.nx (E o))->bK [.va (.scr ns),.va (.int a),.ow o0] = .ok (.non,o):=λo hk=>wL (Z:=E o) rfl (key _ hk) rfl
 have gone:nV stB (rQ "NoRecord" .non) (E o0)= .ok (.rt .non (E o0))->bK [.va (.scr ns),.va (.int a),.ow o0] = .ok (.non,o0):=λhk=>iH (Z:=E o0) rfl (key _ hk) rfl
 have c1:tb (o2 lx (vr 4) (cn (.int 0))) (E o0)= .ok ((d1:Int) == 0):=dS (aL rfl rfl (oo _ _))
 have c2:tb (o2 kM (o2 aQ (vr 3) (cn (.int 1))) (ba aj)) (E o0)= .ok (!ls.isEmpty):=dS (aL (t:=.tup ls) (u:=.tup []) (kD (n:=1) (l:=[.tup cs,.tup ls]) rfl rfl rfl) (bX rfl (aB (k:=1) (by simp))) (u6 g.pls))
 by_cases hc:d1=0/\ls≠ []
 ·obtain⟨hd,hls⟩:=hc
  have hlen:0<ls.length:=List.length_pos_iff.mpr hls;obtain⟨d3,e3,p3,q3⟩:=bZ ns (a+8) (ls.length:Int) hn (by omega)
  obtain⟨d3,rfl⟩:=KC p3
  have h3:d3<ls.length:=by omega
  obtain⟨b,hb⟩:=IL (P:=P) (A:=A) (w:=w) (t:=.int d3) hG hl (xV g h3) ⟨cs,_,rfl,g.sub (λt ht=>wm ht) (KW (qR _ _) g.n)⟩
  refine⟨_,done _ (rM ((eU (k:=true) ?_).trans (lQ (gD (c:="Sketch") (ns:=["past","ahead"]) (ls:=[P++ [sp w (RR cs ls)],A]) (ts:=[.int d3]) rfl (by decide) (aq (bx (ts:=[.scr ns,.int ((a+8:Nat):Int),.int (ls.length:Nat)]) rfl e3) rfl) hb)))),.inr ⟨"cut",_,.inr (.inr rfl),⟨cs,_,rfl,g.sub (λt ht=>wm ht) (KW (qR _ _) g.n)⟩,rfl⟩⟩
  refine Ak (c1.trans (by rw[hd];rfl)) (c2.trans ?_)
  cases ls
  ·exact absurd rfl hls
  ·rfl
 ·have cA:r8 (tb (o2 lx (vr 4) (cn (.int 0)))) (tb (o2 kM (o2 aQ (vr 3) (cn (.int 1))) (ba aj))) (E o0)= .ok false:=by
   by_cases hd:d1=0
   ·refine Ak (c1.trans (by rw[hd];rfl)) (c2.trans ?_)
    cases ls
    ·rfl
    ·exact absurd ⟨hd,by simp⟩ hc
   ·exact F4 (c1.trans (by rw[beq_eq_false_iff_ne.mpr (by omega)]))
  by_cases hd:d1=1
  ·obtain⟨x,y,rr,er,h1,h4⟩:=AZ g (n:=d2) (by omega)
   obtain⟨l,z,hlz⟩:∃l z,rr=l++ [z]:=⟨rr.dropLast,rr.getLast (by intro hz;rw[hz]at h1;simp at h1),(Mt _).symm⟩
   obtain⟨d4,e4,p4,q4⟩:=bZ ns (a+8) 5 hn (by omega)
   have plr:(T.tup (rr.map .int)).pl=true:=by rw[iu];exact gy λt ht=>by obtain⟨k,_,rfl⟩:=K7.mp ht;rfl
   have hw:=oS (u:=.int (z+1+d4)) g (n:=d2) (by omega) er (by rw[Kc];exact h4) rfl rfl plr rfl
   have hargs:ae (vr 6) (ae (o2 aM (o2 aM (o2 aQ (o2 aQ (o2 aQ (o2 aQ (vr 3) (cn (.int 0))) (vr 6)) (cn (.int 2))) (o1 mf (cn (.int 1)))) (cn (.int 1))) (cl ax (ae (vr 0) (ae (o2 aM (vr 1) (cn (.int 8))) (ae (cn (.int 5)) aj))))) aj) (E o0)= .ok [.int d2,.int (z+1+d4)]:=by
    refine aq rfl (aq (aL (t:=.int (z+1)) (u:=.int d4) (aL (t:=.int z) (u:=.int 1) (aL (t:=.tup (rr.map .int)) (u:=.int (-1)) (kD (n:=2) (l:=[.int x,.int y,.tup (rr.map .int)]) (kD (n:=d2) (l:=cs) (kD (n:=0) (l:=[.tup cs,.tup ls]) rfl rfl rfl) rfl er) rfl rfl) rfl ?_) rfl rfl) (bx (ts:=[.scr ns,.int ((a+8:Nat):Int),.int 5]) rfl e4) rfl) rfl)
    rw[hlz,LD];exact rN _ _
   have cB:tb (o2 lx (vr 4) (cn (.int 1))) (E o0)= .ok true:=(dS (aL rfl rfl (oo _ _))).trans (by rw[hd];rfl)
   unfold m9 at hw
   split at hw
   ·rename_i hrec
    have hp:(RR (nc cs d2 (.tup [.int x,.int y,.tup (rr.map .int++ [.int (z+1+d4)])])) ls).pl=true:=by
     refine kn (zi g.parts.1 ?_) g.pls
     have:=qM plr (m:=[.int (z+1+d4)]) rfl;simp[T.pl,plS]at this ⊢;exact this
    obtain⟨b,hb⟩:=Gg (P:=P) (A:=A) (w:=w) (t:=.int d2) (u:=.int (z+1+d4)) hG hl hw (GR.of hp hrec);exact⟨_,done _ (rM ((eU cA).trans ((eU cB).trans (lQ (gD (c:="Sketch") (ns:=["past","ahead"]) (ls:=[P++ [sp w (RR cs ls)],A]) (ts:=[.int d2,.int (z+1+d4)]) rfl (by decide) hargs hb))))),.inr ⟨"read",_,.inr (.inl rfl),GR.of hp hrec,rfl⟩⟩
   ·exact⟨_,gone (wO ((eU cA).trans ((eU cB).trans (Af (tQ (c:="Sketch") (ns:=["past","ahead"]) (ls:=[P++ [sp w (RR cs ls)],A]) (ts:=[.int d2,.int (z+1+d4)]) rfl (by decide) hargs (Dd hG hw))))) (by unfold rQ;rw[if_pos rfl])),.inl rfl⟩
  ·have cB:tb (o2 lx (vr 4) (cn (.int 1))) (E o0)= .ok false:=(dS (aL rfl rfl (oo _ _))).trans (by rw[beq_eq_false_iff_ne.mpr (by omega)])
   rcases h5 with rfl | ⟨h5,hs5⟩
   ·exact⟨_,done o0 (rM ((eU cA).trans ((eU cB).trans ((eU (k:=false) (dS rfl)).trans rfl)))),.inl rfl⟩
   ·have h5p:t5.pl=true:=y0 _ hs5
    have cC:tb (o2 iy (vr 5) (cn .non)) (E o0)= .ok true:=by
     obtain⟨a',b',x',y',rfl,_⟩:=c7 h5
     rfl
    have hw:=qP (t:=t5) g.parts.1 g.pls (by have:=g.n;omega) h5p g.ok
    unfold m9 at hw
    split at hw
    ·rename_i hrec
     have hp:(RR cs (ls++ [t5])).pl=true:=kn g.parts.1 (qM g.pls (by simp[T.pl,plS,h5p]))
     obtain⟨b,hb⟩:=C8 (P:=P) (A:=A) (w:=w) hG hl hw (GR.of hp hrec);exact⟨_,done _ (rM ((eU cA).trans ((eU cB).trans ((eU cC).trans (lQ (gD (c:="Sketch") (ns:=["past","ahead"]) (ls:=[P++ [sp w (RR cs ls)],A]) (ts:=[t5]) rfl (by decide) rfl hb)))))),.inr ⟨"write",_,.inl rfl,GR.of hp hrec,rfl⟩⟩
    ·exact⟨_,gone (wO ((eU cA).trans ((eU cB).trans ((eU cC).trans (Af (tQ (c:="Sketch") (ns:=["past","ahead"]) (ls:=[P++ [sp w (RR cs ls)],A]) (ts:=[t5]) rfl (by decide) rfl (AD hG hw)))))) (by unfold rQ;rw[if_pos rfl])),.inl rfl⟩
end G
namespace G
open PySem Tr Gr
def pf (r:T):Bool:=match bo [r]with
 | .ok (.bl b)=>b
 | _=>false
theorem GR.has {r:T}(h:GR r):bo [r] = .ok (.bl (pf r)):=by
 obtain⟨b,e⟩:=h.hw;unfold pf;rw[e]
def rc:T->T
 | .tup [_,r] =>r
 | _=> .non
def pL (P:List T):T:=match P.reverse.find? (λs=>pf (rc s))with
 | some s=>rc s
 | none=> .non
abbrev Je:En->Rs Fl:=gV (tb (cl bo (ae (o2 aQ (vr 1) (cn (.int 1))) aj))) (aK (o2 aQ (vr 1) (cn (.int 1)))) sN
theorem w8 (v:T):∀(l:List T) (s1:Sl),(∀s∈l,∃w r,s=sp w r/\GR r)->(match l.find? (λs=>pf (rc s))with
  | some s=>bp (gN 1) Je l [.va v,s1] = .ok (.rt (rc s))
  | none=> ∃s2,bp (gN 1) Je l [.va v,s1] = .ok (.nx [.va v,s2]))
 | [],s1,_=>⟨s1,rfl⟩
 | s::l,s1,h=>by
  obtain⟨w,r,rfl,hr⟩:=h s (.head _)
  have ih:=w8 v l (.va (sp w r)) λu hu=>h u (.tail _ hu)
  have hix:o2 aQ (vr 1) (cn (.int 1)) [.va v,.va (sp w r)] = .ok r:=kD (n:=1) (l:=[w,r]) rfl rfl rfl
  have ht:tb (cl bo (ae (o2 aQ (vr 1) (cn (.int 1))) aj)) [.va v,.va (sp w r)] = .ok (pf r):=dS (bx (ts:=[r]) (aq hix rfl) hr.has);rw[Ma]
  show match(match pf r with | true=>some (sp w r) | false=>_)with | some s=>_ | none=>_
  cases hb:pf r with
  | true=>
   rw[hb]at ht
   exact wQ (Z1:=[.va v,.va (sp w r)]) rfl ((kE ht).trans (dy hix))
  | false=>
   rw[hb]at ht
   have e:∀{x},bp (gN 1) Je l [.va v,.va (sp w r)] =x->bp (gN 1) Je (sp w r::l) [.va v,s1] =x:=λ{x} e=>(eQ (Z1:=[.va v,.va (sp w r)]) rfl ((iI ht).trans rfl)).trans e
   dsimp only
   revert ih
   cases l.find? (λs=>pf (rc s))with
   | some s=>intro ih;exact e ih
   | none=>intro ⟨s2,ih⟩;exact⟨s2,e ih⟩
theorem Gi {P A:List T}(h:∀s∈P,∃w r,s=sp w r/\GR r):ef [SV P A] = .ok (pL P):=by
 refine cq rfl ?_
 show gf [.va (SV P A),.em] =_
 unfold gf
 have hi:Ap (ae (o1 (jm "Sketch" "past") (vr 0)) aj) [.va (SV P A),.em] = .ok P.reverse:=by
  unfold Ap;rw[aq (lS (ns:=["past","ahead"]) (ts:=[.lst P,.lst A]) rfl (iM _ _)) rfl];rfl
 have hl:=w8 (SV P A) P.reverse .em λs hs=>h s (Qv.mp hs)
 unfold pL
 revert hl
 cases P.reverse.find? (λs=>pf (rc s))with
 | some s=>intro hl;exact lq (fH hi hl)
 | none=>intro ⟨s2,hl⟩;exact(aG (fH hi hl)).trans rfl
end G
set_option maxHeartbeats 1000000
namespace G
open PySem Tr Gr
section
variable {Z Z':En}{fa:En->Rs T}{l:List T}{ns:List Str}{ls:List (List T)}{i j:Nat}{c f m:Str}
theorem Ah (hi:Z[i]? =some (.ow (.ob c ns ls)))(h:fa Z= .ok (.lst l))(hf:ns.contains f=true)(hn:ns.length<1000):m6 i c f fa Z= .ok (.nx (Z.set i (.ow (.ob c ns (fY f l ns ls))))):=by
 unfold m6;rw[hi,h]
 show(if _ then _ else _)=_
 rw[if_pos ⟨rfl,hn⟩,if_pos hf]
theorem Ad {F:En->Rs Fl}{G:En->Rs (T ⊕ OT)}{q:T ⊕ OT}(h:F Z= .ok (.nx Z'))(h2:G Z'= .ok q):DH F G Z= .ok q:=by
 unfold DH;rw[h]
 show nJ (G Z')=_
 rw[h2];rfl
theorem DL {g:List T->Rs (T ⊕ OT)}{o:OT}(hj:Z[j]? =some (.ow (.ob c ns ls)))(hm:ns.contains m=false)(hi:i<Z.length)(h:g [.ob c ns (ls.map T.lst)] = .ok (.inr o))(hk:o.nkL=true):uN i j c m g Z= .ok (.nx (Z.set i (.ow o))):=by
 unfold uN;rw[hj]
 show(if _ then _ else _)=_
 rw[if_pos ⟨rfl,hm,hi⟩,h]
 show(if _ then _ else _)=_
 rw[if_pos hk]
theorem HY {r:T->T->Rs T}{x y:En->Rs (T×En)}{Z2:En}{t u v:T}(h:x Z= .ok (t,Z'))(h2:y Z'= .ok (u,Z2))(hr:r t u= .ok v):Bo r x y Z= .ok (v,Z2):=by
 unfold Bo;rw[h]
 show(nJ (y Z') >>= λq=>nJ (r t q.1) >>= λt=> .ok (t,q.2))=_
 rw[h2]
 show(nJ (r t u) >>= λt=> .ok (t,Z2))=_
 rw[hr];rfl
theorem CY {g:T->En->Rs En}{F:En->Rs Fx}{t:T}{r:List T}{Z1 Z2:En}(h:g t Z= .ok Z1)(h2:F Z1= .ok (.nx Z2)):gX g F (t::r) Z=gX g F r Z2:=by
 rw[gX,h]
 dsimp only
 rw[h2]
theorem F1 {g:T->En->Rs En}{F:En->Rs Fx}{fi:En->Rs (List T)}{ts:List T}(h:fi Z= .ok ts)(h2:gX g F ts Z= .ok Z'):yc fi g F Z= .ok (.nx Z'):=by
 unfold yc;rw[h]
 show(match gX g F ts Z with | .ok Z'=>_ | _=>_)=_
 rw[h2]
end
def Wy (w:T):Prop:=w= .non\/∃v,w= .str v
theorem Wy.pl {w:T}(h:Wy w):w.pl=true/\w.nk false=true/\w.dep=0:=by rcases h with rfl | ⟨v,rfl⟩ <;> simp[T.pl,T.nk,T.dep]
def St (s:T):Prop:=∃w r,s=sp w r/\GR r/\Wy w
theorem St.pl {s:T}(h:St s):s.pl=true/\s.nk false=true:=by
 obtain⟨w,r,rfl,hr,hw⟩:=h;exact⟨by simp[T.pl,plS,hw.pl.1,hr.pl],by simp[T.nk,nks,hw.pl.2.1,hr.nk]⟩
structure Okk (F:T)(P A:List T):Prop where
 bt:∃P',P=sp .non F::P'
 st:∀s∈P++A,St s
 lnn:P.length+A.length<=40
def lr (P:List T):T:=match P.getLast? with
 | some s=>rc s
 | none=> .non
theorem wA (P:List T)(w r:T):lr (P++ [sp w r])=r:=by unfold lr;rw[List.getLast?_append];rfl
def g7 (P A:List T):T:=.tup [lr P,pL P,.tup [.int ((P.length:Int) - 1),.int (A.length:Nat)]]
section
variable {F:T}{P A:List T}{ns:List Int}{Z:En}
theorem Okk.ne (h:Okk F P A):P≠ []:=by obtain⟨P',rfl⟩:=h.bt;simp
theorem Okk.last (h:Okk F P A):∃P' w r,P=P'++ [sp w r]/\GR r/\Wy w:=by
 have e:P=P.dropLast++ [P.getLast h.ne]:=(Mt _).symm;obtain⟨w,r,e2,hr,hw⟩:=h.st _ (KD _ (Qw h.ne));exact⟨P.dropLast,w,r,by rw[<-e2];exact e,hr,hw⟩
theorem Okk.lg (h:Okk F P A):pL P= .non\/GR (pL P):=by
 unfold pL
 cases q:P.reverse.find? (λs=>pf (rc s))with
 | none=>exact .inl rfl
 | some s=>
  have:=List.mem_of_find?_eq_some q
  obtain⟨w,r,rfl,hr,_⟩:=h.st s (KD _ (Qv.mp this));exact .inr hr
theorem Okk.nn (h:Okk F P A):(g7 P A).pl=true/\(g7 P A).nk false=true/\(g7 P A).dep<=10:=by
 obtain⟨P',w,r,rfl,hr,_⟩:=h.last;unfold g7;rw[wA]
 have hd:=hr.dep;rcases h.lg with z | z
 ·rw[z]
  refine⟨by simp[T.pl,plS,hr.pl],by simp[T.nk,nks,hr.nk],?_⟩
  simp only[T.dep,deps];omega
 ·have hd2:=z.dep
  refine⟨by simp[T.pl,plS,hr.pl,z.pl],by simp[T.nk,nks,hr.nk,z.nk],?_⟩
  simp only[T.dep,deps];omega
theorem Okk.now (h:Okk F P A):aU [SV P A] = .ok (g7 P A):=by
 obtain⟨P',w,r,e,hr,_⟩:=h.last
 have hg:∀s∈P,∃w r,s=sp w r/\GR r:=λs hs=>by
  obtain⟨w,r,e,hr,_⟩:=h.st s (KD _ hs);exact⟨w,r,e,hr⟩
 have hrec:aA [SV P A] = .ok (lr P):=by rw[e,wA];exact xc P' A w r
 refine cq rfl (dy (bX (aq (og (c:="Sketch") (ns:=["past","ahead"]) (ts:=[.lst P,.lst A]) rfl (by decide) rfl hrec) (aq (og (c:="Sketch") (ns:=["past","ahead"]) (ts:=[.lst P,.lst A]) rfl (by decide) rfl (Gi hg)) (aq (og (c:="Sketch") (ns:=["past","ahead"]) (ts:=[.lst P,.lst A]) rfl (by decide) rfl (uc P A)) rfl))) (aB (k:=3) (by simp))))
theorem Okk.JH (h:Okk F P A){i:Nat}(hi:Z[i]? =some (.ow (SK P A))):ln i (cl aU (ae (vr i) aj)) Z= .ok (g7 P A):=by
 have hl:i<Z.length:=(Ki.mp hi).1
 refine tS hi (bx (ts:=[SV P A]) (aq (FT ?_) rfl) h.now) h.nn.2.1
 unfold disown;rw[hi];simp[hl];rfl
theorem Okk.nkL (h:Okk F P A):(SK P A).nkL=true:=by
 show([P,A].all (nks false))=true
 simp only[N8,List.all_nil,Pw,J8];exact⟨rC λs hs=>(h.st s (KD _ hs)).pl.2,rC λs hs=>(h.st s (Kr _ hs)).pl.2⟩
theorem Okk.twin (h:Okk F P A):cM [SV P A] = .ok (.inr (SK P A)):=by
 obtain⟨P',w,r,e,hr,_⟩:=h.last
 have hrec:aA [SV P A] = .ok r:=by rw[e];exact xc P' A w r
 unfold cM xG;rw[if_pos (show [SV P A].length=1 from rfl)]
 show gd [.va (SV P A),.em] =_
 unfold gd;refine Ad (Z':=[.va (SV P A),.ow (SK [sp .non r] [])]) (Ae (ts:=[r]) (aq (og (c:="Sketch") (ns:=["past","ahead"]) (ts:=[.lst P,.lst A]) rfl (by decide) rfl hrec) rfl) (AG hr) (by simp)) ?_
 refine Ad (Z':=[.va (SV P A),.ow (SK P [])]) ((Ah (l:=P) (c:="Sketch") (ns:=["past","ahead"]) (ls:=[[sp .non r],[]]) rfl (lS (ns:=["past","ahead"]) (ts:=[.lst P,.lst A]) rfl (iM _ _)) (by decide) (by simp)).trans (by rw[qQ];rfl)) ?_
 refine Ad (Z':=[.va (SV P A),.ow (SK P A)]) ((Ah (l:=A) (c:="Sketch") (ns:=["past","ahead"]) (ls:=[P,[]]) rfl (lS (ns:=["past","ahead"]) (ts:=[.lst P,.lst A]) rfl (kF _ _)) (by decide) (by simp)).trans (by rw[mE];rfl)) ?_
 rfl
theorem Okk.step (h:Okk F P A)(hn:ns.length<=63)(a:Nat)(hl:P.length+A.length<40):∃P' A',bK [.va (.scr ns),.va (.int (a:Nat)),.ow (SK P A)] = .ok (.non,SK P' A')/\Okk F P' A'/\P'.length+A'.length<=P.length+A.length+1:=by
 obtain⟨P0,w,r,rfl,hr,hw⟩:=h.last;obtain⟨o,e,hs⟩:=Gf ns hn a (P:=P0) (A:=A) (w:=w) (r:=r) hr (by simp at hl ⊢;omega)
 rcases hs with rfl | ⟨v,r',hv,hr',rfl⟩
 ·exact⟨_,_,e,h,by omega⟩
 ·refine⟨_,_,e,⟨?_,λs hs=> ?_,by simp at hl ⊢;omega⟩,by simp⟩
  ·obtain⟨P',e'⟩:=h.bt
   exact⟨P'++ [sp (.str v) r'],by rw[e'];rfl⟩
  ·rw[KO]at hs
   rcases Ky.mp hs with z | z
   ·exact h.st s (KD _ z)
   ·rw[Km.mp z];exact⟨_,_,rfl,hr',.inr ⟨v,rfl⟩⟩
theorem Okk.back (h:Okk F P A)(h2:2<=P.length):∃w P' A',aP [.ow (SK P A)] = .ok (w,SK P' A')/\Okk F P' A'/\P'.length+1=P.length/\A'.length=A.length+1/\Wy w:=by
 obtain⟨P0,w,r,rfl,hr,hw⟩:=h.last
 have hl:=h.lnn
 have h0:P0≠ []:=λz=>by rw[z]at h2;simp at h2
 refine⟨w,P0,A++ [sp w r],Gm h0 (by simp at hl;omega) (by simp at hl;omega),⟨?_,λs hs=> ?_,by simp at hl ⊢;omega⟩,by simp,by simp,hw⟩
 ·obtain⟨P',e'⟩:=h.bt
  cases P0 with
  | nil=>exact absurd rfl h0
  | cons q Q=>rw[Om,List.cons.injEq]at e';exact⟨Q,by rw[e'.1]⟩
 ·refine h.st s ?_
  simp only[Ky,Km]at hs ⊢;rcases hs with z | z | z
  ·exact .inl (.inl z)
  ·exact .inr z
  ·exact .inl (.inr z)
theorem Okk.forth (h:Okk F P A)(h2:A≠ []):∃w P' A',bW [.ow (SK P A)] = .ok (w,SK P' A')/\Okk F P' A'/\P'.length=P.length+1/\A'.length+1=A.length:=by
 have hl:=h.lnn
 have e:A=A.dropLast++ [A.getLast h2]:=(Mt _).symm;obtain⟨w,r,e2,hr,hw⟩:=h.st _ (Kr _ (Qw h2));rw[e2]at e
 generalize A.dropLast=A0 at e
 subst e;refine⟨w,P++ [sp w r],A0,De (by omega) (λs hs=>(h.st s (Kr _ hs)).pl.1),⟨?_,λs hs=> ?_,by simp at hl ⊢;omega⟩,by simp,by simp⟩
 ·obtain⟨P',e'⟩:=h.bt
  exact⟨P'++ [sp w r],by rw[e'];rfl⟩
 ·refine h.st s ?_
  simp only[Ky,Km]at hs ⊢;rcases hs with(z | z) | z
  ·exact .inl z
  ·exact .inr (.inr z)
  ·exact .inr (.inl z)
theorem Okk.one (h:Okk F P A)(h1:P.length=1):P= [sp .non F]:=by
 obtain⟨P',rfl⟩:=h.bt;rw[Kd]at h1
 have:P'= []:=Oc.mp (by omega)
 rw[this]
theorem Okk.first (h:GR F):Okk F [sp .non F] []:=⟨⟨[],rfl⟩,λs hs=>by rw[KO,Km]at hs;rw[hs];exact⟨_,_,rfl,h,.inl rfl⟩,by simp⟩
abbrev goF:En->Rs Fx:=(rG (mP 1 bK (ae (vr 0) (ae (o2 aM (cn (.int 200)) (o2 bL (cn (.int 10)) (vr 2))) aj))))
theorem w6 (hn:ns.length<=63):∀(js:List Nat) {P A:List T} (k:Sl),Okk F P A->P.length+A.length+js.length<=40->∃P' A' k',Okk F P' A'/\P'.length+A'.length<=P.length+A.length+js.length ∧
  gX (gN 2) goF (js.map λ(j:Nat)=>T.int j) [.va (.scr ns),.ow (SK P A),k] = .ok [.va (.scr ns),.ow (SK P' A'),k']
 | [],P,A,k,h,_=>⟨P,A,k,h,by simp,rfl⟩
 | j::js,P,A,k,h,hl=>by
  rw[Kd]at hl;obtain⟨P1,A1,e1,h1,l1⟩:=h.step hn (200+10*j) (by omega)
  obtain⟨P2,A2,k2,h2,l2,e2⟩:=w6 hn js (.va (.int (j:Nat))) h1 (by omega)
  refine⟨P2,A2,k2,h2,by rw[Kd];omega,?_⟩
  rw[Ka,CY (Z1:=[.va (.scr ns),.ow (SK P A),.va (.int (j:Nat))]) (Z2:=[.va (.scr ns),.ow (SK P1 A1),.va (.int (j:Nat))]) rfl ?_,e2]
  refine lQ (t:=.non) (rL (o:=SK P A) (ts:=[.scr ns,.int ((200+10*j:Nat):Int)]) rfl (aq rfl (aq (aL (t:=.int 200) (u:=.int (10*(j:Int))) rfl (aL rfl rfl (kA (by omega) (by omega))) ?_) rfl)) e1)
  show Rs.ok (T.int (200+10*(j:Int)))=_
  rw[show(200+10*(j:Int))=((200+10*j:Nat):Int)by omega]
theorem Okk.J0 (h:Okk F P A)(hn:ns.length<=63)(hl:P.length+A.length<=30):∃P' A',dI [.va (.scr ns),.ow (SK P A)] = .ok (g7 P' A',SK P' A')/\Okk F P' A':=by
 obtain⟨P',A',k',h',l',e⟩:=w6 (ns:=ns) hn (K9 3) .em h (by simp;omega)
 refine⟨P',A',?_,h'⟩
 refine iH (Z:=[.va (.scr ns),.ow (SK P' A'),k']) rfl ?_ rfl
 show gL [.va (.scr ns),.ow (SK P A),.em] =_
 unfold gL;rw[<-ki]at e;refine dt (F1 (yG (j:=((3:Nat):Int)) rfl (by omega) (by omega)) e) ?_
 exact oh (rK (h'.JH rfl))
end
end G
set_option maxHeartbeats 4000000
namespace G
open PySem Tr Gr
abbrev LE (ns:List Int)(F:T)(o:OT)(k t b tw th te:Sl):En:=[.va (.scr ns),.va F,.ow o,k,t,b,tw,th,te]
abbrev Z4:En->Rs Fl:=(dj (ln 2 (cl aU (ae (vr 2) aj))) (gN 5))
abbrev Z7:En->Rs Fl:=(gV (ye 6 (ye 7 (tb (o2 kM (gu (iS (ba (ae (vr 6) (ae (vr 7) aj)))) [none] (gN 0) bT (cl aU (ae (vr 0) aj))) (o2 bL (fj (ae (vr 5) aj)) (cn (.int 2))))))) (aK (cn (.bl false))) sN)
abbrev Z12:En->Rs Fl:=(fV (iR (ae (o2 aQ (ln 6 (mh "Sketch" "counts" aV (vr 6) aj)) (cn (.int 0))) aj)) (gN 4) (qC (ql (yE (Bo kM (bP 6 "Sketch" "back" aP aj) (bP 2 "Sketch" "back" aP aj))) (BK (tb (o2 kM (ln 6 (cl aU (ae (vr 6) aj))) (ln 2 (cl aU (ae (vr 2) aj))))))) (aK (cn (.bl false))) sN))
abbrev Z14:En->Rs Fl:=(aK (ln 6 (ln 2 (ln 7 (o2 lx (gu (iS (ba (ae (vr 2) (ae (vr 6) (ae (vr 7) aj))))) [none] (gN 0) bT (mh "Sketch" "record" aA (vr 0) aj)) (o2 bL (fj (ae (vr 1) aj)) (cn (.int 3))))))))
section
variable {F:T}{P A:List T}{ns:List Int}{Z:En}
abbrev stF:En->Rs Fl:=(m8 (mP 2 bK (ae (vr 0) (ae (o2 aM (cn (.int 80)) (o2 bL (cn (.int 10)) (vr 3))) aj))))
theorem vY (hn:ns.length<=63):∀(js:List Nat) {P A:List T} (k:Sl),Okk F P A->P.length+A.length+js.length<=30->∃P' A' k',Okk F P' A'/\P'.length+A'.length<=P.length+A.length+js.length ∧
  bp (gN 3) stF (js.map λ(j:Nat)=>T.int j) (LE ns F (SK P A) k .em .em .em .em .em)= .ok (.nx (LE ns F (SK P' A') k' .em .em .em .em .em))
 | [],P,A,k,h,_=>⟨P,A,k,h,by simp,rfl⟩
 | j::js,P,A,k,h,hl=>by
  rw[Kd]at hl;obtain⟨P1,A1,e1,h1,l1⟩:=h.step hn (80+10*j) (by omega)
  obtain⟨P2,A2,k2,h2,l2,e2⟩:=vY hn js (.va (.int (j:Nat))) h1 (by omega)
  refine⟨P2,A2,k2,h2,by rw[Kd];omega,?_⟩
  rw[Ka,eQ (Z1:=LE ns F (SK P A) (.va (.int (j:Nat))) .em .em .em .em .em) (Z2:=LE ns F (SK P1 A1) (.va (.int (j:Nat))) .em .em .em .em .em) rfl ?_,e2]
  refine DP (t:=.non) (rL (o:=SK P A) (ts:=[.scr ns,.int ((80+10*j:Nat):Int)]) rfl (aq rfl (aq (aL (t:=.int 80) (u:=.int (10*(j:Int))) rfl (aL rfl rfl (kA (by omega) (by omega))) ?_) rfl)) e1)
  show Rs.ok (T.int (80+10*(j:Int)))=_
  rw[show(80+10*(j:Int))=((80+10*j:Nat):Int)by omega]
theorem i6 {i:Nat}{m:Str}{g:List Sl->Rs (T×OT)}(hm:(["past","ahead"]:List Str).contains m=false)(C:Nat->List T->List T->Prop)(hstep:∀n P A,C (n+1) P A->∃w P' A',g [.ow (SK P A)] = .ok (w,SK P' A')/\C n P' A')(hi:i≠4) :
  ∀(ts:List T) (Z:En) (P A:List T),4<Z.length->Z[i]? =some (.ow (SK P A))->C ts.length P A->∃s P' A',C 0 P' A'/\bp (gN 4) (m8 (bP i "Sketch" m g aj)) ts Z= .ok (.nx ((Z.set 4 s).set i (.ow (SK P' A'))))/\(ts= []->Z[4]? =some s)
 | [],Z,P,A,h4,hρ,hc=>by
  obtain⟨s,hs⟩:∃s,Z[4]? =some s:=⟨Z[4],Kq h4⟩
  refine⟨s,P,A,hc,?_,λ_=>hs⟩
  have e1:Z.set 4 s=Z:=by
   rw[Ki]at hs
   obtain⟨h,rfl⟩:=hs;exact Ng h
  have e2:Z.set i (.ow (SK P A))=Z:=by
   rw[Ki]at hρ
   obtain⟨h,e⟩:=hρ;rw[<-e];exact Ng h
  rw[e1,e2]
  rfl
 | t::ts,Z,P,A,h4,hρ,hc=>by
  obtain⟨w,P1,A1,e1,c1⟩:=hstep _ P A hc
  have hil:i<Z.length:=(Ki.mp hρ).1
  obtain⟨s,P2,A2,c2,e2,h0⟩:=i6 hm C hstep hi ts ((Z.set 4 (.va t)).set i (.ow (SK P1 A1))) P1 A1 (by simpa using h4) (by rw[KB (by simpa using hil)]) c1
  refine⟨s,P2,A2,c2,?_,λz=>by cases z⟩
  have hg:gN 4 t Z= .ok (Z.set 4 (.va t)):=by unfold gN;rw[if_pos h4]
  rw[eQ hg (DP (gD (c:="Sketch") (ns:=["past","ahead"]) (ls:=[P,A]) (ts:=[]) (by rw[Kv (Mv hi)];exact hρ) hm rfl e1)),e2]
  congr 2
  rw[List.set_comm _ _ hi,Qi,Qi]
end
end G
set_option maxHeartbeats 4000000
namespace G
open PySem Tr Gr
section
variable {F:T}{P A:List T}{ns:List Int}{Z:En}
theorem Okk.nne (h:Okk F P A):kM (g7 P A) (g7 P A)= .ok (.bl false):=rE h.nn.1 (by have:=h.nn.2.2;omega)
def CB (F:T)(m t n:Nat)(P A:List T):Prop:=Okk F P A/\P.length=m+n/\P.length+A.length=t
theorem xp {m t:Nat}(hm:1<=m)(n:Nat)(P A:List T)(c:CB F m t (n+1) P A):∃w P' A',aP [.ow (SK P A)] = .ok (w,SK P' A')/\CB F m t n P' A':=by
 have c2:=c.2.1
 have c3:=c.2.2;obtain⟨w,P',A',e,h',l1,l2,_⟩:=c.1.back (by omega)
 exact⟨w,P',A',e,h',by omega,by omega⟩
def CF (F:T)(n:Nat)(P A:List T):Prop:=Okk F P A/\A.length=n
theorem Dj (n:Nat)(P A:List T)(c:CF F (n+1) P A):∃w P' A',bW [.ow (SK P A)] = .ok (w,SK P' A')/\CF F n P' A':=by
 obtain⟨w,P',A',e,h',_,l2⟩:=c.1.forth (λz=>by have:=c.2;rw[z]at this;simp at this)
 exact⟨w,P',A',e,h',by have:=c.2;omega⟩
abbrev twF:En->Rs Fl:=(qC (ql (yE (Bo kM (bP 6 "Sketch" "back" aP aj) (bP 2 "Sketch" "back" aP aj))) (BK (tb (o2 kM (ln 6 (cl aU (ae (vr 6) aj))) (ln 2 (cl aU (ae (vr 2) aj))))))) (aK (cn (.bl false))) sN)
theorem vV (k b th te:Sl):∀(ts:List T) (P A:List T) (t:Sl),Okk F P A->P.length=1+ts.length->∃t' A',bp (gN 4) twF ts (LE ns F (SK P A) k t b (.ow (SK P A)) th te)= .ok (.nx (LE ns F (SK [sp .non F] A') k t' b (.ow (SK [sp .non F] A')) th te))
 | [],P,A,t,h,hl=>by
  have:=h.one (by simpa using hl)
  subst this
  exact⟨t,A,rfl⟩
 | x::ts,P,A,t,h,hl=>by
  rw[Kd]at hl;obtain⟨w,P1,A1,e1,h1,l1,_,hw⟩:=h.back (by omega)
  obtain⟨t',A',ih⟩:=vV k b th te ts P1 A1 (.va x) h1 (by omega)
  refine⟨t',A',?_⟩
  rw[eQ (Z1:=LE ns F (SK P A) k (.va x) b (.ow (SK P A)) th te) (Z2:=LE ns F (SK P1 A1) k (.va x) b (.ow (SK P1 A1)) th te) rfl ?_,ih]
  refine(DN (b:=false) (Z':=LE ns F (SK P1 A1) k (.va x) b (.ow (SK P1 A1)) th te) (wK (Z':=LE ns F (SK P1 A1) k (.va x) b (.ow (SK P1 A1)) th te) (DK (HY (Z':=LE ns F (SK P A) k (.va x) b (.ow (SK P1 A1)) th te) (gD (c:="Sketch") (ns:=["past","ahead"]) (ls:=[P,A]) (ts:=[]) rfl (by decide) rfl e1) (gD (c:="Sketch") (ns:=["past","ahead"]) (ls:=[P,A]) (ts:=[]) rfl (by decide) rfl e1) (rE hw.pl.1 (by rw[hw.pl.2.2];omega)))) (DJ (dS (aL (h1.JH rfl) (h1.JH rfl) h1.nne))))).trans rfl
theorem lcs {l:List T}{f:T->T}{fe:En->Rs T}{fi:En->Rs (List T)}{Z:En}(hi:fi Z= .ok l)(hl:l.length<=1000)(h:∀t∈l,fe [.va t] = .ok (f t)):gu fi [none] (gN 0) bT fe Z= .ok (.lst (l.map f)):=
 vi (ts:=l) hi (aB hl) (by simp) λt ht=>h t ht
theorem z7 (h:Okk F P A)(k t te:Sl):Z7 (LE ns F (SK P A) k t (.va (g7 P A)) (.ow (SK P A)) (.ow (SK P A)) te)= .ok (.nx (LE ns F (SK P A) k t (.va (g7 P A)) (.ow (SK P A)) (.ow (SK P A)) te)):=by
 have lc:(gu (iS (ba (ae (vr 6) (ae (vr 7) aj)))) [none] (gN 0) bT (cl aU (ae (vr 0) aj))) [.va (.scr ns),.va F,.ow (SK P A),k,t,.va (g7 P A),.va (SV P A),.va (SV P A),te] = .ok (.lst ([SV P A,SV P A].map λ_=>g7 P A)):=
  lcs (Il (bX rfl (aB (k:=2) (by simp)))) (by simp) λu hu=>by
   have:u=SV P A:=by simpa using hu
   subst this;exact bx (ts:=[SV P A]) rfl h.now
 refine(iI (wR (wR (dS (aL (t:=.lst [g7 P A,g7 P A]) (u:=.lst [g7 P A,g7 P A]) lc (aL (t:=.lst [g7 P A]) (u:=.int 2) (lR rfl (aB (k:=1) (by simp))) rfl (mG [g7 P A] 2 ⟨by decide,by decide,by unfold sizeLine;simp⟩)) (FF (n:=10) (by omega) λu hu=> ?_)))))).trans rfl
 have:u=g7 P A:=by simpa using hu
 subst this;exact⟨h.nn.1,h.nn.2.2⟩
theorem z14 (hF:GR F)(A1 A2 A3:List T)(k t b te:Sl):Z14 (LE ns F (SK [sp .non F] A1) k t b (.ow (SK [sp .non F] A2)) (.ow (SK [sp .non F] A3)) te)= .ok (.rt (.bl true)):=by
 have lc:(gu (iS (ba (ae (vr 2) (ae (vr 6) (ae (vr 7) aj))))) [none] (gN 0) bT (mh "Sketch" "record" aA (vr 0) aj)) [.va (.scr ns),.va F,.va (SV [sp .non F] A1),k,t,b,.va (SV [sp .non F] A2),.va (SV [sp .non F] A3),te] = .ok (.lst ([SV [sp .non F] A1,SV [sp .non F] A2,SV [sp .non F] A3].map λ_=>F)):=
  lcs (Il (bX rfl (aB (k:=3) (by simp)))) (by simp) λu hu=>by
   have:∃B,u=SV [sp .non F] B:=by
    simp only[Kf,Li,or_false]at hu;rcases hu with rfl | rfl | rfl <;> exact⟨_,rfl⟩
   obtain⟨B,rfl⟩:=this;exact og (c:="Sketch") (ns:=["past","ahead"]) (ts:=[.lst [sp .non F],.lst B]) rfl (by decide) rfl (xc [] B .non F)
 have e3:lx (.lst [F,F,F]) (.lst [F,F,F])= .ok (.bl true):=C6 (by rw[Fb];simp[plS,hF.pl]) (by have:=hF.dep;simp only[T.dep,deps];omega)
 refine dy (tS (o:=SK [sp .non F] A2) rfl (tS (o:=SK [sp .non F] A1) rfl (tS (o:=SK [sp .non F] A3) rfl (aL (t:=.lst [F,F,F]) (u:=.lst [F,F,F]) lc (aL (t:=.lst [F]) (u:=.int 3) (lR rfl (aB (k:=1) (by simp))) rfl (mG [F] 3 ⟨by decide,by decide,by unfold sizeLine;simp⟩)) e3) rfl) rfl) rfl)
end
theorem CU (a b:Int):jQ a [b]<=a/\jQ a [b]<=b/\(jQ a [b] =a\/jQ a [b] =b):=by
 unfold jQ
 split <;> (unfold jQ;omega)
theorem pure_law (ns:List Int)(hn:ns.length<=63):m_law [.scr ns] = .ok (.bl true):=by
 refine cq rfl ?_
 show Bj [.va (.scr ns),.em,.em,.em,.em,.em,.em,.em,.em] =_
 unfold Bj;obtain⟨cs,ls,e0,hc,h3,hs,hl,h2⟩:=Gj ns hn 0 2 (by omega)
 obtain⟨hr,hsm⟩:=Eu hc hs hl (by omega)
 have hF:GR (RR cs ls):=GR.of (y0 _ hsm) hr
 generalize RR cs ls=F at hF e0
 rw[aG (Z':=[.va (.scr ns),.va F,.em,.em,.em,.em,.em,.em,.em]) (da (bx (ts:=[.scr ns,.int 0,.int 2]) rfl e0) rfl)];rw[aG (Z':=LE ns F (SK [sp .non F] []) .em .em .em .em .em .em) (Ae (ts:=[F]) rfl (AG hF) (by simp))]
 obtain⟨d,ed,d0,d1⟩:=bZ ns 70 6 hn (by omega)
 obtain⟨d,rfl⟩:=KC d0;obtain⟨P,A,k,h,hlen,e⟩:=vY (ns:=ns) hn (K9 (1+d)) .em (Okk.first hF) (by simp;omega)
 rw[<-ki]at e;rw[aG (fH (yG (j:=((1+d:Nat):Int)) (aq (aL (t:=.int 1) (u:=.int (d:Nat)) rfl (bx (ts:=[.scr ns,.int 70,.int 6]) rfl ed) rfl) rfl) (by omega) (by omega)) e)]
 simp only[L9,Kd,OD]at hlen;obtain⟨q,eq,q0,q1⟩:=bZ ns 71 4 hn (by omega)
 obtain⟨l1,l2,l3⟩:=CU ((P.length:Int) - 1) q
 have hP1:1<=P.length:=by obtain⟨P',rfl⟩:=h.bt;simp
 obtain⟨b,hb⟩:=KC (show 0<=jQ ((P.length:Int) - 1) [q]by rcases l3 with z | z <;> rw[z] <;> omega)
 have bl:b+1<=P.length:=by omega
 obtain⟨s,P1,A1,c1,e3,_⟩:=i6 (i:=2) (m:="back") (g:=aP) (by decide) (CB F (P.length - b) (P.length+A.length)) (λn P' A' c=>xp (by omega) n P' A' c) (by decide) (rng 0 (b:Nat)) (LE ns F (SK P A) k .em .em .em .em .em) P A (by simp) rfl ⟨h,by rw[eZ];omega,rfl⟩
 have hm:CO [.int ((P.length:Int) - 1),.int q] = .ok (.int (b:Nat)):=by
  show Rs.ok (T.int (jQ ((P.length:Int) - 1) [q]))=_
  rw[hb]
 rw[aG (fH (yG (j:=((b:Nat):Int)) (aq (bx (ts:=[.int ((P.length:Int) - 1),.int q]) (aq (kD (n:=0) (l:=[.int ((P.length:Int) - 1),.int (A.length:Nat)]) (wU rfl) rfl rfl) (aq (bx (ts:=[.scr ns,.int 71,.int 4]) rfl eq) rfl)) hm) rfl) (by omega) (by omega)) e3)]
 have h1:=c1.1
 have t1:=h1.lnn
 show aF Z4 _ (LE ns F (SK P1 A1) k s .em .em .em .em)=_
 rw[aG (Z':=LE ns F (SK P1 A1) k s (.va (g7 P1 A1)) .em .em .em) (da (h1.JH rfl) rfl)];rw[aG (Z':=LE ns F (SK P1 A1) k s (.va (g7 P1 A1)) (.ow (SK P1 A1)) .em .em) (DL (c:="Sketch") (ns:=["past","ahead"]) (ls:=[P1,A1]) rfl (by decide) (by simp) h1.twin h1.nkL)]
 rw[aG (Z':=LE ns F (SK P1 A1) k s (.va (g7 P1 A1)) (.ow (SK P1 A1)) (.ow (SK P1 A1)) .em) (DL (c:="Sketch") (ns:=["past","ahead"]) (ls:=[P1,A1]) rfl (by decide) (by simp) h1.twin h1.nkL)]
 rw[aG (z7 h1 k s .em)]
 have hsz:P1.length+A1.length<=30:=by
  have:=c1.2.2;omega
 obtain⟨P2,A2,eg,h2'⟩:=h1.J0 (ns:=ns) hn hsz;rw[aG (Z':=LE ns F (SK P2 A2) k s (.va (g7 P1 A1)) (.ow (SK P1 A1)) (.ow (SK P1 A1)) (.va (g7 P2 A2))) (Iu (rL (o:=SK P1 A1) (ts:=[.scr ns]) rfl rfl eg) (by simp))]
 rw[aG (Z':=LE ns F (SK P2 A2) k s (.va (g7 P1 A1)) (.ow (SK P2 A2)) (.ow (SK P1 A1)) (.va (g7 P2 A2))) ((DN (b:=false) (wK (DJ (dS (aL (h1.JH rfl) rfl h1.nne))) (DK (HZ (rL (o:=SK P1 A1) (ts:=[.scr ns]) rfl rfl eg) rfl h2'.nne)))).trans rfl)];rw[aG (Z':=LE ns F (SK P2 A2) k s (.va (g7 P1 A1)) (.ow (SK P2 A2)) (.ow (SK P1 A1)) (.va (g7 P2 A2))) ((iI (dS (aL (h1.JH rfl) rfl h1.nne))).trans rfl)]
 obtain⟨s2,P3,A3,c3,e11,_⟩:=i6 (i:=7) (m:="forth") (g:=bW) (by decide) (CF F) (λn P' A' c=>Dj n P' A' c) (by decide) (rng 0 (A1.length:Nat)) (LE ns F (SK P2 A2) k s (.va (g7 P1 A1)) (.ow (SK P2 A2)) (.ow (SK P1 A1)) (.va (g7 P2 A2))) P1 A1 (by simp) rfl ⟨h1,by rw[eZ]⟩
 rw[aG (fH (yG (j:=((A1.length:Nat):Int)) (aq (kD (n:=1) (l:=[.int ((P1.length:Int) - 1),.int (A1.length:Nat)]) (wU rfl) rfl rfl) rfl) (by omega) (by omega)) e11)]
 show aF Z12 _ (LE ns F (SK P2 A2) k s2 (.va (g7 P1 A1)) (.ow (SK P2 A2)) (.ow (SK P3 A3)) (.va (g7 P2 A2)))=_
 have t2:=h2'.lnn
 have p2:1<=P2.length:=by obtain⟨P',rfl⟩:=h2'.bt;simp
 obtain⟨s3,A4,e12⟩:=vV (ns:=ns) k (.va (g7 P1 A1)) (.ow (SK P3 A3)) (.va (g7 P2 A2)) (rng 0 ((P2.length - 1:Nat):Int)) P2 A2 s2 h2' (by rw[eZ];omega)
 rw[aG (fH (yG (j:=((P2.length - 1:Nat):Int)) (aq (kD (n:=0) (l:=[.int ((P2.length:Int) - 1),.int (A2.length:Nat)]) (wU rfl) rfl (by show some (T.int ((P2.length:Int) - 1))=_;rw[show((P2.length:Int) - 1)=((P2.length - 1:Nat):Int)by omega])) rfl) (by omega) (by omega)) e12)]
 have h3':=c3.1
 have t3:=h3'.lnn
 have p3:1<=P3.length:=by obtain⟨P',rfl⟩:=h3'.bt;simp
 obtain⟨s4,P5,A5,c5,e13,_⟩:=i6 (i:=7) (m:="back") (g:=aP) (by decide) (CB F 1 (P3.length+A3.length)) (λn P' A' c=>xp (by omega) n P' A' c) (by decide) (rng 0 ((P3.length - 1:Nat):Int)) (LE ns F (SK [sp .non F] A4) k s3 (.va (g7 P1 A1)) (.ow (SK [sp .non F] A4)) (.ow (SK P3 A3)) (.va (g7 P2 A2))) P3 A3 (by simp) rfl ⟨h3',by rw[eZ];omega,rfl⟩
 rw[aG (fH (yG (j:=((P3.length - 1:Nat):Int)) (aq (kD (n:=0) (l:=[.int ((P3.length:Int) - 1),.int (A3.length:Nat)]) (wU rfl) rfl (by show some (T.int ((P3.length:Int) - 1))=_;rw[show((P3.length:Int) - 1)=((P3.length - 1:Nat):Int)by omega])) rfl) (by omega) (by omega)) e13)]
 have h5:=c5.1.one (by have:=c5.2.1;omega)
 subst h5;exact z14 hF A4 A4 A5 k s4 _ _
end G
end
open PySem PySem.W PyProof.Rows
set_option maxRecDepth 100000 in
set_option maxHeartbeats 0 in
theorem PySem.Challenge.cw_farclocks_k86_whole_twins_holds : PySem.Challenge.rw_farclocks_k86_whole_twins.Holds := by
  w_on; o_law
  refine holds_open (q := G.vw) (loose := G.lse) (Xt := λ_ => true) (XP := λ_ _ => True) (Yf := (Tr.hookC G.asks G.top).obs) (Ya := (Tr.hookC G.asks G.top).val) (YP := (Tr.hookC G.asks G.top).says) (N := 9000) (Tr.left_of (by rfl) (by rfl) (λ_ => rfl) λw os => ?hl) (Tr.hookC G.asks G.top).of (Tr.hookC G.asks G.top).keeps (λ_ _ => trivial) (λ_ _ _ _ _ => trivial) (by rfl) (by rfl) (by rfl) (λs _ => recFacts_of (s := s) rfl) (by rfl) (by assumption) (by decide +kernel) ⟨rfl, rfl, rfl, rfl, rfl, by decide +kernel⟩ ?hw ?hc
  case hl => exact G.JW w os
  case hw => w_witness2
  case hc => exact Tr.walk_c (n := 63) (k := 16) (x := "_law_script") (CX := L2.CX0) (sp := λK => Tr.spP K 1 G.m_law) rfl (by decide) rfl ⟨rfl, by decide, by decide⟩ (λw K mg fa h X e g hf => G.all_ok X e g hf) (λK H a ns hl _ hS => Tr.sp_script hS (G.pure_law ns hl)) λ_ _ _ _ z => z
