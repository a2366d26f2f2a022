import PyProof.Rows.All
import Wide.All
import OpenK.AllK
import Wide.FinOn
import Lean
import PyProof.EqAt
import PyProof.EqKinds
import PyProof.TupleCall
import PyProof.ExcClass3
import PyProof.StationsW
import PyProof.ExcBaseAll.ValueError
import PyProof.ExcArgsOwn
import PyProof.IsiBase
import PyProof.IsiH_tuple
import PyProof.ExcAttrAll.ValueError
import PyProof.Rows.RuleN_isinstance
import PyProof.MeetsSeq
import PyProof.RulesAs
import PyProof.IsiH_list
import PyProof.AttrMiss
import KE.KDictOf
import PyProof.Rows.SumAny
import PyProof.Rows.MinMaxN
import PyProof.Rows.SortShellK
import PyProof.Rows.SortWalk
import PyProof.ZipIter
import PyProof.WalksMore
import PyProof.DictWalks
import PyProof.AutoSeq1
import PyProof.Rows.Range3
import PyProof.CollectWalk
import KE.KSortTup
import PyProof.EnumMake
import PyProof.ListRange
import KE.KRevIter
import PySem.Challenge.RW_farclocks_k82_whole_desks_read
noncomputable section
open PySem.Challenge renaming pw_farclocks_k82_whole_desks_read→Ls,rw_farclocks_k82_whole_desks_read→OV
open PySem.AutoListH renaming list___mul___list_int_3→QZ
open PyProof.Rows renaming slot_tuple_getitem→LL,callWith_builtin1→Ol,callWith_type1→M0,subscriptTail_builtinR→PU,entry_tuple_getitem→OQ,args_tuple_getitem→Pa,slicePart_none→Pf,tupleItemsOf_→PF,subscriptTail→Rg,Subscript_→Rv,IntsAre→OR,AllBare→PD,IsTup→Ss
open Int renaming mul_le_mul_of_nonneg_left→Ny,eq_ofNat_of_zero_le→LU,emod_lt_of_pos→O9,toNat_natCast→ME,emod_nonneg→Qg,mul_comm→P4,ediv_one→RE,le_refl→Ng,neg_mul→Sg
open PySem.F renaming args_tuple_iterator_next_1→Oy,entry_tuple_iterator_next→OL,slot_tuple_iterator_next→M7,excBase_ValueError→OU,slot_list_getattribute→Nk,args_tuple_add_2→NX,slot_list_append→Pk,type_list_append→Pl,plainAttrs_list→MW,entry_tuple_add→N1,args_dict_get_2→Pw,slot_tuple_add→Oc,entry_dict_get→PN,slot_dict_get→Om,slot_enumerate_next→P8,args_int_rmul_2→Rl,slot_tuple_rmul→Rp,slot_tuple_mul→PJ,slot_int_index→RS,entry_int_rmul→RT,slot_int_rmul→OK,fills_int_mul→R9
open PySem.Builtin.Slice renaming slicePartIndex→RY,sliceApplied→M6,slicePlaces→Mc,sliceAdjust→Mx,sliceFields→Pd
open List renaming getElem?_append_right→L6,getD_eq_getElem?_getD→MM,nodup_iff_pairwise_ne→OY,getElem?_eq_some_iff→Ll,getElem?_append_left→LN,drop_eq_getElem_cons→NS,getElem?_eq_getElem→Lv,getElem?_take_of_lt→Pm,getElem?_replicate→Mi,getElem?_cons_succ→Ms,getElem?_set_self→LH,drop_eq_nil_of_le→Oe,map_eq_append_iff→PQ,mem_append_right→Lu,length_singleton→MU,getElem?_eq_none→Na,singleton_append→P5,dropLast_eq_take→Qb,take_append_drop→Qd,mem_cons_of_mem→K9,mem_append_left→LB,getElem?_set_ne→LC,mem_of_getElem?→Mu,mem_erase_of_ne→Qu,mem_of_mem_take→Qv,mem_of_mem_drop→Qw,filterMap_cons→MB,replicate_succ→MR,getElem_of_mem→Nr,map_congr_left→Nu,getElem?_range→QH,length_reverse→QK,drop_succ_cons→QP,length_append→Lb,mem_cons_self→Lg,mem_singleton→Lr,contains_cons→N7,mem_filterMap→O6,filterMap_map→QV,append_of_mem→Q8,size_toArray→Ln,getElem?_map→LD,append_assoc→LS,nodup_append→Mg,flatten_cons→Nj,reverse_cons→NL,length_range→NM,flatMap_cons→Pp,ext_getElem?→Ro,length_cons→Li,all_eq_true→LG,lookup_cons→L8,not_mem_nil→Mo,length_take→Mq,getElem_mem→Mz,mem_flatMap→MV,length_drop→Nx,getElem_map→PK,cons_append→PL,drop_length→RU,length_map→Lh,mem_append→Lw,nodup_cons→LF,append_nil→LR,map_append→LY,length_nil→My,length_set→MH,find?_cons→NH,of_mem_zip→N4,nil_append→OJ,range_succ→OM,mem_filter→R8,forIn_cons→Sa,idxOf_cons→Sf,replicate→LA,mem_range→L4,nodup_nil→NA,map_cons→Lf,mem_cons→Lj,sum_cons→MX,any_cons→Nt,mem_map→LM,map_nil→P3,map_map→Qa,toArray→RH,lookup→MQ,length→M4,range→L7,Nodup→MY,foldl→Pn,getD→Q1,cons→Q6
open Array renaming getElem?_eq_some_iff→ML,length_toList→OI,find?_toList→QU,toList→P2
open PySem.Builtin.Tuple renaming tupleItemsOf→NP,tupleIsExact→OS,tupleExact→L3
open PySem renaming wpAny_newFunctionEnv_cells→NQ,wpAny_binaryOp_repeat_ref→Pg,wpAny_getItem_list_slice→Pv,wpAny_callSpecial?_slot→MJ,wpAny_pyNext_list_item→PR,wpAny_Call_method_late→PV,codeAny_call_function→Os,wpAny_pyNext_list_end→Qj,wpAny_isTrue_Compare1→Qn,builtinLookup_eq_fast→Qo,mem_of_lookup→M5,wpAny_isSubtype_exc→QR,wpAny_Call_Name_kw→MI,tupleKind_room_in1→NF,wpAny_pyIter_tuple→Ob,wpAny_List_spliced→Rb,wpAny_newObj_type→Mh,foldedSetIterable→Mt,wpAny_truthy_bool→MF,wpAny_pyIter_list→Pt,wpAny_sequenceKey→Pu,wpAny_assign_Name→Rt,wpAny_pyIter_enum→Rx,wpAny_loadPart_at→Ry,wpAny_call_entry→Nz,noFill_tuple_add→PM,seqSlot_of→RV,wpAny_execs_cons→RX,wpAny_loadPart'→Nn,wpAny_execs_nil→N9,letOwnedTupleGo→Oa,importedModules→Qi,pushCells_keeps→Qm,wpAny_passesOwn→Sh,typeLookup_type→So,codeAny_builtin→Sq,wpAny_seqItems→Qy,wpAny_setField→Qz,attributeBase→LP,behindInMarks→Nv,swapsWithSole→OA,swappedStores→OB,wpAny_holding→OD,seq_tuple_add→Rc,evalPart_none→Rf,bootBuiltins→Mf,codeAny_mono→N0,wpAny_typeOf→Ot,Within→RB,codeAny_func→RJ,concat_meets→RL,mainGlobals→LV,wpAny_field→MS,keywordEach→NJ,excClassObj→NW,sliceBounds→Oh,sizeLine_eq→ON,subscripted→QQ,wpAny_bind→Lc,wpAny_pure→Lm,assignEach→L9,wpAny_mono→M9,sysModules→NO,call_meets→Oi,builtinsNs→Pq,wpAny_call→Qq,typeIs_int→Qr,typeLookup→Ru,wpAny_rule→Rw,compareOp→L0,swapsWith→L5,cellsFrom→Nm,getMethod→OP,tupleKind→Pr,Arguments→Qh,pushCells→Ql,treeTable→Ra,slicePick→Sj,noteFrame→Sm,starEach→Lx,FuncData→Mp,boot_len→MA,binaryOp→MN,NameKind→NN,backToKw→Pb,callWith→Rh,bindArgs→RZ,Program→LI,OsState→Pe,BindsTo→Qk,Keyword→Sk,Shared→Ld,Around→LZ,IsPart→Re,Result→Si,Paired→Su,Value→La,World→Mj,Scope→Ov,CmpOp→Sn
open PySem.Calls renaming Name_function_global→OW,callWith_builtin→NC,evalArgs_plain→NR,spliced_cons→N3,spliced_nil→Og
open PySem.Builtin.SmallTypes renaming nextOf→Nc
open PySem.Builtin.List renaming listTooLong→Nh
open PySem.Builtin.Dict renaming updateFrom→Px
open PySem.Heap renaming get?_push_of_some→Lk,get?_update_other→Od,get?_update_self→P6,get?_push_size→Lz,NewAttrErr→Sd,size_push→Nd,IsSliceOf→Sr,lt_size→Lq,SameBut→Oo
open PySem.W renaming cellsFrom_some→NB,methodCall_KW→On,hideAll_none→Ox,hideAll_get→Np,plainGet_of→OH,callWith_K0→QC,callWith_K→ND,of_hideAll→OZ,codeRec_of→O0,emptyDict→MC,methodObj→Ph,hasDictIn→Pj,plainOver→Ri,kitx_list→Rj,kitx_dict→Rk,plainGet→Ou,openSeen→RM,openGood→RN,handedIn→RO,kia_one→Mw,instObj→MZ,topFrom→OG,hideAll→PX,takerIn→PY,makesIn→R5,findIn→MT,keepIn→Nb,lookIn→Pc,codeIn→Qx,mg_of→NK,Frag→K7,nsIn→NY,fnOf→Oj,isFn→RA
open Option renaming map_eq_some_iff→PP,isSome_some→Q0,isSome_map→Rq,getD_none→RQ,some→Md
open PySem.Obj renaming isFreed_of_fields→P7,data_mapFields→N6,mapFields→Q3
open Bool renaming and_eq_false_iff→Qe,and_eq_true_iff→Mv,or_eq_false_iff→Qt,false_ne_true→LK,not_eq_true'→Rr,and_eq_true→K8,or_eq_true→Sb,true_and→Oz,false_or→Q2,and_true→Q9
open PySem.Around renaming under_plainId→Qs,units→O8,under→RC
open PySem.Heap.SameBut renaming update→QB
open Nat renaming lt_of_lt_of_le→Ly,lt_of_le_of_lt→Q7,le_of_succ_le→Po,lt_succ_of_lt→Rm,lt_succ_self→PH,mod_eq_of_lt→RW,lt_irrefl→LQ,le_trans→Me,ne_of_lt→MD,zero_add→MK,le_of_lt→NZ,le_of_eq→Oq,ne_of_gt→O5,sub_self→O7,sub_zero→P9,add_comm→RF,mul_comm→RG,le_refl→Lo,zero_le→Nq
open PySem.Heap.IsSliceOf renaming new→O4
open Option.some renaming injEq→Of,inj→LX
open PySem.P renaming add_list→RP
open ForInStep renaming yield→NG
open List.cons renaming injEq→PZ
open PySem.Expr renaming Subscript→NT,Attribute→NU,Constant→PB,ListComp→Q5,UnaryOp→Qc,Compare→RI,BoolOp→Nf,Name→Ma,Call→Nl
open PySem.NameKind renaming free→L1,cell→MG
open Prod.mk renaming injEq→Py,inj→R6
open PySem.Paired renaming length→Pz
open PySem.Str renaming ofString→Lp
open PySem.Code renaming isFrame→RD
open PySem.Stmt renaming Assign→PC
open PySem.Scope renaming names→QL
open PySem.Pos renaming endLine→QN,line→N8
open PySem.Value renaming float→R7,none→LW,bool→Mr,type→OF,ref→LJ,int→MO,str→MP
open False renaming elim→M8
open True renaming intro→Ni
open PySem.BoolOp renaming And→Qp,Or→Q4
open PySem.Env renaming scope→NI
open PyProof.Rows.IsTup renaming new→QY
open Ne renaming symm→NV
open Iff renaming rfl→N5
open Sum renaming inl→QD,inr→QF
open Prod renaming mk→Rn
set_option Elab.async false
set_option linter.all false
set_option maxRecDepth 100000
set_option maxHeartbeats 8000000
noncomputable section
abbrev nDb (x:PySem.Str):Prop:=(x == PySem.Str.ofString "__debug__")=false
theorem aqa (h:True:=by first | exact .inl rfl | exact .inr rfl | assumption):True:=trivial
theorem aqb (h:True:=by decide):True:=trivial
theorem aqc (h:True:=by intro _;rfl):True:=trivial
theorem aqd (h:True:=by rfl):True:=trivial
theorem aqe (h:True:=by first | exact Or.inl rfl | exact Or.inr (Or.inl rfl) | exact Or.inr (Or.inr rfl)):True:=trivial
theorem aqf (h:True:=by with_unfolding_all rfl):True:=trivial
theorem aqg (h:True:=by intro _ _;rfl):True:=trivial
theorem aqh (h:True:=by first | exact Or.inl rfl | exact Or.inr rfl):True:=trivial
theorem aqi (h:True:=by decide+kernel):True:=trivial
namespace L2
open PySem PySem.Spec PyProof.Rows
inductive V where
 | non | bl (b:Bool) | int (i:Int) | str (x:Str) | byt (b:Array UInt8) | flt (b:UInt64) | ref (a:Addr) | ty (n:String)
 deriving DecidableEq
def cV (s:Stmt)(j:Nat):Stmt:=match s with
 | .ClassDef _ _ _ body _ _ _ _ _ _ _=>body.getD j (.Pass ⟨0,0,0,0⟩)
 | _=> .Pass ⟨0,0,0,0⟩
def fD (s:Stmt):Qh:=match s with
 | .FunctionDef _ a _ _ _ _ _ _ _ _=>a
 | _=> { posonlyargs:=[],args:=[],vararg:=none,kwonlyargs:=[],kw_defaults:=[],kwarg:=none,defaults:=[] }
def bM (s:Stmt):List Stmt:=match s with
 | .FunctionDef _ _ b _ _ _ _ _ _ _=>b
 | _=> []
def aj (s:Stmt):Ov:=match s with
 | .FunctionDef _ _ _ _ _ _ sc _ _ _=>sc
 | _=> { kind:=.function,names:=[],isGenerator:=false,isCoroutine:=false }
end L2
namespace Tr
open PySem PySem.Spec PyProof.Rows L2
inductive T where
 | non | bl (b:Bool) | int (i:Int) | str (x:Str) | tup (l:List T) | lst (l:List T)
 /-- the law's script: a list of ints that is only read -/
 | scr (l:List Int)
 /-- a dict: its keys,its values -/
 | dct (ks vs:List T)
 /-- an instance: its class,the names of its attributes,what they are -/
 | ob (C:Str) (ns:List Str) (ts:List T)
inductive OT where
 | lst (l:List T) | dct (ks ts:List T) | dd (ks:List T) (rows:List (List T×List T))
 /-- an instance,its attributes own lists -/
 | ob (C:Str) (ns:List Str) (ls:List (List T))
def OT.view:OT->T
 | .lst l=> .lst l
 | .dct ks ts=> .dct ks ts
 | .dd ks rows=> .dct ks (rows.map λr=> .dct r.1 r.2)
 | .ob C ns ls=> .ob C ns (ls.map T.lst)
def calmNames:List Str:=["__init__","__getattribute__","__getattr__","__class__"]
def zL:La->Bool
 | .str _ _=>true
 | _=>false
end Tr
namespace Tr
def fT:List Int->List Int->Bool
 | [],[] =>false
 | [],_::_=>true
 | _::_,[] =>false
 | a::l,b::m=>if a=b then fT l m else decide (a<b)
end Tr
namespace Tr
open PySem PySem.Spec PyProof.Rows L2
structure RK where
 V:Heap->La->List Int->Prop
 inj:∀{h v a b},V h v a->V h v b->a=b
 on:∀{h h':Heap} {v a},V h v a->(∀b o,h.get? b=some o->h'.get? b=some o)->V h' v a
 fst:∀{h v a},V h v a->∃ad xs n o m t,v= .ref ad/\h.get? ad=some o/\o.cls= .type "tuple"/\o.data= .seq xs n/\xs[0]? =some (.int m t)
 lt:∀{prog w A s E x y a b} {Q:Bool->Ld->Prop},A.units+60<cLine->V s.heap x a->V s.heap y b->Q (fT a b) s->wpAny (model prog w) A (keyLt' (tuples' true) x y) Q E s
variable (R:RK)
open Classical in
def RK.key (h:Heap)(v:La):Option (List Int):=if e:∃ns,R.V h v ns then some e.choose else none
variable {R:RK}
end Tr
namespace Tr
open PySem PySem.Spec PyProof.Rows L2 PySem.W
def u5 (h:Heap):Frag:=(L7 h.objs.size).filterMap λa=>(h.get? a).map λo=>(a,o)
def obF (K:Frag)(n:Str):Option (Str×Str×Qh×FuncBody×Ov×Addr×List (Str×Addr)×La×Addr×Bool×Bool):=match nsIn K LV n with
 | some (some (.ref f))=>match K.lookup f with
  | some ⟨_,_,.func d,_⟩=>some (d.name,d.qualname,d.params,d.body,d.scope,d.globals,d.closure,d.defaults,d.builtins,codeIn K d.code n,keepIn K (.ref f))
  | _=>none
 | _=>none
def exF (n:Str)(st:Stmt):Option (Str×Str×Qh×FuncBody×Ov×Addr×List (Str×Addr)×La×Addr×Bool×Bool):=
 some (n,n,fD st,.stmts (bM st),aj st,LV,[],.none,Pq,true,true)
def Jg (K:Frag)(N:Addr)(n:Str):Bool:=match nsIn K N n with | some none=>true | _=>false
def J8 (K:Frag)(n:Str):Option Int:=match nsIn K LV n with | some (some (.int i _))=>some i | _=>none
def w9:List La->Bool
 | [.type a,.type b,.type c,.type d] =>a == "ValueError" &&b == "Exception" &&c == "BaseException" &&d == "object"
 | _=>false
def under (D:Option Addr)(m:List La):Bool:=match D with
 | none=>w9 m
 | some D=>match m with
  | .ref E::m=>E == D&&w9 m
  | _=>false
def DM (K:Frag)(D:Option Addr)(n:Str):Option Addr:=match nsIn K LV n with
 | some (some (.ref C))=>match K.lookup C with
  | some ⟨.type t,_,.cls c,⟨[_,_,_,_,some (.builtin b),_]⟩⟩=>match c.mro,K.lookup c.ns with
   | .ref E::m,some ⟨_,_,.dict es _,_⟩=>
    if (t == "type" &&b == "ValueError.__new__" && !c.hasDel&&(es.toList.all λe=>zL e.key)&&calmNames.all (Jg K c.ns)&&E == C&&under D m)=true then some C else none
   | _,_=>none
  | _=>none
 | _=>none
def wO {α:Type}:List (Option α)->Option (List α)
 | [] =>some []
 | none::_=>none
 | some a::r=>match wO r with | some l=>some (a::l) | none=>none
def r8:List Addr->Bool
 | [] =>true
 | a::r=>(r.all λb=> !(a == b))&&r8 r
def J6 (K:Frag):List Str->Bool
 | [] =>true
 | m::es=>match DM K none m with
  | some D=>match wO (es.map (DM K (some D)))with | some l=>r8 (l++ [D]) | none=>false
  | none=>false
structure Cj where
 tab:List (Str×Nat)
 zs:List Str
 cs:List (Str×Int)
 es:List Str
def uE (S:Cj)(K:Frag):=(S.tab.map (λp=>obF K p.1),S.zs.all (Jg K LV),S.cs.map (λc=>J8 K c.1),J6 K S.es)
def tU (S:Cj)(top:Nat->Stmt):=(S.tab.map (λp=>exF p.1 (top p.2)),true,S.cs.map (λc=>some c.2),true)
def Jh (K:Frag)(C:Addr)(m q:Str):Option (Str×Str×Qh×FuncBody×Ov×Addr×List (Str×Addr)×La×Addr×Bool×Bool×Bool):=match findIn K (.ref C) m with
 | some (some (.ref f))=>match K.lookup f with
  | some ⟨_,_,.func d,_⟩=>some (d.name,d.qualname,d.params,d.body,d.scope,d.globals,d.closure,d.defaults,d.builtins,codeIn K d.code q,keepIn K (.ref f),isFn K (.ref f))
  | _=>none
 | _=>none
def JN (m q:Str)(st:Stmt):Option (Str×Str×Qh×FuncBody×Ov×Addr×List (Str×Addr)×La×Addr×Bool×Bool×Bool):=
 some (m,q,fD st,.stmts (bM st),aj st,LV,[],.none,Pq,true,true,true)
def GP (K:Frag)(C:Addr)(f:Str):Bool:=match findIn K (.ref C) f with | some none=>true | _=>false
def FP (K:Frag)(C:Addr):Bool:=match findIn K (.ref C) "__setattr__" with | some (some (.builtin b))=>b == "object.__setattr__" | _=>false
def Fi (K:Frag)(C:Addr)(as:List Str):Bool:=plainGet K C Str.empty&&hasDictIn K C&&plainOver K C&&FP K C&&makesIn K C&&keepIn K (.ref C)&&as.all (GP K C)
structure ER where
 c:Str
 i:Nat
 as:List Str
 ms:List (Str×Str×Nat)
def J7 (K:Frag)(A:ER):=match nsIn K LV A.c with
 | some (some (.ref C))=>some (Fi K C A.as,A.ms.map λ(m:Str×Str×Nat)=>Jh K C m.1 m.2.1)
 | _=>none
def J9 (top:Nat->Stmt)(A:ER):=some (true,A.ms.map λ(m:Str×Str×Nat)=>JN m.1 m.2.1 (cV (top A.i) m.2.2))
structure vt where
 a:Cj
 ks:List ER
def Aw (S:vt)(K:Frag):=(uE S.a K,S.ks.map (J7 K))
def zG (S:vt)(top:Nat->Stmt):=(tU S.a top,S.ks.map (J9 top))
end Tr
namespace G
open PySem PySem.Spec PyProof.Rows L2 Tr
def top (i:Nat):Stmt:=Ls.main.body.getD i (.Pass ⟨0,0,0,0⟩)
def BZ:Cj:=⟨([("is_long",18),("is_whole",16),("is_within",17),("is_pace",21),("rises",19),("are_readings",20),("is_clock",22),("are_clocks",23),("is_event",24),("is_delay",25),("is_letter",26),("are_letters",27),("is_record",28),("need_record",29),("events",32)]:List (Str×Nat))++([("is_better",44),("settle",43),("greatest_world",46),("bounds_of_clock",39),("bounds_of_letter",40),("bounds",41),("world",47),("has_world",48),("need_world",49),("_law_cell",61),("_law_drawn",62),("_law_events",65),("_law_letter",64),("_law_clock",63),("_law_record",66)]:List (Str×Nat))++([("need_number",31),("if_record",34),("with_clock",36),("with_reading",37),("need_event",30),("need_events",53),("most_of",55),("walks_from",54),("most_between",56),("least_between",57),("surely_ahead",59),("_law_reads",68),("with_letter",35),("_law_takes",67),("law",69)]:List (Str×Nat)),(["all","bool","dict","enumerate","int","isinstance","len","range","tuple"]:List Str),[("MOST_CLOCKS",4),("MOST_LETTERS",8),("MOST_READINGS",4),("LAST_READING",99),("SLOWEST",9),("LONGEST",999)],["ClockError","NoRecord","NoEvent","NoNumber","NoWorld","Barred","Nothing"]⟩
def asks:vt:=⟨BZ,[⟨"Desk",51,["kept"],[("__init__","Desk.__init__",0),("many","Desk.many",7),("undo","Desk.undo",6),("record","Desk.record",1),("keep","Desk.keep",2),("read","Desk.read",4),("take","Desk.take",3)]⟩]⟩
def vw:LI:=PySem.W.view Ls [69]
def lse:List Str:=(["_wall","ClockError","NoRecord","NoEvent","NoNumber","NoWorld","Barred","Nothing","MOST_CLOCKS","MOST_LETTERS","MOST_READINGS","LAST_READING","SLOWEST","LONGEST","is_whole","is_within","is_long","rises","are_readings","is_pace"]:List Str)++(["is_clock","are_clocks","is_event","is_delay","is_letter","are_letters","is_record","need_record","need_event","need_number","events","if_record","with_letter","with_clock","with_reading","bounds_of_clock","bounds_of_letter","bounds","settle","is_better"]:List Str)++(["greatest_world","world","has_world","need_world","Desk","need_events","walks_from","most_of","most_between","least_between","surely_ahead","_law_cell","_law_drawn","_law_clock","_law_letter","_law_events","_law_record","_law_takes","_law_reads"]:List Str)
def lhs (w:Mj)(h:Heap)(d:Drawn)(t:Nat)(os:Pe):=(OG Ra Ls w 9000 ⟨h,⟨[]⟩,d,t,os⟩).map (λs=>(RM vw lse (Qi Ls.main.body) (λ_=>true) true s,Aw asks (u5 s.heap)))
def rhs (w:Mj):=some (RN vw lse,zG asks top)
end G
set_option maxHeartbeats 1000000
set_option maxHeartbeats 1000000
set_option maxHeartbeats 1000000
set_option maxHeartbeats 1000000
set_option maxHeartbeats 4000000
set_option maxHeartbeats 4000000
set_option maxHeartbeats 4000000
namespace G
open PySem Tr PySem.W PyProof.Rows
def lhA (w:Mj)(h:Heap)(d:Drawn)(t:Nat)(os:Pe):=(OG Ra Ls w 9000 ⟨h,⟨[]⟩,d,t,os⟩).map λs=>RM vw lse (Qi Ls.main.body) (λ_=>true) true s
def rhA (_:Mj):=some (RN vw lse)
theorem lhA_r:lhA=lhA:=rfl
theorem rhA_r:rhA=rhA:=rfl
def lhB (w:Mj)(h:Heap)(d:Drawn)(t:Nat)(os:Pe):=(OG Ra Ls w 9000 ⟨h,⟨[]⟩,d,t,os⟩).map λs=>uE asks.a (u5 s.heap)
def rhB (_:Mj):=some (tU asks.a top)
theorem lhB_r:lhB=lhB:=rfl
theorem rhB_r:rhB=rhB:=rfl
def lhC (w:Mj)(h:Heap)(d:Drawn)(t:Nat)(os:Pe):=(OG Ra Ls w 9000 ⟨h,⟨[]⟩,d,t,os⟩).map λs=>asks.ks.map (J7 (u5 s.heap))
def rhC (_:Mj):=some (asks.ks.map (J9 top))
theorem lhC_r:lhC=lhC:=rfl
theorem rhC_r:rhC=rhC:=rfl
theorem join3 {α β γ δ:Type}{o:Option α}{f:α->β}{g:α->γ}{k:α->δ}{a:β}{b:γ}{c:δ}(h1:o.map f=some a)(h2:o.map g=some b)(h3:o.map k=some c):o.map (λs=>(f s,g s,k s))=some (a,b,c):=by
 cases o with
 | none=>cases h1
 | some s=>cases h1;cases h2;cases h3;rfl
end G
lay_quick G.lhA G.rhA G.lhB G.rhB G.lhC G.rhC
name_quick lhAz for G.lhA by G.lhA_r
name_quick rhAz for G.rhA by G.rhA_r
name_quick lhBz for G.lhB by G.lhB_r
name_quick rhBz for G.rhB by G.rhB_r
name_quick lhCz for G.lhC by G.lhC_r
name_quick rhCz for G.rhC by G.rhC_r
section
open PySem PySem.W PyProof.Rows
set_option maxRecDepth 100000 in
theorem G.KO (w:Mj)(os:Pe):PySem.W.Fast.lhAz w (boot_heap w.params) boot_drawn boot_toks os=PySem.W.Fast.rhAz w:=by kernel_rfl
set_option maxRecDepth 100000 in
theorem G.KQ (w:Mj)(os:Pe):PySem.W.Fast.lhBz w (boot_heap w.params) boot_drawn boot_toks os=PySem.W.Fast.rhBz w:=by kernel_rfl
set_option maxRecDepth 100000 in
theorem G.KY (w:Mj)(os:Pe):PySem.W.Fast.lhCz w (boot_heap w.params) boot_drawn boot_toks os=PySem.W.Fast.rhCz w:=by kernel_rfl
theorem G.KR (w:Mj)(os:Pe):G.lhs w (boot_heap w.params) boot_drawn boot_toks os=G.rhs w:=G.join3 (((congrFun (congrFun (congrFun (congrFun (congrFun PySem.W.Fast.lhAz_eq w) _) _) _) os).trans (G.KO w os)).trans (congrFun PySem.W.Fast.rhAz_eq w).symm) (((congrFun (congrFun (congrFun (congrFun (congrFun PySem.W.Fast.lhBz_eq w) _) _) _) os).trans (G.KQ w os)).trans (congrFun PySem.W.Fast.rhBz_eq w).symm) (((congrFun (congrFun (congrFun (congrFun (congrFun PySem.W.Fast.lhCz_eq w) _) _) _) os).trans (G.KY w os)).trans (congrFun PySem.W.Fast.rhCz_eq w).symm)
end
namespace L2
open PySem PySem.Spec PyProof.Rows
abbrev Key:=Sum Int Str
def qt:Key->La->Bool
 | .inl k,v=>Value.isInt k v
 | .inr x,v=>Value.isStrOf x v
def keyH (w:Mj):Key->Int
 | .inl k=>hashInt k
 | .inr x=>hashStr w x
theorem cx:∀{k:Key} {v:La},qt k v=true->(∃i t,k=QD i/\v=MO i t)\/(∃x t,k=QF x/\v=MP x t)
 | .inl i,v,h=>by
  obtain⟨t,e⟩:=Value.isInt_shape (k:=i) (v:=v) h
  exact .inl ⟨i,t,rfl,e⟩
 | .inr x,v,h=>by
  obtain⟨t,e⟩:=Value.isStrOf_shape (x:=x) (v:=v) h;exact .inr ⟨x,t,rfl,e⟩
theorem yW (i:Int)(t:Tok):qt (.inl i) (.int i t)=true:=by simp[qt,Value.isInt]
theorem yV (x:Str)(t:Tok):qt (.inr x) (.str x t)=true:=by simp[qt,Value.isStrOf]
theorem G2 (a b:Int):decide ((QD a:Key)=QD b)=(a == b):=by
 by_cases e:a=b
 ·subst e;simp
 ·have h:¬ (QD a:Key)=QD b:=λq=>e (QD.inj q)
  rw[decide_eq_false h];exact(beq_eq_false_iff_ne.mpr e).symm
theorem GZ (a b:Str):decide ((QF a:Key)=QF b)=decide (a=b):=by
 by_cases e:a=b
 ·subst e;simp
 ·have h:¬ (QF a:Key)=QF b:=λq=>e (QF.inj q)
  rw[decide_eq_false h,decide_eq_false e]
theorem G1 (a:Int)(b:Str):decide ((QD a:Key)=QF b)=false:=decide_eq_false (λq=>nomatch q)
theorem G0 (a:Str)(b:Int):decide ((QF a:Key)=QD b)=false:=decide_eq_false (λq=>nomatch q)
def cF (prog:LI)(w:Mj):PySem.KeyKind prog w Key where
 is:=qt
 hash:=keyH w
 inj:=λv a b ha hb=>by
  rcases cx ha with⟨i,t,rfl,rfl⟩ | ⟨x,t,rfl,rfl⟩
  ·rcases cx hb with⟨j,u,rfl,e⟩ | ⟨y,u,rfl,e⟩
   ·injection e with e1 _;rw[e1]
   ·exact nomatch e
  ·rcases cx hb with⟨j,u,rfl,e⟩ | ⟨y,u,rfl,e⟩
   ·exact nomatch e
   ·injection e with e1 _;rw[e1]
 byValue:=λk v h=>by
  rcases cx h with⟨i,t,rfl,rfl⟩ | ⟨x,t,rfl,rfl⟩ <;> rfl
 pyHash:=λhv h=>by
  rcases cx hv with⟨i,t,rfl,rfl⟩ | ⟨x,t,rfl,rfl⟩
  ·exact wpAny_pyHash_int h
  ·exact wpAny_pyHash_str h
 eqBool:=λhu hv h=>by
  rcases cx hu with⟨i,t,rfl,rfl⟩ | ⟨x,t,rfl,rfl⟩
  ·rcases cx hv with⟨j,u,rfl,rfl⟩ | ⟨y,u,rfl,rfl⟩
   ·rw[G2]at h;exact wpAny_eqBool_int h
   ·rw[G1]at h;exact SeqAt.EqAt.int_str i t y u _ _ _ _ h
  ·rcases cx hv with⟨j,u,rfl,rfl⟩ | ⟨y,u,rfl,rfl⟩
   ·rw[G0]at h;exact SeqAt.EqAt.str_int x t j u _ _ _ _ h
   ·rw[GZ]at h;exact wpAny_eqBool_str h
 «strs»:=λk x t v h=>by
  rcases cx h with⟨i,u,rfl,e⟩ | ⟨y,u,rfl,e⟩
  ·exact nomatch e
  ·injection e with e1 _
   subst e1;cases v <;> rfl
theorem uQ (prog:LI)(w:Mj)(i:Int)(t:Tok):(cF prog w).is (.inl i) (.int i t)=true:=yW i t
theorem uP (prog:LI)(w:Mj)(x:Str)(t:Tok):(cF prog w).is (.inr x) (.str x t)=true:=yV x t
def RelV:V->La->Prop
 | .non,u=>u=LW
 | .bl b,u=>u=Mr b
 | .int i,u=> ∃t,u=MO i t
 | .str x,u=> ∃t,u=MP x t
 | .byt b,u=> ∃t,u=Value.bytes b t
 | .flt b,u=> ∃t,u=R7 b t
 | .ref a,u=>u=LJ a
 | .ty n,u=>u=OF n
abbrev Vals:List V->List La->Prop:=Su RelV
theorem Vals.length {xs:List V}{us:List La}(r:Vals xs us):xs.length=us.length:=Pz r
theorem Vals.get:∀{xs:List V} {us:List La} {i:Nat} {x:V},Vals xs us->xs[i]? =some x->∃u,us[i]? =some u/\RelV x u
 | _,_,_,_,.nil,e=>by simp at e
 | _,_,0,_,.cons r _,e=>by simp at e;subst e;exact⟨_,rfl,r⟩
 | _,_,i+1,x,.cons _ t,e=>by
  obtain⟨u,h1,h2⟩:=Vals.get (i:=i) (x:=x) t (by simpa using e)
  exact⟨u,by simpa using h1,h2⟩
theorem Vals.append:∀{xs ys:List V} {us ws:List La},Vals xs us->Vals ys ws->Vals (xs++ys) (us++ws)
 | _,_,_,_,.nil,s=>s
 | _,_,_,_,.cons r t,s=> .cons r (Vals.append t s)
theorem Vals.take:∀{xs:List V} {us:List La} (n:Nat),Vals xs us->Vals (xs.take n) (us.take n)
 | _,_,0,_=> .nil
 | _,_,_+1,.nil=> .nil
 | _,_,n+1,.cons r t=> .cons r (Vals.take n t)
theorem Vals.drop:∀{xs:List V} {us:List La} (n:Nat),Vals xs us->Vals (xs.drop n) (us.drop n)
 | _,_,0,r=>r
 | _,_,_+1,.nil=> .nil
 | _,_,n+1,.cons _ t=>Vals.drop n t
def RelO:Option V->Option La->Prop
 | some v,some u=>RelV v u
 | none,none=>True
 | _,_=>False
def KV {κ:Type}:List (κ×V)->List (κ×La)->Prop:=Su λ(p:κ×V) (q:κ×La)=>p.1=q.1/\RelV p.2 q.2
def kV:Key->V
 | .inl i=> .int i
 | .inr x=> .str x
inductive HO where
 /-- a list -/
 | lst (xs:List V)
 /-- a tuple (never changes) -/
 | tup (xs:List V)
 /-- a dict whose keys are ints and texts;one whose keys are tuples of ints and texts (the empty one is both) -/
 | dK (kvs:List (Key×V)) | dT (kvs:List (List Key×V))
 /-- a set of ints: its members,its size -/
 | set (S:Int->Bool) (n:Nat)
 /-- an instance of the class at C,its dict at dx,its attributes -/
 | ins (C dx:Addr) (fs:List (Str×V))
 /-- the dict of the instance at x -/
 | own (x:Addr)
 /-- the dict of an exception -/
 | xd (fs:List (Str×V))
 /-- a bound method,f of x -/
 | met (f x:Addr)
 /-- a range object lo,lo+1,.. below hi -/
 | rng (lo hi:Int)
 /-- a thing that is known to the object (the script;a dict while a loop walks it): read,never written while it is so -/
 | frz (o:Obj) (u:HO)
 /-- a code object's table -/
 | tbl (ps:Array La)
 /-- any other thing,by what is true of its one object (a def of one's own: SetO a S n:=HO.ext λh=> ..) -/
 | ext (φ:Heap->Prop)
abbrev Hp:=Addr->Option HO
def upd (H:Hp)(a:Addr)(o:HO):Hp:=λb=>if b=a then some o else H b
theorem aT {H:Hp}{a:Addr}{o:HO}:upd H a o a=some o:=by unfold upd;rw[if_pos rfl]
theorem aH {H:Hp}{a b:Addr}{o:HO}(h:b≠a):upd H a o b=H b:=by unfold upd;rw[if_neg h]
theorem qU {H:Hp}{a:Addr}{o u:HO}:upd (upd H a o) a u=upd H a u:=by
 funext b;unfold upd;split <;> rfl
theorem oh {H:Hp}{a b:Addr}{o u:HO}(h:H a=some o)(h':H b=some u)(d:o≠u):a≠b:=by
 intro e;subst e;rw[h]at h';exact d (LX h')
theorem bX {H:Hp}{a b:Addr}{o:HO}(h:H a=some o)(h':H b=none):a≠b:=by
 intro e;subst e;rw[h]at h';cases h'
section
variable (P:LI)(w:Mj)
def ObjOk (H:Hp)(h:Heap)(a:Addr):HO->Prop
 | .lst xs=>xs.length<=sizeLine/\∃(its:List La) (n:Nat),Vals xs its/\h.get? a=some { cls:=.type "list",data:=.seq its.toArray n }
 | .tup xs=>xs.length<=sizeLine/\∃its:List La,Vals xs its/\Ss h a its.toArray
 | .dK kvs=>kvs.length<=sizeLine/\(a == NO)=false/\∃vs,KV kvs vs/\h.DictOf (cF P w) a vs
 | .dT kvs=>kvs.length<=sizeLine/\(a == NO)=false/\∃xs:List (List Key×Addr×La),
   Su (λ(p:List Key×V) (q:List Key×Addr×La)=>p.1=q.1/\H q.2.1=some (.tup (p.1.map kV))/\RelV p.2 q.2.2) kvs xs ∧
   ∃o es ep,h.get? a=some o/\o.ExactDict/\o.data= .dict es ep/\es.toList=xs.map (entryOfKey (Pr (cF P w)))/\(xs.map (·.1)).Nodup
 | .set S n=>h.SetOf (intKind P w) a S n
 | .ins C dx fs=>H dx=some (.own a)/\fs.length<=1000/\dx≠a/\h.get? a=some (MZ C dx) ∧
   ∃mA,h.Ns1 dx mA/\(∀f,RelO (fs.lookup f) (mA f))/\RB mA (fs.map (·.1))
 | .own _=> ∃o,h.get? a=some o
 | .xd fs=> ∃mA,h.Ns1 a mA/\∀f,RelO (fs.lookup f) (mA f)
 | .rng lo hi=> ∃t u v,h.get? a=some { cls:=.type "range",data:=.fields #[.int lo t,.int hi u,.int 1 v] }
 | .frz o u=>h.get? a=some o/\ObjOk H h a u
 | .tbl ps=>h.get? a=some { cls:=.none,data:=.fields ps }
 | .met f x=>h.get? a=some (Ph (.ref f) (.ref x))
 | .ext φ=>φ h/\(∃o,h.get? a=some o)/\∀h1 h2:Heap,φ h1->(∀o,h1.get? a=some o->h2.get? a=some o)->φ h2
def HOk (H:Hp)(h:Heap):Prop:=∀a o,H a=some o->ObjOk P w H h a o
end
section
variable {P:LI}{w:Mj}{H H':Hp}{h h':Heap}{a:Addr}{o:HO}
theorem ObjOk.lt (x:ObjOk P w H h a o):a<h.objs.size:=by
 cases o with
 | lst xs=>obtain⟨_,_,_,_,e⟩:=x;exact Lq e
 | tup xs=>obtain⟨_,_,_,p⟩:=x;exact p.lt
 | dK kvs=>obtain⟨_,_,_,_,o,_,_,e,_⟩:=x;exact Lq e
 | dT kvs=>obtain⟨_,_,_,_,o,_,_,e,_⟩:=x;exact Lq e
 | set S n=>obtain⟨o,_,_,_,e,_⟩:=x;exact Lq e
 | ins C dx fs=>obtain⟨_,_,_,e,_⟩:=x;exact Lq e
 | own y=>obtain⟨_,e⟩:=x;exact Lq e
 | xd fs=>obtain⟨_,⟨_,_,_,e,_⟩,_⟩:=x;exact Lq e
 | rng lo hi=>obtain⟨_,_,_,e⟩:=x;exact Lq e
 | frz ob u=>obtain⟨e,_⟩:=x;exact Lq e
 | tbl ps=>exact Lq (show h.get? a=some _ from x)
 | met f y=>exact Lq (show h.get? a=some _ from x)
 | ext φ=>obtain⟨_,⟨_,e⟩,_⟩:=x;exact Lq e
theorem Paired.KL {α β:Type}{F G:α->β->Prop}:∀{l₁:List α} {l₂:List β},Su F l₁ l₂->(∀a b,F a b->G a b)->Su G l₁ l₂
 | _,_,.nil,_=> .nil
 | _,_,.cons r t,f=> .cons (f _ _ r) (Paired.KL t f)
theorem ObjOk.stay (x:ObjOk P w H h a o)(k:∀b u,(b=a\/H b=some (.own a))->h.get? b=some u->h'.get? b=some u)
  (ho:∀b,H b=some (.own a)->H' b=some (.own a)) (ht:∀b xs,H b=some (.tup xs)->H' b=some (.tup xs)):ObjOk P w H' h' a o:=by
 induction o with
 | lst xs=>obtain⟨z,its,n,r,e⟩:=x;exact⟨z,its,n,r,k _ _ (.inl rfl) e⟩
 | tup xs=>obtain⟨z,its,r,ob,e,c⟩:=x;exact⟨z,its,r,ob,k _ _ (.inl rfl) e,c⟩
 | dK kvs=>obtain⟨z,y,vs,r,ob,es,ep,e,c⟩:=x;exact⟨z,y,vs,r,ob,es,ep,k _ _ (.inl rfl) e,c⟩
 | dT kvs=>
  obtain⟨z,y,xs,r,ob,es,ep,e,c⟩:=x
  exact⟨z,y,xs,Paired.KL r λp q z=>⟨z.1,ht _ _ z.2.1,z.2.2⟩,ob,es,ep,k _ _ (.inl rfl) e,c⟩
 | set S n=>obtain⟨ob,es,ep,t,e,c⟩:=x;exact⟨ob,es,ep,t,k _ _ (.inl rfl) e,c⟩
 | ins C dx fs=>
  obtain⟨d,z,ne,e,mA,⟨od,es,ep,e2,c⟩,r⟩:=x
  exact⟨ho _ d,z,ne,k _ _ (.inl rfl) e,mA,⟨od,es,ep,k _ _ (.inr d) e2,c⟩,r⟩
 | own y=>obtain⟨ob,e⟩:=x;exact⟨ob,k _ _ (.inl rfl) e⟩
 | xd fs=>obtain⟨mA,⟨od,es,ep,e,c⟩,r⟩:=x;exact⟨mA,⟨od,es,ep,k _ _ (.inl rfl) e,c⟩,r⟩
 | rng lo hi=>obtain⟨t,u,v,e⟩:=x;exact⟨t,u,v,k _ _ (.inl rfl) e⟩
 | frz ob u ih=>obtain⟨e,q⟩:=x;exact⟨k _ _ (.inl rfl) e,ih q⟩
 | tbl ps=>
  have e:h.get? a=some { cls:=.none,data:=.fields ps }:=x
  show h'.get? a=some { cls:=.none,data:=.fields ps }
  exact k a _ (.inl rfl) e
 | met f y=>
  have e:h.get? a=some (Ph (.ref f) (.ref y)):=x
  show h'.get? a=some (Ph (.ref f) (.ref y))
  exact k a _ (.inl rfl) e
 | ext φ=>obtain⟨p,⟨o,e⟩,st⟩:=x;exact⟨st _ _ p λo q=>k _ _ (.inl rfl) q,⟨o,k _ _ (.inl rfl) e⟩,st⟩
theorem HOk.lt (x:HOk P w H h)(e:H a=some o):a<h.objs.size:=(x a o e).lt
theorem HOk.fresh (x:HOk P w H h)(e:h.objs.size<=a):H a=none:=by
 cases q:H a with
 | none=>rfl
 | some u=>exact absurd (Ly (x.lt q) e) (LQ _)
theorem HOk.kept (x:HOk P w H h)(k:∀b u,h.get? b=some u->h'.get? b=some u):HOk P w H h':=λa o e=>
 (x a o e).stay (λb u _ q=>k b u q) (λ_ q=>q) λ_ _ q=>q
theorem HOk.laid (x:HOk P w H h)(k:∀b u,h.get? b=some u->h'.get? b=some u)(hp:h.objs.size<=a)(new:ObjOk P w (upd H a o) h' a o):HOk P w (upd H a o) h':=λb u e=>by
 have hn:=x.fresh hp
 by_cases hb:b=a
 ·subst hb;rw[aT]at e;cases e;exact new
 ·rw[aH hb]at e
  exact(x b u e).stay (λc v _ q=>k c v q) (λc q=>by rw[aH (bX q hn)];exact q) λc xs q=>by rw[aH (bX q hn)];exact q
end
def Rd (H:Hp)(a:Addr)(u:HO):Prop:=H a=some u\/∃o,H a=some (.frz o u)
theorem Rd.ok {P:LI}{w:Mj}{H:Hp}{h:Heap}{a:Addr}{u:HO}(r:Rd H a u)(x:HOk P w H h):ObjOk P w H h a u:=by
 rcases r with r | ⟨o,r⟩
 ·exact x a u r
 ·obtain⟨_,q⟩:=x a _ r
  exact q
def JW:Option HO->Prop
 | some (.lst _)=>True
 | some (.dK _)=>True
 | some (.dT _)=>True
 | some (.set _ _)=>True
 | some (.ins _ _ _)=>True
 | some (.ext _)=>True
 | _=>False
section
variable {P:LI}{w:Mj}{H:Hp}{h h':Heap}{x e:Addr}{o':HO}
theorem HOk.write (ok:HOk P w H h)(mu:JW (H x))(he:e=x\/H e=some (.own x))(k:∀b u,b≠e->h.get? b=some u->h'.get? b=some u)(heo:∃u,h'.get? e=some u)
  (new:ObjOk P w (upd H x o') h' x o'):HOk P w (upd H x o') h':=λb u q=>by
 have nown:∀c y,H c=some (.own y)->c≠x:=λc y r z=>by subst z;rw[r]at mu;exact mu
 have ntup:∀c xs,H c=some (.tup xs)->c≠x:=λc xs r z=>by subst z;rw[r]at mu;exact mu
 by_cases hb:b=x
 ·subst hb;rw[aT]at q;cases q;exact new
 ·rw[aH hb]at q
  by_cases hbe:b=e
  ·have q':H b=some (.own x):=by
    rcases he with z | z
    ·exact absurd (hbe.trans z) hb
    ·rw[hbe];exact z
   rw[q]at q';cases q';obtain⟨v,hv⟩:=heo;exact⟨v,by rw[hbe];exact hv⟩
  ·refine(ok b u q).stay (λc v hc r=>k c v ?_ r) (λc r=>by rw[aH (nown c b r)];exact r) λc xs r=>by rw[aH (ntup c xs r)];exact r
   rcases hc with rfl | hc
   ·exact hbe
   ·rintro rfl
    rcases he with z | z
    ·exact nown c b hc z
    ·rw[hc]at z;cases z;exact hb rfl
end
structure Un (fs ex:List Addr)(H H':Hp)(h h':Heap):Prop where
 keep:∀b o,h.get? b=some o->H b=none->b∉fs->b∉ex->h'.get? b=some o
 slot:∀b o,h.get? b=some o->H b=none->b∈fs->b∉ex->∃sl,h'.get? b=some { o with slots:=sl }
 free:∀b o,h.get? b=some o->H b=none->b∉ex->H' b=none
 there:∀b o,h.get? b=some o->b∉ex->∃o',h'.get? b=some o'
 tups:∀b xs,H b=some (.tup xs)->H' b=some (.tup xs)
 frzs:∀b o u,H b=some (.frz o u)->H' b=some (.frz o u)
 tbls:∀b ps,H b=some (.tbl ps)->∃more,H' b=some (.tbl (ps++more))
section
variable {fs fs' ex ex':List Addr}{H H1 H2:Hp}{h h1 h2 h':Heap}{a x e:Addr}{o:HO}
theorem Un.any (u:Un fs ex H H1 h h1){b:Addr}{ob:Obj}(q:h.get? b=some ob)(n:H b=none)(hx:b∉ex):∃sl,h1.get? b=some { ob with slots:=sl }:=by
 by_cases hb:b∈fs
 ·exact u.slot b ob q n hb hx
 ·exact⟨ob.slots,u.keep b ob q n hb hx⟩
theorem Un.kept (k:∀b u,h.get? b=some u->h'.get? b=some u):Un fs ex H H h h':=
 ⟨λb ob q _ _ _=>k b ob q,λb ob q _ _ _=>⟨ob.slots,k b ob q⟩,λ_ _ _ n _=>n,λb ob q _=>⟨ob,k b ob q⟩,λ_ _ q=>q,λ_ _ _ q=>q,λ_ ps q=>⟨#[],by rw[q];simp⟩⟩
theorem Un.refl:Un fs ex H H h h:=Un.kept λ_ _ q=>q
theorem Un.laid (k:∀b u,h.get? b=some u->h'.get? b=some u)(hp:h.objs.size<=a)(hn:H a=none):Un fs ex H (upd H a o) h h' where
 keep:=λb u q _ _ _=>k b u q
 slot:=λb u q _ _ _=>⟨u.slots,k b u q⟩
 free:=λb u q n _=>by rw[aH (MD (Ly (Lq q) hp))];exact n
 there:=λb u q _=>⟨u,k b u q⟩
 tups:=λb xs q=>by rw[aH (bX q hn)];exact q
 frzs:=λb u xs q=>by rw[aH (bX q hn)];exact q
 tbls:=λb ps q=>⟨#[],by rw[aH (bX q hn),q];simp⟩
theorem Un.write (mu:JW (H x))(he:e=x\/H e=some (.own x))(k:∀b u,b≠e->h.get? b=some u->h'.get? b=some u)(heo:∃u,h'.get? e=some u):Un fs ex H (upd H x o) h h':=by
 have hx:∀b,H b=none->b≠x:=λb n z=>by subst z;rw[n]at mu;exact mu
 have hb:∀b,H b=none->b≠e:=λb n z=>by
  subst z;rcases he with r | r
  ·exact hx b n r
  ·rw[n]at r;cases r
 have hm:∀b u,H b=some u->¬ JW (some u)->b≠x:=λb u q nm z=>by subst z;rw[q]at mu;exact nm mu
 refine⟨λb u q n _ _=>k b u (hb b n) q,λb u q n _ _=>⟨u.slots,k b u (hb b n) q⟩,λb u q n _=>by rw[aH (hx b n)];exact n,λb u q _=> ?_,
  λb xs q=>by rw[aH (hm b _ q λz=>z)];exact q,λb u xs q=>by rw[aH (hm b _ q λz=>z)];exact q,λb ps q=>⟨#[],by rw[aH (hm b _ q λz=>z),q];simp⟩⟩
 by_cases hbe:b=e
 ·subst hbe;exact heo
 ·exact⟨u,k b u hbe q⟩
end
def trk (h:Heap)(H:Hp):List Addr:=(L7 h.objs.size).filter λa=>(H a).isSome
def sP (h:Heap)(H:Hp):Heap:=PX h (trk h H)
theorem y6 (h:Heap)(H:Hp):(sP h H).objs.size=h.objs.size:=PySem.W.hideAll_size _ _
theorem Bd {h:Heap}{H:Hp}{b:Addr}{o:Obj}(e:h.get? b=some o)(n:H b=none):(sP h H).get? b=some o:=
 Np _ e λhm=>by
  have q:(H b).isSome=true:=(R8.mp hm).2;rw[n]at q;simp at q
theorem DL {h:Heap}{H:Hp}{b:Addr}{o:Obj}(e:(sP h H).get? b=some o):h.get? b=some o/\H b=none:=by
 have e':h.get? b=some o:=OZ (trk h H) e;refine⟨e',?_⟩
 cases q:H b with
 | none=>rfl
 | some x=>
  have hm:b∈trk h H:=R8.mpr ⟨L4.mpr (Lq e'),by simp[q]⟩
  have z:(sP h H).get? b=none:=Ox (trk h H) hm;rw[z]at e;cases e
def EG (g h:Heap)(L:Addr):List (Addr×Obj):=(L7 h.objs.size).filterMap λa=>if a=L\/(g.get? a).isSome=true then none else(h.get? a).map λo=>(a,o)
def cp (g h:Heap)(L d:Addr):List (Addr×Obj):=(EG g h L).filter λp=>decide (p.1≠d)
structure Mod (K:K7)(mg:Str->Option La)(base:Heap):Prop where
 kin:K.In base
 glob:base.Ns LV mg
 blt:∃mb,base.Ns Pq mb/\∀x:Str,x≠ "__name__"->mb x=Mf x
 nolimit:base.NoLimit
structure Cx where
 prog:LI
 w:Mj
 K:K7
 mg:Str->Option La
 base:Heap
 A:LZ
 N:List Str
 s₀:Ld
 H₀:Hp
 env:Env
 outer:List Env
 stack:List Env
 ex:List Addr
 fn:Str->Bool
 calm:Bool
 pn:List (Addr×Obj)
 xe:La->Ld->Prop
def oK (l:List Env):List Addr:=l.filterMap (·.frame)
abbrev Cx.fs (X:Cx):List Addr:=oK X.outer
def mK (sc:Ov)(x:Str):Prop:=sc.names.lookup x=some .local\/sc.names.lookup x=some .cell\/sc.names.lookup x=some .free
def Loc (sc:Ov)(x:Str):Prop:=sc.names.lookup x=some .local\/sc.names.lookup x=some .cell
def Look (env:Env)(h:Heap)(m:Str->Option La)(x:Str)(u:La):Prop:=
 (env.kindOf x=some .local/\m x=some u)\/((env.kindOf x=some .cell\/env.kindOf x=some .free)/\∃c,env.cells.lookup x=some c/\h.IsCell c (some u))
structure Cx.Ok (X:Cx):Prop where
 mod:Mod X.K X.mg X.base
 kind:X.env.scope.kind= .function
 glob:X.env.globals=LV
 blt:X.env.builtins=Pq
 above:X.s₀.heap.objs.size<=X.env.locals
 inj:∀x y c,X.env.cells.lookup x=some c->X.env.cells.lookup y=some c->x=y
 has:∀x,(X.env.kindOf x=some .cell\/X.env.kindOf x=some .free)->∃c,X.env.cells.lookup x=some c
 cab:∀x c,X.fn x=true->X.env.cells.lookup x=some c->X.s₀.heap.objs.size<=c
 hd:X.calm=true->X.A.handled=none
 frames:X.A.frames=some X.stack
 stk:X.stack=X.outer\/(X.stack=X.env::X.outer/\X.env.frame=some X.env.locals)
 exf:∀b∈X.ex,b≠X.env.locals/\∀x c,X.env.cells.lookup x=some c->c≠b
 bs:∀b o,X.base.get? b=some o->X.s₀.heap.get? b=some o/\X.H₀ b=none
 bsz:X.base.objs.size<=X.s₀.heap.objs.size
 noex:∀b o,X.base.get? b=some o->b∉X.ex
 exfs:∀b∈X.ex,b∉X.fs
 funs:X.s₀.heap.FunFrames X.base X.outer
 frf:∀b∈X.fs,X.H₀ b=none
structure Inv (X:Cx)(pins:List (Addr×Obj))(σ:List (Option V))(H:Hp)(s:Ld):Prop where
 ok:X.Ok
 os:s.os=X.s₀.os
 bare:PD s.gens
 base:Un X.fs X.ex X.H₀ H X.s₀.heap s.heap
 loc:∃m,s.heap.Ns X.env.locals m/\∀(i:Nat) (x:Str) (v:V),X.N[i]? =some x->σ[i]? =some (some v)->mK X.env.scope x->∃u,RelV v u/\Look X.env s.heap m x u
 cell:∀x c,X.env.cells.lookup x=some c->∃v,s.heap.IsCell c v
 free:H X.env.locals=none
 freeC:∀x c,X.env.cells.lookup x=some c->H c=none
 pin:∀p∈X.pn++pins,s.heap.get? p.1=some p.2/\H p.1=none/\p.1≠X.env.locals/\p.1∉X.fs/\∀v,p.2.data≠ .cell v
 hok:HOk X.prog X.w H s.heap
 len:σ.length=X.N.length
section
variable {X:Cx}{pins:List (Addr×Obj)}{σ:List (Option V)}{H H':Hp}{s:Ld}{h':Heap}
theorem Cx.Ok.K4 (ok:X.Ok){b:Addr}{o:Obj}(e:X.base.get? b=some o):b∉X.fs:=λhb=>by
 have:=(ok.funs.mem hb).1;rw[e]at this;cases this
theorem Inv.bs (I:Inv X pins σ H s):∀b o,X.base.get? b=some o->s.heap.get? b=some o/\H b=none:=λb o e=>
 ⟨I.base.keep b o (I.ok.bs b o e).1 (I.ok.bs b o e).2 (I.ok.K4 e) (I.ok.noex b o e),I.base.free b o (I.ok.bs b o e).1 (I.ok.bs b o e).2 (I.ok.noex b o e)⟩
theorem Inv.bk (I:Inv X pins σ H s):∀b o,X.base.get? b=some o->s.heap.get? b=some o:=λb o e=>(I.bs b o e).1
theorem Inv.mod (I:Inv X pins σ H s):Mod X.K X.mg X.base:=I.ok.mod
theorem Inv.kIn (I:Inv X pins σ H s):X.K.In s.heap:=I.ok.mod.kin.keeps I.bk
theorem Inv.lt (I:Inv X pins σ H s):X.env.locals<s.heap.objs.size:=let ⟨_,hn,_⟩:=I.loc;hn.lt
theorem Inv.sz (I:Inv X pins σ H s):X.s₀.heap.objs.size<=s.heap.objs.size:=Me I.ok.above (NZ I.lt)
theorem Inv.K0 (I:Inv X pins σ H s){a:Addr}(h:s.heap.objs.size<=a):a∉X.fs:=λhb=>by
 obtain⟨_,o,ho,_⟩:=I.ok.funs.mem hb;exact absurd (Ly (Lq ho) (Me I.sz h)) (LQ _)
theorem Inv.cne (I:Inv X pins σ H s):∀x c,X.env.cells.lookup x=some c->c≠X.env.locals:=λx c e z=>by
 obtain⟨v,o,ho,hd⟩:=I.cell x c e;obtain⟨m,⟨o',es,ep,ho',hd',_⟩,_⟩:=I.loc;rw[z,ho']at ho;cases ho;rw[hd']at hd;cases hd
theorem Inv.funs (I:Inv X pins σ H s):s.heap.FunFrames X.base X.outer:=by
 have all:∀(l:List Env),(∀b∈oK l,b∈X.fs)->X.s₀.heap.FunFrames X.base l->s.heap.FunFrames X.base l:=by
  intro l
  induction l with
  | nil=>intro _ _;trivial
  | cons env r ih=>
   intro hs hl;obtain⟨hk,⟨L,o,hf,hn,ho,hd⟩,hr⟩:=hl
   have hL:L∈X.fs:=hs L (by unfold oK;rw[MB,hf];exact Lg)
   obtain⟨sl,e⟩:=I.base.slot L o ho (I.ok.frf L hL) hL λz=>I.ok.exfs L z hL
   exact⟨hk,⟨L,_,hf,hn,e,hd⟩,ih (λb hb=>hs b (by unfold oK;rw[MB,hf];exact K9 _ hb)) hr⟩
 exact all X.outer (λ_ hb=>hb) I.ok.funs
theorem Inv.stack (I:Inv X pins σ H s):s.heap.FunFrames X.base X.stack:=by
 rcases I.ok.stk with e | ⟨e,hf⟩
 ·rw[e];exact I.funs
 ·rw[e]
  obtain⟨m,hn,_⟩:=I.loc;refine .cons (by rw[I.ok.kind];decide) hf hn ?_ I.funs
  exact Heap.get?_none_of_le (Me I.ok.bsz I.ok.above)
theorem Inv.Kv (I:Inv X pins σ H s):∀b∈oK X.stack,b∈X.env.locals::X.fs:=λb hb=>by
 rcases I.ok.stk with e | ⟨e,hf⟩
 ·rw[e]at hb;exact K9 _ hb
 ·rw[e]at hb
  unfold oK at hb;rw[MB,hf]at hb;exact hb
theorem Inv.Kh (I:Inv X pins σ H s):∀b∈oK X.stack,H b=none:=λb hb=>by
 rcases Lj.mp (I.Kv b hb)with e | hb
 ·rw[e];exact I.free
 ·obtain⟨_,o,ho,_⟩:=I.ok.funs.mem hb
  exact I.base.free b o ho (I.ok.frf b hb) λz=>I.ok.exfs b z hb
theorem Inv.step {g':Array GenState}{t':Nat}{d':Drawn}{ch:List Addr}(I:Inv X pins σ H s)
  (hch:∀b∈ch,(b∈X.ex\/X.s₀.heap.objs.size<=b)/\b≠X.env.locals/\(∀x c,X.env.cells.lookup x=some c->c≠b)/\∀p∈X.pn++pins,p.1≠b)
  (keep:∀b o,b≠X.env.locals->b∉X.fs->b∉ch->s.heap.get? b=some o->H b=none->h'.get? b=some o)
  (slot:∀b o,b≠X.env.locals->b∈X.fs->b∉ch->s.heap.get? b=some o->H b=none->∃sl,h'.get? b=some { o with slots:=sl }) (free:∀b o,b∉ch->s.heap.get? b=some o->H b=none->H' b=none)
  (there:∀b o,b∉ch->s.heap.get? b=some o->∃o',h'.get? b=some o')
  (tups:∀b xs,H b=some (.tup xs)->H' b=some (.tup xs)) (frzs:∀b o u,H b=some (.frz o u)->H' b=some (.frz o u)) (tbls:∀b ps,H b=some (.tbl ps)->∃more,H' b=some (.tbl (ps++more)))
  (ns:∀m,s.heap.Ns X.env.locals m->h'.Ns X.env.locals m) (hok:HOk X.prog X.w H' h') (hg:PD g') :
  Inv X pins σ H' { s with heap:=h',gens:=g',drawn:=d',toks:=t' }:=by
 have neL:∀b o,X.s₀.heap.get? b=some o->b≠X.env.locals:=λb o e=>MD (Ly (Lq e) I.ok.above)
 have neC:∀b o,X.s₀.heap.get? b=some o->b∉X.ex->b∉ch:=λb o e hx hb=>by
  rcases(hch b hb).1 with z | z
  ·exact hx z
  ·exact absurd (Ly (Lq e) z) (LQ _)
 have cellK:∀x c,X.env.cells.lookup x=some c->∀v,s.heap.IsCell c v->h'.IsCell c v:=λx c e v hh_=>by
  obtain⟨o,ho,hd⟩:=hh_
  have nch:c∉ch:=λz=>(hch c z).2.2.1 x c e rfl
  by_cases hc:c∈X.fs
  ·obtain⟨sl,q⟩:=slot c o (I.cne x c e) hc nch ho (I.freeC x c e)
   exact⟨_,q,hd⟩
  ·exact⟨o,keep c o (I.cne x c e) hc nch ho (I.freeC x c e),hd⟩
 refine⟨I.ok,I.os,hg,⟨λb o e n hb hx=> ?_,λb o e n hb hx=> ?_,λb o e n hx=> ?_,λb o e hx=> ?_,λb xs e=>tups b xs (I.base.tups b xs e),λb o xs e=>frzs b o xs (I.base.frzs b o xs e),λb ps e=> ?_⟩,?_,λx c e=> ?_,?_,λx c e=> ?_,λp hp=> ?_,hok,I.len⟩
 ·exact keep b o (neL b o e) hb (neC b o e hx) (I.base.keep b o e n hb hx) (I.base.free b o e n hx)
 ·obtain⟨sl,e1⟩:=I.base.slot b o e n hb hx
  obtain⟨sl',e2⟩:=slot b _ (neL b o e) hb (neC b o e hx) e1 (I.base.free b o e n hx);exact⟨sl',e2⟩
 ·obtain⟨o',e1⟩:=I.base.there b o e hx
  exact free b o' (neC b o e hx) e1 (I.base.free b o e n hx)
 ·obtain⟨o',e1⟩:=I.base.there b o e hx
  exact there b o' (neC b o e hx) e1
 ·obtain⟨m1,e1⟩:=I.base.tbls b ps e
  obtain⟨m2,e2⟩:=tbls b _ e1;exact⟨m1++m2,by rw[e2,Array.append_assoc]⟩
 ·obtain⟨m,hn,hl⟩:=I.loc
  refine⟨m,ns m hn,λi x v e1 e2 e3=> ?_⟩
  obtain⟨u,r,l⟩:=hl i x v e1 e2 e3;refine⟨u,r,?_⟩
  rcases l with l | ⟨k,c,e,z⟩
  ·exact .inl l
  ·exact .inr ⟨k,c,e,cellK x c e _ z⟩
 ·obtain⟨v,z⟩:=I.cell x c e
  exact⟨v,cellK x c e v z⟩
 ·obtain⟨m,⟨o,_,_,ho,_⟩,_⟩:=I.loc
  exact free _ o (λz=>(hch _ z).2.1 rfl) ho I.free
 ·obtain⟨v,o,ho,hd⟩:=I.cell x c e
  exact free c o (λz=>(hch c z).2.2.1 x c e rfl) ho (I.freeC x c e)
 ·obtain⟨e,n,ne,nf,d⟩:=I.pin p hp
  have nch:p.1∉ch:=λz=>(hch p.1 z).2.2.2 p hp rfl
  exact⟨keep p.1 p.2 ne nf nch e n,free p.1 p.2 nch e n,ne,nf,d⟩
theorem Inv.un {t':Nat}(I:Inv X pins σ H s)(u:Un X.fs [] H H' s.heap h')(hok:HOk X.prog X.w H' h'):Inv X pins σ H' { s with heap:=h',toks:=t' }:=by
 obtain⟨m,⟨o,es,ep,ho,r⟩,_⟩:=id I.loc;obtain⟨sl,hL⟩:=u.any ho I.free (by simp)
 exact I.step (g':=s.gens) (d':=s.drawn) (ch:=[]) (λ_ z=>nomatch z) (λb o _ hb _ e n=>u.keep b o e n hb (by simp)) (λb o _ hb _ e n=>u.slot b o e n hb (by simp)) (λb o _ e n=>u.free b o e n (by simp)) (λb o _ e=>u.there b o e (by simp)) u.tups u.frzs u.tbls (λm' hm=>by
  obtain⟨o',es',ep',ho',r'⟩:=hm;rw[ho]at ho';cases ho';exact⟨_,es',ep',hL,r'⟩) hok I.bare
theorem Inv.call {g':Array GenState}{t':Nat}{d':Drawn}{ch:List Addr}(I:Inv X pins σ H s)(u:Un (oK X.stack) ch H H' s.heap h')(hok:HOk X.prog X.w H' h')(hg:PD g')
  (hch:∀b∈ch,(b∈X.ex\/X.s₀.heap.objs.size<=b)/\b≠X.env.locals/\(∀x c,X.env.cells.lookup x=some c->c≠b)/\∀p∈X.pn++pins,p.1≠b) :
  Inv X pins σ H' { s with heap:=h',gens:=g',drawn:=d',toks:=t' }:=by
 obtain⟨m,⟨o,es,ep,ho,r⟩,_⟩:=id I.loc;obtain⟨sl,hL⟩:=u.any ho I.free λz=>(hch _ z).2.1 rfl
 exact I.step (ch:=ch) hch (λb o hL hb hc e n=>u.keep b o e n (λz=>(Lj.mp (I.Kv b z)).elim hL hb) hc) (λb o _ _ hc e n=>u.any e n hc) (λb o hc e n=>u.free b o e n hc) (λb o hc e=>u.there b o e hc) u.tups u.frzs u.tbls (λm' hm=>by
  obtain⟨o',es',ep',ho',r'⟩:=hm;rw[ho]at ho';cases ho';exact⟨_,es',ep',hL,r'⟩) hok hg
theorem Inv.turned {t':Nat}{it:Addr}(I:Inv X pins σ H s)(k:∀b o,b≠it->s.heap.get? b=some o->h'.get? b=some o)(hn:H it=none)(hL:it≠X.env.locals)
  (h1:it∈X.ex\/X.s₀.heap.objs.size<=it) (h2:∀x c,X.env.cells.lookup x=some c->c≠it) (h3:∀p∈X.pn++pins,p.1≠it):Inv X pins σ H { s with heap:=h',toks:=t' }:=by
 have nit:∀b u,H b=some u->b≠it:=λb u e z=>by rw[z,hn]at e;cases e
 refine I.step (g':=s.gens) (d':=s.drawn) (ch:=[it]) (λb hb=> ?_) (λb o _ _ hc e _=>k b o (λz=>hc (by simp[z])) e) (λb o _ _ hc e _=>⟨o.slots,k b o (λz=>hc (by simp[z])) e⟩) (λ_ _ _ _ n=>n)
  (λb o hc e=>⟨o,k b o (λz=>hc (by simp[z])) e⟩) (λ_ _ e=>e) (λ_ _ _ e=>e) (λb ps e=>⟨#[],by rw[e];simp⟩) (λm hm=> ?_) (λb u e=> ?_) I.bare
 ·have e:b=it:=by simpa using hb
  subst e;exact⟨h1,hL,h2,h3⟩
 ·obtain⟨o,es,ep,ho,r⟩:=hm
  exact⟨o,es,ep,k _ o (NV hL) ho,r⟩
 ·refine(I.hok b u e).stay (λc v hc q=>k c v ?_ q) (λ_ q=>q) λ_ _ q=>q
  rcases hc with z | z
  ·rw[z];exact nit b u e
  ·exact nit c _ z
theorem Inv.tok (I:Inv X pins σ H s)(t:Nat):Inv X pins σ H { s with toks:=t }:=I.un (h':=s.heap) (t':=t) Un.refl I.hok
theorem Inv.kept {t':Nat}(I:Inv X pins σ H s)(k:∀b u,s.heap.get? b=some u->h'.get? b=some u):Inv X pins σ H { s with heap:=h',toks:=t' }:=I.un (Un.kept k) (I.hok.kept k)
theorem Inv.laid {a:Addr}{o:HO}{t':Nat}(I:Inv X pins σ H s)(k:∀b u,s.heap.get? b=some u->h'.get? b=some u)(hp:s.heap.objs.size<=a)(new:ObjOk X.prog X.w (upd H a o) h' a o) :
  Inv X pins σ (upd H a o) { s with heap:=h',toks:=t' }:=I.un (Un.laid k hp (I.hok.fresh hp)) (I.hok.laid k hp new)
theorem Inv.write {x e:Addr}{o:HO}{t':Nat}(I:Inv X pins σ H s)(mu:JW (H x))(he:e=x\/H e=some (.own x))(k:∀b u,b≠e->s.heap.get? b=some u->h'.get? b=some u)(heo:∃u,h'.get? e=some u)
  (new:ObjOk X.prog X.w (upd H x o) h' x o):Inv X pins σ (upd H x o) { s with heap:=h',toks:=t' }:=I.un (Un.write mu he k heo) (I.hok.write mu he k heo new)
theorem Inv.Kw {pins':List (Addr×Obj)}(I:Inv X pins σ H s)(h:∀p∈pins',s.heap.get? p.1=some p.2/\H p.1=none/\p.1≠X.env.locals/\p.1∉X.fs/\∀v,p.2.data≠ .cell v):Inv X pins' σ H s:=
 ⟨I.ok,I.os,I.bare,I.base,I.loc,I.cell,I.free,I.freeC,λp hp=>(Lw.mp hp).elim (λz=>I.pin p (LB _ z)) (h p),I.hok,I.len⟩
theorem uG {N:List Str}(hN:N.Nodup){i j:Nat}{x:Str}(a:N[i]? =some x)(b:N[j]? =some x):i=j:=by
 obtain⟨h1,e1⟩:=Ll.mp a
 obtain⟨h2,e2⟩:=Ll.mp b
 exact(List.getElem_inj hN).mp (e1.trans e2.symm)
theorem qc {M:Model}{A:LZ}{E:La->Ld->Prop}{i:Nat}{x:Str}{v:V}{u:La}{Q:Unit->Ld->Prop}(I:Inv X pins σ H s)(hN:X.N.Nodup)(hi:X.N[i]? =some x)(hx:Loc X.env.scope x)(r:RelV v u)
  (h:∀s',Inv X pins (σ.set i (some v)) H s'->(∃a,Oo a s.heap s'.heap/\(a=X.env.locals\/X.env.cells.lookup x=some a))->Q () s') (hf:autoParam (X.fn x=true\/X.env.scope.names.lookup x=some .local) aqa._auto_1):wpAny M A (storeName X.env x u) Q E s:=by
 obtain⟨m,hn,hl⟩:=id I.loc
 have hcls:(X.env.scope.kind == .class||(X.env.scope.kind == .module&&X.env.locals != X.env.globals))=false:=by rw[I.ok.kind];rfl
 have hiσ:i<σ.length:=by rw[I.len];exact(Ll.mp hi).1
 have cne:=I.cne
 have tracked:∀{a:Addr} {h':Heap},(∃o,s.heap.get? a=some o/\H a=none)->Oo a s.heap h'->HOk X.prog X.w H h':=λ{a h'} ha hs b ob e=>by
  obtain⟨_,_,hfree⟩:=ha;refine(I.hok b ob e).stay (λc w' hc q=>(hs.2 c ?_).trans q) (λ_ q=>q) λ_ _ q=>q
  rintro rfl
  rcases hc with rfl | hc
  ·rw[hfree]at e;cases e
  ·rw[hfree]at hc;cases hc
 rcases hx with hk | hk
 ·refine wpAny_storeName_local hk hn (λh' hn' hs=> ?_) hcls
  obtain⟨oL,_,_,hoL,_⟩:=id hn;refine h _ ⟨I.ok,I.os,I.bare,⟨λb o e n hb hx=> ?_,λb o e n hb hx=> ?_,I.base.free,λb o e hx=> ?_,I.base.tups,I.base.frzs,I.base.tbls⟩,⟨_,hn',λj y v' e1 e2 e3=> ?_⟩,λy c e=> ?_,I.free,I.freeC,λp hp=> ?_,tracked ⟨oL,hoL,I.free⟩ hs,by simpa using I.len⟩ ⟨_,hs,.inl rfl⟩
  ·exact(hs.2 b (MD (Ly (Lq e) I.ok.above))).trans (I.base.keep b o e n hb hx)
  ·obtain⟨sl,e1⟩:=I.base.slot b o e n hb hx
   exact⟨sl,(hs.2 b (MD (Ly (Lq e) I.ok.above))).trans e1⟩
  ·obtain⟨o',e1⟩:=I.base.there b o e hx
   exact⟨o',(hs.2 b (MD (Ly (Lq e) I.ok.above))).trans e1⟩
  ·by_cases hj:j=i
   ·subst hj
    rw[hi]at e1;cases e1;rw[LH hiσ]at e2
    cases e2;exact⟨u,r,.inl ⟨hk,by simp⟩⟩
   ·rw[LC (NV hj)]at e2
    obtain⟨u',r',q⟩:=hl j y v' e1 e2 e3;refine⟨u',r',?_⟩
    rcases q with⟨k,e⟩ | ⟨k,c,e,z⟩
    ·refine .inl ⟨k,?_⟩
     have:y≠x:=λe=>hj (uG hN e1 (e▸hi))
     simp[this,e]
    ·exact .inr ⟨k,c,e,z.sameBut hs (cne y c e)⟩
  ·obtain⟨w',z⟩:=I.cell y c e
   exact⟨w',z.sameBut hs (cne y c e)⟩
  ·obtain⟨e,n,ne,nf,d⟩:=I.pin p hp
   exact⟨(hs.2 p.1 ne).trans e,n,ne,nf,d⟩
 ·have hfn:X.fn x=true:=by
   rcases hf with z | z
   ·exact z
   ·rw[z]at hk;cases hk
  obtain⟨c,hc⟩:=I.ok.has x (.inl hk);obtain⟨w',z⟩:=I.cell x c hc;refine wpAny_storeName_cell I.ok.kind hk hc z (λh' hc' hs=> ?_)
  obtain⟨oc,hoc,hocd⟩:=id z;refine h { s with heap:=h' } ⟨I.ok,I.os,I.bare,⟨λb o e n hb hx=> ?_,λb o e n hb hx=> ?_,I.base.free,λb o e hx=> ?_,I.base.tups,I.base.frzs,I.base.tbls⟩,⟨m,hn.sameBut hs (NV (cne x c hc)),λj y v' e1 e2 e3=> ?_⟩,λy c' e=> ?_,I.free,I.freeC,λp hp=> ?_,tracked ⟨oc,hoc,I.freeC x c hc⟩ hs,by simpa using I.len⟩ ⟨c,hs,.inr hc⟩
  ·exact(hs.2 b (MD (Ly (Lq e) (I.ok.cab x c hfn hc)))).trans (I.base.keep b o e n hb hx)
  ·obtain⟨sl,e1⟩:=I.base.slot b o e n hb hx
   exact⟨sl,(hs.2 b (MD (Ly (Lq e) (I.ok.cab x c hfn hc)))).trans e1⟩
  ·obtain⟨o',e1⟩:=I.base.there b o e hx
   exact⟨o',(hs.2 b (MD (Ly (Lq e) (I.ok.cab x c hfn hc)))).trans e1⟩
  ·by_cases hj:j=i
   ·subst hj
    rw[hi]at e1;cases e1;rw[LH hiσ]at e2
    cases e2;exact⟨u,r,.inr ⟨.inl hk,c,hc,hc'⟩⟩
   ·rw[LC (NV hj)]at e2
    obtain⟨u',r',q⟩:=hl j y v' e1 e2 e3;refine⟨u',r',?_⟩
    rcases q with q | ⟨k,c',e,z'⟩
    ·exact .inl q
    ·refine .inr ⟨k,c',e,z'.sameBut hs ?_⟩
     rintro rfl
     exact hj (uG hN e1 (I.ok.inj _ _ _ e hc▸hi))
  ·by_cases hcc:c'=c
   ·subst hcc;exact⟨_,hc'⟩
   ·obtain⟨w2,z2⟩:=I.cell y c' e
    exact⟨w2,z2.sameBut hs hcc⟩
  ·obtain⟨e,n,ne,nf,d⟩:=I.pin p hp
   refine⟨(hs.2 p.1 ?_).trans e,n,ne,nf,d⟩
   intro q;rw[q,hoc]at e
   have q':oc=p.2:=LX e;exact d w' (by rw[<-q'];exact hocd)
theorem t9 {M:Model}{A:LZ}{E:La->Ld->Prop}{i:Nat}{x:Str}{v:V}{u:La}{Q:Unit->Ld->Prop}(I:Inv X pins σ H s)(hN:X.N.Nodup)(hi:X.N[i]? =some x)(hx:Loc X.env.scope x)(r:RelV v u)
  (h:∀s',Inv X pins (σ.set i (some v)) H s'->Q () s') (hf:autoParam (X.fn x=true\/X.env.scope.names.lookup x=some .local) aqa._auto_1):wpAny M A (storeName X.env x u) Q E s:=
 qc I hN hi hx r (λs' I' _=>h s' I') hf
theorem Inv.Kx {s':Ld}{ch:List Addr}(I:Inv X pins σ H s)(ho:s'.os=s.os)(u:Un (oK X.stack) ch H H' s.heap s'.heap)(hok:HOk X.prog X.w H' s'.heap)(hg:PD s'.gens)
  (hch:∀b∈ch,(b∈X.ex\/X.s₀.heap.objs.size<=b)/\b≠X.env.locals/\(∀x c,X.env.cells.lookup x=some c->c≠b)/\∀p∈X.pn++pins,p.1≠b):Inv X pins σ H' s':=by
 obtain⟨h',g',d',t',o'⟩:=s'
 have e:o'=s.os:=ho;subst e;exact I.call (g':=g') (t':=t') (d':=d') u hok hg hch
end
abbrev XK:=La->Option Addr->Hp->Prop
abbrev St:=List (Option V)
abbrev VK:=V->Hp->Prop
abbrev TE:=St->Hp->VK->Prop
abbrev TT:=St->Hp->(Bool->Hp->Prop)->Prop
abbrev TA:=St->Hp->(List V->Hp->Prop)->Prop
structure mL where
 nx:St->Hp->Prop
 rt:VK
 bk:St->Hp->Prop:=λ_ _=>False
 ct:St->Hp->Prop:=λ_ _=>False
abbrev TS:=mL->St->Hp->Prop
def EP (X:Cx)(pins:List (Addr×Obj))(σ:St)(Q:VK)(u:La)(s':Ld):Prop:=∃v H',Inv X pins σ H' s'/\RelV v u/\Q v H'
def TP (X:Cx)(pins:List (Addr×Obj))(σ:St)(Q:Bool->Hp->Prop)(b:Bool)(s':Ld):Prop:=∃H',Inv X pins σ H' s'/\Q b H'
def AP (X:Cx)(pins:List (Addr×Obj))(σ:St)(Q:List V->Hp->Prop)(us:List La)(s':Ld):Prop:=∃vs H',Inv X pins σ H' s'/\Vals vs us/\Q vs H'
def SP (X:Cx)(pins:List (Addr×Obj))(D:mL)(f:Flow)(s':Ld):Prop:=
 match f with
 | .next=> ∃σ' H',Inv X pins σ' H' s'/\D.nx σ' H'
 | .brk=> ∃σ' H',Inv X pins σ' H' s'/\D.bk σ' H'
 | .cont=> ∃σ' H',Inv X pins σ' H' s'/\D.ct σ' H'
 | .ret u=> ∃v σ' H',Inv X pins σ' H' s'/\RelV v u/\D.rt v H'
def PE (X:Cx)(e:Expr)(t:TE):Prop:=
 ∀(pins:List (Addr×Obj)) (s:Ld) (σ:St) (H:Hp) (Q:VK),Inv X pins σ H s->t σ H Q->wpAny (model X.prog X.w) X.A (eval e X.env) (EP X pins σ Q) X.xe s
def PT (X:Cx)(e:Expr)(t:TT):Prop:=
 ∀(pins:List (Addr×Obj)) (s:Ld) (σ:St) (H:Hp) (Q:Bool->Hp->Prop),Inv X pins σ H s->t σ H Q->wpAny (model X.prog X.w) X.A (isTrue e X.env (eval e X.env)) (TP X pins σ Q) X.xe s
def PW (X:Cx)(e:Expr)(t:TT):Prop:=
 ∀(whole:Sem La) (pins:List (Addr×Obj)) (s:Ld) (σ:St) (H:Hp) (Q:Bool->Hp->Prop),Inv X pins σ H s->t σ H Q->wpAny (model X.prog X.w) X.A (isTrue e X.env whole) (TP X pins σ Q) X.xe s
theorem PW.pt {X:Cx}{e:Expr}{t:TT}(h:PW X e t):PT X e t:=h _
def PA (X:Cx)(es:List Expr)(t:TA):Prop:=
 ∀(pos:Pos) (pins:List (Addr×Obj)) (s:Ld) (σ:St) (H:Hp) (Q:List V->Hp->Prop),Inv X pins σ H s->t σ H Q->wpAny (model X.prog X.w) X.A (spliced (backTo pos (Lx es X.env))) (AP X pins σ Q) X.xe s
def PS (X:Cx)(st:Stmt)(t:TS):Prop:=
 ∀(pins:List (Addr×Obj)) (s:Ld) (σ:St) (H:Hp) (D:mL),Inv X pins σ H s->t D σ H->wpAny (model X.prog X.w) X.A (exec st X.env) (SP X pins D) X.xe s
def PSs (X:Cx)(st:List Stmt)(t:TS):Prop:=
 ∀(pins:List (Addr×Obj)) (s:Ld) (σ:St) (H:Hp) (D:mL),Inv X pins σ H s->t D σ H->wpAny (model X.prog X.w) X.A (execs st X.env) (SP X pins D) X.xe s
theorem bV {α:Type}{t:Sem α}{Q Q':α->Ld->Prop}{M:Model}{A:LZ}{E:La->Ld->Prop}{s:Ld}(h:wpAny M A t Q E s)(hQ:∀a s,Q a s->Q' a s):wpAny M A t Q' E s:=M9 h hQ λ_ _ x=>x
section
variable {X:Cx}
def tVar (i:Nat):TE:=λσ H Q=> ∃v,σ[i]? =some (some v)/\Q v H
def tC (v:V):TE:=λ_ H Q=>Q v H
theorem fP {i:Nat}{x:Str}{pos:Pos}(hN:X.N[i]? =some x)(hv:mK X.env.scope x)(hd:autoParam ((x == ("__debug__" : Str))=false) aqb._auto_1)(hcd:autoParam ((x == ("__classdict__" : Str))=false) aqb._auto_1):PE X (.Name x pos) (tVar i):=by
 intro pins s σ H Q I h;obtain⟨v,e,h⟩:=h;obtain⟨m,hn,hl⟩:=I.loc;obtain⟨u,r,l⟩:=hl i x v hN e hv
 have fin:EP X pins σ Q u s:=⟨v,H,I,r,h⟩;rcases l with⟨hk,hm⟩ | ⟨hk,c,hc,hcell⟩
 ·exact wpAny_Name (wpAny_loadName_local I.ok.kind hk hn hm fin) hd
 ·rcases hk with hk | hk
  ·exact wpAny_Name (wpAny_loadName_cell I.ok.kind hk hc hcell fin) hd
  ·exact wpAny_Name (wpAny_loadName_free I.ok.kind hk hc hcell fin hcd) hd
theorem Ag {i j pos}:PE X (.Constant (.int i) j pos) (tC (.int i)):=λ_ _ _ H _ I h=>wpAny_Constant_int ⟨.int i,H,I.tok _,⟨_,rfl⟩,h⟩
theorem IZ {b j pos}:PE X (.Constant (.bool b) j pos) (tC (.bl b)):=λ_ _ _ H _ I h=>Constant_bool ⟨.bl b,H,I,rfl,h⟩
theorem Gw {j pos}:PE X (.Constant .none j pos) (tC .non):=λ_ _ _ H _ I h=>Constant_none ⟨.non,H,I,rfl,h⟩
def Gl (X:Cx)(x:Str):Prop:=X.env.kindOf x=some .globalImplicit
theorem g7 {E:La->Ld->Prop}{pins:List (Addr×Obj)}{s:Ld}{σ:St}{H:Hp}{x:Str}{u:La}{pos:Pos}{Q:La->Ld->Prop}(I:Inv X pins σ H s)(hg:Gl X x)(hm:X.mg x=some u)(h:Q u s)
  (hd:autoParam ((x == ("__debug__" : Str))=false) aqb._auto_1):wpAny (model X.prog X.w) X.A (eval (.Name x pos) X.env) Q E s:=
 OW I.ok.kind hg (Calls.loadGlobal_global (by rw[I.ok.glob];exact I.mod.glob.keeps I.bk) hm h) hd
theorem j4 {E:La->Ld->Prop}{pins:List (Addr×Obj)}{s:Ld}{σ:St}{H:Hp}{x:Str}{u:La}{pos:Pos}{Q:La->Ld->Prop}(I:Inv X pins σ H s)(hg:Gl X x)(hm:X.mg x=none)(hv:Mf x=some u)(h:Q u s)
  (hn:autoParam (x≠ "__name__") aqb._auto_1) (hd:autoParam ((x == ("__debug__" : Str))=false) aqb._auto_1):wpAny (model X.prog X.w) X.A (eval (.Name x pos) X.env) Q E s:=by
 obtain⟨mb,h1,h2⟩:=I.mod.blt;exact OW I.ok.kind hg (Calls.loadGlobal_builtin (by rw[I.ok.glob];exact I.mod.glob.keeps I.bk) hm (by rw[I.ok.blt];exact h1.keeps I.bk) ((h2 x hn).trans hv) h) hd
theorem DB {x:Str}{v:V}{u:La}{pos:Pos}(hg:Gl X x)(hm:X.mg x=some u)(r:RelV v u)(hd:autoParam ((x == ("__debug__" : Str))=false) aqb._auto_1):PE X (.Name x pos) (tC v):=
 λ_ _ _ H _ I h=>g7 I hg hm ⟨v,H,I,r,h⟩ hd
theorem DD {x:Str}{v:V}{u:La}{pos:Pos}(hg:Gl X x)(hm:X.mg x=none)(hv:Mf x=some u)(r:RelV v u)(hn:autoParam (x≠ "__name__") aqb._auto_1)(hd:autoParam ((x == ("__debug__" : Str))=false) aqb._auto_1):PE X (.Name x pos) (tC v):=
 λ_ _ _ H _ I h=>j4 I hg hm hv ⟨v,H,I,r,h⟩ hn hd
variable {a b:Expr}{ta tb:TE}{pos:Pos}
def tB (t:TE):TT:=λσ H Q=>t σ H λx H1=> ∃c,x= .bl c/\Q c H1
theorem z5 {e:Expr}{t:TE}(h:PE X e t)(he:autoParam (∀whole,isTrue e X.env whole=(do let v <-whole;standAt e.pos;holding [v] (truthy v))) aqc._auto_1):PT X e (tB t):=by
 intro pins s σ H Q I hw;refine isTrue_plain (bV (h pins s σ H _ I hw) λv s1 ⟨x,H1,I1,r1,q1⟩=> ?_) (he _)
 obtain⟨d,rfl,q⟩:=q1;cases r1;exact MF ⟨H1,I1,q⟩
variable {tA tB':TT}{cp:List Expr}
def tAnd (t u:TT):TT:=λσ H Q=>t σ H λc H1=>if c=true then u σ H1 Q else Q false H1
def tOr (t u:TT):TT:=λσ H Q=>t σ H λc H1=>if c=true then Q true H1 else u σ H1 Q
def tNot (t:TT):TT:=λσ H Q=>t σ H λc H1=>Q (!c) H1
theorem Dr (ha:PT X a tA):PW X (.BoolOp .And [a] pos) tA:=by
 intro wh pins s σ H Q I h;refine isTrue_and (bV (ha pins s σ H Q I h) λc s1 e=> ?_)
 cases c with
 | true=>exact isTrue_and_nil e
 | false=>exact e
theorem Gm (ha:PT X a tA):PW X (.BoolOp .Or [a] pos) tA:=by
 intro wh pins s σ H Q I h;refine isTrue_or (bV (ha pins s σ H Q I h) λc s1 e=> ?_)
 cases c with
 | false=>exact isTrue_or_nil e
 | true=>exact e
theorem Gn (ha:PT X a tA)(hb:PW X (.BoolOp .And (b::cp) pos) tB'):PW X (.BoolOp .And (a::b::cp) pos) (tAnd tA tB'):=by
 intro wh pins s σ H Q I h;refine isTrue_and (bV (ha pins s σ H _ I h) λc s1 hh_=> ?_)
 obtain⟨H1,I1,q1⟩:=hh_
 cases c with
 | true=>exact hb wh pins s1 σ H1 Q I1 q1
 | false=>exact⟨H1,I1,q1⟩
theorem IV (ha:PT X a tA)(hb:PW X (.BoolOp .Or (b::cp) pos) tB'):PW X (.BoolOp .Or (a::b::cp) pos) (tOr tA tB'):=by
 intro wh pins s σ H Q I h;refine isTrue_or (bV (ha pins s σ H _ I h) λc s1 hh_=> ?_)
 obtain⟨H1,I1,q1⟩:=hh_
 cases c with
 | true=>exact⟨H1,I1,q1⟩
 | false=>exact hb wh pins s1 σ H1 Q I1 q1
theorem z6 (ha:PT X a tA):PT X (.UnaryOp .Not a pos) (tNot tA):=by
 intro pins s σ H Q I h;exact isTrue_not (ha pins s σ H (λc H1=>Q (!c) H1) I h)
def Im (ta tb:TE):TE:=λσ H Q=>ta σ H λx H1=> ∃c,x= .bl c/\if c=true then tb σ H1 Q else Q (.bl false) H1
def tOrV (ta tb:TE):TE:=λσ H Q=>ta σ H λx H1=> ∃c,x= .bl c/\if c=true then Q (.bl true) H1 else tb σ H1 Q
def Ib (ta:TE):TE:=λσ H Q=>ta σ H λx H1=> ∃c,x= .bl c/\Q (.bl (!c)) H1
theorem Gu {op}{t:TE}(h:PE X a t):PE X (.BoolOp op [a] pos) t:=λpins s σ H Q I hw=>BoolOp_one (h pins s σ H Q I hw)
theorem Gz (ha:PE X a ta)(hb:PE X (.BoolOp .And (b::cp) pos) tb):PE X (.BoolOp .And (a::b::cp) pos) (Im ta tb):=by
 intro pins s σ H Q I h;refine BoolOp_and (bV (ha pins s σ H _ I h) λv s1 hh_=> ?_)
 obtain⟨x,H1,I1,r1,q1⟩:=hh_;obtain⟨c,rfl,q1⟩:=q1;cases r1;refine MF ?_
 cases c with
 | true=>exact hb pins s1 σ H1 Q I1 q1
 | false=>exact⟨.bl false,H1,I1,rfl,q1⟩
theorem IX (ha:PE X a ta)(hb:PE X (.BoolOp .Or (b::cp) pos) tb):PE X (.BoolOp .Or (a::b::cp) pos) (tOrV ta tb):=by
 intro pins s σ H Q I h;refine BoolOp_or (bV (ha pins s σ H _ I h) λv s1 hh_=> ?_)
 obtain⟨x,H1,I1,r1,q1⟩:=hh_;obtain⟨c,rfl,q1⟩:=q1;cases r1;refine MF ?_
 cases c with
 | false=>exact hb pins s1 σ H1 Q I1 q1
 | true=>exact⟨.bl true,H1,I1,rfl,q1⟩
theorem Gv (ha:PE X a ta):PE X (.UnaryOp .Not a pos) (Ib ta):=by
 intro pins s σ H Q I h;refine UnaryOp_ (bV (ha pins s σ H _ I h) λv s1 hh_=> ?_)
 obtain⟨x,H1,I1,r1,q1⟩:=hh_;obtain⟨c,rfl,q1⟩:=q1;cases r1;exact not_of (MF ⟨.bl (!c),H1,I1,rfl,q1⟩)
def tIf (t:TT)(ta tb:TE):TE:=λσ H Q=>t σ H λc H1=>if c=true then ta σ H1 Q else tb σ H1 Q
theorem Ah {c:Expr}(hc:PT X c tA)(ha:PE X a ta)(hb:PE X b tb):PE X (.IfExp c a b pos) (tIf tA ta tb):=by
 intro pins s σ H Q I h;refine wpAny_IfExp (bV (hc pins s σ H _ I h) λd s1 hh_=> ?_)
 obtain⟨H1,I1,q1⟩:=hh_
 cases d with
 | true=>exact ha pins s1 σ H1 Q I1 q1
 | false=>exact hb pins s1 σ H1 Q I1 q1
end
def SqL (K:K7)(H:Hp)(a:Addr)(xs:List V):Prop:=
 Rd H a (.lst xs) ∨
  ∃(o:Obj) (its:Array La) (n:Nat),K.lookup a=some o/\o.cls= .type "list"/\o.dict=none/\o.data= .seq its n/\its.size<=sizeLine/\Vals xs its.toList
def SqT (K:K7)(H:Hp)(a:Addr)(xs:List V):Prop:=
 Rd H a (.tup xs) ∨
  ∃(o:Obj) (its:Array La) (n:Nat),K.lookup a=some o/\o.cls= .type "tuple"/\o.data= .seq its n/\its.size<=sizeLine/\Vals xs its.toList
def absV:La->Option V
 | .none=>some .non
 | .bool b=>some (.bl b)
 | .int i _=>some (.int i)
 | .str x _=>some (.str x)
 | .bytes b _=>some (.byt b)
 | .float b _=>some (.flt b)
 | .ref a=>some (.ref a)
 | .type n=>some (.ty n)
 | _=>none
theorem RelV.abs {x:V}{u:La}(r:RelV x u):absV u=some x:=by
 cases x with
 | non=>cases r;rfl
 | bl _=>cases r;rfl
 | int _=>obtain⟨t,rfl⟩:=r;rfl
 | str _=>obtain⟨t,rfl⟩:=r;rfl
 | byt _=>obtain⟨t,rfl⟩:=r;rfl
 | flt _=>obtain⟨t,rfl⟩:=r;rfl
 | ref _=>cases r;rfl
 | ty _=>cases r;rfl
theorem RelV.inj {x y:V}{u:La}(r:RelV x u)(q:RelV y u):x=y:=LX (r.abs.symm.trans q.abs)
theorem Vals.inj:∀{xs ys:List V} {us:List La},Vals xs us->Vals ys us->xs=ys
 | _,_,_,.nil,.nil=>rfl
 | _,_,_,.cons r t,.cons r' t'=>by rw[r.inj r',Vals.inj t t']
section
variable {X:Cx}{pins:List (Addr×Obj)}{σ:St}{H:Hp}{s:Ld}{a:Addr}{xs ys:List V}
theorem SqL.of {K:K7}(h:H a=some (.lst xs)):SqL K H a xs:=.inl (.inl h)
theorem SqT.of {K:K7}(h:H a=some (.tup xs)):SqT K H a xs:=.inl (.inl h)
theorem Inv.list (I:Inv X pins σ H s)(h:SqL X.K H a xs):∃its:List La,Vals xs its/\PlainL s.heap a its.toArray/\xs.length<=sizeLine:=by
 rcases h with h | ⟨o,its,n,hk,hc,hd,hs,hz,r⟩
 ·obtain⟨z,its,n,r,e⟩:=h.ok I.hok
  exact⟨its,r,⟨_,n,e,rfl,rfl,rfl⟩,z⟩
 ·refine⟨its.toList,r,⟨o,n,I.kIn a o hk,hc,hd,by simpa using hs⟩,?_⟩
  have e:=r.length;simp only[OI]at e;omega
theorem Inv.tuple (I:Inv X pins σ H s)(h:SqT X.K H a xs):∃its:List La,Vals xs its/\Ss s.heap a its.toArray/\xs.length<=sizeLine:=by
 rcases h with h | ⟨o,its,n,hk,hc,hs,hz,r⟩
 ·obtain⟨z,its,r,p⟩:=h.ok I.hok
  exact⟨its,r,p,z⟩
 ·refine⟨its.toList,r,⟨o,I.kIn a o hk,hc,n,by simpa using hs⟩,?_⟩
  have e:=r.length;simp only[OI]at e;omega
theorem Inv.Kr (I:Inv X pins σ H s)(h:SqL X.K H a xs)(h':SqL X.K H a ys):xs=ys:=by
 obtain⟨its,r,⟨o,n,e,_,_,d⟩,_⟩:=I.list h;obtain⟨its',r',⟨o',n',e',_,_,d'⟩,_⟩:=I.list h';rw[e]at e';cases e';rw[d]at d';injection d' with d1 _
 have:its=its':=by simpa using congrArg P2 d1
 subst this;exact r.inj r'
theorem Inv.Kn (I:Inv X pins σ H s)(h:SqT X.K H a xs)(h':SqT X.K H a ys):xs=ys:=by
 obtain⟨its,r,⟨o,e,_,n,d⟩,_⟩:=I.tuple h;obtain⟨its',r',⟨o',e',_,n',d'⟩,_⟩:=I.tuple h';rw[e]at e';cases e';rw[d]at d';injection d' with d1 _
 have:its=its':=by simpa using congrArg P2 d1
 subst this;exact r.inj r'
end
abbrev Cx.FB (X:Cx)(E:La->Ld->Prop):Cx:={ X with xe:=E }
abbrev Cx.nox (X:Cx):Cx:=X.FB λ_ _=>False
theorem Cx.Ok.FB {X:Cx}(ok:X.Ok)(E:La->Ld->Prop):(X.FB E).Ok:=
 ⟨ok.mod,ok.kind,ok.glob,ok.blt,ok.above,ok.inj,ok.has,ok.cab,ok.hd,ok.frames,ok.stk,ok.exf,ok.bs,ok.bsz,ok.noex,ok.exfs,ok.funs,ok.frf⟩
theorem Cx.Ok.GT {X:Cx}{E:La->Ld->Prop}(ok:(X.FB E).Ok):X.Ok:=
 ⟨ok.mod,ok.kind,ok.glob,ok.blt,ok.above,ok.inj,ok.has,ok.cab,ok.hd,ok.frames,ok.stk,ok.exf,ok.bs,ok.bsz,ok.noex,ok.exfs,ok.funs,ok.frf⟩
section
variable {X:Cx}{pins:List (Addr×Obj)}{σ:St}{H:Hp}{s:Ld}{E:La->Ld->Prop}
theorem Inv.FB (I:Inv X pins σ H s)(E:La->Ld->Prop):Inv (X.FB E) pins σ H s:=⟨I.ok.FB E,I.os,I.bare,I.base,I.loc,I.cell,I.free,I.freeC,I.pin,I.hok,I.len⟩
theorem Inv.GT (I:Inv (X.FB E) pins σ H s):Inv X pins σ H s:=⟨I.ok.GT,I.os,I.bare,I.base,I.loc,I.cell,I.free,I.freeC,I.pin,I.hok,I.len⟩
theorem SP.GT {D:mL}{f:Flow}{s':Ld}(h:SP (X.FB E) pins D f s'):SP X pins D f s':=by
 cases f with
 | next=>obtain⟨σ',H',I,q⟩:=h;exact⟨σ',H',I.GT,q⟩
 | brk=>obtain⟨σ',H',I,q⟩:=h;exact⟨σ',H',I.GT,q⟩
 | cont=>obtain⟨σ',H',I,q⟩:=h;exact⟨σ',H',I.GT,q⟩
 | ret u=>obtain⟨v,σ',H',I,r,q⟩:=h;exact⟨v,σ',H',I.GT,r,q⟩
theorem PSs.nox {st:List Stmt}{t:TS}(h:PSs X.nox st t):PSs X st t:=λpins s σ H D I hw=>
 M9 (h pins s σ H D (I.FB _) hw) (λ_ _ q=>q.GT) λ_ _ z=>M8 z
end
section
variable {X:Cx}{st:Stmt}{cp:List Stmt}{t u:TS}{e:Expr}{te:TE}{pos:Pos}
def Ie:TS:=λD σ H=>D.nx σ H
def tSeq (t u:TS):TS:=λD σ H=>t { D with nx:=u D } σ H
theorem xk:PSs X [] Ie:=λ_ _ σ H _ I h=>N9 ⟨σ,H,I,h⟩
theorem uo (h1:PS X st t)(h2:PSs X cp u):PSs X (st::cp) (tSeq t u):=by
 intro pins s σ H D I h;refine RX (bV (h1 pins s σ H { D with nx:=u D } I h) λf s1 q=> ?_)
 cases f with
 | next=>
  obtain⟨σ',H',I',q⟩:=q
  exact h2 pins s1 σ' H' D I' q
 | ret v=>exact q
 | brk=>exact q
 | cont=>exact q
theorem xj (h1:PS X st t):PSs X [st] t:=by
 intro pins s σ H D I h;refine RX (bV (h1 pins s σ H D I h) λf s1 q=> ?_)
 cases f with
 | next=>exact N9 q
 | ret v=>exact q
 | brk=>exact q
 | cont=>exact q
def Ik:TS:=λD σ H=>D.ct σ H
theorem uq:PS X (.Continue pos) Ik:=λ_ _ σ H _ I h=>wpAny_Continue ⟨σ,H,I,h⟩
theorem Inv.quiet {pins:List (Addr×Obj)}{σ:St}{H:Hp}{s:Ld}(I:Inv X pins σ H s):interactive X.env=false:=by simp[interactive,I.ok.kind]
def Ii (te:TE):TS:=λD σ H=>te σ H λ_ H1=>D.nx σ H1
theorem kJ (he:PE X e te)(hs:autoParam (L5 e none pos.line X.env=pure false) aqd._auto_1):PS X (.Expr e pos) (Ii te):=by
 intro pins s σ H D I h;exact wpAny_Expr_any (bV (he pins s σ H _ I h) λv s1 ⟨x,H1,I1,r1,q1⟩=>⟨σ,H1,I1,q1⟩) I.quiet hs
def tRet (te:TE):TS:=λD σ H=>te σ H D.rt
theorem z8 (he:PE X e te):PS X (.Return (some e) pos) (tRet te):=by
 intro pins s σ H D I h;exact wpAny_Return_some (bV (he pins s σ H _ I h) λv s1 ⟨x,H1,I1,r1,q1⟩=>⟨x,σ,H1,I1,r1,q1⟩)
def tIfS (c:TT)(t u:TS):TS:=λD σ H=>c σ H λb H1=>if b=true then t D σ H1 else u D σ H1
theorem z9 {c:Expr}{a b:List Stmt}{tc:TT}(hc:PT X c tc)(ha:PSs X a t)(hb:PSs X b u):PS X (.If c a b pos) (tIfS tc t u):=by
 intro pins s σ H D I h;refine wpAny_If (bV (hc pins s σ H _ I h) λd s1 hh_=> ?_)
 obtain⟨H1,I1,q1⟩:=hh_
 cases d with
 | true=>exact ha pins s1 σ H1 D I1 q1
 | false=>exact hb pins s1 σ H1 D I1 q1
end
abbrev TG:=V->St->Hp->(St->Hp->Prop)->Prop
abbrev Cr:=List V->St->Hp->(St->Hp->Prop)->Prop
def PG (X:Cx)(target:Expr)(t:TG):Prop:=
 ∀(pins:List (Addr×Obj)) (s:Ld) (σ:St) (H:Hp) (v:V) (u:La) (Q:St->Hp->Prop),Inv X pins σ H s->RelV v u->t v σ H Q →
  wpAny (model X.prog X.w) X.A (assign target X.env u) (λ_ s'=> ∃σ' H',Inv X pins σ' H' s'/\Q σ' H') X.xe s
def PGs (X:Cx)(ts:List Expr)(t:Cr):Prop:=
 ∀(pins:List (Addr×Obj)) (s:Ld) (σ:St) (H:Hp) (vs:List V) (us:List La) (Q:St->Hp->Prop),Inv X pins σ H s->Vals vs us->t vs σ H Q →
  wpAny (model X.prog X.w) X.A (assignInOrder ((L9 ts X.env).map (·.2)) us) (λ_ s'=> ∃σ' H',Inv X pins σ' H' s'/\Q σ' H') X.xe s
section
variable {X:Cx}{pos:Pos}
def Bj (i:Nat):TG:=λv σ H Q=>Q (σ.set i (some v)) H
theorem xo {i:Nat}{x:Str}(hN:X.N.Nodup)(hi:X.N[i]? =some x)(hx:Loc X.env.scope x)(hf:autoParam (X.fn x=true\/X.env.scope.names.lookup x=some .local) aqa._auto_1):PG X (.Name x pos) (Bj i):=by
 intro pins s σ H v u Q I r h;exact Rt (t9 I hN hi hx r (λs' I'=>⟨_,H,I',h⟩) hf)
def gNil:Cr:=λvs σ H Q=>vs= []/\Q σ H
def JJ (t:TG)(u:Cr):Cr:=λvs σ H Q=> ∃v r,vs=v::r/\t v σ H λσ' H'=>u r σ' H' Q
theorem xn:PGs X [] gNil:=by
 intro pins s σ H vs us Q I r h;obtain⟨e,h⟩:=h;subst e;cases r;exact assignInOrder_nil ⟨σ,H,I,h⟩
theorem uu {e:Expr}{es:List Expr}{t:TG}{u:Cr}(h1:PG X e t)(h2:PGs X es u)
  (hs:autoParam ((L9 (e::es) X.env).map (·.2)=assign e X.env::(L9 es X.env).map (·.2)) aqd._auto_1):PGs X (e::es) (JJ t u):=by
 intro pins s σ H vs us Q I r h;obtain⟨v,vr,e1,h⟩:=h;subst e1
 cases r with
 | cons r rr=>
  rw[hs];refine assignInOrder_cons (bV (h1 pins s σ H _ _ _ I r h) λ_ s1 hh_=> ?_)
  obtain⟨σ1,H1,I1,q1⟩:=hh_;exact h2 pins s1 σ1 H1 _ _ Q I1 rr q1
def gTup (K:K7)(n:Nat)(t:Cr):TG:=λv σ H Q=> ∃a xs,v= .ref a/\SqT K H a xs/\xs.length=n/\t xs σ H Q
theorem Ad {es:List Expr}{k:Nat}{t:Cr}{n:Nat}(hc:X.calm=true)(h:PGs X es t)
  (hn:autoParam ((L9 es X.env).length=n) aqd._auto_1) (hst:autoParam ((L9 es X.env).findIdx? (·.1)=none) aqd._auto_1):PG X (.Tuple es k pos) (gTup X.K n t):=by
 intro pins s σ H v u Q I r hw;obtain⟨a,xs,e1,hq,hl,hw⟩:=hw;subst e1;cases r;obtain⟨its,rv,ht,hz⟩:=I.tuple hq;refine assign_Tuple_tuple (I.ok.hd hc) ht (by simp[hn,<-hl,rv.length]) hst λh' hx=> ?_
 have I1:Inv X pins σ H { s with heap:=h' }:=I.kept (t':=s.toks) λb o e=>hx b o (MD (Lq e)) e
 exact h pins _ σ H xs _ Q I1 (by simpa using rv) hw
def CS (te:TE)(g:TG):TS:=λD σ H=>te σ H λx H1=>g x σ H1 D.nx
theorem Aa {tg e:Expr}{te:TE}{g:TG}(he:PE X e te)(hg:PG X tg g)(hs:autoParam (OA [tg] e pos.line X.env=pure false) aqd._auto_1)(hw:autoParam (OB [tg] e X.env=pure none) aqd._auto_1)
  (h1:autoParam ((L9 [tg] X.env).map (·.2)= [assign tg X.env]) aqd._auto_1):PS X (.Assign [tg] e pos) (CS te g):=by
 intro pins s σ H D I h;refine wpAny_Assign_stores (bV (he pins s σ H _ I h) λv s1 ⟨x,H1,I1,r1,q1⟩=> ?_) hs hw
 rw[h1];exact bV (hg pins s1 σ H1 x v _ I1 r1 q1) λ_ s2 q=>q
theorem nK {i:Nat}{x:Str}{e:Expr}{te:TE}{pos':Pos}(hN:X.N.Nodup)(hi:X.N[i]? =some x)(hx:Loc X.env.scope x)(he:PE X e te)(hs:autoParam (L5 e (some (.Name x pos')) pos.line X.env=pure false) aqd._auto_1)(hf:autoParam (X.fn x=true\/X.env.scope.names.lookup x=some .local) aqa._auto_1) :
  PS X (.Assign [.Name x pos'] e pos) (CS te (Bj i)):=by
 intro pins s σ H D I h;refine wpAny_Assign_Name (bV (he pins s σ H _ I h) λv s1 ⟨y,H1,I1,r1,q1⟩=> ?_) hs
 exact t9 I1 hN hi hx r1 (λs2 I2=>⟨_,H1,I2,q1⟩) hf
end
section
variable {X:Cx}{pos:Pos}
def vH (c:TT)(tb:TS):TS:=λD σ H=> ∃W:Nat->St->Hp->Prop,(∃m,W m σ H)/\∀m σ H,W m σ H →
 c σ H λb H1=>if b=true then ∃N:St->Hp->Prop,(∀σ' H',N σ' H'->∃m',m'<m/\W m' σ' H')/\tb { D with nx:=N,ct:=N,bk:=D.nx } σ H1 else D.nx σ H1
theorem z7 {c:Expr}{body:List Stmt}{tc:TT}{tb:TS}(hp:PassesOwn (model X.prog X.w) X.A X.env X.xe)(hc:PT X c tc)(hb:PSs X body tb):PS X (.While c body [] pos) (vH tc tb):=by
 intro pins s σ H D I h;obtain⟨W,⟨m0,w0⟩,turn⟩:=h;refine wpAny_While (codeAny_whileLoop (λn s'=> ∃σ' H',Inv X pins σ' H' s'/\W n σ' H') ?_ m0 ⟨σ,H,I,w0⟩)
 rintro n s1 ⟨σ1,H1,I1,w1⟩
 refine Sh hp (bV (hc pins s1 σ1 H1 _ I1 (turn n σ1 H1 w1)) λb s2 hh_=> ?_)
 obtain⟨H2,I2,q2⟩:=hh_
 cases b with
 | true=>
  obtain⟨N,hN,q2⟩:=q2;rw[if_pos rfl];refine Sh hp (bV (hb pins s2 σ1 H2 _ I2 q2) λf s3 q3=> ?_)
  cases f with
  | next=>
   obtain⟨σ3,H3,I3,n3⟩:=q3;obtain⟨m',hm,w3⟩:=hN σ3 H3 n3
   exact⟨m',hm,σ3,H3,I3,w3⟩
  | cont=>
   obtain⟨σ3,H3,I3,n3⟩:=q3;obtain⟨m',hm,w3⟩:=hN σ3 H3 n3
   exact⟨m',hm,σ3,H3,I3,w3⟩
  | brk=>exact q3
  | ret v=>exact q3
 | false=>
  rw[if_neg LK];exact N9 ⟨σ1,H2,I2,q2⟩
end
structure It where
 go:Nat->Hp->Prop
 yld:Nat->Hp->V->Hp->Prop
 stop:Nat->Hp->Prop
def o8 (X:Cx)(pins:List (Addr×Obj))(H:Hp)(b:Addr):Prop:=
 H b=none/\b≠X.env.locals/\b∉X.fs/\(b∈X.ex\/X.s₀.heap.objs.size<=b)/\(∀x c,X.env.cells.lookup x=some c->c≠b)/\∀p∈X.pn++pins,p.1≠b
theorem Inv.Ky {X:Cx}{pins:List (Addr×Obj)}{σ:St}{H H':Hp}{s:Ld}{b:Addr}(I:Inv X pins σ H s)(hb:s.heap.objs.size<=b)(hn:H' b=none):o8 X pins H' b:=by
 refine⟨hn,O5 (Ly I.lt hb),I.K0 hb,.inr (Me I.sz hb),λx c e z=> ?_,λp hp z=> ?_⟩
 ·obtain⟨v,q⟩:=I.cell x c e
  exact absurd (Ly q.lt (by rw[z];exact hb)) (LQ _)
 ·exact absurd (Ly (Lq (I.pin p hp).1) (by rw[z];exact hb)) (LQ _)
structure B9 (P:LI)(w:Mj)(K:K7)(tg:Expr)(J:It)(fp:List Addr)(it:Addr)(tn:Nat->Heap->Prop):Prop where
 mem:it∈fp
 obj:∀i h,tn i h->∀b∈fp,∃o,h.get? b=some o/\∀v,o.data≠ .cell v
 keep:∀i h h',tn i h->(∀b∈fp,∀o,h.get? b=some o->h'.get? b=some o)->tn i h'
 item:∀(X:Cx),X.prog=P->X.w=w->X.K=K->X.calm=true->∀(i:Nat) (pins:List (Addr×Obj)) (s:Ld) (σ:St) (H:Hp) (E:La->Ld->Prop),Inv X pins σ H s->(∀b∈fp,o8 X pins H b)->tn i s.heap->J.go i H →
  wpAny (model P w) X.A (pyNext (.ref it)) (λr s1=> ∃u,r=some u ∧
   wpAny (model P w) X.A (Oa tg (.ref it) u) (λ_ s2=> ∃x H',Inv X pins σ H' s2/\RelV x u/\J.yld i H x H'/\tn (i+1) s2.heap/\∀b∈fp,H' b=none) E s1) E s
 done:∀(X:Cx),X.prog=P->X.w=w->X.K=K->X.calm=true->∀(i:Nat) (pins:List (Addr×Obj)) (s:Ld) (σ:St) (H:Hp) (E:La->Ld->Prop),Inv X pins σ H s->(∀b∈fp,o8 X pins H b)->tn i s.heap->J.stop i H →
  wpAny (model P w) X.A (pyNext (.ref it)) (λr s1=>r=none/\Inv X pins σ H s1) E s
 self:∀(A:LZ) (i:Nat) (s:Ld) (Q:La->Ld->Prop) (E:La->Ld->Prop),tn i s.heap->Q (.ref it) s->wpAny (model P w) A (pyIter (.ref it)) Q E s
abbrev TI:=St->Hp->(It->Hp->Prop)->Prop
def PIE (X:Cx)(pins:List (Addr×Obj))(σ:St)(tg:Expr)(R:It->Hp->Prop)(itv:La)(s2:Ld):Prop:=
 ∃(it:Addr) (fp:List Addr) (tn:Nat->Heap->Prop) (J:It) (H':Hp),itv= .ref it/\Inv X pins σ H' s2/\B9 X.prog X.w X.K tg J fp it tn/\tn 0 s2.heap/\(∀b∈fp,o8 X pins H' b)/\R J H'
def PI (X:Cx)(tg iter:Expr)(wi:TI):Prop:=
 ∀(pins:List (Addr×Obj)) (s:Ld) (σ:St) (H:Hp) (R:It->Hp->Prop),Inv X pins σ H s->wi σ H R →
  wpAny (model X.prog X.w) X.A (eval iter X.env) (λv s1=>wpAny (model X.prog X.w) X.A (pyIter v) (PIE X pins σ tg R) X.xe s1) X.xe s
theorem Bf {M:Model}{A:LZ}{E:La->Ld->Prop}{s:Ld}{tg:Expr}{it:Addr}{u:La}{o:Obj}{n:String}{vs:Array La}{Q:Unit->Ld->Prop}(ho:s.heap.get? it=some o)(hc:o.cls= .type n)(hd:o.data= .fields vs)
  (hn:["enumerate","zip","dict_itemiterator","dict_reverseitemiterator","odict_iterator","itertools.zip_longest","itertools.pairwise"].contains n=false) (hQ:Q () s):wpAny M A (Oa tg (.ref it) u) Q E s:=by
 unfold Oa
 cases tg <;> first
  | exact Lm hQ
  | (cases u <;> first
    | exact Lm hQ
    | (refine Lc (wpAny_load ho ?_)
       rw[hc,hd]
       show wpAny M A (if (["enumerate","zip","dict_itemiterator","dict_reverseitemiterator","odict_iterator","itertools.zip_longest","itertools.pairwise"].contains n&&vs[0]? == some (rawInt _))=true then _ else _) Q E s
       rw[if_neg (by intro h;rw[hn,Bool.false_and]at h;cases h)]
       exact Lm hQ))
def Itl (K:K7)(a:Addr):It:=
 ⟨λi H=> ∃xs x,SqL K H a xs/\xs[i]? =some x,λi H x H'=>H'=H/\∀xs,SqL K H a xs->xs[i]? =some x,λi H=> ∃xs,SqL K H a xs/\xs.length<=i⟩
def Itt (K:K7)(a:Addr):It:=
 ⟨λi H=> ∃xs x,SqT K H a xs/\xs[i]? =some x,λi H x H'=>H'=H/\∀xs,SqT K H a xs->xs[i]? =some x,λi H=> ∃xs,SqT K H a xs/\xs.length<=i⟩
def Itr (lo:Int)(n:Nat):It:=⟨λi _=>i<n,λi H x H'=>H'=H/\x= .int (lo+i),λi _=>n<=i⟩
theorem yu {P:LI}{w:Mj}{K:K7}{tg:Expr}(a it:Addr):B9 P w K tg (Itl K a) [it] it (λi h=>h.IsListIter it a i) where
 mem:=by simp
 obj:=λi h st b hb=>by
  have e:b=it:=by simpa using hb
  subst e;obtain⟨o,e,c,d⟩:=st;exact⟨o,e,λv z=>by rw[d]at z;cases z⟩
 keep:=λi h h' st k=>st.at λo e=>k it (by simp) o e
 item:=by
  intro X hP hw hK hc i pins s σ H E I hf st hg;subst hP hw hK;obtain⟨xs,x,hq,hx⟩:=hg;obtain⟨its,rv,p,hz⟩:=I.list hq;obtain⟨u,hu,ru⟩:=rv.get hx;obtain⟨f0,f1,f2,f3,f4,f5⟩:=hf it (by simp)
  refine PR st p.isList (x:=u) (by simpa using hu) λh' st' sb=> ?_
  have I1:Inv X pins σ H { s with heap:=h' }:=I.turned (t':=s.toks) (λb o hb e=>(sb.2 b hb).trans e) f0 f1 f3 f4 f5
  obtain⟨o,e,c,d⟩:=id st';exact⟨u,rfl,Bf (s:={ s with heap:=h' }) e c d (by decide) ⟨x,H,I1,ru,⟨rfl,λys hy=>by rw[I.Kr hy hq];exact hx⟩,st',λb hb=>(hf b hb).1⟩⟩
 done:=by
  intro X hP hw hK hc i pins s σ H E I hf st hg;subst hP hw hK;obtain⟨xs,hq,hx⟩:=hg;obtain⟨its,rv,p,hz⟩:=I.list hq;obtain⟨f0,f1,f2,f3,f4,f5⟩:=hf it (by simp)
  have hl:=rv.length;exact Qj (I.ok.hd hc) st p.isList (by simp;omega) λh' eb=>⟨rfl,I.turned (t':=s.toks) (λb o hb e=>eb b o hb e) f0 f1 f3 f4 f5⟩
 self:=λ_ _ _ _ _ st h=>wpAny_pyIter_listiter st h
theorem vE {P:LI}{w:Mj}{K:K7}{tg:Expr}(a it:Addr):B9 P w K tg (Itt K a) [it] it (λi h=>h.IsTupleIter it a i) where
 mem:=by simp
 obj:=λi h st b hb=>by
  have e:b=it:=by simpa using hb
  subst e;obtain⟨o,e,c,d⟩:=st;exact⟨o,e,λv z=>by rw[d]at z;cases z⟩
 keep:=λi h h' st k=>st.at λo e=>k it (by simp) o e
 item:=by
  intro X hP hw hK hc i pins s σ H E I hf st hg;subst hP hw hK;obtain⟨xs,x,hq,hx⟩:=hg;obtain⟨its,rv,p,hz⟩:=I.tuple hq;obtain⟨u,hu,ru⟩:=rv.get hx;obtain⟨f0,f1,f2,f3,f4,f5⟩:=hf it (by simp)
  refine wpAny_pyNext_tuple_item st (show s.heap.IsTuple a its.toArray from p) (x:=u) (by simpa using hu) λh' st' sb=> ?_
  have I1:Inv X pins σ H { s with heap:=h' }:=I.turned (t':=s.toks) (λb o hb e=>(sb.2 b hb).trans e) f0 f1 f3 f4 f5
  obtain⟨o,e,c,d⟩:=id st';exact⟨u,rfl,Bf (s:={ s with heap:=h' }) e c d (by decide) ⟨x,H,I1,ru,⟨rfl,λys hy=>by rw[I.Kn hy hq];exact hx⟩,st',λb hb=>(hf b hb).1⟩⟩
 done:=by
  intro X hP hw hK hc i pins s σ H E I hf st hg;subst hP hw hK;obtain⟨xs,hq,hx⟩:=hg;obtain⟨its,rv,p,hz⟩:=I.tuple hq;obtain⟨f0,f1,f2,f3,f4,f5⟩:=hf it (by simp)
  have hl:=rv.length;exact wpAny_pyNext_tuple_end (I.ok.hd hc) st (show s.heap.IsTuple a its.toArray from p) (by simp;omega) λh' eb=>⟨rfl,I.turned (t':=s.toks) (λb o hb e=>eb b o hb e) f0 f1 f3 f4 f5⟩
 self:=λ_ _ _ _ _ st h=>wpAny_pyIter_tupleiter st h
theorem vF {P:LI}{w:Mj}{K:K7}{tg:Expr}(it:Addr)(lo:Int)(n:Nat):B9 P w K tg (Itr lo n) [it] it (λi h=>IsRangeIter h it (lo+(i:Nat)*1) ((n:Int) - (i:Nat)) 1) where
 mem:=by simp
 obj:=λi h st b hb=>by
  have e:b=it:=by simpa using hb
  subst e
  exact⟨_,st,λv z=>by
   have z':Data.fields _=Data.cell v:=z;cases z'⟩
 keep:=λi h h' st k=>k it (by simp) _ st
 item:=by
  intro X hP hw hK hc i pins s σ H E I hf st hg;subst hP hw hK;obtain⟨f0,f1,f2,f3,f4,f5⟩:=hf it (by simp)
  have W:=Walks.range (prog:=X.prog) (w:=X.w) (I.ok.hd hc) it lo 1 n;refine W.item i s _ _ hg st λv h' tk hv st' kk=> ?_
  obtain⟨t,rfl⟩:=hv
  have I1:Inv X pins σ H { s with heap:=h',toks:=tk }:=I.turned (λb o hb e=>kk b o (by simpa using hb) e) f0 f1 f3 f4 f5
  refine⟨_,rfl,Bf (s:={ s with heap:=h',toks:=tk }) (n:="range_iterator") st' rfl rfl (by decide) ⟨.int (lo+i),H,I1,⟨t,?_⟩,⟨rfl,rfl⟩,st',λb hb=>(hf b hb).1⟩⟩
  rw[Int.mul_one]
 done:=by
  intro X hP hw hK hc i pins s σ H E I hf st hg;subst hP hw hK;obtain⟨f0,f1,f2,f3,f4,f5⟩:=hf it (by simp)
  exact wpAny_pyNext_range_end (I.ok.hd hc) st (by have:n<=i:=hg;omega) λh' eb=>⟨rfl,I.turned (t':=s.toks) (λb o hb e=>eb b o hb e) f0 f1 f3 f4 f5⟩
 self:=λ_ _ _ _ _ st h=>wpAny_pyIter_rangeiter st h
section
variable {X:Cx}{tg:Expr}
def JI (K:K7)(tl:TE):TI:=λσ H R=>tl σ H λx H1=> ∃a,x= .ref a/\(∃xs,SqL K H1 a xs)/\R (Itl K a) H1
def iTup (K:K7)(tl:TE):TI:=λσ H R=>tl σ H λx H1=> ∃a,x= .ref a/\(∃xs,SqT K H1 a xs)/\R (Itt K a) H1
theorem Dz {l:Expr}{tl:TE}(hl:PE X l tl):PI X tg l (JI X.K tl):=by
 intro pins s σ H R I h;refine bV (hl pins s σ H _ I h) λv s1 hh_=> ?_
 obtain⟨x,H1,I1,r1,q1⟩:=hh_;obtain⟨a,e,⟨xs,hq⟩,q⟩:=q1;subst e;cases r1;obtain⟨its,rv,p,hz⟩:=I1.list hq;refine Pt p.isList ?_
 refine⟨s1.heap.objs.size,[s1.heap.objs.size],_,_,H1,rfl,I1.kept (t':=s1.toks) λb o e=>Lk _ e,yu a _,⟨_,Lz _ rfl,rfl,rfl⟩,λb hb=> ?_,q⟩
 have e:b=s1.heap.objs.size:=by simpa using hb
 subst e;exact I1.Ky (Lo _) (I1.hok.fresh (Lo _))
theorem Gq {l:Expr}{tl:TE}(hl:PE X l tl):PI X tg l (iTup X.K tl):=by
 intro pins s σ H R I h;refine bV (hl pins s σ H _ I h) λv s1 hh_=> ?_
 obtain⟨x,H1,I1,r1,q1⟩:=hh_;obtain⟨a,e,⟨xs,hq⟩,q⟩:=q1;subst e;cases r1;obtain⟨its,rv,p,hz⟩:=I1.tuple hq;refine Ob (show s1.heap.IsTuple a its.toArray from p) ?_
 refine⟨s1.heap.objs.size,[s1.heap.objs.size],_,_,H1,rfl,I1.kept (t':=s1.toks) λb o e=>Lk _ e,vE a _,⟨_,Lz _ rfl,rfl,rfl⟩,λb hb=> ?_,q⟩
 have e:b=s1.heap.objs.size:=by simpa using hb
 subst e;exact I1.Ky (Lo _) (I1.hok.fresh (Lo _))
theorem um {pins:List (Addr×Obj)}{σ:St}{H:Hp}{s:Ld}{R:It->Hp->Prop}{E:La->Ld->Prop}{lo hi:Int}{t u v:Tok}{tk:Nat}(I:Inv X pins σ H s)(h1 : -(2 ^ 62)<=lo)(h2:lo<2 ^ 62)(h3 : -(2 ^ 62)<=hi)(h4:hi<2 ^ 62)
  (q:R (Itr lo (hi - lo).toNat) H):wpAny (model X.prog X.w) X.A (pyIter (.ref s.heap.objs.size)) (PIE X pins σ tg R) E { s with heap:=s.heap.push { cls:=.type "range",data:=.fields #[.int lo t,.int hi u,.int 1 v] },toks:=tk }:=by
 refine wpAny_pyIter_range (IsRange.new ..) (small_one h1 h2 h3 h4) ?_
 have I1:Inv X pins σ H { s with heap:=s.heap.push { cls:=.type "range",data:=.fields #[.int lo t,.int hi u,.int 1 v] },toks:=tk }:=I.kept λb o e=>Lk _ e
 refine⟨(s.heap.push { cls:=.type "range",data:=.fields #[.int lo t,.int hi u,.int 1 v] }).objs.size,[(s.heap.push { cls:=.type "range",data:=.fields #[.int lo t,.int hi u,.int 1 v] }).objs.size],_,_,H,rfl,
  I1.kept (t':=tk) λb o e=>Lk _ e,vF _ lo (hi - lo).toNat,?_,λb hb=> ?_,q⟩
 ·have e1:lo+((0:Nat):Int)*1=lo:=by simp
  have e2:(((hi - lo).toNat:Nat):Int) - ((0:Nat):Int)=Builtin.Range.rangeSize lo hi 1:=by rw[rangeSize_one];split <;> omega
  show IsRangeIter _ _ (lo+((0:Nat):Int)*1) ((((hi - lo).toNat:Nat):Int) - ((0:Nat):Int)) 1
  rw[e1,e2];exact Lz _ rfl
 ·have e:b=(s.heap.push { cls:=.type "range",data:=.fields #[.int lo t,.int hi u,.int 1 v] }).objs.size:=by simpa using hb
  subst e;exact I1.Ky (Lo _) (I1.hok.fresh (Lo _))
def tFor (wi:TI)(g:TG)(tb:TS):TS:=λD σ H=>wi σ H λJ H1=> ∃W:Nat->Nat->St->Hp->Prop,(∃m,W 0 m σ H1)/\∀i m σ H,W i m σ H →
 (J.stop i H/\D.nx σ H)\/(J.go i H/\∃N:St->Hp->Prop,(∀σ' H',N σ' H'->∃m',m'<m/\W (i+1) m' σ' H')/\∀x H',J.yld i H x H'->g x σ H' λσ2 H2=>tb { D with nx:=N,ct:=N,bk:=D.nx } σ2 H2)
def nL (fp:List Addr)(h:Heap):List (Addr×Obj):=fp.filterMap λb=>(h.get? b).map λo=>(b,o)
theorem gY {fp:List Addr}{h:Heap}{b:Addr}{o:Obj}(hb:b∈fp)(e:h.get? b=some o):(b,o)∈nL fp h:=O6.mpr ⟨b,hb,by rw[e];rfl⟩
theorem yJ {fp:List Addr}{h:Heap}{p:Addr×Obj}(hp:p∈nL fp h):p.1∈fp/\h.get? p.1=some p.2:=by
 obtain⟨b,hb,e⟩:=O6.mp hp
 cases q:h.get? b with
 | none=>rw[q]at e;cases e
 | some o=>
  rw[q]at e
  have e':(b,o)=p:=LX e;subst e';exact⟨hb,q⟩
theorem Inv.pinned {pins:List (Addr×Obj)}{σ:St}{H:Hp}{s:Ld}{fp:List Addr}(I:Inv X pins σ H s)(hf:∀b∈fp,o8 X pins H b)(ho:∀b∈fp,∃o,s.heap.get? b=some o/\∀v,o.data≠ .cell v):Inv X (pins++nL fp s.heap) σ H s:=
 I.Kw λp hp=>(Lw.mp hp).elim (λz=>I.pin p (Lu _ z)) λz=>by
  obtain⟨hb,e⟩:=yJ z;obtain⟨f0,f1,f2,_⟩:=hf p.1 hb;obtain⟨o,e',d⟩:=ho p.1 hb;rw[e]at e';cases e';exact⟨e,f0,f1,f2,d⟩
theorem Inv.Ki {pins pl:List (Addr×Obj)}{σ:St}{H:Hp}{s:Ld}(I:Inv X (pins++pl) σ H s):Inv X pins σ H s:=I.Kw λp hp=>I.pin p (Lu _ (LB _ hp))
end
abbrev R2:=V->V->Hp->VK->Prop
def pj (X:Cx)(f:La->La->Sem La)(r:R2):Prop:=
 ∀(pins:List (Addr×Obj)) (s:Ld) (σ:St) (H:Hp) (x y:V) (v u:La) (Q:VK),Inv X pins σ H s->RelV x v->RelV y u->r x y H Q →
  wpAny (model X.prog X.w) X.A (f v u) (EP X pins σ Q) X.xe s
def UnR (X:Cx)(f:La->Sem La)(r:V->Hp->VK->Prop):Prop:=
 ∀(pins:List (Addr×Obj)) (s:Ld) (σ:St) (H:Hp) (x:V) (v:La) (Q:VK),Inv X pins σ H s->RelV x v->r x H Q →
  wpAny (model X.prog X.w) X.A (f v) (EP X pins σ Q) X.xe s
def CallR (X:Cx)(f:La)(r:List V->Hp->VK->Prop):Prop:=
 ∀(pins:List (Addr×Obj)) (s:Ld) (σ:St) (H:Hp) (xs:List V) (us:List La) (Q:VK),Inv X pins σ H s->Vals xs us->r xs H Q →
  wpAny (model X.prog X.w) X.A (call f us) (EP X pins σ Q) X.xe s
def tOp (r:R2)(ta tb:TE):TE:=λσ H Q=>ta σ H λx H1=>tb σ H1 λy H2=>r x y H2 Q
def tUn (r:V->Hp->VK->Prop)(ta:TE):TE:=λσ H Q=>ta σ H λx H1=>r x H1 Q
def rI (C:Int->Int->Prop)(g:Int->Int->V):R2:=λx y H Q=> ∃i j,x= .int i/\y= .int j/\C i j/\Q (g i j) H
def EW (g:Int->Int->V):R2:=λx y H Q=> ∃i j,x= .int i/\y= .int j/\Q (g i j) H
def rU (g:Int->V):V->Hp->VK->Prop:=λx H Q=> ∃i,x= .int i/\Q (g i) H
section
variable {X:Cx}{a b c:Expr}{ta tb tc:TE}{pos:Pos}
theorem binT (ha:PE X a ta)(hb:PE X b tb){pins:List (Addr×Obj)}{s:Ld}{σ:St}{H:Hp}{R:V->V->Hp->Prop}(I:Inv X pins σ H s)
  (h:ta σ H λx H1=>tb σ H1 λy H2=>R x y H2) {Q:La->Ld->Prop} {f:La->La->Sem La}
  (hf:∀v u s2 x y H2,Inv X pins σ H2 s2->RelV x v->RelV y u->R x y H2->wpAny (model X.prog X.w) X.A (f v u) Q X.xe s2) :
  wpAny (model X.prog X.w) X.A (eval a X.env) (λv s₁=>wpAny (model X.prog X.w) X.A (eval b X.env) (λu s₂=>wpAny (model X.prog X.w) X.A (f v u) Q X.xe s₂) X.xe s₁) X.xe s:=by
 refine bV (ha pins s σ H _ I h) λv s1 hh_=> ?_
 obtain⟨x,H1,I1,r1,q1⟩:=hh_;refine bV (hb pins s1 σ H1 _ I1 q1) λu s2 hh_=> ?_
 obtain⟨y,H2,I2,r2,q2⟩:=hh_;exact hf v u s2 x y H2 I2 r1 r2 q2
theorem IY {op:Operator}{r:R2}(ho:pj X (MN op) r)(ha:PE X a ta)(hb:PE X b tb):PE X (.BinOp a op b pos) (tOp r ta tb):=by
 intro pins s σ H Q I h;exact wpAny_BinOp (binT ha hb I h λv u s2 x y H2 I2 rx ry q=>ho pins s2 σ H2 x y v u Q I2 rx ry q)
theorem EX {op:UnaryOp}{r:V->Hp->VK->Prop}(ho:UnR X (unaryOp op) r)(ha:PE X a ta):PE X (.UnaryOp op a pos) (tUn r ta):=by
 intro pins s σ H Q I h;exact UnaryOp_ (bV (ha pins s σ H _ I h) λv s1 ⟨x,H1,I1,r1,q1⟩=>ho pins s1 σ H1 x v Q I1 r1 q1)
theorem opI {f:La->La->Sem La}{C:Int->Int->Prop}{g:Int->Int->Int}
  (rule:∀(i j:Int) (t u:Tok) (s:Ld) (Q:La->Ld->Prop) (E:La->Ld->Prop),C i j->Q (.int (g i j) s.toks) { s with toks:=s.toks+1 }->wpAny (model X.prog X.w) X.A (f (.int i t) (.int j u)) Q E s) :
  pj X f (rI C λi j=> .int (g i j)):=by
 intro pins s σ H x y v u Q I rx ry h;obtain⟨i,j,rfl,rfl,hc,q⟩:=h;obtain⟨t,rfl⟩:=rx;obtain⟨t',rfl⟩:=ry;exact rule i j t t' s _ _ hc ⟨.int (g i j),H,I.tok _,⟨_,rfl⟩,q⟩
theorem Jf {f:La->La->Sem La}{g:Int->Int->Int}
  (rule:∀(i j:Int) (t u:Tok) (s:Ld) (Q:La->Ld->Prop) (E:La->Ld->Prop),Q (.int (g i j) s.toks) { s with toks:=s.toks+1 }->wpAny (model X.prog X.w) X.A (f (.int i t) (.int j u)) Q E s) :
  pj X f (EW λi j=> .int (g i j)):=by
 intro pins s σ H x y v u Q I rx ry h;obtain⟨i,j,rfl,rfl,q⟩:=h;obtain⟨t,rfl⟩:=rx;obtain⟨t',rfl⟩:=ry;exact rule i j t t' s _ _ ⟨.int (g i j),H,I.tok _,⟨_,rfl⟩,q⟩
theorem GK {f:La->La->Sem La}{g:Int->Int->Bool}
  (rule:∀(i j:Int) (t u:Tok) (s:Ld) (Q:La->Ld->Prop) (E:La->Ld->Prop),Q (.bool (g i j)) s->wpAny (model X.prog X.w) X.A (f (.int i t) (.int j u)) Q E s) :
  pj X f (EW λi j=> .bl (g i j)):=by
 intro pins s σ H x y v u Q I rx ry h;obtain⟨i,j,rfl,rfl,q⟩:=h;obtain⟨t,rfl⟩:=rx;obtain⟨t',rfl⟩:=ry;exact rule i j t t' s _ _ ⟨.bl (g i j),H,I,rfl,q⟩
def CDiv (i j:Int):Prop:=0<j/\j<1073741824
def CMul (i j:Int):Prop:=(-(2 ^ 64)<i/\i<2 ^ 64)\/(-(2 ^ 64)<j/\j<2 ^ 64)
theorem CMul.ok {i j:Int}(h:CMul i j):IntMulOk i j:=by
 rcases h with⟨h1,h2⟩ | ⟨h1,h2⟩
 ·exact .of_left (intBits_le_64 h1 h2)
 ·exact .of_right (intBits_le_64 h1 h2)
theorem GJ:pj X (MN .Add) (EW λi j=> .int (i+j)):=Jf λ_ _ _ _ _ _ _ q=>add_int q
theorem GC:pj X (MN .Sub) (EW λi j=> .int (i - j)):=Jf λ_ _ _ _ _ _ _ q=>sub_int q
theorem GF:pj X (MN .Mult) (rI CMul λi j=> .int (i*j)):=opI λ_ _ _ _ _ _ _ hc q=>mul_int q hc.ok
theorem DH:pj X (MN .FloorDiv) (rI CDiv λi j=> .int (i / j)):=opI λi j _ _ _ _ _ hc q=>by
 have h1:(0:Int)<j:=hc.1
 have h2:j<1073741824:=hc.2;exact floordiv_int (by omega) (by rw[Int.fdiv_eq_ediv_of_nonneg i (by omega)];exact q) (.inl (PyProof.noPylong_small (by omega)))
theorem GG:pj X (MN .Mod) (rI (λ_ j=>0<j) λi j=> .int (i % j)):=opI λi j _ _ _ _ _ hc q=>by
 have h1:(0:Int)<j:=hc;exact mod_int' (by omega) (by rw[Int.fmod_eq_emod_of_nonneg i (by omega)];exact q)
theorem unI {f:La->Sem La}{g:Int->Int}
  (rule:∀(i:Int) (t:Tok) (s:Ld) (Q:La->Ld->Prop) (E:La->Ld->Prop),Q (.int (g i) s.toks) { s with toks:=s.toks+1 }->wpAny (model X.prog X.w) X.A (f (.int i t)) Q E s) :
  UnR X f (rU λi=> .int (g i)):=by
 intro pins s σ H x v Q I rx h;obtain⟨i,rfl,q⟩:=h;obtain⟨t,rfl⟩:=rx;exact rule i t s _ _ ⟨.int (g i),H,I.tok _,⟨_,rfl⟩,q⟩
theorem zI:UnR X (unaryOp .USub) (rU λi=> .int (-i)):=unI λ_ _ _ _ _ q=>neg_int q
end
section
variable {X:Cx}{a b c:Expr}{ta tb tc:TE}{pos:Pos}
theorem Bs {pins:List (Addr×Obj)}{σ:St}{H:Hp}{s:Ld}{Q:VK}{k k':Bool}(I:Inv X pins σ H s)(q:Q (.bl k) H)(e:k=k'):EP X pins σ Q (.bool k') s:=by
 subst e;exact⟨.bl k,H,I,rfl,q⟩
theorem Jc:pj X (L0 .Lt) (EW λi j=> .bl (decide (i<j))):=GK λ_ _ _ _ _ _ _ q=>lt_int q
theorem Jd:pj X (L0 .LtE) (EW λi j=> .bl (decide (i<=j))):=GK λ_ _ _ _ _ _ _ q=>le_int q
theorem Je:pj X (L0 .Gt) (EW λi j=> .bl (decide (j<i))):=GK λ_ _ _ _ _ _ _ q=>gt_int q
theorem GH:pj X (L0 .Is) (λx y H Q=>y= .non/\Q (.bl (decide (x= .non))) H):=by
 intro pins s σ H x y v u Q I rx ry h;obtain⟨rfl,q⟩:=h;cases ry;refine is_none_gen (Bs I q ?_)
 cases x <;> first
  | (cases rx;rfl)
  | (obtain⟨t,rfl⟩:=rx;rfl)
theorem DG:pj X (L0 .IsNot) (λx y H Q=>y= .non/\Q (.bl (!decide (x= .non))) H):=by
 intro pins s σ H x y v u Q I rx ry h;obtain⟨rfl,q⟩:=h;cases ry;refine isnot_none_gen (Bs I q ?_)
 cases x <;> first
  | (cases rx;rfl)
  | (obtain⟨t,rfl⟩:=rx;rfl)
theorem oj:(sizeLine:Nat)<2 ^ 63:=by rw[ON];decide
theorem vY:pj X (MN .Add) (λx y H Q=> ∃i j,x= .str i/\y= .str j/\i.length+j.length<=sizeLine/\Q (.str (i++j)) H):=by
 intro pins s σ H x y v u Q I rx ry h;obtain⟨i,j,rfl,rfl,hz,q⟩:=h;obtain⟨t,rfl⟩:=rx;obtain⟨t',rfl⟩:=ry;exact add_str (λt' tk=>⟨.str (i++j),H,I.tok _,⟨_,rfl⟩,q⟩) hz
theorem m9 {x:V}{us:List La}(r:Vals [x] us):∃u,us= [u]/\RelV x u:=by
 cases r with
 | cons r1 r2=>cases r2;exact⟨_,rfl,r1⟩
theorem HY {x y:V}{us:List La}(r:Vals [x,y] us):∃u w',us= [u,w']/\RelV x u/\RelV y w':=by
 cases r with
 | cons r1 r2=>
  cases r2 with
  | cons r3 r4=>cases r4;exact⟨_,_,rfl,r1,r3⟩
theorem zi:CallR X (.type "int") (λxs H Q=>(∃i,xs= [.int i]/\Q (.int i) H)\/∃k,xs= [.bl k]/\Q (.int (if k then 1 else 0)) H):=by
 intro pins s σ H xs us Q I r h;rcases h with⟨i,rfl,q⟩ | ⟨k,rfl,q⟩
 ·obtain⟨u,rfl,t,rfl⟩:=m9 r
  exact call_int_int ⟨.int i,H,I,⟨_,rfl⟩,q⟩
 ·obtain⟨u,rfl,r1⟩:=m9 r
  cases r1;exact call_int_bool ⟨.int (if k then 1 else 0),H,I.tok _,⟨_,rfl⟩,q⟩
end
structure ObjM (h:Heap)(x dx C:Addr)(mA:Str->Option La):Prop where
 obj:h.get? x=some (MZ C dx)
 ns:h.Ns1 dx mA
 ne:dx≠x
theorem yR {h:Heap}{dx:Addr}{mA:Str->Option La}(n:h.Ns1 dx mA):∃od,h.get? dx=some od/\∀name,Pc name od=some (mA name):=by
 obtain⟨o,es,ep,ho,hd,hk,_,hm⟩:=n;refine⟨o,ho,λname=> ?_⟩
 have e:=hm name;unfold nsFind findBy at e;rw[<-QU]at e
 unfold Pc;rw[hd]
 dsimp only
 split
 ·rename_i y q
  rw[q]at e;exact congrArg some e
 ·rename_i q
  rw[q]at e
  have a:es.toList.any (·.refKey)=false:=by
   rw[List.any_eq_false];intro y hy;obtain⟨z,t,hkey⟩:=hk y (Array.mem_toList_iff.mp hy);simp[DictEntry.refKey,hkey]
  have a':¬ es.toList.any (·.refKey)=true:=by rw[a];exact LK
  rw[if_neg a'];exact congrArg some e
theorem ObjM.look {h:Heap}{x dx C:Addr}{mA:Str->Option La}(I:ObjM h x dx C mA):∃od,PySem.W.InstAt h x (MZ C dx) C (some od)/\∀name,Pc name od=some (mA name):=
 let ⟨od,ho,hl⟩:=yR I.ns
 ⟨od,⟨I.obj,rfl,rfl,ho⟩,hl⟩
section
variable {prog:LI}{w:Mj}{A:LZ}{E:La->Ld->Prop}{s:Ld}{K:K7}{x dx C f:Addr}{mA:Str->Option La}{name:Str}{v:La}
theorem mV {expr:Bool}{Q:La->Ld->Prop}(X:K.In s.heap)(I:ObjM s.heap x dx C mA)(hg:Ou K C name=true)(hh:Pj K C=true)
  (ha:MT K (.ref C) name=some none) (hv:mA name=some v) (hv':RO v=true) (h:Q v { s with toks:=s.toks+1 }) :
  wpAny (model prog w) A (getAttr (.ref x) name expr) Q E s:=by
 obtain⟨od,J,hl⟩:=I.look;exact PySem.W.get_value X J (OH hg).1 (PySem.W.findObj_own hh ha rfl (by rw[hl,hv])) hv' h
theorem Bh {pl:Sem Bool}{Q:La×List La->Ld->Prop}(X:K.In s.heap)(I:ObjM s.heap x dx C mA)(hg:Ou K C name=true)
  (hf:MT K (.ref C) name=some (some (.ref f))) (ht:RA K (.ref f)=true) (hv:mA name=none) (h:Q (.ref f,[.ref x]) s) :
  wpAny (model prog w) A (OP (.ref x) name pl) Q E s:=by
 obtain⟨od,J,hl⟩:=I.look;exact PySem.W.method_fn X J (OH hg).1 (OH hg).2 hf (beq_iff_eq.mp ht) (by show(Pc name od).map (·.isSome)=some false;rw[hl,hv];rfl) h
theorem CY {ns:List Str}{Q:Unit->Ld->Prop}(X:K.In s.heap)(I:ObjM s.heap x dx C mA)
  (hs:MT K (.ref C) "__setattr__" =some (some (.builtin "object.__setattr__"))) (hp:Ri K C=true) (ht:PY K C name=some none) (hh:Pj K C=true)
  (hw:RB mA ns) (hsz:ns.length<=sizeLine)
  (h:∀h',ObjM h' x dx C (λy=>if y=name then some v else mA y)->Oo dx s.heap h'->Q () { s with heap:=h',toks:=s.toks+2 }) :
  wpAny (model prog w) A (setAttr (.ref x) name v) Q E s:=by
 obtain⟨od,J,hl⟩:=I.look;refine PySem.W.set_plain X J hs (PySem.W.osa_open (s:={ s with toks:=s.toks+1 }) (r:=none) X J hp ht λb=> ?_)
 obtain⟨cd,hc,hd'⟩:=PySem.W.any_some hh
 have hx:s.heap.get? x=some ⟨.ref C,some dx,.plain,#[]⟩:=I.obj;refine Lc (Lm (Lc (Lc (wpAny_loadPart hx (Lc (PySem.W.Looks.here (s:={ s with toks:=s.toks+1 }) (PySem.W.looks_clsIn X hc) ?_))))))
 rw[hd'];refine Lm (a:=some dx) (Lc (Lm (Lc ?_)))
 refine wpAny_nsSet1 (s:={ s with toks:=s.toks+1 }) I.ns λh' hn2 hs2=> ?_
 obtain⟨oD,esD,epD,hoD,hdD,hcD⟩:=hn2.count (PySem.Within.cons name v hw);refine Lc (wpAny_lookBehind hoD (by rw[hdD];exact pastItsLine_dict (Me hcD (by rw[Li];omega))) ?_)
 exact Lm (h _ ⟨(hs2.2 _ (NV I.ne)).trans I.obj,hn2,I.ne⟩ hs2)
theorem AI {R:Si->Ld->Prop}{vs:List La}{kw:List (Str×La)}(X:K.In s.heap)(hm:R5 K C=true)
  (hi:MT K (.ref C) "__init__" =some (some (.ref f))) (hf:PySem.W.typeIn K (.ref f)=some (.type "function"))
  (h:codeAny (model prog w) (A.under (.builtin "type.__call__" ⟨.ref C::vs,kw⟩)) (.call (.ref f) ⟨.ref (s.heap.objs.size+1)::vs,kw⟩) (PySem.W.InitBack (s.heap.objs.size+1) R)
   { s with heap:=(s.heap.push MC).push (MZ C s.heap.objs.size) }) :
  codeAny (model prog w) A (.call (.ref C) ⟨vs,kw⟩) R s:=by
 obtain⟨hh,g,d,t,os⟩:=s;exact PySem.W.make_core (PySem.W.makes_of X hm) (PySem.W.looks_findIn X hi) (λself=>PySem.W.bind_fn X self hf) (.inl rfl) h
end
def putF (f:Str)(v:V):List (Str×V)->List (Str×V)
 | [] => [(f,v)]
 | (g,x)::r=>if g=f then(g,v)::r else(g,x)::putF f v r
theorem mj (f g:Str)(v:V):∀fs:List (Str×V),(putF f v fs).lookup g=if g=f then some v else fs.lookup g
 | [] =>by
  show MQ g [(f,v)] =_
  by_cases h:g=f
  ·have hb:(g == f)=true:=beq_iff_eq.mpr h
   simp only[MQ,hb,if_pos h]
  ·have hb:(g == f)=false:=beq_eq_false_iff_ne.mpr h
   simp only[MQ,hb,if_neg h]
 | (k,x)::r=>by
  have ih:=mj f g v r;rw[show putF f v ((k,x)::r)=(if k=f then(k,v)::r else(k,x)::putF f v r)from rfl]
  by_cases hk:k=f
  ·rw[if_pos hk]
   by_cases h:g=k
   ·have hb:(g == k)=true:=beq_iff_eq.mpr h
    simp only[MQ,hb,if_pos (h.trans hk)]
   ·have hb:(g == k)=false:=beq_eq_false_iff_ne.mpr h
    simp only[MQ,hb,if_neg (λe:g=f=>h (e.trans hk.symm))]
  ·rw[if_neg hk]
   by_cases h:g=k
   ·have hb:(g == k)=true:=beq_iff_eq.mpr h
    simp only[MQ,hb,if_neg (λe:g=f=>hk (h.symm.trans e))]
   ·have hb:(g == k)=false:=beq_eq_false_iff_ne.mpr h
    simp only[MQ,hb];exact ih
theorem lP (f:Str)(v:V):∀fs:List (Str×V),f∈(putF f v fs).map (·.1)/\∀g,g∈fs.map (·.1)->g∈(putF f v fs).map (·.1)
 | [] =>⟨by simp[putF],λg h=>by simp at h⟩
 | (k,x)::r=>by
  obtain⟨i1,i2⟩:=lP f v r;rw[show putF f v ((k,x)::r)=(if k=f then(k,v)::r else(k,x)::putF f v r)from rfl]
  by_cases hk:k=f
  ·rw[if_pos hk]
   subst hk;exact⟨by simp,λg h=>by simpa using h⟩
  ·rw[if_neg hk]
   refine⟨?_,λg h=> ?_⟩
   ·rw[Lf]
    exact K9 _ i1
   ·rw[Lf]at h ⊢
    rcases Lj.mp h with e | e
    ·exact Lj.mpr (.inl e)
    ·exact K9 _ (i2 g e)
theorem ml (f:Str)(v:V):∀fs:List (Str×V),(putF f v fs).length<=fs.length+1
 | [] =>by simp[putF]
 | (k,x)::r=>by
  have ih:=ml f v r;rw[show putF f v ((k,x)::r)=(if k=f then(k,v)::r else(k,x)::putF f v r)from rfl]
  by_cases hk:k=f
  ·rw[if_pos hk,Li,Li];omega
  ·rw[if_neg hk,Li,Li];omega
theorem RelO.some_of {v:V}{o:Option La}(r:RelO (some v) o):∃u,o=some u/\RelV v u:=by
 cases o with
 | none=>exact(show False from r).elim
 | some u=>exact⟨u,rfl,r⟩
theorem RelO.none_of {o:Option La}(r:RelO none o):o=none:=by
 cases o with
 | none=>rfl
 | some u=>exact(show False from r).elim
theorem y8 {v:V}{u:La}(r:RelV v u):RO u=true:=by
 cases v with
 | non=>cases (show u=LW from r);rfl
 | bl b=>cases (show u=Mr b from r);rfl
 | int i=>obtain⟨t,e⟩:=(show ∃t,u=MO i t from r);cases e;rfl
 | str x=>obtain⟨t,e⟩:=(show ∃t,u=MP x t from r);cases e;rfl
 | byt b=>obtain⟨t,e⟩:=(show ∃t,u=Value.bytes b t from r);cases e;rfl
 | flt b=>obtain⟨t,e⟩:=(show ∃t,u=R7 b t from r);cases e;rfl
 | ref a=>cases (show u=LJ a from r);rfl
 | ty n=>cases (show u=OF n from r);rfl
section
variable {P:LI}{w:Mj}{H H':Hp}{h h':Heap}{a C dx:Addr}{fs fs':List (Str×V)}
theorem mU (hok:HOk P w H h)(e:H a=some (.ins C dx fs)):∃mA,ObjM h a dx C mA/\(∀f,RelO (fs.lookup f) (mA f))/\RB mA (fs.map (·.1))/\fs.length<=1000/\H dx=some (.own a):=by
 obtain⟨d,z,ne,ob,mA,n,r,q⟩:=(show ObjOk P w H h a (.ins C dx fs)from hok a _ e)
 exact⟨mA,⟨ob,n,ne⟩,r,q,z,d⟩
end
structure Cls (K:K7)(C:Addr):Prop where
 pg:Ou K C Str.empty=true
 hd:Pj K C=true
 po:Ri K C=true
 sa:MT K (.ref C) "__setattr__" =some (some (.builtin "object.__setattr__"))
theorem Cls.get {K:K7}{C:Addr}(c:Cls K C)(f:Str):Ou K C f=true:=c.pg
def NoAttr (K:K7)(C:Addr)(f:Str):Prop:=MT K (.ref C) f=some none
theorem NoAttr.KS {K:K7}{C:Addr}{f:Str}(n:NoAttr K C f):PY K C f=some none:=by
 unfold PY;rw[show MT K (.ref C) f=some none from n]
 rfl
structure vo (K:K7)(C:Addr)(m:Str)(f:Addr):Prop where
 at_:MT K (.ref C) m=some (some (.ref f))
 fn:RA K (.ref f)=true
 kp:Nb K (.ref f)=true
section
variable {X:Cx}{pins:List (Addr×Obj)}{σ:St}{H:Hp}{s:Ld}{a C dx:Addr}{fs:List (Str×V)}{f:Str}{v:V}{A:LZ}{E:La->Ld->Prop}
theorem wA {b:Bool}{Q:La->Ld->Prop}(I:Inv X pins σ H s)(e:H a=some (.ins C dx fs))(c:Cls X.K C)(n:NoAttr X.K C f)(l:fs.lookup f=some v)
  (h:∀u s',Inv X pins σ H s'->RelV v u->Q u s'):wpAny (model X.prog X.w) A (getAttr (.ref a) f b) Q E s:=by
 obtain⟨mA,O,r,_,_,_⟩:=mU I.hok e;obtain⟨u,hu,ru⟩:=RelO.some_of (v:=v) (o:=mA f) (by rw[<-l];exact r f)
 exact mV I.kIn O (c.get f) c.hd n hu (y8 ru) (h u _ (I.tok _) ru)
theorem j6 {m:Str}{g:Addr}{pl:Sem Bool}{Q:La×List La->Ld->Prop}(I:Inv X pins σ H s)(e:H a=some (.ins C dx fs))(c:Cls X.K C)(k:vo X.K C m g)(l:fs.lookup m=none)
  (h:Q (.ref g,[.ref a]) s):wpAny (model X.prog X.w) A (OP (.ref a) m pl) Q E s:=by
 obtain⟨mA,O,r,_,_,_⟩:=mU I.hok e
 have hn:mA m=none:=RelO.none_of (by rw[<-l];exact r m)
 exact Bh I.kIn O (c.get m) k.at_ k.fn hn h
theorem vL {y:V}{u:La}{Q:Unit->Ld->Prop}(I:Inv X pins σ H s)(e:H a=some (.ins C dx fs))(c:Cls X.K C)(n:NoAttr X.K C f)(hl:fs.length<1000)(ry:RelV y u)
  (h:∀s',Inv X pins σ (upd H a (.ins C dx (putF f y fs))) s'->Q () s'):wpAny (model X.prog X.w) A (setAttr (.ref a) f u) Q E s:=by
 obtain⟨mA,O,r,wi,_,ho⟩:=mU I.hok e
 have hz:(fs.map (·.1)).length<=sizeLine:=by rw[Lh,ON];omega
 refine CY I.kIn O c.sa c.po n.KS c.hd wi hz λh' O' sb=>h _ ?_
 have hd:∃o,h'.get? dx=some o:=let ⟨o,_,_,e',_⟩:=O'.ns;⟨o,e'⟩
 refine I.write (x:=a) (e:=dx) (by rw[e];exact Ni) (.inr ho) (λb q hb z=>(sb.2 b hb).trans z) hd ?_
 refine⟨by rw[aH O.ne];exact ho,?_,O.ne,O'.obj,_,O'.ns,λg=> ?_,λg hg=> ?_⟩
 ·have:=ml f y fs;omega
 ·show RelO ((putF f y fs).lookup g) (if g=f then some u else mA g)
  rw[mj]
  by_cases q:g=f
  ·rw[if_pos q,if_pos q];exact ry
  ·rw[if_neg q,if_neg q];exact r g
 ·by_cases q:g=f
  ·rw[q];exact(lP f y fs).1
  ·refine(lP f y fs).2 g (wi g λz=>hg ?_)
   show(if g=f then some u else mA g)=none
   rw[if_neg q];exact z
theorem Inv.made (I:Inv X pins σ H s):Inv X pins σ (upd (upd H s.heap.objs.size (.own (s.heap.objs.size+1))) (s.heap.objs.size+1) (.ins C s.heap.objs.size []))
  { s with heap:=(s.heap.push MC).push (MZ C s.heap.objs.size) }:=by
 have e1:(s.heap.push MC).get? s.heap.objs.size=some MC:=Lz s.heap rfl
 have e2:((s.heap.push MC).push (MZ C s.heap.objs.size)).get? (s.heap.objs.size+1)=some (MZ C s.heap.objs.size):=by
  have:=Lz (s.heap.push MC) (o:=MZ C s.heap.objs.size) rfl
  rwa [Nd]at this
 have e3:(s.heap.push MC).Ns s.heap.objs.size (λ_=>none):=⟨MC,#[],_,e1,rfl,(λe he=>absurd he (by simp)),λ_=>rfl⟩
 have I1:=I.laid (a:=s.heap.objs.size) (o:=.own (s.heap.objs.size+1)) (h':=s.heap.push MC) (t':=s.toks) (λb u q=>Lk _ q) (Lo _) ⟨_,e1⟩
 refine I1.laid (a:=s.heap.objs.size+1) (o:=.ins C s.heap.objs.size []) (t':=s.toks) (λb u q=>Lk _ q) (Oq (Nd _ _)) ?_
 have ne:s.heap.objs.size≠s.heap.objs.size+1:=MD (PH _);refine⟨by rw[aH ne,aT],Nq _,ne,e2,λ_=>none,(Heap.Ns1.of_empty e3).at λo q=>Lk _ q,λ_=>Ni,λy hy=>absurd rfl hy⟩
theorem EF {prog:LI}{w:Mj}{env:Env}{e:Expr}{f:Str}{pos:Pos}{s:Ld}{Q:La->Ld->Prop}(hb:LP e f env (eval e env)=eval e env)
  (h:wpAny (model prog w) A (eval e env) (λo s₁=>wpAny (model prog w) A (getAttr o f true) Q E s₁) E s):wpAny (model prog w) A (eval (.Attribute e f pos) env) Q E s:=
 Attribute_any_ h (by rw[arm_eval_Attribute,hb])
end
def tFld (K:K7)(ta:TE)(f:Str):TE:=λσ H Q=>ta σ H λx H1=> ∃a C dx fs v,x= .ref a/\H1 a=some (.ins C dx fs)/\Cls K C/\NoAttr K C f/\fs.lookup f=some v/\Q v H1
def sFld (K:K7)(ta tv:TE)(f:Str):TS:=λD σ H=>tv σ H λy H1=>ta σ H1 λx H2=> ∃a C dx fs,x= .ref a/\H2 a=some (.ins C dx fs)/\Cls K C/\NoAttr K C f/\fs.length<1000 ∧
 D.nx σ (upd H2 a (.ins C dx (putF f y fs)))
section
variable {X:Cx}{o e value:Expr}{f:Str}{pos pos' tpos:Pos}{ta tv:TE}
theorem vX (he:PE X e ta)(hb:LP e f X.env (eval e X.env)=eval e X.env):PE X (.Attribute e f pos) (tFld X.K ta f):=by
 intro pins s σ H Q I h;refine EF hb (bV (he pins s σ H _ I h) λu s1 hh_=> ?_)
 obtain⟨x,H1,I1,rx,a,C,dx,fs,v,ex,ea,c,n,l,q⟩:=hh_;subst ex;obtain rfl:u=LJ a:=rx;exact wA I1 ea c n l λu' s2 I2 ru=>⟨v,H1,I2,ru,q⟩
theorem Gp (ha:PE X o ta)(hv:PE X value tv)(hs:L5 value (some (.Attribute o f pos')) pos.line X.env=pure false):PS X (.Assign [.Attribute o f pos'] value pos) (sFld X.K ta tv f):=by
 intro pins s σ H D I h;refine plainObj_wpAny_Assign_Attribute (bV (hv pins s σ H _ I h) λu s1 ⟨y,H1,I1,ry,q⟩=>bV (ha pins s1 σ H1 _ I1 q) λov s2 ⟨x,H2,I2,rx,a,C,dx,fs,ex,ea,c,n,l,q2⟩=> ?_) hs
 subst ex;obtain rfl:ov=LJ a:=rx;exact vL I2 ea c n l ry λs3 I3=>⟨σ,_,I3,q2⟩
end
section
variable {X:Cx}{pins:List (Addr×Obj)}{σ:St}{H:Hp}{s:Ld}{A:LZ}{E:La->Ld->Prop}{Q:La->Ld->Prop}{c:La}{b:Bool}
inductive l0 (K:K7) (H:Hp):V->La->Prop where
 | non:l0 K H .non (.type "NoneType")
 | bl (x:Bool):l0 K H (.bl x) (.type "bool")
 | int (i:Int):l0 K H (.int i) (.type "int")
 | str (x:Str):l0 K H (.str x) (.type "str")
 | flt (x:UInt64):l0 K H (.flt x) (.type "float")
 | lst {a:Addr} {xs:List V} (e:H a=some (.lst xs)):l0 K H (.ref a) (.type "list")
 | frz {a:Addr} {o:Obj} {xs:List V} (e:H a=some (.frz o (.lst xs))):l0 K H (.ref a) (.type "list")
 | tup {a:Addr} {xs:List V} (e:H a=some (.tup xs)):l0 K H (.ref a) (.type "tuple")
 | dK {a:Addr} {kvs:List (Key×V)} (e:H a=some (.dK kvs)):l0 K H (.ref a) (.type "dict")
 | dT {a:Addr} {kvs:List (List Key×V)} (e:H a=some (.dT kvs)):l0 K H (.ref a) (.type "dict")
 | ins {a C dx:Addr} {fs:List (Str×V)} (e:H a=some (.ins C dx fs)) (cl:Cls K C) (ha:MT K (.ref C) "__class__" =some (some (.builtin "object.__class__")))
   (hn:PySem.W.specialIn K (.builtin "object.__class__") "__get__" =some (some (.builtin "getset_descriptor.__get__"))) (htk:PySem.W.takesIn K (.builtin "object.__class__")=some true)
   (hm:PySem.W.mroIn K C (.type "object")=some true):l0 K H (.ref a) (.ref C)
theorem yY {x:V}{u t:La}(I:Inv X pins σ H s)(rx:RelV x u)(ty:l0 X.K H x t)(e:PySem.W.kitOne X.K t c=some b)(h:∀tk,Q (.bool b) { s with toks:=tk }) :
  wpAny (model X.prog X.w) A (call (.builtin "isinstance") [u,c]) Q E s:=by
 cases ty with
 | non=>cases (show u=LW from rx);exact Mw PySem.W.kitx_none I.kIn Ni e (λz=>nomatch z) h
 | bl y=>cases (show u=Mr y from rx);exact Mw PySem.W.kitx_bool I.kIn Ni e (λz=>nomatch z) h
 | int i=>obtain⟨t,q⟩:=(show ∃t,u=MO i t from rx);cases q;exact Mw PySem.W.kitx_int I.kIn Ni e (λz=>nomatch z) h
 | str y=>obtain⟨t,q⟩:=(show ∃t,u=MP y t from rx);cases q;exact Mw PySem.W.kitx_str I.kIn Ni e (λz=>nomatch z) h
 | flt y=>obtain⟨t,q⟩:=(show ∃t,u=R7 y t from rx);cases q;exact Mw PySem.W.kitx_float I.kIn Ni e (λz=>nomatch z) h
 | @lst a xs ea=>
  cases (show u=LJ a from rx)
  obtain⟨_,_,n,_,h1⟩:=(show ObjOk X.prog X.w H s.heap a (.lst xs)from I.hok a _ ea)
  exact Mw Rj I.kIn ⟨_,h1,rfl⟩ e (λz=>nomatch z) h
 | @frz a ob xs ea=>
  cases (show u=LJ a from rx)
  obtain⟨_,_,_,n,_,h1⟩:=(show ObjOk X.prog X.w H s.heap a (.frz ob (.lst xs))from I.hok a _ ea)
  exact Mw Rj I.kIn ⟨_,h1,rfl⟩ e (λz=>nomatch z) h
 | @tup a xs ea=>
  cases (show u=LJ a from rx)
  obtain⟨_,_,_,p⟩:=(show ObjOk X.prog X.w H s.heap a (.tup xs)from I.hok a _ ea)
  obtain⟨o,h1,h2,_⟩:=p
  exact Mw PySem.W.kitx_tuple I.kIn ⟨o,h1,h2⟩ e (λz=>nomatch z) h
 | @dK a kvs ea=>
  cases (show u=LJ a from rx)
  obtain⟨_,_,vs,_,p⟩:=(show ObjOk X.prog X.w H s.heap a (.dK kvs)from I.hok a _ ea)
  obtain⟨o,es,ep,h1,h2,_⟩:=p
  exact Mw Rk I.kIn ⟨o,h1,h2.1⟩ e (λz=>nomatch z) h
 | @dT a kvs ea=>
  cases (show u=LJ a from rx)
  obtain⟨_,_,xs,_,o,es,ep,h1,h2,_⟩:=(show ObjOk X.prog X.w H s.heap a (.dT kvs)from I.hok a _ ea)
  exact Mw Rk I.kIn ⟨o,h1,h2.1⟩ e (λz=>nomatch z) h
 | @ins a C dx fs ea cl ha hn htk hm=>
  cases (show u=LJ a from rx)
  obtain⟨mA,O,_⟩:=mU I.hok ea;obtain⟨od,J,_⟩:=O.look;exact Mw (PySem.W.kitx_own (cl.get _) cl.hd ha hn htk hm) I.kIn J e (λz=>nomatch z) h
end
structure Room (k:Nat)(A:LZ):Prop where
 hd:A.handled=none
 dp:A.depth+3*k+5<recursionLimit
 un:A.units+16*k+200<cLine
theorem Room.mono {j k:Nat}{A:LZ}(r:Room k A)(h:j<=k):Room j A:=⟨r.hd,by have:=r.dp;omega,by have:=r.un;omega⟩
theorem Room.deeper {k:Nat}{A:LZ}(r:Room (k+1) A)(env:Env):Room k (A.deeper env):=
 ⟨r.hd,by have:=r.dp;show A.depth+1+3*k+5<_;omega,by have:=r.un;show A.units+3+16*k+200<_;omega⟩
theorem we {A:LZ}{C:Addr}{us:List La}{kw:List (Str×La)}:(A.under (.builtin "type.__call__" ⟨.ref C::us,kw⟩)).depth=A.depth+1:=by
 first | rfl | simp[RC,Code.weight,Code.isCreation,Code.isGuard,Code.isCaller,Code.frames,RD,guardIds]
theorem wc {A:LZ}{C:Addr}{us:List La}{kw:List (Str×La)}:(A.under (.builtin "type.__call__" ⟨.ref C::us,kw⟩)).units=A.units+1:=by
 first | rfl | simp[RC,Code.cUnits,Code.frames,RD]
theorem Room.make {k:Nat}{A:LZ}(r:Room (k+1) A)(C:Addr)(us:List La)(kw:List (Str×La)):Room k (A.under (.builtin "type.__call__" ⟨.ref C::us,kw⟩)):=
 ⟨r.hd,by have:=r.dp;rw[we];omega,by have:=r.un;rw[wc];omega⟩
theorem Room.depth {k:Nat}{A:LZ}(r:Room k A):A.depth<recursionLimit:=by have:=r.dp;omega
def Ic:TA:=λ_ H Q=>Q [] H
def zK (ta:TE)(tr:TA):TA:=λσ H Q=>ta σ H λx H1=>tr σ H1 λxs H2=>Q (x::xs) H2
section
variable {X:Cx}{e:Expr}{es:List Expr}{te:TE}{t:TA}{pos:Pos}
theorem lA:PA X [] Ic:=λ_ _ _ _ H Q I h=>Og ⟨[],H,I,.nil,h⟩
theorem gg (ha:PE X e te)(hr:PA X es t)(hs:autoParam (Lx (e::es) X.env=(false,eval e X.env)::Lx es X.env) aqd._auto_1):PA X (e::es) (zK te t):=by
 intro pos pins s σ H Q I h;rw[hs]
 show wpAny _ _ (spliced ((false,eval e X.env)::backTo pos (Lx es X.env))) _ _ s
 refine N3 (bV (ha pins s σ H _ I h) λu s1 hh_=> ?_)
 obtain⟨x,H1,I1,r1,q1⟩:=hh_;exact bV (hr pos pins s1 σ H1 _ I1 q1) λus s2 ⟨xs,H2,I2,r2,q2⟩=>⟨x::xs,H2,I2,.cons r1 r2,q2⟩
def tTup (t:TA):TE:=λσ H Q=>t σ H λxs H1=>xs.length<=sizeLine/\∀p,H1 p=none->Q (.ref p) (upd H1 p (.tup xs))
def tLst (t:TA):TE:=λσ H Q=>t σ H λxs H1=>xs.length<=sizeLine/\∀p,H1 p=none->Q (.ref p) (upd H1 p (.lst xs))
theorem Gs {x1}(h:PA X es t):PE X (.Tuple es x1 pos) (tTup t):=by
 intro pins s σ H Q I hq;refine wpAny_Tuple_spliced (bV (h pos pins s σ H _ I hq) λus s1 ⟨xs,H1,I1,r,z,q⟩=>⟨by rw[<-r.length];exact z,?_⟩)
 have hf:H1 s1.heap.objs.size=none:=I1.hok.fresh (Lo _);refine⟨.ref s1.heap.objs.size,upd H1 s1.heap.objs.size (.tup xs),I1.laid (t':=s1.toks) (λb u e=>Lk _ e) (Lo _) ?_,rfl,q _ hf⟩
 exact⟨z,us,r,⟨_,Lz _ rfl,rfl,_,rfl⟩⟩
theorem Gx (h:PA X es t):PE X (.List es pos) (tLst t):=by
 intro pins s σ H Q I hq;refine Rb (bV (h pos pins s σ H _ I hq) λus s1 ⟨xs,H1,I1,r,z,q⟩=>⟨by rw[<-r.length];exact z,?_⟩)
 have hf:H1 s1.heap.objs.size=none:=I1.hok.fresh (Lo _);refine⟨.ref s1.heap.objs.size,upd H1 s1.heap.objs.size (.lst xs),I1.laid (t':=s1.toks) (λb u e=>Lk _ e) (Lo _) ?_,rfl,q _ hf⟩
 exact⟨z,us,0,r,Lz _ rfl⟩
end
abbrev Sp:=List V->Hp->VK->XK->Prop
abbrev Cy:=List Env->Hp->Ld->XK->La->Ld->Prop
structure Env0 (P:LI)(w:Mj)(K:K7)(mg:Str->Option La)(base:Heap)(A:LZ)(outer:List Env)(s:Ld)(H:Hp):Prop where
 frames:A.frames=some outer
 mod:Mod K mg base
 bs:∀b o,base.get? b=some o->s.heap.get? b=some o/\H b=none
 bsz:base.objs.size<=s.heap.objs.size
 funs:s.heap.FunFrames base outer
 frf:∀b∈oK outer,H b=none
 hok:HOk P w H s.heap
 bare:PD s.gens
def CE (outer:List Env)(P:LI)(w:Mj)(H:Hp)(s:Ld)(Q:VK)(u:La)(s':Ld):Prop:=
 ∃v H',s'.os=s.os/\PD s'.gens/\Un (oK outer) [] H H' s.heap s'.heap/\HOk P w H' s'.heap/\RelV v u/\Q v H'
def CR (CX:Cy)(outer:List Env)(P:LI)(w:Mj)(H:Hp)(s:Ld)(Q:VK)(E:XK)(r:Si)(s':Ld):Prop:=
 match r with
 | .ok (.ret u)=>CE outer P w H s Q u s'
 | .ok _=>False
 | .error e=>CX outer H s E e s'
structure o9 (P:LI)(w:Mj)(K:K7)(mg:Str->Option La)(base:Heap)(CX:Cy)(k:Nat)(f:Addr)(fd:Mp)(ps:List Str)(sp:Sp):Prop where
 len:∀vs H Q E,sp vs H Q E->vs.length=ps.length
 run:∀(A:LZ) (outer:List Env) (s:Ld) (H:Hp) (args:Args) (us:List La) (vs:List V) (Q:VK) (E:XK),Room k A->Env0 P w K mg base A outer s H->Qk s fd args (ps.zip us)->Vals vs us->sp vs H Q E →
  codeAny (model P w) A (.call (.ref f) args) (CR CX outer P w H s Q E) s
theorem Env0.make {P:LI}{w:Mj}{K:K7}{mg:Str->Option La}{base:Heap}{A:LZ}{outer:List Env}{s:Ld}{H:Hp}(e:Env0 P w K mg base A outer s H)(C:Addr)(us:List La)(kw:List (Str×La)) :
  Env0 P w K mg base (A.under (.builtin "type.__call__" ⟨.ref C::us,kw⟩)) outer s H:=⟨by first | exact e.frames | (simpa [RC,Code.envs,RD,pushEnvs]using e.frames),e.mod,e.bs,e.bsz,e.funs,e.frf,e.hok,e.bare⟩
section
variable {X:Cx}{pins:List (Addr×Obj)}{σ:St}{H:Hp}{s s':Ld}
theorem Inv.KA (I:Inv X pins σ H s):Env0 X.prog X.w X.K X.mg X.base X.A X.stack s H:=
 ⟨I.ok.frames,I.ok.mod,I.bs,Me I.ok.bsz I.sz,I.stack,I.Kh,I.hok,I.bare⟩
theorem Inv.after {Q:VK}{u:La}(I:Inv X pins σ H s)(h:CE X.stack X.prog X.w H s Q u s'):EP X pins σ Q u s':=by
 obtain⟨v,H',os,bare,un,hok,r,q⟩:=h;obtain⟨hh,g,d,t,os'⟩:=s';obtain rfl:os'=s.os:=os;exact⟨v,H',I.call (h':=hh) (g':=g) (d':=d) (t':=t) (ch:=[]) un hok bare (λb z=>absurd z (by simp)),r,q⟩
end
def Il (sp:Sp)(dvs:List V)(E:XK)(t:TA):TE:=λσ H Q=>t σ H λvs H1=>sp (vs++dvs) H1 Q E
def Binds (K:K7)(fd:Mp)(ps:List Str)(ds:List La):Prop:=
 ∀(s:Ld) (us:List La),K.In s.heap->(us++ds).length=ps.length->Qk s fd ⟨us,[]⟩ (ps.zip (us++ds))
theorem Binds.all {K:K7}{fd:Mp}{ps:List Str}(h:∀us:List La,us.length=ps.length->RZ fd ⟨us,[]⟩=pure (ps.zip us)):Binds K fd ps []:=λs us _ hl=>by
 rw[LR]at hl ⊢;exact .of_eq (h us hl)
def wU (CX:Cy)(X:Cx)(E:XK):Prop:=∀(pins:List (Addr×Obj)) (σ:St) (H:Hp) (s:Ld) (e:La) (s':Ld),Inv X pins σ H s->CX X.stack H s E e s'->X.xe e s'
section
variable {X:Cx}{CX:Cy}{k:Nat}{f C:Addr}{fd:Mp}{ps:List Str}{sp:Sp}{dvs:List V}{ds:List La}{E:XK}{x m:Str}{p pos apos:Pos}{e o:Expr}{es:List Expr}{ta:TE}{t:TA}
theorem vQ {pins:List (Addr×Obj)}{σ:St}{H:Hp}{s:Ld}{Q:VK}{us:List La}{vs:List V}(F:o9 X.prog X.w X.K X.mg X.base CX k f fd ps sp)(hr:Room k X.A)(hb:Binds X.K fd ps ds)(hd:Vals dvs ds)(hx:wU CX X E)
  (I:Inv X pins σ H s) (r:Vals vs us) (h:sp (vs++dvs) H Q E):wpAny (model X.prog X.w) X.A (call (.ref f) us) (EP X pins σ Q) X.xe s:=by
 have r2:Vals (vs++dvs) (us++ds):=r.append hd
 have hl:(us++ds).length=ps.length:=by rw[<-r2.length];exact F.len _ _ _ _ h
 refine Qq (N0 (F.run X.A X.stack s H ⟨us,[]⟩ (us++ds) (vs++dvs) Q E hr I.KA (hb s us I.kIn hl) r2 h) λr s' hq=> ?_)
 cases r with
 | error e=>exact hx pins σ H s e s' I hq
 | ok fl=>
  cases fl with
  | ret u=>exact I.after hq
  | next=>exact M8 hq
  | brk=>exact M8 hq
  | cont=>exact M8 hq
theorem xr (F:o9 X.prog X.w X.K X.mg X.base CX k f fd ps sp)(hr:Room k X.A)(hg:Gl X x)(hm:X.mg x=some (.ref f))(hk:Nb X.K (.ref f)=true)(hb:Binds X.K fd ps ds)(hd:Vals dvs ds)(hx:wU CX X E)
  (ha:PA X (e::es) t) (hdb:autoParam ((x == ("__debug__" : Str))=false) aqb._auto_1) (he:autoParam (Lx (e::es) X.env=(false,eval e X.env)::Lx es X.env) aqd._auto_1) (hpl:autoParam ((backTo pos (Lx es X.env)).any (·.1)=false) aqd._auto_1) :
  PE X (.Call (.Name x p) (e::es) [] pos) (Il sp dvs E t):=by
 intro pins s σ H Q I h;refine MI (g7 I hg hm ?_ hdb)
 refine ND (h₀:=X.base) I.ok.mod.kin hk (bV (ha pos pins s σ H _ I h) λus s1 ⟨vs,H1,I1,r,q⟩=>⟨I1.kIn,?_⟩) he hpl
 exact vQ F hr hb hd hx I1 r q
structure Mk (K:K7)(C f:Addr):Prop where
 makes:R5 K C=true
 init:MT K (.ref C) "__init__" =some (some (.ref f))
 fn:RA K (.ref f)=true
 kp:Nb K (.ref C)=true
end
structure az (N P:List Str)(sc:Ov):Prop where
 kind:sc.kind= .function
 co:sc.isCoroutine=false
 gen:sc.isGenerator=false
 nd:N.Nodup
 pre:N.take P.length=P
 par:∀x∈P,sc.names.lookup x=some .local\/sc.names.lookup x=some .cell
 nofree:∀y∈sc.names,y.2≠ .free
theorem qI {kindOf:Str->Option NN}{x:Str}:∀{binds:List (Str×La)} {m:Str->Option La},(∀v,(x,v)∉binds)->bindL kindOf binds m x=m x
 | [],_,_=>rfl
 | (n,v)::r,m,h=>by
  unfold bindL;rw[qI λw hw=>h w (K9 _ hw)]
  split
  ·have:x≠n:=by rintro rfl;exact h v Lg
   simp[this]
  ·rfl
theorem qK {kindOf:Str->Option NN}{x:Str}:∀{binds:List (Str×La)} {m:Str->Option La},(∀v,(x,v)∉binds)->bindC kindOf binds m x=m x
 | [],_,_=>rfl
 | (n,v)::r,m,h=>by
  unfold bindC;rw[qK λw hw=>h w (K9 _ hw)]
  split
  ·rfl
  ·have:x≠n:=by rintro rfl;exact h v Lg
   simp[this]
theorem qJ {kindOf:Str->Option NN}{x:Str}{v:La}:∀{P:List Str} {vs:List La} {i:Nat} {m:Str->Option La},P.Nodup->P[i]? =some x->vs[i]? =some v->kindOf x=some .local →
  bindL kindOf (P.zip vs) m x=some v
 | [],_,_,_,_,h,_,_=>by simp at h
 | _::_,[],_,_,_,_,h,_=>by simp at h
 | p::P,w::vs,0,m,nd,h1,h2,hk=>by
  simp at h1 h2;subst h1;subst h2
  show bindL kindOf ((p,w)::P.zip vs) m p=_
  unfold bindL;rw[qI λv hv=>(LF.mp nd).1 (N4 hv).1,if_pos hk]
  simp
 | p::P,w::vs,i+1,m,nd,h1,h2,hk=>by
  show bindL kindOf ((p,w)::P.zip vs) m x=_
  unfold bindL;exact qJ (i:=i) (LF.mp nd).2 (by simpa using h1) (by simpa using h2) hk
theorem qL {kindOf:Str->Option NN}{x:Str}{v:La}:∀{P:List Str} {vs:List La} {i:Nat} {m:Str->Option La},P.Nodup->P[i]? =some x->vs[i]? =some v->kindOf x≠some .local →
  bindC kindOf (P.zip vs) m x=some v
 | [],_,_,_,_,h,_,_=>by simp at h
 | _::_,[],_,_,_,_,h,_=>by simp at h
 | p::P,w::vs,0,m,nd,h1,h2,hk=>by
  simp at h1 h2;subst h1;subst h2
  show bindC kindOf ((p,w)::P.zip vs) m p=_
  unfold bindC;rw[qK λv hv=>(LF.mp nd).1 (N4 hv).1,if_neg hk]
  simp
 | p::P,w::vs,i+1,m,nd,h1,h2,hk=>by
  show bindC kindOf ((p,w)::P.zip vs) m x=_
  unfold bindC;exact qL (i:=i) (LF.mp nd).2 (by simpa using h1) (by simpa using h2) hk
def start (N:List Str)(vs:List V):St:=vs.map some++LA (N.length - vs.length) none
def gb (CX:Cy)(P:LI)(w:Mj)(K:K7)(mg:Str->Option La)(base:Heap)(N:List Str)(qual:Str)(scope:Ov)(f:Addr)(cd:La)(A:LZ)(outer:List Env)(s:Ld)(H:Hp)(E:XK):Cx where
 prog:=P
 w:=w
 K:=K
 mg:=mg
 base:=base
 A:=A.deeper (envOfC qual scope s.heap.objs.size f cd)
 N:=N
 s₀:=s
 H₀:=H
 env:=envOfC qual scope s.heap.objs.size f cd
 outer:=outer
 stack:=envOfC qual scope s.heap.objs.size f cd::outer
 ex:=[]
 calm:=true
 fn:=λ_=>true
 pn:=[]
 xe:=λe s'=>wpAny (model P w) (A.deeper (envOfC qual scope s.heap.objs.size f cd)) (leaving (envOfC qual scope s.heap.objs.size f cd) e) (λ_ s''=>CX outer H s E e s'') (λe' s''=>CX outer H s E e' s'') s'
theorem vn {sc:Ov}{n:Nat}{x:Str}(h:sc.names.lookup x=some .cell):∃c,(Nm n sc.names []).lookup x=some c:=by
 have q:=NB sc.names n [] (.inl h);exact Option.isSome_iff_exists.mp q
theorem lS {CX:Cy}{P:LI}{w:Mj}{K:K7}{mg:Str->Option La}{base:Heap}{N ps:List Str}{qual:Str}{scope:Ov}{f:Addr}{cd:La}{A:LZ}{outer:List Env}{s s1:Ld}{H:Hp}{E:XK}{us:List La}{vs:List V}
  (S:az N ps scope) (hd:A.handled=none) (e0:Env0 P w K mg base A outer s H) (hl:vs.length=ps.length) (r:Vals vs us)
  (x:InCallC s s.heap.objs.size (bindL (envOfC qual scope s.heap.objs.size f cd).kindOf (ps.zip us) λ_=>none) (Nm (s.heap.objs.size+1) scope.names []) (bindC (envOfC qual scope s.heap.objs.size f cd).kindOf (ps.zip us) λ_=>none) s1) :
  Inv (gb CX P w K mg base N qual scope f cd A outer s H E) [] (start N vs) H s1:=by
 have hpl:ps.length<=N.length:=by have:=congrArg M4 S.pre;rw[Mq]at this;omega
 obtain⟨h1,tk,rfl,hk⟩:=x.done
 have noA:∀b:Addr,b∉(gb CX P w K mg base N qual scope f cd A outer s H E).ex:=λb z=>absurd (show b∈([]:List Addr)from z) (by simp)
 refine⟨⟨e0.mod,S.kind,rfl,rfl,Lo _,λy z c h1 h2=> ?_,λy hy=> ?_,λy c _ h=> ?_,λ_=>hd,Around.frames_deeper e0.frames,.inr ⟨rfl,rfl⟩,λb z=>absurd z (noA b),e0.bs,e0.bsz,λb _ _=>noA b,λb z=>absurd z (noA b),e0.funs,e0.frf⟩,
  rfl,e0.bare,Un.kept hk,⟨_,x.toInCall.ns,λi y v h1 h2 h3=> ?_⟩,λy c h=>⟨_,x.cell y c h⟩,e0.hok.fresh (Lo _),λy c h=> ?_,λp hp=>absurd (show p∈([]:List (Addr×Obj))from hp) (by simp),e0.hok.kept hk,?_⟩
 ·exact name_of_addr x.apart (M5 h1) (M5 h2)
 ·have hy:scope.names.lookup y=some .cell\/scope.names.lookup y=some .free:=hy
  rcases hy with hy | hy
  ·exact vn hy
  ·exact absurd rfl (S.nofree _ (M5 hy))
 ·exact NZ (x.above y c (M5 h))
 ·have hi:i<vs.length:=by
   unfold start at h2
   by_cases hi:i<vs.length
   ·exact hi
   ·rw[L6 (by simpa using hi)]at h2
    rw[Mi]at h2
    split at h2 <;> cases h2
  have ha:vs[i]? =some v:=by
   unfold start at h2;rw[LN (by simpa using hi),LD]at h2
   cases e:vs[i]? with
   | none=>rw[e]at h2;cases h2
   | some a=>rw[e]at h2;cases h2;rfl
  obtain⟨u,hu,rv⟩:=r.get ha
  have hp:ps[i]? =some y:=by
   rw[<-S.pre,Pm (by omega)];exact h1
  have ndP:ps.Nodup:=by rw[<-S.pre];exact S.nd.sublist (List.take_sublist _ _)
  refine⟨u,rv,?_⟩
  rcases S.par y (Mu hp)with k | k
  ·exact .inl ⟨k,qJ ndP hp hu k⟩
  ·obtain⟨c,e⟩:=vn (n:=s.heap.objs.size+1) k
   refine .inr ⟨.inl k,c,e,?_⟩
   have q:=x.cell y c e;rw[qL ndP hp hu (by show scope.names.lookup y≠_;rw[k];decide)]at q
   exact q
 ·exact e0.hok.fresh (NZ (x.above y c (M5 h)))
 ·unfold start
  show _=N.length
  rw[Lb,Lh,List.length_replicate];omega
theorem JM {CX:Cy}{P:LI}{w:Mj}{K:K7}{mg:Str->Option La}{base:Heap}{k:Nat}{f:Addr}{name qual:Str}{params:Qh}{body:List Stmt}{scope:Ov}{dV kV doc pm cdv ct oc:La}{an od:Option Addr}
  {osl:Array (Option La)} {N ps:List Str} {sp:Sp} (lk:K.lookup f=some ⟨oc,od,.func (Oj name qual params body scope dV kV doc pm an cdv ct),osl⟩) (hcd:Qx K cdv qual=true) (S:az N ps scope)
  (len:∀vs H Q E,sp vs H Q E->vs.length=ps.length)
  (hbody:∀(A:LZ) (outer:List Env) (s:Ld) (H:Hp) (vs:List V) (Q:VK) (E:XK),Room k (A.deeper (envOfC qual scope s.heap.objs.size f cdv))->sp vs H Q E →
   ∃t,PSs (gb CX P w K mg base N qual scope f cdv A outer s H E) body t/\t { nx:=λ_ H'=>Q .non H',rt:=Q } (start N vs) H) :
  o9 P w K mg base CX (k+1) f (Oj name qual params body scope dV kV doc pm an cdv ct) ps sp:=by
 refine⟨len,λA outer s H args us vs Q E hr e0 hb r hsp=> ?_⟩
 have hl:=len _ _ _ _ hsp
 have KX:K.In s.heap:=e0.mod.kin.keeps λb o e=>(e0.bs b o e).1
 have lim:s.heap.NoLimit:=e0.mod.nolimit.keeps λb o e=>(e0.bs b o e).1
 have hkind:∀y∈ps.zip us,scope.names.lookup y.1=some .local\/(scope.names.lookup y.1=some .cell/\((Nm (s.heap.objs.size+1) scope.names []).lookup y.1).isSome=true):=λ⟨n,v⟩ hy=>by
  rcases S.par n (N4 hy).1 with q | q
  ·exact .inl q
  ·exact .inr ⟨q,NB _ _ _ (.inl q)⟩
 refine Os hr.depth (KX _ _ lk) rfl S.co S.gen rfl (O0 KX hcd) (hb _ _ _ _ ?_)
 refine NQ S.kind hkind λenv he s1 x=> ?_
 subst he;refine⟨lim.keeps x.toInCall.keep,RJ ?_⟩
 obtain⟨t,ht,hq⟩:=hbody A outer s H vs Q E (hr.deeper _) hsp
 have I:Inv (gb CX P w K mg base N qual scope f cdv A outer s H E) [] (start N vs) H s1:=lS S hr.hd e0 hl r x;refine M9 (ht [] s1 (start N vs) H _ I hq) (λfl s' hs=> ?_) λe s' hs=>hs
 have fin:∀{σ':St} {H':Hp} {v:V} {u:La},Inv (gb CX P w K mg base N qual scope f cdv A outer s H E) [] σ' H' s'->RelV v u->Q v H'->CE outer P w H s Q u s':=
  λ{σ' H' v u} J rv q=>⟨v,H',J.os,J.bare,J.base,J.hok,rv,q⟩
 cases fl with
 | ret u=>
  obtain⟨v,σ',H',J,rv,q⟩:=hs
  exact fin J rv q
 | next=>
  obtain⟨σ',H',J,q⟩:=hs
  exact fin (v:=V.non) (u:=LW) J rfl q
 | brk=>
  obtain⟨_,_,_,q⟩:=hs
  exact M8 q
 | cont=>
  obtain⟨_,_,_,q⟩:=hs;exact M8 q
end L2
namespace HT
open PySem PyProof.Rows
section
variable {prog:LI}{w:Mj}{A:LZ}{E:La->Ld->Prop}{s:Ld}
theorem cat_tup {t b:Addr}{vs ws:List La}{Q:La->Ld->Prop}(ht:Ss s.heap t vs.toArray)(hb:Ss s.heap b ws.toArray)(hv:vs≠ [])
  (h1:ws= []->Q (.ref t) s) (h2:ws≠ []->Q (.ref s.heap.objs.size) { s with heap:=s.heap.push { cls:=.type "tuple",data:=.seq (vs++ws).toArray } })
  (hsz:vs.length+ws.length<=sizeLine):wpAny (model prog w) A (MN .Add (.ref t) (.ref b)) Q E s:=by
 obtain⟨⟨cls,dd,data,sl⟩,ho,hc,n,hd⟩:=id ht;obtain⟨⟨cls2,dd2,data2,sl2⟩,ho2,hc2,n2,hd2⟩:=id hb;simp only at hc hd hc2 hd2;subst hc hd hc2 hd2
 have e:vs.toArray++ws.toArray=(vs++ws).toArray:=by simp
 by_cases hw:ws= []
 ·exact RL ⟨_,ho,rfl⟩ ⟨_,ho2,rfl⟩ PM Rc Oc N1 (NX _ _)
   (tuple_addW1 t b vs.toArray ws.toArray n n2 dd dd2 sl sl2 (by simpa using hv) (by simp[hw])) ⟨ho,ho2,h1 hw⟩
 ·refine RL ⟨_,ho,rfl⟩ ⟨_,ho2,rfl⟩ PM Rc Oc N1 (NX _ _)
   (tuple_addW2 t b vs.toArray ws.toArray n n2 dd dd2 sl sl2 (by simpa using hv) (by simpa using hw) (by rw[Ln,Ln];exact hsz)) ⟨ho,ho2,?_⟩
  rw[e];exact h2 hw
def sIx (n d:Nat):Option Int->Nat
 | none=>d
 | some v=>if v<0 then(v+(n:Int)).toNat else min v.toNat n
theorem sIx_none (n d:Nat):sIx n d none=d:=rfl
theorem sIx_nat (n d k:Nat):sIx n d (some (k:Int))=min k n:=by
 show(if (k:Int)<0 then((k:Int)+(n:Int)).toNat else min (k:Int).toNat n)=min k n
 rw[if_neg (by omega),ME]
theorem FQ (n d:Nat)(hd:d<=n)(o:Option Int):sIx n d o<=n:=by
 cases o with
 | none=>exact hd
 | some v=>
  show(if v<0 then(v+(n:Int)).toNat else min v.toNat n)<=n
  by_cases hv:v<0
  ·rw[if_pos hv];omega
  ·rw[if_neg hv];exact Nat.min_le_right _ _
theorem yd (v:Int)(n d:Nat):(if v<0 then max (v+(n:Int)) 0 else min v (n:Int))=((sIx n d (some v):Nat):Int):=by
 show(if v<0 then max (v+(n:Int)) 0 else min v (n:Int))=(((if v<0 then(v+(n:Int)).toNat else min v.toNat n):Nat):Int)
 by_cases hv:v<0
 ·simp only[if_pos hv];omega
 ·simp only[if_neg hv];omega
theorem wQ (lo hi:Option Int)(n:Nat):Mx lo hi 1 (n:Int)=(((sIx n 0 lo:Nat):Int),((sIx n n hi:Nat):Int)):=by
 have h1:¬ ((1:Int)<0):=by omega
 unfold Mx;simp only[h1,if_false];refine Prod.ext ?_ ?_
 ·cases lo with
  | none=>rfl
  | some v=>exact yd v n 0
 ·cases hi with
  | none=>rfl
  | some v=>exact yd v n n
theorem vV (i j:Nat):Mc (i:Int) (j:Int) 1=j - i:=by
 unfold Mc
 have h1:(1:Int) > 0:=by omega
 simp only[h1,if_true,RE]
 split <;> omega
theorem nt {v:La}{o:Option Int}{Q:Option Int->Ld->Prop}(p:Re v o)(h:Q o s):wpAny (model prog w) A (RY v) Q E s:=by
 cases p with
 | none=>exact Pf h
 | int i t=>exact slicePart_int h
theorem gL {sl:Addr}{vl vu:La}{lo hi:Option Int}{n:Nat}{Q:Int×Int×Nat->Ld->Prop}(hs:s.heap.IsSliceOf sl vl vu .none)(pl:Re vl lo)(pu:Re vu hi)
  (h:Q (((sIx n 0 lo:Nat):Int),1,sIx n n hi - sIx n 0 lo) s):wpAny (model prog w) A (M6 (.ref sl) (pure (n:Int))) Q E s:=by
 obtain⟨os,hos,hcs,hds⟩:=id hs;unfold M6 Pd;refine Lc (Lc (MS hos hds (x:=vl) rfl (Lc (MS hos hds (x:=vu) rfl (Lc (MS hos hds (x:=.none) rfl (Lm ?_)))))))
 refine Lc (Pf ?_)
 show wpAny _ _ (if ((1:Int) == 0)=true then _ else _) _ _ s
 rw[if_neg (by decide)]
 refine Lc (nt pl (Lc (nt pu (Lc (Lm ?_)))))
 show wpAny _ _ (match Mx lo hi 1 (n:Int)with | (lo,hi)=>pure (lo,(1:Int),Mc lo hi 1)) _ _ s
 rw[wQ lo hi n]
 show wpAny _ _ (pure (((sIx n 0 lo:Nat):Int),(1:Int),Mc ((sIx n 0 lo:Nat):Int) ((sIx n n hi:Nat):Int) 1)) _ _ s
 rw[vV];exact Lm h
theorem Ac (xs:Array La)(i k:Nat):((L7 k).filterMap λ(m:Nat)=>xs[((i:Int)+(m:Int)*1).toNat]?).toArray=((xs.toList.drop i).take k).toArray:=by
 have e:(λ(m:Nat)=>xs[((i:Int)+(m:Int)*1).toNat]?)=λm=>xs[i+m]?:=by
  funext m
  have:((i:Int)+(m:Int)*1).toNat=i+m:=by omega
  rw[this]
 rw[e]
 have:=pick_run xs i k;rw[QV]at this
 have e2:((λx=>xs[x]?)∘λx=>i+x)=λm=>xs[i+m]?:=rfl
 rw[e2]at this;rw[this]
theorem getItem_tuple_cut {t sl:Addr}{items:Array La}{vl vu:La}{lo hi:Option Int}{Q:La->Ld->Prop}(ht:Ss s.heap t items)(hs:s.heap.IsSliceOf sl vl vu .none)(pl:Re vl lo)(pu:Re vu hi)
  (hw:¬ (sIx items.size 0 lo=0/\sIx items.size items.size hi=items.size))
  (h:Q (.ref s.heap.objs.size) { s with heap:=s.heap.push { cls:=.type "tuple",data:=.seq ((items.toList.drop (sIx items.size 0 lo)).take (sIx items.size items.size hi - sIx items.size 0 lo)).toArray } })
  (hsz:items.size<=sizeLine):wpAny (model prog w) A (getItem (.ref t) (.ref sl)) Q E s:=by
 have htake:sizeOk (.seq ((items.toList.drop (sIx items.size 0 lo)).take (sIx items.size items.size hi - sIx items.size 0 lo)).toArray):=by
  show((items.toList.drop (sIx items.size 0 lo)).take (sIx items.size items.size hi - sIx items.size 0 lo)).toArray.size<=sizeLine
  rw[Ln,Mq,Nx,OI];omega
 have hj:sIx items.size items.size hi<=items.size:=FQ _ _ (Lo _) hi;obtain⟨os,hos,hcs,hds⟩:=id hs
 have hTs:s.TypeIs (.ref sl) "slice":=⟨os,hos,hcs⟩;unfold getItem
 try with_reducible refine OD ?_
 first | refine Lc (Lm ?_) | skip
 refine Lc (Pu ht.typeIs (by decide) ?_)
 refine Lc (MJ (name:=Lp "__getitem__") ht.typeIs LL
  (Nz LL ht.typeIs OQ ?_ (Pa _ _)))
 show wpAny _ _ (NP (.ref t) >>= _) _ _ s
 refine Lc (PF ht ?_)
 refine Lc (Ot hTs ?_)
 rw[if_pos (by decide)]
 refine Lc (gL hs pl pu ?_)
 have hno:¬ ((((sIx items.size 0 lo:Nat):Int) == 0&&(1:Int) == 1&&(sIx items.size items.size hi - sIx items.size 0 lo) == items.size)=true):=by
  intro q;rw[K8,K8]at q
  have q1:((sIx items.size 0 lo:Nat):Int)=0:=eq_of_beq q.1.1
  have q2:sIx items.size items.size hi - sIx items.size 0 lo=items.size:=eq_of_beq q.2;exact hw ⟨by omega,by omega⟩
 show wpAny _ _ (if (((sIx items.size 0 lo:Nat):Int) == 0&&(1:Int) == 1&&(sIx items.size items.size hi - sIx items.size 0 lo) == items.size)=true then _ else _) _ _ s
 rw[if_neg hno,Ac]
 first
  | exact Lc (m:=L3 _) (Mh (Lm ⟨_,rfl,Lm h⟩) htake)
  | exact Lc (m:=L3 _) (Mh (Lc (Lm (Lm ⟨_,rfl,Lm h⟩))) htake)
  | exact Lc (Lc (m:=L3 _) (Mh (Lm (Lm ⟨_,rfl,Lm h⟩)) htake))
  | exact Lc (Lc (m:=L3 _) (Mh (Lm ⟨_,rfl,Lm h⟩) htake))
end
end HT
namespace L2
open PySem PySem.Spec PyProof.Rows
abbrev TO:=St->Hp->(Option Int->Hp->Prop)->Prop
def PO (X:Cx)(e:Option Expr)(t:TO):Prop:=
 ∀(pins:List (Addr×Obj)) (s:Ld) (σ:St) (H:Hp) (Q:Option Int->Hp->Prop),Inv X pins σ H s->t σ H Q →
  wpAny (model X.prog X.w) X.A (evalPart e X.env) (λu s'=> ∃o H',Inv X pins σ H' s'/\Re u o/\Q o H') X.xe s
def CQ:TO:=λ_ H Q=>Q none H
def Ia (t:TE):TO:=λσ H Q=>t σ H λx H1=> ∃i,x= .int i/\Q (some i) H1
theorem wz {ns:List Int}:∀{us:List La},Vals (ns.map V.int) us->OR us ns:=by
 induction ns with
 | nil=>intro us r;rw[P3]at r;cases r;exact .nil
 | cons n ns ih=>
  intro us r;rw[Lf]at r
  cases r with
  | cons r1 r2=>
   obtain⟨t,e⟩:=r1;subst e;exact .cons n t (ih r2)
section
variable {X:Cx}{e:Expr}{te:TE}{lo hi:Option Expr}{tl th:TO}{pos p2:Pos}
theorem Dw:PO X none CQ:=by
 intro pins s σ H Q I h;rw[Rf];exact Lm ⟨none,H,I,.none,h⟩
theorem Dv (h:PE X e te):PO X (some e) (Ia te):=by
 intro pins s σ H Q I hw;rw[evalPart_some];refine bV (h pins s σ H _ I hw) λu s1 hh_=> ?_
 obtain⟨x,H1,I1,r1,q1⟩:=hh_;obtain⟨i,rfl,q⟩:=q1;obtain⟨t,rfl⟩:=r1;exact⟨some i,H1,I1,.int i t,q⟩
def SlR (X:Cx)(r:V->Option Int->Option Int->Hp->VK->Prop):Prop:=
 ∀(pins:List (Addr×Obj)) (s:Ld) (σ:St) (H:Hp) (x:V) (v vl vu:La) (lo hi:Option Int) (sl:Addr) (Q:VK),Inv X pins σ H s->RelV x v->s.heap.IsSliceOf sl vl vu .none->Re vl lo->Re vu hi->r x lo hi H Q →
  ∃T id,Ru (.type T) "__getitem__" =pure (some (.builtin id))/\s.TypeIs v T/\wpAny (model X.prog X.w) X.A (getItem v (.ref sl)) (EP X pins σ Q) X.xe s
theorem SlR.or {r r':V->Option Int->Option Int->Hp->VK->Prop}(h:SlR X r)(h':SlR X r'):SlR X (λx lo hi H Q=>r x lo hi H Q\/r' x lo hi H Q):=by
 intro pins s σ H x v vl vu lo hi sl Q I rx hs pl pu q;rcases q with q | q
 ·exact h pins s σ H x v vl vu lo hi sl Q I rx hs pl pu q
 ·exact h' pins s σ H x v vl vu lo hi sl Q I rx hs pl pu q
def tSl (r:V->Option Int->Option Int->Hp->VK->Prop)(te:TE)(tl th:TO):TE:=λσ H Q=>te σ H λx H1=>tl σ H1 λl H2=>th σ H2 λu H3=>r x l u H3 Q
theorem Ae {r:V->Option Int->Option Int->Hp->VK->Prop}(hr:SlR X r)(he:PE X e te)(hl:PO X lo tl)(hu:PO X hi th):PE X (.Subscript e (.Slice lo hi none p2) pos) (tSl r te tl th):=by
 intro pins s σ H Q I h;refine Rv (bV (he pins s σ H _ I h) λv s1 hh_=> ?_)
 obtain⟨x,H1,I1,r1,q1⟩:=hh_;refine wpAny_Slice (bV (hl pins s1 σ H1 _ I1 q1) λvl s2 ⟨l,H2,I2,pl,q2⟩=>bV (hu pins s2 σ H2 _ I2 q2) λvu s3 hh_=> ?_)
 obtain⟨u,H3,I3,pu,q3⟩:=hh_;rw[Rf];refine Lm ?_
 have I4:Inv X pins σ H3 { s3 with heap:=s3.heap.push { cls:=.type "slice",data:=.fields #[vl,vu,.none] } }:=I3.kept (t':=s3.toks) λb ob q=>Lk _ q
 obtain⟨T,id,hT,ht,hg⟩:=hr pins { s3 with heap:=s3.heap.push { cls:=.type "slice",data:=.fields #[vl,vu,.none] } } σ H3 x v vl vu l u s3.heap.objs.size Q I4 r1 (O4 ..) pl pu q3
 show wpAny (model X.prog X.w) X.A (Rg e (.Slice lo hi none p2) v (.ref s3.heap.objs.size)) (EP X pins σ Q) X.xe { s3 with heap:=s3.heap.push { cls:=.type "slice",data:=.fields #[vl,vu,.none] } }
 exact tail_any (ops:=[.ref s3.heap.objs.size,v]) ht hT hg (by with_unfolding_all rfl)
def vk (xs:List V)(lo hi:Option Int):List V:=(xs.drop (HT.sIx xs.length 0 lo)).take (HT.sIx xs.length xs.length hi - HT.sIx xs.length 0 lo)
theorem mn (xs:List V)(lo hi:Option Int):(vk xs lo hi).length<=xs.length:=by
 unfold vk;rw[Mq,Nx];omega
def rSlT (K:K7):V->Option Int->Option Int->Hp->VK->Prop:=λx lo hi H Q=> ∃a xs,x= .ref a/\SqT K H a xs ∧
 ¬(HT.sIx xs.length 0 lo=0/\HT.sIx xs.length xs.length hi=xs.length)/\∀p,H p=none->Q (.ref p) (upd H p (.tup (vk xs lo hi)))
theorem sl_tup:SlR X (rSlT X.K):=by
 intro pins s σ H x v vl vu lo hi sl Q I rx hs pl pu h;obtain⟨a,xs,rfl,hx,hw,q⟩:=h;cases rx;obtain⟨its,r,ht,hz⟩:=I.tuple hx
 have hlen:its.toArray.size=xs.length:=by rw[Ln];exact r.length.symm
 refine⟨"tuple",_,LL.lookup,ht.typeIs,?_⟩
 refine HT.getItem_tuple_cut ht hs pl pu (by rw[hlen];exact hw) ?_ (by rw[hlen];exact hz)
 rw[hlen];refine⟨.ref s.heap.objs.size,_,I.laid (t':=s.toks) (o:=.tup (vk xs lo hi)) (λb ob q=>Lk _ q) (Lo _) ?_,rfl,q _ (I.hok.fresh (Lo _))⟩
 exact⟨Me (mn xs lo hi) hz,_,(r.drop (HT.sIx xs.length 0 lo)).take (HT.sIx xs.length xs.length hi - HT.sIx xs.length 0 lo),QY _ _⟩
def Iv (K:K7):R2:=λx y H Q=> ∃a b xs ys,x= .ref a/\y= .ref b/\SqT K H a xs/\SqT K H b ys/\xs≠ []/\xs.length+ys.length<=sizeLine ∧
 (ys= []->Q (.ref a) H)/\(ys≠ []->∀p,H p=none->Q (.ref p) (upd H p (.tup (xs++ys))))
theorem Vals.AC {xs:List V}{us:List La}(r:Vals xs us):us= [] ↔xs= []:=by
 cases r with
 | nil=>simp
 | cons _ _=>simp
theorem DI:pj X (MN .Add) (Iv X.K):=by
 intro pins s σ H x y v u Q I rx ry h;obtain⟨a,b,xs,ys,rfl,rfl,ha,hb,hx,hz,q1,q2⟩:=h;cases rx;cases ry;obtain⟨its,r1,p1,_⟩:=I.tuple ha;obtain⟨its2,r2,p2,_⟩:=I.tuple hb;refine HT.cat_tup p1 p2 (λz=>hx (r1.AC.mp z)) (λz=>⟨.ref a,H,I,rfl,q1 (r2.AC.mp z)⟩) (λz=> ?_) (by rw[<-r1.length,<-r2.length];exact hz)
 refine⟨.ref s.heap.objs.size,_,I.laid (t':=s.toks) (o:=.tup (xs++ys)) (λb ob q=>Lk _ q) (Lo _) ?_,rfl,q2 (λw=>z (r2.AC.mpr w)) _ (I.hok.fresh (Lo _))⟩
 exact⟨by rw[Lb];exact hz,_,r1.append r2,QY _ _⟩
end
def ixN (n:Nat)(i:Int):Option Nat:=if 0<=i then(if i<n then some i.toNat else none)else if -(n:Int)<=i then some (i+n).toNat else none
def atI {α:Type}(xs:List α)(i:Int):Option α:=(ixN xs.length i).bind λj=>xs[j]?
theorem Ee {n:Nat}{i:Int}{j:Nat}(h:ixN n i=some j):seqIndex? i n=some j/\j<n/\-(n:Int)<=i/\i<n:=by
 unfold ixN at h
 by_cases h0:0<=i
 ·rw[if_pos h0]at h
  by_cases h1:i<n
  ·rw[if_pos h1]at h
   have e:i.toNat=j:=LX h;exact⟨by rw[seqIndex_of h0 h1,e],by omega,by omega,h1⟩
  ·rw[if_neg h1]at h;cases h
 ·rw[if_neg h0]at h
  by_cases h1 : -(n:Int)<=i
  ·rw[if_pos h1]at h
   have e:(i+n).toNat=j:=LX h;exact⟨by rw[seqIndex_neg (by omega) h1,e],by omega,h1,by omega⟩
  ·rw[if_neg h1]at h;cases h
theorem tF {α:Type}{xs:List α}{i:Int}{v:α}(h:atI xs i=some v):∃j,seqIndex? i xs.length=some j/\xs[j]? =some v/\j<xs.length/\-(xs.length:Int)<=i/\i<xs.length:=by
 unfold atI at h
 cases e:ixN xs.length i with
 | none=>rw[e]at h;cases h
 | some j=>
  rw[e]at h;obtain⟨h1,h2,h3,h4⟩:=Ee e;exact⟨j,h1,h,h2,h3,h4⟩
def ym (b:Expr):Prop:=∀o i,QQ b false o i=operate [o,i] (getItem o i)
def IxR (X:Cx)(r:R2):Prop:=
 ∀(value slice:Expr) (pins:List (Addr×Obj)) (s:Ld) (σ:St) (H:Hp) (x y:V) (v u:La) (Q:VK),Inv X pins σ H s->RelV x v->RelV y u->r x y H Q →
  QQ slice false v u=operate [v,u] (getItem v u)->wpAny (model X.prog X.w) X.A (Rg value slice v u) (EP X pins σ Q) X.xe s
def MtR (X:Cx)(id:String)(r:V->List V->Hp->VK->Prop):Prop:=
 ∀(pins:List (Addr×Obj)) (s:Ld) (σ:St) (H:Hp) (x:V) (xs:List V) (v:La) (us:List La) (Q:VK),Inv X pins σ H s->RelV x v->Vals xs us->r x xs H Q →
  wpAny (model X.prog X.w) X.A (call (.builtin id) (v::us)) (EP X pins σ Q) X.xe s
section
variable {X:Cx}{a b:Expr}{ta tb:TE}{pos:Pos}
theorem IxR.or {r r':R2}(h:IxR X r)(h':IxR X r'):IxR X (λx y H Q=>r x y H Q\/r' x y H Q):=by
 intro value slice pins s σ H x y v u Q I rx ry q hs;rcases q with q | q
 ·exact h value slice pins s σ H x y v u Q I rx ry q hs
 ·exact h' value slice pins s σ H x y v u Q I rx ry q hs
def Iu (K:K7):R2:=λx y H Q=> ∃p xs i v,x= .ref p/\y= .int i/\SqL K H p xs/\atI xs i=some v/\Q v H
def Iq (K:K7):R2:=λx y H Q=> ∃p xs i v,x= .ref p/\y= .int i/\SqT K H p xs/\atI xs i=some v/\Q v H
def Ir:R2:=λx y H Q=> ∃z i c,x= .str z/\y= .int i/\z.length<=sizeLine/\atI z.cps.toList i=some c/\Q (.str ⟨#[c]⟩) H
theorem ix_list:IxR X (Iu X.K):=by
 intro value slice pins s σ H x y v u Q I rx ry h hs;obtain⟨p,xs,i,z,rfl,rfl,hq,he,q⟩:=h;cases rx;obtain⟨t,rfl⟩:=ry;obtain⟨its,r,pl,hz⟩:=I.list hq;obtain⟨j,h1,h2,h3,h4,h5⟩:=tF he;obtain⟨w,ew,rw'⟩:=r.get h2
 have hl:=r.length
 have hn:=oj
 have fin:EP X pins σ Q w s:=⟨z,H,I,rw',q⟩
 by_cases h0:0<=i
 ·have hj:i.toNat=j:=by
   rw[seqIndex_of h0 h5]at h1;exact LX h1
  exact item_listR pl.isList h0 (by omega) (by rw[hj];simpa using ew) fin hs
 ·have hj:(i+(its.toArray.size:Int)).toNat=j:=by
   rw[seqIndex_neg (by omega) h4]at h1
   rw[Ln,<-hl];exact LX h1
  exact PU (x:=w) pl.isList.typeIs slot_list_getitem.lookup
   (wpAny_getItem_list_neg (Q:=λr s'=>r=w/\EP X pins σ Q r s') pl.isList (by omega) (by rw[Ln] <;> omega) (by omega) (by rw[hj];simpa using ew) ⟨rfl,fin⟩) hs
theorem ix_tup:IxR X (Iq X.K):=by
 intro value slice pins s σ H x y v u Q I rx ry h hs;obtain⟨p,xs,i,z,rfl,rfl,hq,he,q⟩:=h;cases rx;obtain⟨t,rfl⟩:=ry;obtain⟨its,r,pl,hz⟩:=I.tuple hq;obtain⟨j,h1,h2,h3,h4,h5⟩:=tF he;obtain⟨w,ew,rw'⟩:=r.get h2
 have hl:=r.length
 have hn:=oj
 have fin:EP X pins σ Q w s:=⟨z,H,I,rw',q⟩
 exact PU (x:=w) pl.typeIs slot_tuple_getitem.lookup
  (getItem_tuple (j:=j) (Q:=λr s'=>r=w/\EP X pins σ Q r s') pl (by omega) (by omega) (by rw[Ln,<-hl];exact h1) (by simpa using ew) ⟨rfl,fin⟩) hs
theorem Hi:IxR X Ir:=by
 intro value slice pins s σ H x y v u Q I rx ry h hs;obtain⟨z,i,c,rfl,rfl,hz,he,q⟩:=h;obtain⟨t,rfl⟩:=rx;obtain⟨t',rfl⟩:=ry;obtain⟨j,h1,h2,h3,h4,h5⟩:=tF he
 have hl:z.cps.toList.length=z.length:=by simp[Str.length]
 rw[hl]at h1 h4 h5
 have hn:=oj
 exact tail_any (typeIs_str s z t) slot_str_getitem.lookup (getItem_str (c:=c) (by
  have e1:decide (i< -(2 ^ 63:Int))=false:=decide_eq_false (by omega)
  have e2:decide (i ≥ 2 ^ 63)=false:=decide_eq_false (by omega)
  rw[e1,e2,Bool.or_false]) (by rw[h1];simpa using h2) ⟨.str ⟨#[c]⟩,H,I.tok _,⟨_,rfl⟩,q⟩) hs
def rIx (K:K7):R2:=λx y H Q=>Iu K x y H Q\/Iq K x y H Q\/Ir x y H Q
theorem Hj:IxR X (rIx X.K):=ix_list.or (ix_tup.or Hi)
theorem qV (lo hi:Option Int)(n:Nat):(Oh lo hi none n).1=((HT.sIx n 0 lo:Nat):Int)/\(Oh lo hi none n).2.1=((HT.sIx n n hi:Nat):Int)/\(Oh lo hi none n).2.2=1:=by
 refine⟨?_,?_,rfl⟩
 ·cases lo with
  | none=>simp[Oh,HT.sIx]
  | some i=>
   simp only[Oh,HT.sIx,RQ,show(1:Int) > 0 by decide,if_true]
   by_cases h:i<0
   ·simp only[h,if_true] <;> omega
   ·simp only[h,if_false] <;> omega
 ·cases hi with
  | none=>simp[Oh,HT.sIx]
  | some i=>
   simp only[Oh,HT.sIx,RQ,show(1:Int) > 0 by decide,if_true]
   by_cases h:i<0
   ·simp only[h,if_true] <;> omega
   ·simp only[h,if_false] <;> omega
theorem pk (its:List La)(lo hi:Option Int):Sj its.toArray lo hi none=((its.drop (HT.sIx its.length 0 lo)).take (HT.sIx its.length its.length hi - HT.sIx its.length 0 lo)).toArray:=by
 obtain⟨h1,h2,h3⟩:=qV lo hi its.toArray.size;unfold Sj;rw[h1,h2,h3];simp only[sliceRange_one,pick_run,Ln] <;> rfl
def rSlL (K:K7):V->Option Int->Option Int->Hp->VK->Prop:=λx lo hi H Q=> ∃a xs,x= .ref a/\SqL K H a xs/\∀p,H p=none->Q (.ref p) (upd H p (.lst (vk xs lo hi)))
theorem CV:SlR X (rSlL X.K):=by
 intro pins s σ H x v vl vu lo hi sl Q I rx hs pl pu h;obtain⟨a,xs,rfl,hx,q⟩:=h;cases rx;obtain⟨its,r,ht,hz⟩:=I.list hx
 have hlen:=r.length;refine⟨"list",_,slot_list_getitem.lookup,ht.isList.typeIs,?_⟩
 refine Pv ht.isList hs pl pu .none (by simp) ?_ (by rw[Ln] <;> omega)
 rw[pk,<-hlen];refine⟨.ref s.heap.objs.size,_,I.laid (t':=s.toks) (o:=.lst (vk xs lo hi)) (λb ob q=>Lk _ q) (Lo _) ?_,rfl,q _ (I.hok.fresh (Lo _))⟩
 exact⟨Me (mn xs lo hi) hz,_,0,(r.drop (HT.sIx xs.length 0 lo)).take (HT.sIx xs.length xs.length hi - HT.sIx xs.length 0 lo),Lz _ rfl⟩
theorem call_len_seq:CallR X (.builtin "len") (λxs H Q=> ∃p ys,xs= [.ref p]/\(SqL X.K H p ys\/SqT X.K H p ys)/\Q (.int ys.length) H):=by
 intro pins s σ H xs us Q I r h;obtain⟨p,ys,rfl,hq,q⟩:=h;obtain⟨u,rfl,rx⟩:=m9 r;cases rx
 have hn:=oj;rcases hq with hq | hq
 ·obtain⟨its,r',pl,hz⟩:=I.list hq
  have hlen:=r'.length;exact Calls.call_len_list pl.isList (by simp only[Ln] <;> omega) ⟨.int ys.length,H,I.tok _,⟨s.toks+1,by rw[Ln,hlen]⟩,q⟩
 ·obtain⟨its,r',pl,hz⟩:=I.tuple hq
  have hlen:=r'.length;exact len_tuple pl (by simp only[Ln] <;> omega) ⟨.int ys.length,H,I.tok _,⟨s.toks+1,by rw[Ln,hlen]⟩,q⟩
theorem tu:CallR X (.builtin "len") (λxs H Q=> ∃z,xs= [.str z]/\z.length<=sizeLine/\Q (.int z.length) H):=by
 intro pins s σ H xs us Q I r h;obtain⟨z,rfl,hz,q⟩:=h;obtain⟨u,rfl,t,rfl⟩:=m9 r
 have hn:=oj;exact len_str (by omega) ⟨.int z.length,H,I.tok _,⟨_,rfl⟩,q⟩
theorem CallR.or {f:La}{r r':List V->Hp->VK->Prop}(h:CallR X f r)(h':CallR X f r'):CallR X f (λxs H Q=>r xs H Q\/r' xs H Q):=by
 intro pins s σ H xs us Q I rs q;rcases q with q | q
 ·exact h pins s σ H xs us Q I rs q
 ·exact h' pins s σ H xs us Q I rs q
theorem pZ:CallR X (.type "tuple") (λxs H Q=> ∃p ys,xs= [.ref p]/\((SqL X.K H p ys/\∀l,H l=none->Q (.ref l) (upd H l (.tup ys)))\/(SqT X.K H p ys/\Q (.ref p) H))):=by
 intro pins s σ H xs us Q I r h;obtain⟨p,ys,rfl,h⟩:=h;obtain⟨u,rfl,rx⟩:=m9 r;cases rx;rcases h with⟨hq,q⟩ | ⟨hq,q⟩
 ·obtain⟨its,r',pl,hz⟩:=I.list hq
  have hlen:=r'.length;refine call_tuple_list pl.isList (λh' kp=> ?_) (by simp only[Ln] <;> omega)
  have I1:Inv X pins σ H { s with heap:=h' }:=I.kept (t':=s.toks) kp
  have I2:Inv X pins σ (upd H h'.objs.size (.tup ys)) { s with heap:=h'.push { cls:=.type "tuple",data:=.seq its.toArray } }:=
   I1.laid (t':=s.toks) (λb o e=>Lk _ e) (Lo _) (show ObjOk X.prog X.w _ _ _ (.tup ys)from⟨hz,its,r',QY _ _⟩)
  exact⟨.ref h'.objs.size,_,I2,rfl,q _ (I1.hok.fresh (Lo _))⟩
 ·obtain⟨its,r',pl,hz⟩:=I.tuple hq
  exact call_tuple_same pl ⟨.ref p,H,I,rfl,q⟩
def tyV (K:K7)(T:String)(x:V)(H:Hp):Prop:=match x with
 | .str _=>T= "str"
 | .int _=>T= "int"
 | .ref p=>(T= "list"/\∃xs,SqL K H p xs)\/(T= "tuple"/\∃o,K.lookup p=some o/\o.cls= .type "tuple"/\o.dict=none) ∨
   (T= "dict"/\((∃kvs,H p=some (.dK kvs))\/∃kvs,H p=some (.dT kvs)))\/(T= "set"/\∃S n,H p=some (.set S n))
 | _=>False
theorem vD {pins:List (Addr×Obj)}{σ:St}{H:Hp}{s:Ld}{T:String}{x:V}{v:La}(I:Inv X pins σ H s)(r:RelV x v)(ty:tyV X.K T x H) :
  s.TypeIs v T/\∀a,v= .ref a->∃ob,s.heap.get? a=some ob/\ob.dict=none:=by
 cases x with
 | str z=>
  obtain⟨t,rfl⟩:=r;cases (show T= "str" from ty)
  exact⟨typeIs_str s z t,λ_ e=>nomatch e⟩
 | int i=>
  obtain⟨t,rfl⟩:=r;cases (show T= "int" from ty)
  exact⟨Qr s i t,λ_ e=>nomatch e⟩
 | ref p=>
  cases r;rcases ty with⟨rfl,xs,hq⟩ | ⟨rfl,o,hk,hc,hd⟩ | ⟨rfl,hk⟩ | ⟨rfl,S,n,hk⟩
  ·obtain⟨its,_,pl,_⟩:=I.list hq
   refine⟨pl.isList.typeIs,λa e=> ?_⟩
   cases e;obtain⟨o,n,e,c,hd,_⟩:=pl;exact⟨o,e,hd⟩
  ·refine⟨⟨o,I.kIn p o hk,hc⟩,λa e=> ?_⟩
   cases e;exact⟨o,I.kIn _ o hk,hd⟩
  ·have z:∃o,s.heap.get? p=some o/\o.ExactDict:=by
    rcases hk with⟨kvs,hk⟩ | ⟨kvs,hk⟩
    ·obtain⟨_,_,_,_,o,_,_,e,ex,_⟩:=I.hok p _ hk
     exact⟨o,e,ex⟩
    ·obtain⟨_,_,_,_,o,_,_,e,ex,_⟩:=I.hok p _ hk
     exact⟨o,e,ex⟩
   obtain⟨o,e,ex⟩:=z;refine⟨⟨o,e,ex.1⟩,λa e2=> ?_⟩
   cases e2;exact⟨o,e,ex.2.1⟩
  ·obtain⟨o,_,_,_,e,ex,_⟩:=I.hok p _ hk
   refine⟨⟨o,e,ex.1⟩,λa e2=> ?_⟩
   cases e2
   exact⟨o,e,ex.2.1⟩
 | _=>exact M8 ty
def tBM0 (K:K7)(T:String)(r:V->List V->Hp->VK->Prop)(to:TE):TE:=λσ H Q=>to σ H λx H1=>tyV K T x H1/\r x [] H1 Q
def tBM (K:K7)(T:String)(r:V->List V->Hp->VK->Prop)(to:TE)(t:TA):TE:=λσ H Q=>to σ H λx H1=>tyV K T x H1/\t σ H1 λxs H2=>r x xs H2 Q
variable {o e:Expr}{es:List Expr}{to:TE}{t:TA}{name:Str}{apos cpos:Pos}{T id:String}{r:V->List V->Hp->VK->Prop}
theorem Gy (pa:PlainAttrs T)(slot:Slot T name id)(hty:typeOf (.builtin id)=pure (.type "method_descriptor"))(hm:MtR X id r)(ho:PE X o to)
  (hbase:autoParam (LP o name X.env (eval o X.env)=eval o X.env) aqd._auto_1) (hline:autoParam ((apos.endLine == cpos.line)=true) aqd._auto_1):PE X (.Call (.Attribute o name apos) [] [] cpos) (tBM0 X.K T r to):=by
 intro pins s σ H Q I h;refine wpAny_Call_method0_late hbase hline (bV (ho pins s σ H _ I h) λv s1 hh_=> ?_)
 obtain⟨x,H1,I1,r1,ty,q1⟩:=hh_;obtain⟨h1,h2⟩:=vD I1 r1 ty;exact⟨T,id,pa,slot,hty,h1,h2,NC rfl (PySem.evalArgs_none (hm pins s1 σ H1 x [] v [] Q I1 r1 .nil q1))⟩
theorem Ak (pa:PlainAttrs T)(slot:Slot T name id)(hty:typeOf (.builtin id)=pure (.type "method_descriptor"))(hm:MtR X id r)(ho:PE X o to)(ha:PA X (e::es) t)
  (hbase:autoParam (LP o name X.env (eval o X.env)=eval o X.env) aqd._auto_1)
  (hfew:((backTo cpos (Lx (e::es) X.env)).all (λx=> !x.1)&&(Pb cpos (NJ [] X.env)).all (λx=>x.1.isSome)
   &&decide ((e::es).length+([]:List Sk).length+(if ([]:List Sk).isEmpty then 0 else 1)<30))=true:=by rfl)
  (hline:autoParam ((apos.endLine == cpos.line)=true) aqd._auto_1) (hs:autoParam (Lx (e::es) X.env=(false,eval e X.env)::Lx es X.env) aqd._auto_1) (hplain:autoParam ((backTo cpos (Lx es X.env)).any (·.1)=false) aqd._auto_1) :
  PE X (.Call (.Attribute o name apos) (e::es) [] cpos) (tBM X.K T r to t):=by
 intro pins s σ H Q I h;refine PV hbase hfew hline rfl (bV (ho pins s σ H _ I h) λv s1 hh_=> ?_)
 obtain⟨x,H1,I1,r1,ty,q1⟩:=hh_;obtain⟨h1,h2⟩:=vD I1 r1 ty;refine⟨T,id,pa,slot,hty,h1,h2,?_⟩
 have hA:=ha cpos pins s1 σ H1 _ I1 q1;rw[hs]at hA ⊢;refine NC (by show(false||(backTo cpos (Lx es X.env)).any (·.1))=false;rw[hplain] <;> rfl) (NR ?_)
 exact bV hA λus s2 ⟨vs,H2,I2,r2,q2⟩=>hm pins s2 σ H2 x vs v us Q I2 r1 r2 q2
end
def MtM (X:Cx)(id:String)(r:V->List V->Hp->VK->Prop):Prop:=
 ∀(pins:List (Addr×Obj)) (s:Ld) (σ:St) (H:Hp) (x:V) (xs:List V) (v:La) (us:List La) (Q:VK),Inv X pins σ H s->RelV x v->Vals xs us->r x xs H Q →
  wpAny (model X.prog X.w) X.A (call (.builtin id) (v::us)) (EP X pins σ Q) X.xe s
theorem Vals.one:∀{x:V} {us:List La},Vals [x] us->∃u,us= [u]/\RelV x u
 | _,_,.cons r .nil=>⟨_,rfl,r⟩
theorem Vals.zero:∀{us:List La},Vals [] us->us= []
 | _,.nil=>rfl
theorem Vals.dropLast {xs:List V}{us:List La}(h:Vals xs us):Vals xs.dropLast us.dropLast:=by
 induction h with
 | nil=>exact .nil
 | cons r t ih=>
  cases t with
  | nil=>exact .nil
  | cons q t'=>exact .cons r ih
theorem Vals.reverse {xs:List V}{us:List La}(h:Vals xs us):Vals xs.reverse us.reverse:=by
 induction h with
 | nil=>exact .nil
 | cons r t ih=>rw[NL,NL];exact Vals.append ih (.cons r .nil)
theorem Vals.rep {xs:List V}{us:List La}(h:Vals xs us):∀k:Nat,Vals (LA k xs).flatten (LA k us).flatten
 | 0=> .nil
 | k+1=>by
  rw[MR,MR,Nj,Nj];exact Vals.append h (Vals.rep h k)
theorem wG {α:Type}(l:List α):l.eraseIdx (l.length - 1)=l.dropLast:=by
 induction l with
 | nil=>rfl
 | cons a r ih=>
  cases r with
  | nil=>rfl
  | cons b r=>
   have e:(a::b::r).length - 1=((b::r).length - 1)+1:=by
    have h1:(a::b::r).length=r.length+2:=rfl
    have h2:(b::r).length=r.length+1:=rfl;omega
   rw[e,List.eraseIdx_cons_succ,ih]
   all_goals rfl
theorem foldl_rep (its:List La):∀(k:Nat) (acc:List La),
  Pn (λx1 x2=>x1++x2) acc.toArray (LA k its.toArray)=(acc++(LA k its).flatten).toArray
 | 0,acc=>by simp
 | k+1,acc=>by
  have e:acc.toArray++its.toArray=(acc++its).toArray:=by simp
  have e2:(acc++its)++(LA k its).flatten=acc++(LA (k+1) its).flatten:=by
   rw[MR,Nj,LS]
  rw[<-e2,<-foldl_rep its k (acc++its),<-e,MR,List.foldl_cons]
section
variable {X:Cx}{pins:List (Addr×Obj)}{σ:St}{H:Hp}{s:Ld}{l b:Addr}{xs ys zs:List V}
theorem Inv.KN {its its':List La}{n:Nat}{f:Array La->Array La}{t':Nat}(I:Inv X pins σ H s)(hH:H l=some (.lst xs))
  (e:s.heap.get? l=some { cls:=.type "list",data:=.seq its.toArray n }) (hf:f its.toArray=its'.toArray) (hv:Vals ys its') (hz:ys.length<=sizeLine) :
  Inv X pins σ (upd H l (.lst ys)) { s with heap:=s.heap.update l (Obj.mapSeq f),toks:=t' }:=by
 have q:=PySem.IsL.update e f;rw[hf]at q;refine I.write (x:=l) (e:=l) (by rw[hH];exact trivial) (.inl rfl) (λb' u hb hu=>(Od s.heap (Obj.mapSeq f) (NV hb)).trans hu) ⟨_,q⟩ ?_
 exact⟨hz,its',_,hv,q⟩
theorem Inv.KD {its:List La}{t':Nat}(I:Inv X pins σ H s)(hv:Vals ys its)(hz:ys.length<=sizeLine) :
  Inv X pins σ (upd H s.heap.objs.size (.lst ys)) { s with heap:=s.heap.push { cls:=.type "list",data:=.seq its.toArray },toks:=t' }:=
 I.laid (λ_ _ q=>Lk _ q) (Lo _) ⟨hz,its,0,hv,Lz _ rfl⟩
theorem Inv.fresh (I:Inv X pins σ H s):H s.heap.objs.size=none:=I.hok.fresh (Lo _)
theorem Inv.Kj (I:Inv X pins σ H s)(hH:H l=some (.lst xs)):xs.length<=sizeLine/\∃(its:List La) (n:Nat),Vals xs its/\xs.length=its.length/\s.heap.get? l=some { cls:=.type "list",data:=.seq its.toArray n }:=by
 obtain⟨z,its,n,r,e⟩:=I.hok l _ hH;exact⟨z,its,n,r,r.length,e⟩
theorem uF {n:Nat}(h:n<=sizeLine):Nh n=false:=by
 unfold Nh;exact decide_eq_false (by omega)
end
section
variable {X:Cx}
def C5:V->List V->Hp->VK->Prop:=λx vs H Q=> ∃l xs y,x= .ref l/\vs= [y]/\H l=some (.lst xs)/\xs.length<sizeLine/\Q .non (upd H l (.lst (xs++ [y])))
theorem lL:MtM X "list.append" C5:=by
 intro pins s σ H x vs v us Q I rx rv h;obtain⟨l,xs,y,rfl,rfl,hH,hz,q⟩:=h;cases rx;obtain⟨u,rfl,ru⟩:=rv.one;obtain⟨z,its,n,r,hl,e⟩:=I.Kj hH;refine Oi F.slot_list_append ⟨_,e,rfl⟩ F.entry_list_append (F.args_list_append_2 _ _) (PySem.list_append l its.toArray n u (by rw[Ln];omega)) ⟨e,?_⟩
 refine⟨.non,_,I.KN (its':=its++ [u]) hH e (by simp) (r.append (.cons ru .nil)) ?_,rfl,q⟩
 rw[Lb,MU];omega
def C4:V->List V->Hp->VK->Prop:=λx vs H Q=> ∃l b xs zs,x= .ref l/\vs= [.ref b]/\H l=some (.lst xs)/\H b=some (.lst zs)/\xs.length+zs.length<=sizeLine/\Q .non (upd H l (.lst (xs++zs)))
theorem yN:MtM X "list.extend" C4:=by
 intro pins s σ H x vs v us Q I rx rv h;obtain⟨l,b,xs,zs,rfl,rfl,hH,hB,hz,q⟩:=h;cases rx;obtain⟨u,rfl,ru⟩:=rv.one;cases ru;obtain⟨z,its,n,r,hl,e⟩:=I.Kj hH;obtain⟨z2,its2,n2,r2,hl2,e2⟩:=I.Kj hB
 have hsz:its.toArray.size+its2.toArray.size<=sizeLine:=by rw[Ln,Ln];omega
 have hlong:¬ (!its.toArray.isEmpty&&Nh (its.toArray.size+its2.toArray.size))=true:=by
  rw[uF hsz,Bool.and_false];exact LK
 refine Oi F.slot_list_extend ⟨_,e,rfl⟩ F.entry_list_extend (F.args_list_extend_2 _ _)
  (AutoSeq1.list_extend_list_list_0 l its.toArray n b its2.toArray n2 hlong (by rw[Ln];omega) (by omega)) ⟨e,e2,?_⟩
 refine⟨.non,_,I.KN (its':=its++its2) hH e (by simp) (r.append r2) ?_,rfl,q⟩
 rw[Lb];omega
def rPop:V->List V->Hp->VK->Prop:=λx vs H Q=> ∃l xs y,x= .ref l/\vs= []/\H l=some (.lst xs)/\xs[xs.length - 1]? =some y/\Q y (upd H l (.lst xs.dropLast))
theorem GS:MtM X "list.pop" rPop:=by
 intro pins s σ H x vs v us Q I rx rv h;obtain⟨l,xs,y,rfl,rfl,hH,hy,q⟩:=h;cases rx
 have hus:=rv.zero;subst hus;obtain⟨z,its,n,r,hl,e⟩:=I.Kj hH;obtain⟨u,hu,ru⟩:=r.get hy
 have hy':its.toArray[its.toArray.size - 1]? =some u:=by
  show its.toArray[its.length - 1]? =some u
  rw[<-Array.getElem?_toList,<-hl]
  exact hu
 refine Oi F.slot_list_pop ⟨_,e,rfl⟩ F.entry_list_pop (F.args_list_pop_1 _) (MeetsSeq.list_pop_last l its.toArray n u hy' (by rw[Ln];omega)) ⟨e,?_⟩
 refine⟨y,_,I.KN (its':=its.dropLast) hH e ?_ r.dropLast ?_,ru,q⟩
 ·show its.toArray.eraseIdxIfInBounds (its.toArray.size - 1)=its.dropLast.toArray
  rw[Ln,List.eraseIdxIfInBounds_toArray,wG]
 ·rw[List.length_dropLast]
  omega
def rCat:R2:=λx y H Q=> ∃l b xs zs,x= .ref l/\y= .ref b/\H l=some (.lst xs)/\H b=some (.lst zs)/\xs.length+zs.length<=sizeLine/\∀p,H p=none->Q (.ref p) (upd H p (.lst (xs++zs)))
theorem GI:pj X (MN .Add) rCat:=by
 intro pins s σ H x y v u Q I rx ry h;obtain⟨l,b,xs,zs,rfl,rfl,hH,hB,hz,q⟩:=h;cases rx;cases ry;obtain⟨z,its,n,r,hl,e⟩:=I.Kj hH;obtain⟨z2,its2,n2,r2,hl2,e2⟩:=I.Kj hB;refine RP e e2 ?_ (by rw[Ln,Ln];omega)
 have ea:its.toArray++its2.toArray=(its++its2).toArray:=by simp
 rw[ea];exact⟨.ref _,_,I.KD (t':=s.toks) (r.append r2) (by rw[Lb];omega),rfl,q _ I.fresh⟩
def rRep:R2:=λx y H Q=> ∃l k xs,x= .ref l/\y= .int k/\H l=some (.lst xs)/\-(2 ^ 63)<=k/\k<2 ^ 63/\xs.length*k.toNat<=sizeLine ∧
 ∀p,H p=none->Q (.ref p) (upd H p (.lst (LA k.toNat xs).flatten))
theorem len_rep {α:Type}(xs:List α)(k:Nat):(LA k xs).flatten.length=k*xs.length:=by
 induction k with
 | zero=>simp
 | succ k ih=>rw[MR,Nj,Lb,ih,Nat.succ_mul,RF]
theorem GD:pj X (MN .Mult) rRep:=by
 intro pins s σ H x y v u Q I rx ry h;obtain⟨l,k,xs,rfl,rfl,hH,h1,h2,hz,q⟩:=h;cases rx;obtain⟨t,rfl⟩:=ry;obtain⟨z,its,n,r,hl,e⟩:=I.Kj hH
 have hlen:its.toArray.size*k.toNat<=sizeLine:=by rw[Ln,<-hl];exact hz
 have hcap:¬ its.toArray.size*k.toNat > (2 ^ 63 - 1) / 8:=by
  have:(sizeLine:Nat)<=(2 ^ 63 - 1) / 8:=by decide
  omega
 have hfit:¬ (!Builtin.List.listFitsIndex k)=true:=by
  rw[fitsIndex_both h1 h2];exact LK
 have hlong:¬ Nh (its.toArray.size*k.toNat)=true:=by
  rw[uF hlen];exact LK
 have hnew:Pn (λx1 x2=>x1++x2) #[] (LA (if its.toArray.isEmpty=true then 0 else k.toNat) its.toArray)=(LA k.toNat its).flatten.toArray:=by
  have f0:∀m:Nat,Pn (λx1 x2=>x1++x2) #[] (LA m its.toArray)=(LA m its).flatten.toArray:=λm=>by
   have:=foldl_rep its m [];rw[OJ]at this;exact this
  rw[f0]
  cases its with
  | nil=>simp
  | cons a r'=>rw[if_neg (by simp)]
 refine Pg (T:="list") (U:="int") (by decide) ⟨_,e,rfl⟩ (λs'=>Qr s' k t) noFill_list_mul R9 OK repeat_list RS.lookup
  (Oi OK (Qr s k t) RT (Rl _ _) (int___rmul___int_list k t l its.toArray n)
   ⟨e,rfl,⟨_,e,rfl⟩,Oi F.slot_list_mul ⟨_,e,rfl⟩ F.entry_list_mul (F.args_list_mul_2 _ _) (QZ l its.toArray n k t hfit hcap hlong) ⟨e,?_⟩⟩)
 rw[hnew];exact⟨.ref _,_,I.KD (t':=s.toks) (r.rep k.toNat) (by rw[len_rep,RG];exact hz),rfl,q _ I.fresh⟩
end
end L2
namespace Att
open PySem PySem.W PySem.Calls PyProof.Rows
theorem mI {P:Params}{h:Heap}:∀(ns:List Int) (vs:List La),WellAll P h vs (ns.map WData.int)->OR vs ns:=by
 intro ns
 induction ns with
 | nil=>
  intro vs w;rw[P3]at w;cases w
  exact .nil
 | cons n ns ih=>
  intro vs w;rw[Lf]at w
  cases w with
  | cons a b=>
   cases a;exact .cons _ _ (ih _ b)
theorem yB {l:OpenLaw}{n:Nat}(hn:l.most=some n){P:Params}{h:Heap}{args:List WData}{vals:List La}
  (hpre:l.row.toRowW.claim.pre args=true) (hwl:WellAll P h vals args) :
  ∃a vs ns,vals= [LJ a]/\args= [WData.list (ns.map WData.int)]/\h.get? a=some { cls:=.type "list",data:=.seq vs.toArray }/\OR vs ns/\ns.length<=n:=by
 have hsh:WShape.hasAll [] args [.list .int] =true:=(pre_splitW hpre).1
 have hc:l.pre.holds [] { args:=args }=true:=(pre_splitW hpre).2;obtain⟨d,r,rfl,h1,h2⟩:=hasAllW_cons hsh;obtain rfl:=hasAllW_nil h2;obtain⟨xs,rfl,h3⟩:=hasW_list h1;obtain⟨ns,rfl⟩:=items_int h3
 have hlen:ns.length<=n:=by
  unfold OpenLaw.pre at hc
  have h4:(WTm.not (.lt (.lit (.int (n:Int))) (.len (.arg 0)))).holds [] { args:=[.list (ns.map .int)] }=true:=by
   have h4:=(holds_andW hc).1;rw[hn]at h4;exact h4
  have h5:=condW_of h4 (w_not (w_lt w_lit (w_len_list (w_arg rfl))));rw[Lh]at h5;refine Nat.le_of_not_lt λq=> ?_
  have q':(n:Int)<((ns.length:Nat):Int):=by omega
  first
   | (rw[decide_eq_true q']at h5;exact absurd h5 (by decide))
   | (simp at h5;omega)
 cases hwl with
 | cons w1 w2=>
  cases w2
  cases w1 with
  | list ho hall=>exact⟨_,_,ns,rfl,rfl,ho,mI ns _ hall,hlen⟩
theorem yF (l:OpenLaw)(args:List WData):l.row.toRowW.claim.post args (.bool true) args=true:=
 postW_of (r:=l.row.toRowW) (X:=(true == true))
  (show WShape.has [] (.bool true) .bool=true by first | rfl | decide | simp[WShape.has,WShape.arms,WShape.armsAll])
  (show(WTm.eq .res (.lit (.bool true))).value [] { args:=args,res:=some (.bool true),after:=args }=some (.bool (true == true))from w_eq_bool (w_res rfl) w_lit) rfl
theorem attach_call {l:OpenLaw}{n:Nat}{q:LI}{loose:List Str}{XP:(Str->Option La)->Heap->Prop}{YP:Mj->Heap->Prop}{d:DefRec}
  (hn:l.most=some n) (hdf:d.params.defaults= [])
  (call:∀(w:Mj) (s₀ s₁:Ld) (mg mb:Str->Option La) (fa:Addr) (o:Obj) (pm cd doc:La) (a:Addr) (vs:List La) (ns:List Int),
   Ground q loose [] XP w s₀ mg mb s₁.heap->YP w s₁.heap →
   s₁.heap.get? fa=some o->o.data= .func (docDef d.name d.params d.body d.scope pm cd doc)->s₁.heap.CodeRec cd d.name->mg d.name=some (.ref fa) →
   s₁.heap.get? a=some { cls:=.type "list",data:=.seq vs.toArray }->OR vs ns->ns.length<=n->s₁.gens= #[] →
   codeAny (model l.prog w) callerA (.call (.ref fa) ⟨[.ref a],[]⟩) (λr s'=>r= .ok (.ret (.bool true))/\OldK s₁.heap s'.heap/\s'.os=s₁.os/\PD s'.gens) s₁) :
  WalkO q loose XP YP l.row.toRowW d [] (λf vs=>PySem.call f vs):=by
 intro w s₀ s₁ mg mb G Y fa o pm cd doc dV kV ho hd hcd hD hmg hg args vals as hpre hlay hrd hwl hlo;obtain rfl:dV= .none:=Dflts.none hD hdf;obtain rfl:kV= .none:=Dflts.noKw hD;obtain⟨a,vs,ns,rfl,rfl,hobj,hints,hlen⟩:=yB hn hpre hwl;refine enter_call (N0 (call w s₀ s₁ mg mb fa o pm cd doc a vs ns G Y ho (fd_plain hd) hcd hmg hobj hints hlen hg) λr s' hq=> ?_)
 obtain⟨rfl,h2,h3,h4⟩:=hq;exact⟨.inl ⟨.bool true,.bool true,[],rfl,λ_=>rfl,.bool true,yF l _,λ_=>⟨List.Pairwise.nil,λ_ hm=>(nomatch hm)⟩⟩,h2,h3,h4⟩
end Att
namespace L2
open PySem PySem.Spec PyProof.Rows
theorem qb:∀{vs:List La} {ns:List Int},OR vs ns->Vals (ns.map V.int) vs
 | _,_,.nil=> .nil
 | _,_,.cons n t h=> .cons ⟨t,rfl⟩ (qb h)
def HL (H:Hp):Prop:=∀b,H b=none\/∃o xs,H b=some (.frz o (.lst xs))
theorem AS {P:LI}{w:Mj}{K:K7}{mg mb:Str->Option La}{CX:Cy}{k:Nat}{fa a:Addr}{fd:Mp}{x:Str}{sp:Sp}{s₁:Ld}{vs:List La}{ns:List Int}
  (KX:K.In s₁.heap) (hns:s₁.heap.Ns LV mg) (hb:s₁.heap.Ns Pq mb) (hbb:∀x:Str,x≠ "__name__"->mb x=Mf x) (hlim:s₁.heap.NoLimit) (hg:s₁.gens= #[])
  (ha:s₁.heap.get? a=some { cls:=.type "list",data:=.seq vs.toArray }) (hi:OR vs ns) (hl:ns.length<=sizeLine) (hr:Room k callerA)
  (F:∀base:Heap,K.In base->base.Ns LV mg->o9 P w K mg base CX k fa fd [x] sp) (hbind:∀(s:Ld) (u:La),Qk s fd ⟨[u],[]⟩ [(x,u)])
  (hsp:∀H:Hp,HL H->SqL K H a (ns.map V.int)->sp [.ref a] H (λv _=>v= .bl true) λ_ _ _=>False)
  (hCX:∀H e s',CX [] H s₁ (λ_ _ _=>False) e s'->False) :
  codeAny (model P w) callerA (.call (.ref fa) ⟨[.ref a],[]⟩) (λr s'=>r= .ok (.ret (.bool true))/\OldK s₁.heap s'.heap/\s'.os=s₁.os/\PD s'.gens) s₁:=by
 have rv:=qb hi
 have lenV:=hi.length
 -- from an abstract heap in which nothing but the script may be tracked
 have core:∀H:Hp,HL H->SqL K H a (ns.map V.int)->HOk P w H s₁.heap->(∀b,H b≠none->b=a)->(H a≠none->K.lookup a=none) →
   codeAny (model P w) callerA (.call (.ref fa) ⟨[.ref a],[]⟩) (λr s'=>r= .ok (.ret (.bool true))/\OldK s₁.heap s'.heap/\s'.os=s₁.os/\PD s'.gens) s₁:=by
  intro H hO hS hok hA hK
  have base_of:∀{b:Addr} {o:Obj},s₁.heap.get? b=some o->H b=none->(sP s₁.heap H).get? b=some o:=λe n=>Bd e n
  have noA:∀{b:Addr} {o:Obj} {es:Array DictEntry} {ep:Nat},s₁.heap.get? b=some o->o.data= .dict es ep->H b=none:=λ{b o es ep} e d=>by
   cases q:H b with
   | none=>rfl
   | some u=>
    have e':b=a:=hA b (by rw[q];simp)
    subst e';rw[ha]at e;cases e
    have d':Data.seq vs.toArray _=Data.dict es ep:=d;cases d'
  have nsK:∀{b:Addr} {m:Str->Option La},s₁.heap.Ns b m->(sP s₁.heap H).Ns b m:=λ{b m} ⟨o,es,ep,e,d,r⟩=>⟨o,es,ep,base_of e (noA e d),d,r⟩
  have hKb:K.In (sP s₁.heap H):=λb o e=>base_of (KX b o e) (by
   cases q:H b with
   | none=>rfl
   | some u=>
    have e':b=a:=hA b (by rw[q];simp)
    subst e';rw[hK (by rw[q];simp)]at e;cases e)
  have hM:Mod K mg (sP s₁.heap H):=⟨hKb,nsK hns,⟨mb,nsK hb,hbb⟩,let ⟨mc,h1,h2⟩:=hlim;⟨mc,nsK h1,h2⟩⟩
  have e0:Env0 P w K mg (sP s₁.heap H) callerA [] s₁ H:=⟨rfl,hM,λb o e=>DL e,Oq (y6 _ _),trivial,λb hb=>absurd (show b∈([]:List Addr)from hb) (by simp),hok,.of_eq hg⟩
  refine N0 ((F _ hKb (nsK hns)).run callerA [] s₁ H ⟨[.ref a],[]⟩ [.ref a] [.ref a] _ _ hr e0 (hbind s₁ (.ref a)) (.cons rfl .nil) (hsp H hO hS)) λr s' h=> ?_
  cases r with
  | error e=>exact(hCX H e s' h).elim
  | ok fl=>
   cases fl with
   | next=>exact M8 h
   | brk=>exact M8 h
   | cont=>exact M8 h
   | ret u=>
    obtain⟨v,H',os,bare,un,hok',r',q⟩:=h
    have q':v= .bl true:=q;subst q';obtain rfl:u=Mr true:=r';refine⟨rfl,OldK.of_keep λb o e=> ?_,os,bare⟩
    cases q:H b with
    | none=>exact un.keep b o e q (by intro z;exact absurd (show b∈([]:List Addr)from z) (by simp)) (by simp)
    | some u=>
     rcases hO b with z | ⟨ob,xs,z⟩
     ·rw[q]at z;cases z
     ·have z2:=un.frzs b ob _ z
      obtain⟨e1,_⟩:=hok b _ z;obtain⟨e2,_⟩:=hok' b _ z2;rw[e]at e1;cases e1;exact e2
 cases hk:K.lookup a with
 | some o=>
  -- the script is one of the module's own objects
  have e:=KX a o hk;rw[ha]at e;cases e
  refine core (λ_=>none) (λ_=> .inl rfl) (.inr ⟨_,vs.toArray,_,hk,rfl,rfl,rfl,by rw[Ln,lenV];exact hl,by simpa using rv⟩) (λb u z=>by have z':(none:Option HO)=some u:=z;cases z') (λb z=>absurd rfl z) λz=>absurd rfl z
 | none=>
  refine core (λb=>if b=a then some (.frz { cls:=.type "list",data:=.seq vs.toArray } (.lst (ns.map V.int)))else none) (λb=> ?_) (.inl (.inr ⟨{ cls:=.type "list",data:=.seq vs.toArray },if_pos rfl⟩)) (λb u z=> ?_) (λb z=> ?_) λ_=>hk
  ·by_cases hb:b=a
   ·exact .inr ⟨_,_,if_pos hb⟩
   ·exact .inl (if_neg hb)
  ·by_cases hb:b=a
   ·have z':=(if_pos hb).symm.trans z
    cases z';subst hb;exact⟨ha,by rw[Lh];exact hl,vs,_,rv,ha⟩
   ·have z':=(if_neg hb).symm.trans z
    cases z'
  ·by_cases hb:b=a
   ·exact hb
   ·exact absurd (if_neg hb) z
abbrev CX0:Cy:=λ_ _ _ _ _ _=>False
abbrev E0:XK:=λ_ _ _=>False
theorem xt {X:Cx}:wU CX0 X E0:=λ_ _ _ _ _ _ _ h=>h.elim
structure Fun (K:K7)(x qual:Str)(st:Stmt)(f:Addr)(fd:Mp):Prop where
 ex:∃(oc:La) (od:Option Addr) (kV doc pm:La) (an:Option Addr) (cdv ct:La) (osl:Array (Option La)),
  fd=Oj x qual (fD st) (bM st) (aj st) .none kV doc pm an cdv ct/\K.lookup f=some ⟨oc,od,.func fd,osl⟩/\Qx K cdv qual=true
 kp:Nb K (.ref f)=true
section
variable {P:LI}{w:Mj}{K:K7}{mg:Str->Option La}{base:Heap}
theorem Fun.ok {x qual:Str}{st:Stmt}{f:Addr}{fd:Mp}{N ps:List Str}{k:Nat}{sp:Sp}(F:Fun K x qual st f fd)(S:az N ps (aj st))(len:∀vs H Q E,sp vs H Q E->vs.length=ps.length)
  (hbody:∀(cdv:La) (A:LZ) (outer:List Env) (s:Ld) (H:Hp) (vs:List V) (Q:VK) (E:XK),Room k (A.deeper (envOfC qual (aj st) s.heap.objs.size f cdv))->sp vs H Q E →
   ∃t,PSs (gb CX0 P w K mg base N qual (aj st) f cdv A outer s H E).nox (bM st) t/\t { nx:=λ_ H'=>Q .non H',rt:=Q } (start N vs) H):o9 P w K mg base CX0 (k+1) f fd ps sp:=by
 obtain⟨oc,od,kV,doc,pm,an,cdv,ct,osl,rfl,lk,hcd⟩:=F.ex;refine JM lk hcd S len λA outer s H vs Q E hr hsp=> ?_
 obtain⟨t,h,q⟩:=hbody cdv A outer s H vs Q E hr hsp;exact⟨t,h.nox,q⟩
theorem Fun.binds {x qual:Str}{st:Stmt}{f:Addr}{fd:Mp}{ps:List Str}(F:Fun K x qual st f fd)
  (h:∀(kV doc pm:La) (an:Option Addr) (cdv ct:La) (us:List La),us.length=ps.length->RZ (Oj x qual (fD st) (bM st) (aj st) .none kV doc pm an cdv ct) ⟨us,[]⟩=pure (ps.zip us)):Binds K fd ps []:=by
 obtain⟨oc,od,kV,doc,pm,an,cdv,ct,osl,rfl,lk,hcd⟩:=F.ex;exact .all (h kV doc pm an cdv ct)
theorem Bk {x qual:Str}{st:Stmt}{f:Addr}{oc:La}{od an:Option Addr}{osl:Array (Option La)}{kV doc pm cdv ct:La}(l:K.lookup f=some ⟨oc,od,.func (Oj x qual (fD st) (bM st) (aj st) .none kV doc pm an cdv ct),osl⟩)
  (c:Qx K cdv qual=true) (k:Nb K (.ref f)=true):Fun K x qual st f (Oj x qual (fD st) (bM st) (aj st) .none kV doc pm an cdv ct):=⟨⟨oc,od,kV,doc,pm,an,cdv,ct,osl,rfl,l,c⟩,k⟩
end
theorem iteF {A B:Prop}(h:B):if false=true then A else B:=by
 rw[if_neg LK];exact h
theorem iteT {A B:Prop}(h:A):if true=true then A else B:=by
 rw[if_pos rfl];exact h
def Same (H H':Hp):Prop:=∀b o,H b=some o->H' b=some o
theorem Same.refl (H:Hp):Same H H:=λ_ _ h=>h
theorem Same.trans {H H1 H2:Hp}(a:Same H H1)(b:Same H1 H2):Same H H2:=λc o h=>b c o (a c o h)
theorem j9 {env:Env}:∀(names:List (Str×NN)) (acc:List (Str×Addr)),
  (∀x,(x,L1)∈names->∃c,env.cells.lookup x=some c) →
  (∀x c,acc.lookup x=some c->env.cells.lookup x=some c) →
  ∃cl,(forIn (m:=Sem) names acc (λx cs=>(if (x.2 == L1)=true then do let a <-cellOf env x.1;pure (NG ((x.1,a)::cs))else pure (NG cs))))=pure cl ∧
   (∀x c,cl.lookup x=some c->env.cells.lookup x=some c) ∧
   (∀x,(x,L1)∈names->∃c,cl.lookup x=some c)/\(∀x c,acc.lookup x=some c->∃c',cl.lookup x=some c')
 | [],acc,_,h=>⟨acc,rfl,h,λx hx=>by simp at hx,λx c e=>⟨c,e⟩⟩
 | (n,k)::r,acc,hf,h=>by
  by_cases hk:k=L1
  ·subst hk
   obtain⟨c,hc⟩:=hf n (by simp)
   have h':∀x c',((n,c)::acc).lookup x=some c'->env.cells.lookup x=some c':=λx c' e=>by
    rw[L8]at e
    cases q:x == n with
    | true=>
     rw[q]at e
     have e2:c=c':=LX e
     have e3:x=n:=by simpa using q
     rw[<-e2,e3];exact hc
    | false=>rw[q]at e;exact h x c' e
   obtain⟨cl,e1,e2,e3,e4⟩:=j9 r ((n,c)::acc) (λx hx=>hf x (K9 _ hx)) h'
   refine⟨cl,?_,e2,λx hx=> ?_,λx c' e=> ?_⟩
   ·rw[Sa]
    simp only[beq_self_eq_true,if_true,cellOf,hc,pure_bind];exact e1
   ·rcases Lj.mp hx with z | z
    ·have z1:x=n:=by injection z
     subst z1;exact e4 x c (by simp[L8])
    ·exact e3 x z
   ·cases q:x == n with
    | true=>exact e4 x c (by simp[L8,q])
    | false=>exact e4 x c' (by simp[L8,q,e])
  ·have hb:(k == L1)=false:=by simpa using hk
   obtain⟨cl,e1,e2,e3,e4⟩:=j9 r acc (λx hx=>hf x (K9 _ hx)) h
   refine⟨cl,?_,e2,λx hx=> ?_,e4⟩
   ·rw[Sa]
    simp only[hb,Bool.false_eq_true,if_false,pure_bind];exact e1
   ·rcases Lj.mp hx with z | z
    ·have z1:L1=k:=by injection z
     exact absurd z1.symm hk
    ·exact e3 x z
theorem wI {env:Env}{scope:Ov}(hf:∀x,(x,L1)∈scope.names->∃c,env.cells.lookup x=some c) :
  ∃cl,closureFor scope env=pure cl/\(∀x c,cl.lookup x=some c->env.cells.lookup x=some c)/\(∀x,(x,L1)∈scope.names->∃c,cl.lookup x=some c):=by
 obtain⟨cl,e1,e2,e3,_⟩:=j9 scope.names [] hf (λx c e=>by simp at e)
 refine⟨cl,?_,e2,e3⟩
 unfold closureFor;refine Eq.trans ?_ (congrArg (λz=>z >>= pure) e1|>.trans (by simp))
 rfl
theorem tq {pr:LI}{wd:Mj}{Ar:LZ}{Rz:Si->Ld->Prop}{s0:Ld}{el tg it0:Expr}{cs:List Expr}{sc:Ov}{ps:Pos}{itv av:La}{ev:Env}(W:Nat->Ld->Prop)
  (go:∀k st,W k st->wpAny (model pr wd) Ar (pyNext itv) (λr s1=>match r with
   | none=>Rz (.ok .next) s1
   | some v=>wpAny (model pr wd) Ar (Oa tg itv v) (λ_ s2=>wpAny (model pr wd) Ar (assign tg ev v) (λ_ s3=>
     wpAny (model pr wd) Ar (forIn cs true λc b=>if b=true then do let z <-isTrue c ev (eval c ev);pure (NG z)else pure (NG b)) (λz s4=>
      if z=true then wpAny (model pr wd) Ar (eval el ev) (λy s5=>
       wpAny (model pr wd) Ar (call (.builtin "list.append") [av,y]) (λ_ s6=> ∃m,m<k/\W m s6) (λ_ _=>False) s5) (λ_ _=>False) s4
      else ∃m,m<k/\W m s4) (λ_ _=>False) s3) (λ_ _=>False) s2) (λ_ _=>False) s1) (λ_ _=>False) st)
  (k:Nat) (hk:W k s0):codeAny (model pr wd) Ar (.compLoop (.ListComp el [⟨tg,it0,cs,0⟩] sc ps) 0 itv av ev) Rz s0:=by
 refine codeAny_loop rfl W (λk st hw=> ?_) k hk
 show wpAny (model pr wd) Ar ((compTurn (.ListComp el [⟨tg,it0,cs,0⟩] sc ps) 0 itv av ev).onRaise (λz=>do Sm z ev;theTreesLotGoes z)) _ _ st
 refine wpAny_noted ?_
 rw[compTurn_list]
 have no:∀{α:Type} {t:Sem α} {Q Q':α->Ld->Prop} {E':La->Ld->Prop} {x:Ld},wpAny (model pr wd) Ar t Q (λ_ _=>False) x->(∀y z,Q y z->Q' y z)->wpAny (model pr wd) Ar t Q' E' x:=λh f=>M9 h f λ_ _ z=>z.elim
 refine Lc (wpAny_standAt (Lc (no (go k st hw) λr s1 g1=> ?_)))
 cases r with
 | none=>exact Lm g1
 | some v=>
  refine Lc (no g1 λ_ s2 g2=>Lc (no g2 λ_ s3 g3=>Lc (no g3 λz s4 g4=> ?_)))
  cases z with
  | false=>exact Lm (And.intro rfl g4)
  | true=>exact Lc (Lc (no g4 λy s5 g5=>Lc (no g5 λ_ s6 g6=>Lm (Lm (And.intro rfl g6)))))
def cJ (X:Cx)(scope:Ov)(cl:List (Str×Addr))(N':List Str)(C:Addr)(s₀:Ld)(H₀:Hp)(fp:List Addr):Cx:=
 { X with N:=N',s₀:=s₀,H₀:=H₀,env:=compEnvC scope cl C X.env,outer:=X.stack,stack:=X.stack,ex:=fp,fn:=λx=>scope.names.lookup x == some .cell,xe:=λ_ _=>False }
def fB (src:List (Option Nat))(σ:St):St:=src.map λo=>match o with
 | some i=>(σ[i]?).join
 | none=>none
theorem iW {env:Env}:∀{names:List (Str×NN)} {x:Str} {k:NN},
  (names.map λ(n,k)=>if (k == L1&&env.scope.kind == .function&&env.kindOf n == some .cell)then(n,MG)else(n,k)).lookup x=some k →
  ∃k',names.lookup x=some k'/\(k=k'\/k'= .free)
 | [],_,_,h=>by simp at h
 | (n,k0)::r,x,k,h=>by
  have ih:=@iW env r x k
  have h':MQ x ((if (k0 == L1&&env.scope.kind == .function&&env.kindOf n == some .cell)=true then(n,MG)else(n,k0))::(r.map λ(n,k)=>if (k == L1&&env.scope.kind == .function&&env.kindOf n == some .cell)then(n,MG)else(n,k)))=some k:=h
  by_cases hc:(k0 == L1&&env.scope.kind == .function&&env.kindOf n == some .cell)=true
  ·rw[if_pos hc]at h'
   rw[L8]at h' ⊢
   cases hx:x == n with
   | true=>
    refine⟨k0,rfl,.inr ?_⟩
    have:=Mv.mp hc|>.1
    have:=Mv.mp this|>.1
    simpa using this
   | false=>rw[hx]at h';exact ih h'
  ·rw[if_neg hc]at h'
   rw[L8]at h' ⊢
   cases hx:x == n with
   | true=>rw[hx]at h';exact⟨k0,rfl,.inl (LX h').symm⟩
   | false=>rw[hx]at h';exact ih h'
theorem jn {names:List (Str×NN)}{x:Str}{k:NN}(h:names.lookup x=some k):(x,k)∈names:=M5 h
theorem iy {env:Env}:∀{names:List (Str×NN)} {x:Str},names.lookup x=some .free →
  (names.map λ(n,k)=>if (k == L1&&env.scope.kind == .function&&env.kindOf n == some .cell)then(n,MG)else(n,k)).lookup x=some .cell ∨
  (names.map λ(n,k)=>if (k == L1&&env.scope.kind == .function&&env.kindOf n == some .cell)then(n,MG)else(n,k)).lookup x=some .free
 | [],_,h=>by simp at h
 | (n,k0)::r,x,h=>by
  have ih:=@iy env r x
  show MQ x ((if (k0 == L1&&env.scope.kind == .function&&env.kindOf n == some .cell)=true then(n,MG)else(n,k0))::_)=_\/MQ x ((if (k0 == L1&&env.scope.kind == .function&&env.kindOf n == some .cell)=true then(n,MG)else(n,k0))::_)=_
  rw[L8]at h
  by_cases hc:(k0 == L1&&env.scope.kind == .function&&env.kindOf n == some .cell)=true
  ·rw[if_pos hc]
   rw[L8]
   cases hx:x == n with
   | true=>exact .inl rfl
   | false=>rw[hx]at h;exact ih h
  ·rw[if_neg hc]
   rw[L8]
   cases hx:x == n with
   | true=>rw[hx]at h;exact .inr h
   | false=>rw[hx]at h;exact ih h
section
variable {X:Cx}
structure LcScope (X:Cx)(scope:Ov)(N':List Str)(src:List (Option Nat)):Prop where
 kind:scope.kind= .function
 cel:∀y∈scope.names,y.2= .cell->scope.names.lookup y.1=some .cell
 loc:∀y∈scope.names,y.2= .local->scope.names.lookup y.1=some .local
 len:src.length=N'.length
 from_:∀(j i:Nat) (x:Str),src[j]? =some (some i)->N'[j]? =some x->X.N[i]? =some x/\scope.names.lookup x=some .free
 free:∀x,(x,L1)∈scope.names->X.env.kindOf x=some .cell\/X.env.kindOf x=some .free
def Ih (K:K7)(wi:TI)(src:List (Option Nat))(g:TG)(tc:TT)(te:TE):TE:=λσ H Q=>wi σ H λJ H1=> ∀D,H1 D=none->K.lookup D=none →
 ∃W:Nat->Nat->St->List V->Hp->Prop,(∃m,W 0 m (fB src σ) [] (upd H1 D (.lst [])))/\∀i m σ ys H,W i m σ ys H->H D=some (.lst ys) ∧
  ((J.stop i H/\Q (.ref D) H)\/(J.go i H/\ys.length<sizeLine/\∀x H',J.yld i H x H'->g x σ H' λσ2 H2=>tc σ2 H2 λb H3=>
   if b=true then te σ2 H3 λv H4=>H4 D=some (.lst ys)/\∃m',m'<m/\W (i+1) m' σ2 (ys++ [v]) (upd H4 D (.lst (ys++ [v])))else ∃m',m'<m/\W (i+1) m' σ2 ys H3))
def Cv (X:Cx)(ifs:List Expr)(t:TT):Prop:=
 ∀(pins:List (Addr×Obj)) (s:Ld) (σ:St) (H:Hp) (Q:Bool->Hp->Prop),Inv X pins σ H s->t σ H Q →
  wpAny (model X.prog X.w) X.A (forIn ifs true λc r=>if r=true then do let ok <-isTrue c X.env (eval c X.env);pure (NG ok)else pure (NG r)) (TP X pins σ Q) X.xe s
def HZ:TT:=λ_ H Q=>Q true H
theorem Dx:Cv X [] HZ:=λ_ _ _ H _ I h=>wpAny_tests_nil ⟨H,I,h⟩
theorem lW:∀(names:List (Str×NN)) (h:Heap) (acc:List (Str×Addr)),(∀x y c,acc.lookup x=some c->acc.lookup y=some c->x=y)->(∀x c,acc.lookup x=some c->c<h.objs.size) →
  (∀x c,(Nm h.objs.size names acc).lookup x=some c->acc.lookup x=some c\/(h.objs.size<=c/\(Ql h names).IsCell c none)) ∧
  (∀x y c,(Nm h.objs.size names acc).lookup x=some c->(Nm h.objs.size names acc).lookup y=some c->x=y) ∧
  (∀x,(x,MG)∉names->(Nm h.objs.size names acc).lookup x=acc.lookup x) ∧
  (∀x,((x,MG)∈names\/∃c,acc.lookup x=some c)->∃c,(Nm h.objs.size names acc).lookup x=some c) ∧
  (∀x c,(x,MG)∈names->(Nm h.objs.size names acc).lookup x=some c->h.objs.size<=c)
 | [],h,acc,hi,_=>⟨λ_ _ e=> .inl e,hi,λ_ _=>rfl,λx e=>e.elim (λz=>absurd z Mo) id,λ_ _ z=>absurd z Mo⟩
 | (n,k)::r,h,acc,hi,hl=>by
  unfold Nm Ql
  by_cases hk:k= .cell
  ·subst hk
   rw[if_pos (by rfl),if_pos (by rfl)]
   have hz:(h.push { cls:=.type "cell",data:=.cell none }).objs.size=h.objs.size+1:=Nd ..
   have lk:∀x,((n,h.objs.size)::acc).lookup x=if x=n then some h.objs.size else acc.lookup x:=λx=>by
    rw[L8]
    by_cases e:x=n
    ·rw[if_pos e,beq_iff_eq.mpr e]
    ·rw[if_neg e,beq_eq_false_iff_ne.mpr e]
   obtain⟨c1,c2,c3,c4,c5⟩:=lW r (h.push { cls:=.type "cell",data:=.cell none }) ((n,h.objs.size)::acc) (λx y c e1 e2=>by
     rw[lk]at e1 e2
     by_cases q1:x=n
     ·by_cases q2:y=n
      ·rw[q1,q2]
      ·rw[if_pos q1]at e1;rw[if_neg q2]at e2
       cases e1;exact absurd (hl _ _ e2) (LQ _)
     ·rw[if_neg q1]at e1
      by_cases q2:y=n
      ·rw[if_pos q2]at e2
       cases e2;exact absurd (hl _ _ e1) (LQ _)
      ·rw[if_neg q2]at e2;exact hi x y c e1 e2) (λx c e=>by
     rw[lk]at e;rw[hz]
     by_cases q:x=n
     ·rw[if_pos q]at e;cases e;exact PH _
     ·rw[if_neg q]at e;exact Rm (hl x c e))
   rw[hz]at c1 c2 c3 c4 c5;refine⟨λx c e=> ?_,c2,λx hx=> ?_,λx hx=> ?_,λx c hx e=> ?_⟩
   ·rcases c1 x c e with z | z
    ·rw[lk]at z
     by_cases q:x=n
     ·rw[if_pos q]at z;cases z
      exact .inr ⟨Lo _,_,Qm r _ _ _ (Lz _ rfl),rfl⟩
     ·rw[if_neg q]at z;exact .inl z
    ·exact .inr ⟨Po z.1,z.2⟩
   ·rw[c3 x λz=>hx (K9 _ z),lk,if_neg λz=>hx (by rw[z];exact Lg)]
   ·refine c4 x ?_
    rcases hx with hx | hx
    ·rcases Lj.mp hx with z | z
     ·cases z
      exact .inr ⟨_,by rw[lk,if_pos rfl]⟩
     ·exact .inl z
    ·by_cases q:x=n
     ·exact .inr ⟨_,by rw[lk,if_pos q]⟩
     ·exact .inr (by rw[lk,if_neg q];exact hx)
   ·rcases Lj.mp hx with z | z
    ·have q:x=n:=(R6 z).1
     rcases c1 x c e with y | y
     ·rw[lk,if_pos q]at y;cases y;exact Lo _
     ·exact Po y.1
    ·exact Po (c5 x c z e)
  ·have hb:¬ (k == MG)=true:=λz=>hk (by simpa using z)
   rw[if_neg hb,if_neg hb];obtain⟨c1,c2,c3,c4,c5⟩:=lW r h acc hi hl;exact⟨c1,c2,λx hx=>c3 x λz=>hx (K9 _ z),λx hx=>c4 x (hx.imp (λz=>(Lj.mp z).resolve_left λz=>hk (R6 z).2.symm) id),λx c hx=>c5 x c ((Lj.mp hx).resolve_left λz=>hk (R6 z).2.symm)⟩
theorem yL {M:Model}{A:LZ}{E:La->Ld->Prop}{s:Ld}{scope:Ov}{globals:Addr}{cl:List (Str×Addr)}{qual:Str}{env:Env}{Q:Env->Ld->Prop}
  (q:Q (newEnv scope s.heap.objs.size globals (Nm (s.heap.objs.size+1) scope.names cl) qual none .none (some env) Pq) { s with heap:=Ql (s.heap.push { cls:=.type "dict",data:=.dict #[] }) scope.names }) :
  wpAny M A (newFunctionEnv scope globals cl [] qual none .none (some env)) Q E s:=by
 simp only[newFunctionEnv,Q0,if_true];refine Lc (wpAny_alloc (Lc (wpAny_layCells _ (λname kind cells=>by cases hkc:kind == MG <;> simp[hkc]) _ _ _ _ ?_)))
 rw[show({ s with heap:=s.heap.push { cls:=.type "dict",data:=.dict #[] } }:Ld).heap.objs.size=s.heap.objs.size+1 from Nd ..]
 rw[List.forIn_nil];exact Lc (Lm (Lm q))
theorem xJ {elt tg iter:Expr}{ifs:List Expr}{scope:Ov}{pos fpos:Pos}{N':List Str}{src:List (Option Nat)}{wi:TI}{g:TG}{tc:TT}{te:TE}{use:Option (La->Sem Unit)}{Qf:La->Ld->Prop}
  {pins:List (Addr×Obj)} {s:Ld} {σ:St} {H:Hp} {Q:VK}
  (hc:X.calm=true) (S:LcScope X scope N' src) (hi:PI X tg iter wi)
  (block:∀cl C s₀ H₀ fp,PG (cJ X scope cl N' C s₀ H₀ fp) tg g/\Cv (cJ X scope cl N' C s₀ H₀ fp) ifs tc/\PE (cJ X scope cl N' C s₀ H₀ fp) elt te)
  (hs:∀x,Mt iter X.env x=pure x) (I:Inv X pins σ H s) (h:Ih X.K wi src g tc te σ H Q)
  (hend:∀(D C:Addr) (H':Hp) (s':Ld),(∃m,s'.heap.Ns C m)->(∀h',Oo C s'.heap h'->Inv X pins σ H' { s' with heap:=h' })->(H' C=none/\C≠X.env.locals/\X.s₀.heap.objs.size<=C/\(∀x c,X.env.cells.lookup x=some c->c≠C)/\∀p∈X.pn++pins,p.1≠C)->Q (.ref D) H' →
   compPost (model X.prog X.w) X.A X.xe use Qf (.ref D) C (.ok .next) s') :
  wpAny (model X.prog X.w) X.A (comprehension (.ListComp elt [⟨tg,iter,ifs,0⟩] scope pos) scope X.env fpos (newList []) false (eval iter X.env) use) Qf X.xe s:=by
 have hcell:∀x,(x,L1)∈scope.names->∃c,X.env.cells.lookup x=some c:=λx hx=>I.ok.has x (S.free x hx)
 obtain⟨cl0,hcl,cl01,cl02⟩:=wI (env:=X.env) (scope:=scope) hcell;refine wpAny_comprehension_free (use:=use) rfl hs hcl S.kind S.loc (bV (hi pins s σ H _ I h) λv s1 h1=>bV h1 λitv s2 h2=> ?_)
 obtain⟨it,fp,tn,J,H2,e,I2,T,st2,f2,hq⟩:=h2;subst e
 -- the new list
 refine Mh ?_
 have hD:H2 s2.heap.objs.size=none:=I2.hok.fresh (Lo _)
 have hDK:X.K.lookup s2.heap.objs.size=none:=by
  cases q:X.K.lookup s2.heap.objs.size with
  | none=>rfl
  | some o=>exact absurd (Lq (I2.kIn _ o q)) (LQ _)
 obtain⟨W,⟨m0,w0⟩,turn⟩:=hq s2.heap.objs.size hD hDK
 have I3:=I2.KD (its:=[]) (ys:=[]) (t':=s2.toks) .nil (Nq _)
 generalize hs3:({ s2 with heap:=s2.heap.push { cls:=.type "list",data:=.seq ([]:List La).toArray },toks:=s2.toks }:Ld)=s3 at I3
 generalize hH3:upd H2 s2.heap.objs.size (.lst [])=H3 at I3 w0
 have hDsz:s2.heap.objs.size<s3.heap.objs.size:=by rw[<-hs3];simp[Nd]
 have fr3:∀b∈fp,H3 b=none:=λb hb=>by
  obtain⟨o,eo,_⟩:=T.obj _ _ st2 b hb;rw[<-hH3,aH (MD (Lq eo))];exact(f2 b hb).1
 have st3:tn 0 s3.heap:=T.keep _ _ _ st2 λb hb o e=>by rw[<-hs3];exact Lk _ e
 have f3:∀b∈fp,o8 X pins H3 b:=λb hb=>⟨fr3 b hb,(f2 b hb).2⟩
 have D3:H3 s2.heap.objs.size=some (.lst []):=by rw[<-hH3];exact aT
 generalize s2.heap.objs.size=D at*
 clear hs3 hH3 hD hDK
 -- the block's frame
 refine yL ?_
 have old:∀b o,s3.heap.get? b=some o->(Ql (s3.heap.push { cls:=.type "dict",data:=.dict #[] }) scope.names).get? b=some o:=λb o e=>Qm _ _ b o (Lk _ e)
 have hns₁:(Ql (s3.heap.push { cls:=.type "dict",data:=.dict #[] }) scope.names).Ns s3.heap.objs.size (λ_=>none):=(Heap.Ns.new s3.heap (.type "dict")).keeps (Qm _ _)
 have hz3:(s3.heap.push { cls:=.type "dict",data:=.dict #[] }).objs.size=s3.heap.objs.size+1:=Nd ..
 have lt0:∀x c,cl0.lookup x=some c->c<s3.heap.objs.size:=λx c e=>let ⟨_,ic⟩:=I3.cell x c (cl01 x c e);ic.lt
 obtain⟨c1,c2,c3,c4,c5⟩:=lW scope.names (s3.heap.push { cls:=.type "dict",data:=.dict #[] }) cl0 (λx y c e1 e2=>I3.ok.inj x y c (cl01 x c e1) (cl01 y c e2)) λx c e=>by rw[hz3];exact Rm (lt0 x c e)
 rw[hz3]at c1 c2 c3 c4 c5
 generalize hcl':Nm (s3.heap.objs.size+1) scope.names cl0=cl at*
 generalize hh₁:Ql (s3.heap.push { cls:=.type "dict",data:=.dict #[] }) scope.names=h₁ at*
 have below:∀b o,s3.heap.get? b=some o->b≠s3.heap.objs.size:=λb o e=>MD (Lq e)
 -- a cell of the block's: one from around,or a new one
 have cl1:∀x c,cl.lookup x=some c->X.env.cells.lookup x=some c\/(s3.heap.objs.size<c/\h₁.IsCell c none):=λx c e=>(c1 x c e).imp (cl01 x c) id
 generalize hC:s3.heap.objs.size=C at*
 have stk:∀b,b≠X.env.locals->b∉X.fs->b∉oK X.stack:=λb h1 h2 z=>(Lj.mp (I3.Kv b z)).elim h1 h2
 have apart:∀b∈fp,∀x c,cl.lookup x=some c->c≠b:=λb hb x c e=>by
  rcases cl1 x c e with z | z
  ·exact(f3 b hb).2.2.2.2.1 x c z
  ·obtain⟨o,eo,_⟩:=T.obj _ _ st3 b hb
   have h1:=Lq eo;rw[hC]at h1;exact O5 (Nat.lt_trans h1 z.1)
 have I4:Inv (cJ X scope cl N' C s3 H3 fp) pins (fB src σ) H3 { s3 with heap:=h₁ }:=by
  refine⟨⟨I3.ok.mod,S.kind,I3.ok.glob,I3.ok.blt,Oq hC,c2,λx hx=> ?_,λx c hx e=>NZ (hC▸c5 x c (jn (beq_iff_eq.mp hx)) e),I3.ok.hd,I3.ok.frames,.inl rfl,
    λb hb=>⟨?_,λx c e=>apart b hb x c e⟩,I3.bs,Me I3.ok.bsz I3.sz,λb o e z=> ?_,λb hb=>stk b (f3 b hb).2.1 (f3 b hb).2.2.1,I3.stack,I3.Kh⟩,
   rfl,I3.bare,Un.kept old,⟨_,hns₁,λj x v e1 e2 e3=> ?_⟩,λx c e=> ?_,I3.hok.fresh (Oq hC),λx c e=>(cl1 x c e).elim (I3.freeC x c) λz=>I3.hok.fresh (by rw[hC];exact NZ z.1),λp hp=> ?_,I3.hok.kept old,?_⟩
  ·have key:∀k,(relabel scope X.env).names.lookup x=some k->(k= .cell\/k= .free)->∃c,cl.lookup x=some c:=λk e hk=>by
    obtain⟨k',e',z⟩:=iW e
    have hk':k'= .cell\/k'= .free:=z.elim (λz=>z▸hk) .inr
    rcases hk' with q | q
    ·exact c4 x (.inl (q▸jn e'))
    ·exact c4 x (.inr (cl02 x (q▸jn e')))
   rcases hx with hx | hx
   ·exact key _ hx (.inl rfl)
   ·exact key _ hx (.inr rfl)
  ·obtain⟨o,eo,_⟩:=T.obj _ _ st3 b hb
   show b≠C
   exact below b o eo
  ·have z':b∈fp:=z
   obtain⟨_,_,_,z1,_⟩:=f3 b z';rcases z1 with z1 | z1
   ·exact I3.ok.noex b o e z1
   ·exact absurd (Ly (Lq (I3.ok.bs b o e).1) z1) (LQ _)
  ·unfold fB at e2
   rw[LD]at e2
   cases q:src[j]? with
   | none=>rw[q]at e2;simp at e2
   | some o=>
    rw[q]at e2
    cases o with
    | none=>simp at e2
    | some i=>
     have e2':(σ[i]?).join=some v:=by simpa using e2
     have e2'':σ[i]? =some (some v):=by
      cases q2:σ[i]? with
      | none=>rw[q2]at e2';simp at e2'
      | some z=>rw[q2]at e2';simp at e2';rw[e2']
     obtain⟨hN,hfree⟩:=S.from_ j i x q e1
     have hm:=jn hfree
     have hk:=S.free x hm;obtain⟨m,hn,hl⟩:=I3.loc
     have hv:mK X.env.scope x:=by
      rcases hk with z | z
      ·exact .inr (.inl z)
      ·exact .inr (.inr z)
     obtain⟨u,r,l⟩:=hl i x v hN e2'' hv;refine⟨u,r,.inr ⟨?_,?_⟩⟩
     ·exact iy hfree
     ·rcases l with⟨z,_⟩ | ⟨_,c,ec,ic⟩
      ·rcases hk with z' | z' <;> rw[z']at z <;> cases z
      ·obtain⟨c',ec0⟩:=cl02 x hm
       have ec':cl.lookup x=some c':=(c3 x λz=>by have:=S.cel _ z rfl;rw[hfree]at this;cases this).trans ec0
       have:=cl01 x c' ec0;rw[ec]at this;cases this;obtain⟨o,ho,hd⟩:=ic;exact⟨c,ec',o,old _ _ ho,hd⟩
  ·rcases cl1 x c e with z | z
   ·obtain⟨v,o,ho,hd⟩:=I3.cell x c z
    exact⟨v,o,old _ _ ho,hd⟩
   ·exact⟨none,z.2⟩
  ·obtain⟨e,n,ne,nf,d⟩:=I3.pin p hp
   exact⟨old _ _ e,n,below _ _ e,stk _ ne nf,d⟩
  ·show(fB src σ).length=N'.length
   unfold fB;rw[Lh];exact S.len
 obtain⟨bG,bI,bE⟩:=block cl C s3 H3 fp
 have stat:∀{H':Hp},(∀b∈fp,H' b=none)->∀b∈fp,o8 (cJ X scope cl N' C s3 H3 fp) pins H' b:=λhn b hb=>by
  obtain⟨o,eo,_⟩:=T.obj _ _ st3 b hb;exact⟨hn b hb,below b o eo,stk b (f3 b hb).2.1 (f3 b hb).2.2.1,.inl hb,apart b hb,(f3 b hb).2.2.2.2.2⟩
 have st4:tn 0 h₁:=T.keep _ _ _ st3 λb hb o e=>old b o e
 -- behind the block
 have after:∀(H':Hp) (s':Ld) (σ':St),Inv (cJ X scope cl N' C s3 H3 fp) pins σ' H' s'->Q (.ref D) H' →
   compPost (model X.prog X.w) X.A X.xe use Qf (.ref D) C (.ok .next) s':=λH' s' σ' I' q=>by
  obtain⟨m,hn,_⟩:=id I'.loc
  have fC:X.s₀.heap.objs.size<=C:=by rw[<-hC];exact I3.sz
  have ltC:∀b o,s3.heap.get? b=some o->b<C:=λb o e=>by rw[<-hC];exact Lq e
  refine hend D C H' s' ⟨m,hn⟩ (λh' hsb=> ?_) ⟨I'.free,?_,fC,λx c e z=> ?_,λp hp z=> ?_⟩ q
  rotate_left
  ·have:=I3.lt;rw[hC]at this;exact O5 this
  ·obtain⟨v,ic⟩:=I3.cell x c e
   have:=ic.lt;rw[hC,z]at this;exact LQ _ this
  ·have:=ltC _ _ (I3.pin p hp).1;rw[z]at this;exact LQ _ this
  have u:Un (oK X.stack) fp H3 H' s3.heap s'.heap:=I'.base
  have lift:∀b o,s3.heap.get? b=some o->∀o',s'.heap.get? b=some o'->h'.get? b=some o':=λb o e o' e'=>hsb.extBut b o' (below b o e) e'
  have u':Un (oK X.stack) fp H3 H' s3.heap h':=
   ⟨λb o e n hb hx=>lift b o e o (u.keep b o e n hb hx),λb o e n hb hx=>by
     obtain⟨sl,z⟩:=u.slot b o e n hb hx;exact⟨sl,lift b o e _ z⟩,u.free,λb o e hx=>by
     obtain⟨o',z⟩:=u.there b o e hx;exact⟨o',lift b o e _ z⟩,u.tups,u.frzs,u.tbls⟩
  have hCn:H' C=none:=I'.free
  have hok':HOk X.prog X.w H' h':=λb ob e=>by
   refine(I'.hok b ob e).stay (λc w' hc' q'=>(hsb.2 c ?_).trans q') (λ_ q=>q) λ_ _ q=>q
   rintro rfl
   rcases hc' with rfl | hc'
   ·rw[hCn]at e;cases e
   ·rw[hCn]at hc';cases hc'
  have I5:Inv X pins σ H' { s' with heap:=h' }:=I3.Kx (s':={ s' with heap:=h' }) (ch:=fp) I'.os u' hok' I'.bare λb hb=>⟨(f3 b hb).2.2.2.1,(f3 b hb).2.1,(f3 b hb).2.2.2.2.1,(f3 b hb).2.2.2.2.2⟩
  exact I5
 have loop:codeAny (model X.prog X.w) X.A (.compLoop (.ListComp elt [⟨tg,iter,ifs,0⟩] scope pos) 0 (.ref it) (.ref D) (compEnvC scope cl C X.env))
   (compPost (model X.prog X.w) X.A X.xe use Qf (.ref D) C) { s3 with heap:=h₁ }:=by
  refine tq (λn s'=> ∃i σ' ys H',Inv (cJ X scope cl N' C s3 H3 fp) pins σ' H' s'/\tn i s'.heap/\(∀b∈fp,H' b=none)/\W i n σ' ys H') ?_ m0 ⟨0,_,[],H3,I4,st4,fr3,w0⟩
  rintro n s5 ⟨i,σ5,ys,H5,I5,st5,fr5,w5⟩
  obtain⟨hDl,alt⟩:=turn i n σ5 ys H5 w5;rcases alt with⟨stop,qn⟩ | ⟨go,hlen,step⟩
  ·refine bV (T.done (cJ X scope cl N' C s3 H3 fp) rfl rfl rfl hc i pins s5 σ5 H5 _ I5 (stat fr5) st5 stop) λr s6 ⟨hr,I6⟩=> ?_
   subst hr;exact after H5 s6 σ5 I6 qn
  ·refine bV (T.item (cJ X scope cl N' C s3 H3 fp) rfl rfl rfl hc i pins s5 σ5 H5 _ I5 (stat fr5) st5 go) λr s6 ⟨u,hr,h6⟩=> ?_
   subst hr;refine bV h6 λ_ s7 hh_=> ?_
   obtain⟨x,H7,I7,r7,y7,st7,fr7⟩:=hh_
   have I7':=I7.pinned (stat fr7) (T.obj _ _ st7);refine bV (bG _ s7 σ5 H7 x u _ I7' r7 (step x H7 y7)) λ_ s8 hh_=> ?_
   obtain⟨σ8,H8,I8,q8⟩:=hh_;refine bV (bI _ s8 σ8 H8 _ I8 q8) λok s9 hh_=> ?_
   obtain⟨H9,I9,q9⟩:=hh_
   have again:∀{σx:St} {Hx:Hp} {sx:Ld} {ys':List V},Inv (cJ X scope cl N' C s3 H3 fp) (pins++nL fp s7.heap) σx Hx sx->(∃m',m'<n/\W (i+1) m' σx ys' Hx) →
     ∃m,m<n/\∃i σ' ys H',Inv (cJ X scope cl N' C s3 H3 fp) pins σ' H' sx/\tn i sx.heap/\(∀b∈fp,H' b=none)/\W i m σ' ys H':=λ{σx Hx sx ys'} Ix nx=>by
    obtain⟨m',hm,wx⟩:=nx;refine⟨m',hm,i+1,σx,ys',Hx,Ix.Ki,T.keep _ _ _ st7 λb hb o e=>(Ix.pin (b,o) (Lu _ (Lu _ (gY hb e)))).1,λb hb=> ?_,wx⟩
    obtain⟨o,e,d⟩:=T.obj _ _ st7 b hb;exact(Ix.pin (b,o) (Lu _ (Lu _ (gY hb e)))).2.1
   cases ok with
   | false=>
    rw[if_neg LK]at q9 ⊢
    exact again I9 q9
   | true=>
    rw[if_pos rfl]at q9 ⊢;refine bV (bE _ s9 σ8 H9 _ I9 q9) λv s10 hh_=> ?_
    obtain⟨y,H10,I10,r10,hD10,q10⟩:=hh_;refine bV (lL _ s10 σ8 H10 (.ref D) [y] (.ref D) [v] (λ_ H'=>H'=upd H10 D (.lst (ys++ [y]))) I10 rfl (.cons r10 .nil) ⟨D,ys,y,rfl,rfl,hD10,hlen,rfl⟩) λ_ s11 hh_=> ?_
    obtain⟨_,H11,I11,_,e11⟩:=hh_;subst e11;exact again I11 q10
 exact codeAny_compStart_list loop (T.self _ 0 _ _ _ st4 loop)
theorem Af {elt tg iter:Expr}{ifs:List Expr}{scope:Ov}{pos:Pos}{N':List Str}{src:List (Option Nat)}{wi:TI}{g:TG}{tc:TT}{te:TE}
  (hc:X.calm=true) (S:LcScope X scope N' src) (hi:PI X tg iter wi)
  (block:∀cl C s₀ H₀ fp,PG (cJ X scope cl N' C s₀ H₀ fp) tg g/\Cv (cJ X scope cl N' C s₀ H₀ fp) ifs tc/\PE (cJ X scope cl N' C s₀ H₀ fp) elt te)
  (hs:autoParam (∀x,Mt iter X.env x=pure x) aqc._auto_1) :
  PE X (.ListComp elt [⟨tg,iter,ifs,0⟩] scope pos) (Ih X.K wi src g tc te):=by
 intro pins s σ H Q I h;rw[eval_ListComp];exact xJ (use:=none) hc S hi block hs I h λD C H' s' ⟨m,hn⟩ inv _ q=>⟨m,hn,λh' hsb=>⟨.ref D,H',inv h' hsb,rfl,q⟩⟩
theorem IW {elt tg iter:Expr}{ifs:List Expr}{scope:Ov}{pos py spos:Pos}{N':List Str}{src:List (Option Nat)}{wi:TI}{g:TG}{tc:TT}{te:TE}{i:Nat}{y:Str}
  (hc:X.calm=true) (S:LcScope X scope N' src) (hi:PI X tg iter wi)
  (block:∀cl C s₀ H₀ fp,PG (cJ X scope cl N' C s₀ H₀ fp) tg g/\Cv (cJ X scope cl N' C s₀ H₀ fp) ifs tc/\PE (cJ X scope cl N' C s₀ H₀ fp) elt te)
  (hN:X.N.Nodup) (hiy:X.N[i]? =some y) (hy:Loc X.env.scope y) (hsw:L5 (.ListComp elt [⟨tg,iter,ifs,0⟩] scope pos) (some (.Name y py)) spos.line X.env=pure true)
  (hf:X.fn y=true\/X.env.scope.names.lookup y=some .local) (hs:autoParam (∀x,Mt iter X.env x=pure x) aqc._auto_1) :
  PS X (.Assign [.Name y py] (.ListComp elt [⟨tg,iter,ifs,0⟩] scope pos) spos) (CS (Ih X.K wi src g tc te) (Bj i)):=by
 intro pins s σ H D I h;rw[exec_Assign_Name_used _ _ _ _ hsw];refine Lc (wpAny_standAt (Lc ?_))
 show wpAny (model X.prog X.w) X.A (do let _ <-comprehension (.ListComp elt [⟨tg,iter,ifs,0⟩] scope pos) scope X.env _ (newList []) false (eval iter X.env) (some (assign (.Name y py) X.env))) _ _ s
 refine Lc (bV (xJ (use:=some (assign (.Name y py) X.env)) (Qf:=λ_ s'=>SP X pins D .next s') (Q:=λv H'=>D.nx (σ.set i (some v)) H') hc S hi block hs I h λL C H' s' ⟨m,hn⟩ inv ⟨c0,c1,c2,c3,c4⟩ q=> ?_) λ_ s' hq=>Lm (Lm hq))
 have I0:Inv X pins σ H' s':=inv s'.heap (Heap.SameBut.refl ..)
 show wpAny (model X.prog X.w) X.A (assign (.Name y py) X.env (.ref L)) _ _ s'
 refine Rt (qc I0 hN hiy hy (v:=.ref L) rfl (λs2 I2 ⟨b,sb,hb⟩=> ?_) hf)
 have hbC:C≠b:=by
  rcases hb with z | z
  ·rw[z];exact c1
  ·exact λw=>c3 y b z w.symm
 refine⟨m,hn.sameBut sb hbC,λh' hsb=> ?_⟩
 exact⟨_,H',I2.turned (t':=s2.toks) (λb' o hb' e=>(hsb.2 b' hb').trans e) c0 c1 (.inr c2) c3 c4,q⟩
end
end L2
namespace Tr
open PySem PySem.Spec PyProof.Rows L2
def bU (K:K7)(c:Str):Addr:=match NY K LV c with
 | some (some (.ref C))=>C
 | _=>0
def E6:T->Option Key
 | .int i=>some (.inl i)
 | .str x=>some (.inr x)
 | _=>none
def oy:List T->Option (List Key)
 | [] =>some []
 | t::l=>match E6 t,oy l with
  | some k,some r=>some (k::r)
  | _,_=>none
def keyOf:T->Option (List Key)
 | .tup l=>oy l
 | _=>none
inductive Rs (α:Type) where
 | ok (a:α) | err (c:Str) | bad
def Rs.bind {α β:Type}(x:Rs α)(f:α->Rs β):Rs β:=match x with
 | .ok a=>f a
 | .err c=> .err c
 | .bad=> .bad
instance:Monad Rs where
 pure:=Rs.ok
 bind:=Rs.bind
@[simp] theorem aA {α β:Type} (a:α) (f:α->Rs β):(Rs.ok a >>= f)=f a:=rfl
@[simp] theorem J5 {α:Type} (a:α):(pure a:Rs α)=Rs.ok a:=rfl
@[simp] theorem JT {α β:Type} (f:α->Rs β):((Rs.bad:Rs α) >>= f)= .bad:=rfl
@[simp] theorem JP {α β:Type} (c:Str) (f:α->Rs β):((Rs.err c:Rs α) >>= f)= .err c:=rfl
abbrev Ow:=Addr->Prop
mutual
def Rep (K:K7)(O:Ow)(H:Hp):T->V->Prop
 | .non,v=>v= .non
 | .bl b,v=>v= .bl b
 | .int i,v=>v= .int i
 | .str x,v=>v= .str x
 | .tup l,v=> ∃a vs,v= .ref a/\¬ O a/\H a=some (.tup vs)/\Reps K O H l vs
 | .lst l,v=> ∃a vs,v= .ref a/\¬ O a/\H a=some (.lst vs)/\Reps K O H l vs
 | .scr l,v=> ∃a,v= .ref a/\¬ O a/\SqL K H a (l.map V.int)
 | .dct ks ts,v=> ∃a kvs,v= .ref a/\¬ O a/\Rd H a (.dT kvs)/\ks.map keyOf=kvs.map (λp=>some p.1)/\Reps K O H ts (kvs.map (·.2))
 | .ob C ns ts,v=> ∃a dx fs,v= .ref a/\¬ O a/\H a=some (.ins (bU K C) dx fs)/\fs.map (·.1)=ns/\Reps K O H ts (fs.map (·.2))
def Reps (K:K7)(O:Ow)(H:Hp):List T->List V->Prop
 | [],vs=>vs= []
 | t::r,vs=> ∃v ws,vs=v::ws/\Rep K O H t v/\Reps K O H r ws
end
def SameO (P:Ow)(H H':Hp):Prop:=∀b o,H b=some o->¬ P b->H' b=some o
theorem SameO.of {P:Ow}{H H':Hp}(h:Same H H'):SameO P H H':=λb o e _=>h b o e
theorem Rd.KF {P:Ow}{H H':Hp}{a:Addr}{u:HO}(h:SameO P H H')(n:¬ P a)(q:Rd H a u):Rd H' a u:=q.elim (λe=> .inl (h _ _ e n)) λ⟨o,e⟩=> .inr ⟨o,h _ _ e n⟩
theorem SqL.keep {K:K7}{P:Ow}{H H':Hp}{a:Addr}{vs:List V}(h:SameO P H H')(n:¬ P a)(q:SqL K H a vs):SqL K H' a vs:=by
 rcases q with(q | ⟨o,q⟩) | q
 ·exact .inl (.inl (h _ _ q n))
 ·exact .inl (.inr ⟨o,h _ _ q n⟩)
 ·exact .inr q
mutual
theorem Rep.keep {K:K7}{O P:Ow}{H H':Hp}(h:SameO P H H')(sub:∀a,P a->O a):∀{t:T} {v:V},Rep K O H t v->Rep K O H' t v
 | .non,_,r=>by unfold Rep at r ⊢;exact r
 | .bl _,_,r=>by unfold Rep at r ⊢;exact r
 | .int _,_,r=>by unfold Rep at r ⊢;exact r
 | .str _,_,r=>by unfold Rep at r ⊢;exact r
 | .tup l,_,r=>by
  unfold Rep at r ⊢;obtain⟨a,vs,e,n,q,z⟩:=r
  exact⟨a,vs,e,n,h _ _ q (λp=>n (sub a p)),Reps.keep h sub z⟩
 | .lst l,_,r=>by
  unfold Rep at r ⊢;obtain⟨a,vs,e,n,q,z⟩:=r
  exact⟨a,vs,e,n,h _ _ q (λp=>n (sub a p)),Reps.keep h sub z⟩
 | .scr l,_,r=>by
  unfold Rep at r ⊢;obtain⟨a,e,n,q⟩:=r
  exact⟨a,e,n,SqL.keep h (λp=>n (sub a p)) q⟩
 | .dct ks ts,_,r=>by
  unfold Rep at r ⊢;obtain⟨a,kvs,e,n,q,k,z⟩:=r
  exact⟨a,kvs,e,n,Rd.KF h (λp=>n (sub a p)) q,k,Reps.keep h sub z⟩
 | .ob C ns ts,_,r=>by
  unfold Rep at r ⊢;obtain⟨a,dx,fs,e,n,q,k,z⟩:=r;exact⟨a,dx,fs,e,n,h _ _ q (λp=>n (sub a p)),k,Reps.keep h sub z⟩
theorem Reps.keep {K:K7}{O P:Ow}{H H':Hp}(h:SameO P H H')(sub:∀a,P a->O a):∀{l:List T} {vs:List V},Reps K O H l vs->Reps K O H' l vs
 | [],_,r=>by unfold Reps at r ⊢;exact r
 | t::l,_,r=>by
  unfold Reps at r ⊢;obtain⟨v,ws,e,p,q⟩:=r;exact⟨v,ws,e,Rep.keep h sub p,Reps.keep h sub q⟩
end
mutual
theorem Rep.less {K:K7}{O O':Ow}{H:Hp}(sub:∀a,O' a->O a):∀{t:T} {v:V},Rep K O H t v->Rep K O' H t v
 | .non,_,r=>by unfold Rep at r ⊢;exact r
 | .bl _,_,r=>by unfold Rep at r ⊢;exact r
 | .int _,_,r=>by unfold Rep at r ⊢;exact r
 | .str _,_,r=>by unfold Rep at r ⊢;exact r
 | .tup l,_,r=>by
  unfold Rep at r ⊢;obtain⟨a,vs,e,n,q,z⟩:=r
  exact⟨a,vs,e,λp=>n (sub a p),q,Reps.less sub z⟩
 | .lst l,_,r=>by
  unfold Rep at r ⊢;obtain⟨a,vs,e,n,q,z⟩:=r
  exact⟨a,vs,e,λp=>n (sub a p),q,Reps.less sub z⟩
 | .scr l,_,r=>by
  unfold Rep at r ⊢;obtain⟨a,e,n,z⟩:=r
  exact⟨a,e,λp=>n (sub a p),z⟩
 | .dct ks ts,_,r=>by
  unfold Rep at r ⊢;obtain⟨a,kvs,e,n,q,k,z⟩:=r
  exact⟨a,kvs,e,λp=>n (sub a p),q,k,Reps.less sub z⟩
 | .ob C ns ts,_,r=>by
  unfold Rep at r ⊢;obtain⟨a,dx,fs,e,n,q,k,z⟩:=r;exact⟨a,dx,fs,e,λp=>n (sub a p),q,k,Reps.less sub z⟩
theorem Reps.less {K:K7}{O O':Ow}{H:Hp}(sub:∀a,O' a->O a):∀{l:List T} {vs:List V},Reps K O H l vs->Reps K O' H l vs
 | [],_,r=>by unfold Reps at r ⊢;exact r
 | t::l,_,r=>by
  unfold Reps at r ⊢;obtain⟨v,ws,e,p,q⟩:=r;exact⟨v,ws,e,Rep.less sub p,Reps.less sub q⟩
end
section
variable {K:K7}{O:Ow}{H H':Hp}{t:T}{v:V}{l:List T}{vs:List V}
theorem Rep.same (h:Same H H')(r:Rep K O H t v):Rep K O H' t v:=Rep.keep (P:=λ_=>False) (SameO.of h) (λ_ z=>z.elim) r
theorem Reps.same (h:Same H H')(r:Reps K O H l vs):Reps K O H' l vs:=Reps.keep (P:=λ_=>False) (SameO.of h) (λ_ z=>z.elim) r
theorem Rep.Kz:Rep K O H .non .non:=by unfold Rep;rfl
theorem Rep.bl_ (b:Bool):Rep K O H (.bl b) (.bl b):=by unfold Rep;rfl
theorem Rep.Ke (i:Int):Rep K O H (.int i) (.int i):=by unfold Rep;rfl
theorem Rep.K3 (x:Str):Rep K O H (.str x) (.str x):=by unfold Rep;rfl
theorem Rep.Do:Rep K O H (.tup l) v↔ ∃a vs,v= .ref a/\¬ O a/\H a=some (.tup vs)/\Reps K O H l vs:=by unfold Rep;exact N5
theorem Rep.Fk:Rep K O H (.lst l) v↔ ∃a vs,v= .ref a/\¬ O a/\H a=some (.lst vs)/\Reps K O H l vs:=by unfold Rep;exact N5
theorem Rep.GE {ks ts:List T}:Rep K O H (.dct ks ts) v↔ ∃a kvs,v= .ref a/\¬ O a/\Rd H a (.dT kvs)/\ks.map keyOf=kvs.map (λp=>some p.1)/\Reps K O H ts (kvs.map (·.2)):=by unfold Rep;exact N5
theorem Rep.Ko {C:Str}{ns:List Str}{ts:List T}:Rep K O H (.ob C ns ts) v↔ ∃a dx fs,v= .ref a/\¬ O a/\H a=some (.ins (bU K C) dx fs)/\fs.map (·.1)=ns/\Reps K O H ts (fs.map (·.2)):=by unfold Rep;exact N5
theorem Rep.Da {i:Int}:Rep K O H (.int i) v↔v= .int i:=by unfold Rep;exact N5
theorem Rep.FM {b:Bool}:Rep K O H (.bl b) v↔v= .bl b:=by unfold Rep;exact N5
theorem Rep.GM {b:Str}:Rep K O H (.str b) v↔v= .str b:=by unfold Rep;exact N5
theorem Rep.IR:Rep K O H .non v↔v= .non:=by unfold Rep;exact N5
theorem Reps.Gc:Reps K O H [] []:=by unfold Reps;rfl
theorem Reps.FS (r:Rep K O H t v)(q:Reps K O H l vs):Reps K O H (t::l) (v::vs):=by unfold Reps;exact⟨v,vs,rfl,r,q⟩
theorem Reps.AC:Reps K O H [] vs↔vs= []:=by unfold Reps;exact N5
theorem Reps.me:Reps K O H (t::l) vs↔ ∃v ws,vs=v::ws/\Rep K O H t v/\Reps K O H l ws:=by
 constructor
 ·intro h;unfold Reps at h;exact h
 ·intro h;unfold Reps;exact h
end
section
variable {K:K7}{O:Ow}{H H':Hp}
theorem Reps.length:∀{l:List T} {vs:List V},Reps K O H l vs->l.length=vs.length
 | [],vs,r=>by rw[Reps.AC.mp r];rfl
 | t::l,vs,r=>by
  obtain⟨v,ws,rfl,_,q⟩:=Reps.me.mp r;simp[q.length]
theorem Reps.get:∀{l:List T} {vs:List V} {i:Nat} {t:T},Reps K O H l vs->l[i]? =some t->∃v,vs[i]? =some v/\Rep K O H t v
 | [],_,_,_,_,e=>by simp at e
 | t::l,vs,i,u,r,e=>by
  obtain⟨v,ws,rfl,p,q⟩:=Reps.me.mp r
  cases i with
  | zero=>simp at e;subst e;exact⟨v,rfl,p⟩
  | succ i=>
   obtain⟨z,e1,e2⟩:=q.get (i:=i) (t:=u) (by simpa using e)
   exact⟨z,by simpa using e1,e2⟩
theorem Reps.append:∀{l m:List T} {vs ws:List V},Reps K O H l vs->Reps K O H m ws->Reps K O H (l++m) (vs++ws)
 | [],_,vs,_,r,s=>by rw[Reps.AC.mp r];exact s
 | t::l,m,vs,ws,r,s=>by
  obtain⟨v,us,rfl,p,q⟩:=Reps.me.mp r;exact Reps.FS p (q.append s)
theorem Reps.take:∀{l:List T} {vs:List V} (n:Nat),Reps K O H l vs->Reps K O H (l.take n) (vs.take n)
 | _,_,0,_=>Reps.Gc
 | [],vs,n+1,r=>by rw[Reps.AC.mp r];exact Reps.Gc
 | t::l,vs,n+1,r=>by
  obtain⟨v,us,rfl,p,q⟩:=Reps.me.mp r;exact Reps.FS p (q.take n)
theorem Reps.drop:∀{l:List T} {vs:List V} (n:Nat),Reps K O H l vs->Reps K O H (l.drop n) (vs.drop n)
 | _,_,0,r=>r
 | [],vs,n+1,r=>by rw[Reps.AC.mp r];exact Reps.Gc
 | t::l,vs,n+1,r=>by
  obtain⟨v,us,rfl,p,q⟩:=Reps.me.mp r;exact q.drop n
theorem Reps.ints:∀{ns:List Int},Reps K O H (ns.map T.int) (ns.map V.int)
 | [] =>Reps.Gc
 | n::r=>Reps.FS (Rep.Ke n) Reps.ints
end
def RowsR (K:K7)(O:Ow)(H:Hp):List (List T×List T)->List Addr->Prop
 | [],as=>as= []
 | r::rs,as=> ∃b bs kvs,as=b::bs/\H b=some (.dT kvs)/\r.1.map keyOf=kvs.map (λp=>some p.1)/\Reps K O H r.2 (kvs.map (·.2))/\RowsR K O H rs bs
def LsR (K:K7)(O:Ow)(H:Hp):List (List T)->List Addr->Prop
 | [],as=>as= []
 | l::ls,as=> ∃b bs vs,as=b::bs/\H b=some (.lst vs)/\Reps K O H l vs/\LsR K O H ls bs
def ORep (K:K7)(O M:Ow)(H:Hp):OT->V->Prop
 | .lst l,v=> ∃a vs,v= .ref a/\(∀b,M b↔b=a)/\H a=some (.lst vs)/\Reps K O H l vs
 | .dct ks ts,v=> ∃a kvs,v= .ref a/\(∀b,M b↔b=a)/\H a=some (.dT kvs)/\ks.map keyOf=kvs.map (λp=>some p.1)/\Reps K O H ts (kvs.map (·.2))
 | .dd ks rows,v=> ∃a kvs as,v= .ref a/\(∀b,M b↔b=a\/b∈as)/\a∉as/\as.Nodup/\H a=some (.dT kvs)/\ks.map keyOf=kvs.map (λp=>some p.1)/\kvs.map (·.2)=as.map V.ref/\RowsR K O H rows as
 | .ob C ns ls,v=> ∃a dx as,v= .ref a/\(∀b,M b↔b=a\/b=dx\/b∈as)/\(a∉as/\dx∉as/\dx≠a/\as.Nodup)/\H a=some (.ins (bU K C) dx (ns.zip (as.map V.ref)))/\H dx=some (.own a)/\ns.length=as.length/\ns.Nodup/\LsR K O H ls as
inductive Sl where
 | em | va (t:T) | ow (o:OT)
abbrev En:=List Sl
abbrev Mn:=Nat->Ow
def Mn.u (M:Mn):Ow:=λa=> ∃i,M i a
def isO:HO->Bool
 | .ins _ _ _=>true
 | .own _=>true
 | _=>false
def Mtb (H:Hp)(a:Addr):Prop:=(∃vs,H a=some (.lst vs))\/(∃kvs,H a=some (.dT kvs))\/∃o,H a=some o/\isO o=true
theorem Mtb.some {H:Hp}{a:Addr}(h:Mtb H a):∃o,H a=some o:=by
 rcases h with⟨_,e⟩ | ⟨_,e⟩ | ⟨_,e,_⟩ <;> exact⟨_,e⟩
theorem Mtb.at {H H':Hp}{a:Addr}(s:∀o,H a=Md o->H' a=Md o)(h:Mtb H a):Mtb H' a:=by
 rcases h with⟨vs,e⟩ | ⟨k,e⟩ | ⟨o,e,q⟩
 ·exact .inl ⟨vs,s _ e⟩
 ·exact .inr (.inl ⟨k,s _ e⟩)
 ·exact .inr (.inr ⟨o,s _ e,q⟩)
theorem Mtb.same {H H':Hp}(s:Same H H'){a:Addr}(h:Mtb H a):Mtb H' a:=h.at λo e=>s a o e
structure EnvM (K:K7)(O:Ow)(M:Mn)(H:Hp)(Z:En)(σ:L2.St):Prop where
 len:Z.length=σ.length
 val:∀(i:Nat) (t:T),Z[i]? =some (.va t)->∃v,σ[i]? =some (some v)/\Rep K O H t v
 own:∀(i:Nat) (o:OT),Z[i]? =some (.ow o)->∃v,σ[i]? =some (some v)/\ORep K O (M i) H o v
 sub:∀(i:Nat) (a:Addr),M i a->O a
 dis:∀(i j:Nat) (a:Addr),M i a->M j a->i=j
 trk:∀(a:Addr),O a->Mtb H a
theorem RowsR.same {K:K7}{O:Ow}{H H':Hp}(h:Same H H'):∀{rs:List (List T×List T)} {as:List Addr},RowsR K O H rs as->RowsR K O H' rs as
 | [],_,r=>r
 | _::_,_,⟨b,bs,kvs,e1,e2,e3,e4,e5⟩=>⟨b,bs,kvs,e1,h _ _ e2,e3,e4.same h,e5.same h⟩
theorem LsR.same {K:K7}{O:Ow}{H H':Hp}(h:Same H H'):∀{ls:List (List T)} {as:List Addr},LsR K O H ls as->LsR K O H' ls as
 | [],_,r=>r
 | _::_,_,⟨b,bs,vs,e1,e2,e3,e4⟩=>⟨b,bs,vs,e1,h _ _ e2,e3.same h,e4.same h⟩
theorem ORep.same {K:K7}{O M:Ow}{H H':Hp}(h:Same H H'){o:OT}{v:V}(r:ORep K O M H o v):ORep K O M H' o v:=by
 cases o with
 | lst l=>obtain⟨a,vs,e1,e2,e3,e4⟩:=r;exact⟨a,vs,e1,e2,h _ _ e3,e4.same h⟩
 | dct ks ts=>obtain⟨a,kvs,e1,e2,e3,e4,e5⟩:=r;exact⟨a,kvs,e1,e2,h _ _ e3,e4,e5.same h⟩
 | dd ks rows=>obtain⟨a,kvs,as,e1,e2,e3,e4,e5,e6,e7,e8⟩:=r;exact⟨a,kvs,as,e1,e2,e3,e4,h _ _ e5,e6,e7,e8.same h⟩
 | ob C ns ls=>obtain⟨a,dx,as,e1,e2,e3,e4,e5,e6,e7,e8⟩:=r;exact⟨a,dx,as,e1,e2,e3,h _ _ e4,h _ _ e5,e6,e7,e8.same h⟩
theorem EnvM.same {K:K7}{O:Ow}{M:Mn}{H H':Hp}{Z:En}{σ:L2.St}(h:Same H H')(e:EnvM K O M H Z σ):EnvM K O M H' Z σ where
 len:=e.len
 val:=λi t q=>let ⟨v,e1,e2⟩:=e.val i t q;⟨v,e1,e2.same h⟩
 own:=λi o q=>let ⟨v,e1,e2⟩:=e.own i o q;⟨v,e1,e2.same h⟩
 sub:=e.sub
 dis:=e.dis
 trk:=λa q=>(e.trk a q).same h
def EnvO (K:K7)(O:Ow)(H:Hp)(Z:En)(σ:L2.St):Prop:=∃M,EnvM K O M H Z σ
section
variable {K:K7}{O:Ow}{H H':Hp}{Z:En}{σ:L2.St}
theorem EnvO.val (e:EnvO K O H Z σ)(i:Nat)(t:T)(q:Z[i]? =some (.va t)):∃v,σ[i]? =some (some v)/\Rep K O H t v:=e.elim λ_ e=>e.val i t q
theorem EnvO.mtb (e:EnvO K O H Z σ):∀a,O a->Mtb H a:=e.elim λ_ e=>e.trk
theorem EnvO.trk (e:EnvO K O H Z σ)(a:Addr)(z:O a):∃o,H a=some o:=(e.mtb a z).some
theorem EnvO.same (h:Same H H')(e:EnvO K O H Z σ):EnvO K O H' Z σ:=e.elim λM e=>⟨M,e.same h⟩
theorem EnvO.fresh (e:EnvO K O H Z σ){p:Addr}(h:H p=none):¬ O p:=λz=>by
 obtain⟨o,q⟩:=e.trk p z;rw[h]at q;cases q
end
def JX (h:Heap)(C e:Addr):Option Addr->Prop
 | none=> ∃oe vs,h.get? e=some oe/\oe.cls= .ref C/\oe.data= .fields vs/\vs[1]? =some .none
 | some T=>T≠e/\∃oe vs,h.get? e=some oe/\oe.cls= .ref C/\oe.data= .fields vs/\vs[1]? =some (.ref T)/\∃oT ts,h.get? T=some oT/\oT.data= .fields ts/\ts[3]? =some .none
def RzP (X:Cx)(pins:List (Addr×Obj))(P:Ow)(H:Hp)(c:Str)(ev:La)(s':Ld):Prop:=
 ∃e T C σ' H',ev= .ref e/\X.mg c=some (.ref C)/\Inv X pins σ' H' s'/\SameO P H H'/\H' e=none/\(X.ex= []->X.s₀.heap.get? e=none)/\JX s'.heap C e T/\(∀t,T=some t->H' t=none/\(X.ex= []->X.s₀.heap.get? t=none))/\∀p∈X.pn++pins,p.1≠e/\T≠some p.1
def Nw (K:K7)(H:Hp):Ow:=λa=>H a=none/\K.lookup a=none
theorem gh {K:K7}{P:Ow}{H H1:Hp}(h:SameO P H H1){a:Addr}(n:Nw K H1 a):P a\/Nw K H a:=by
 by_cases hp:P a
 ·exact .inl hp
 ·refine .inr ⟨?_,n.2⟩
  cases q:H a with
  | none=>rfl
  | some o=>have:=h a o q hp;rw[n.1]at this;cases this
theorem SameO.trans {K:K7}{P P1:Ow}{H H1 H2:Hp}(h:SameO P H H1)(h1:SameO P1 H1 H2)(sub:∀a,P1 a->P a\/Nw K H a):SameO P H H2:=λb o e n=>
 h1 b o (h b o e n) λz=>(sub b z).elim n λw=>by rw[w.1]at e;cases e
def XA (X:Cx)(P:Ow)(H:Hp)(c:Str):Prop:=∀pins ev s',RzP X pins P H c ev s'->X.xe ev s'
theorem XA.later {X:Cx}{P P1:Ow}{H H1:Hp}{c:Str}(h:XA X P H c)(s:SameO P H H1)(sub:∀a,P1 a->P a\/Nw X.K H a):XA X P1 H1 c:=λpins ev s' ⟨e,T,C,σ',H',a1,a2,a3,a4,a5⟩=>
 h pins ev s' ⟨e,T,C,σ',H',a1,a2,a3,s.trans a4 sub,a5⟩
abbrev lp:Ow:=λ_=>False
def Post {α:Type}(X:Cx)(H:Hp)(r:Rs α)(k:α->Hp->Prop):Prop:=match r with
 | .ok t=> ∀H',Same H H'->k t H'
 | .err c=>XA X lp H c
 | .bad=>False
theorem Post.mono {α:Type}{X:Cx}{H:Hp}{r:Rs α}{k k':α->Hp->Prop}(h:Post X H r k)(f:∀t H',Same H H'->k t H'->k' t H'):Post X H r k':=by
 cases r with
 | ok t=>exact λH' s=>f t H' s (h H' s)
 | err c=>exact h
 | bad=>exact h
theorem Post.later {α:Type}{X:Cx}{H H1:Hp}{r:Rs α}{k:α->Hp->Prop}(h:Post X H r k)(s:Same H H1):Post X H1 r k:=by
 cases r with
 | ok t=>exact λH' s'=>h H' (s.trans s')
 | err c=>exact XA.later h (SameO.of s) λ_ z=>z.elim
 | bad=>exact h
theorem Post.bind {α β:Type}{X:Cx}{H:Hp}{r:Rs α}{f:α->Rs β}{k:β->Hp->Prop}(h:Post X H (r >>= f) k):Post X H r λt H'=>Post X H' (f t) k:=by
 cases r with
 | ok t=>exact λH' s=>Post.later h s
 | err c=>exact h
 | bad=>exact h
def tP (X:Cx)(f:En->Rs T):TE:=λσ H Q=> ∃Z O,EnvO X.K O H Z σ/\Post X H (f Z) λt H'=> ∀v,Rep X.K O H' t v->Q v H'
def tPA (X:Cx)(f:En->Rs (List T)):TA:=λσ H Q=> ∃Z O,EnvO X.K O H Z σ/\Post X H (f Z) λt H'=> ∀v,Reps X.K O H' t v->Q v H'
def Cm (X:Cx)(f:En->Rs Bool):TT:=λσ H Q=> ∃Z O,EnvO X.K O H Z σ/\Post X H (f Z) λb H'=>Q b H'
abbrev cg (X:Cx)(e:Expr)(f:En->Rs T):Prop:=PE X e (tP X f)
abbrev p6 (X:Cx)(e:List Expr)(f:En->Rs (List T)):Prop:=PA X e (tPA X f)
abbrev vC (X:Cx)(e:Expr)(f:En->Rs Bool):Prop:=PT X e (Cm X f)
theorem PE.imp {X:Cx}{e:Expr}{t t':TE}(h:PE X e t)(w:∀σ H Q,t' σ H Q->t σ H Q):PE X e t':=λpins s σ H Q I q=>h pins s σ H Q I (w σ H Q q)
theorem PA.imp {X:Cx}{e:List Expr}{t t':TA}(h:PA X e t)(w:∀σ H Q,t' σ H Q->t σ H Q):PA X e t':=λpos pins s σ H Q I q=>h pos pins s σ H Q I (w σ H Q q)
theorem PT.imp {X:Cx}{e:Expr}{t t':TT}(h:PT X e t)(w:∀σ H Q,t' σ H Q->t σ H Q):PT X e t':=λpins s σ H Q I q=>h pins s σ H Q I (w σ H Q q)
theorem PS.imp {X:Cx}{e:Stmt}{t t':TS}(h:PS X e t)(w:∀D σ H,t' D σ H->t D σ H):PS X e t':=λpins s σ H D I q=>h pins s σ H D I (w D σ H q)
theorem PSs.imp {X:Cx}{e:List Stmt}{t t':TS}(h:PSs X e t)(w:∀D σ H,t' D σ H->t D σ H):PSs X e t':=λpins s σ H D I q=>h pins s σ H D I (w D σ H q)
section
variable {X:Cx}
theorem aZ {σ:L2.St}{H:Hp}{Z:En}{O:Ow}{α:Type}{f:En->Rs T}{k:T->Rs α}{Q:α->Hp->Prop}(E:EnvO X.K O H Z σ)(h:Post X H (f Z >>= k) Q) :
  tP X f σ H λv H'=> ∃t,Rep X.K O H' t v/\Same H H'/\EnvO X.K O H' Z σ/\Post X H' (k t) Q:=
 ⟨Z,O,E,Post.mono h.bind λt H' s q v r=>⟨t,r,s,E.same s,q⟩⟩
theorem gI {σ:L2.St}{H:Hp}{Z:En}{O:Ow}{α:Type}{f:En->Rs (List T)}{k:List T->Rs α}{Q:α->Hp->Prop}(E:EnvO X.K O H Z σ)(h:Post X H (f Z >>= k) Q) :
  tPA X f σ H λv H'=> ∃t,Reps X.K O H' t v/\Same H H'/\EnvO X.K O H' Z σ/\Post X H' (k t) Q:=
 ⟨Z,O,E,Post.mono h.bind λt H' s q v r=>⟨t,r,s,E.same s,q⟩⟩
theorem kq {σ:L2.St}{H:Hp}{Z:En}{O:Ow}{α:Type}{f:En->Rs Bool}{k:Bool->Rs α}{Q:α->Hp->Prop}(E:EnvO X.K O H Z σ)(h:Post X H (f Z >>= k) Q) :
  Cm X f σ H λb H'=>Same H H'/\EnvO X.K O H' Z σ/\Post X H' (k b) Q:=
 ⟨Z,O,E,Post.mono h.bind λt H' s q=>⟨s,E.same s,q⟩⟩
noncomputable def vr (i:Nat)(Z:En):Rs T:=match Z[i]? with
 | some (.va t)=> .ok t
 | _=> .bad
def cn (t:T)(_:En):Rs T:=.ok t
theorem ID (i:Nat){x:Str}{pos:Pos}(hN:autoParam (X.N[i]? =some x) aqd._auto_1)(hv:autoParam (mK X.env.scope x) aqe._auto_1)(hd:autoParam ((x == ("__debug__" : Str))=false) aqb._auto_1)
  (hcd:autoParam ((x == ("__classdict__" : Str))=false) aqb._auto_1):cg X (.Name x pos) (vr i):=PE.imp (fP hN hv hd hcd) λσ H Q hh_=>by
 obtain⟨Z,O,E,h⟩:=hh_;unfold vr at h
 split at h
 ·rename_i t e
  obtain⟨v,e1,e2⟩:=E.val i t e;exact⟨v,e1,h H (Same.refl H) v e2⟩
 ·exact h.elim
theorem IM {i j pos}:cg X (.Constant (.int i) j pos) (cn (.int i)):=PE.imp Ag λσ H Q ⟨Z,O,E,h⟩=>h H (Same.refl H) _ (Rep.Ke i)
theorem q_bl {i j pos}:cg X (.Constant (.bool i) j pos) (cn (.bl i)):=PE.imp IZ λσ H Q ⟨Z,O,E,h⟩=>h H (Same.refl H) _ (Rep.bl_ i)
theorem II {j pos}:cg X (.Constant .none j pos) (cn .non):=PE.imp Gw λσ H Q ⟨Z,O,E,h⟩=>h H (Same.refl H) _ Rep.Kz
theorem Gi {x:Str}{i:Int}{u:La}{pos:Pos}(hm:X.mg x=some u)(r:RelV (.int i) u)(hg:autoParam (Gl X x) aqd._auto_1)(hd:autoParam ((x == ("__debug__" : Str))=false) aqb._auto_1):cg X (.Name x pos) (cn (.int i)):=
 PE.imp (DB hg hm r hd) λσ H Q ⟨Z,O,E,h⟩=>h H (Same.refl H) _ (Rep.Ke i)
def ak (_:En):Rs (List T):=.ok []
def af (f:En->Rs T)(g:En->Rs (List T))(Z:En):Rs (List T):=do
 let t <-f Z
 let r <-g Z
 .ok (t::r)
theorem Gh:p6 X [] ak:=PA.imp lA λσ H Q ⟨Z,O,E,h⟩=>h H (Same.refl H) _ Reps.Gc
theorem Dl {e:Expr}{es:List Expr}{f:En->Rs T}{g:En->Rs (List T)}(he:cg X e f)(hr:p6 X es g)(hs:autoParam (Lx (e::es) X.env=(false,eval e X.env)::Lx es X.env) aqd._auto_1):p6 X (e::es) (af f g):=by
 intro pos pins s σ H Q I h;obtain⟨Z,O,E,h⟩:=h;refine gg he hr hs pos pins s σ H Q I ?_
 obtain⟨Z1,O1,E1,h1⟩:=aZ E h;refine⟨Z1,O1,E1,Post.mono h1 λt H' s q v r=> ?_⟩
 obtain⟨t',r',s',E',q'⟩:=q v r;refine⟨Z,O,E',Post.mono q'.bind λts H2 s2 q2 vs rs=> ?_⟩
 exact q2 H2 (Same.refl H2) _ (Reps.FS (r'.same s2) rs)
end
section
variable {X:Cx}
def jN (l:List T):Rs T:=if l.length<=sizeLine then .ok (.tup l)else .bad
def jO (l:List T):Rs T:=if l.length<=sizeLine then .ok (.lst l)else .bad
def bB (f:En->Rs (List T))(Z:En):Rs T:=f Z >>= jN
def eV (f:En->Rs (List T))(Z:En):Rs T:=f Z >>= jO
theorem aX {H:Hp}{p:Addr}(h:H p=none)(o:HO):Same H (upd H p o):=λb u q=>by rw[aH (bX q h)];exact q
theorem fO {K:K7}{O:Ow}{H:Hp}{p:Addr}{l:List T}{vs:List V}(h:H p=none)(n:¬ O p)(r:Reps K O H l vs):Rep K O (upd H p (.tup vs)) (.tup l) (.ref p):=
 Rep.Do.mpr ⟨p,vs,rfl,n,aT,r.same (aX h _)⟩
theorem iN {K:K7}{O:Ow}{H:Hp}{p:Addr}{l:List T}{vs:List V}(h:H p=none)(n:¬ O p)(r:Reps K O H l vs):Rep K O (upd H p (.lst vs)) (.lst l) (.ref p):=
 Rep.Fk.mpr ⟨p,vs,rfl,n,aT,r.same (aX h _)⟩
theorem IE {es:List Expr}{x1:Nat}{pos:Pos}{f:En->Rs (List T)}(h:p6 X es f):cg X (.Tuple es x1 pos) (bB f):=by
 intro pins s σ H Q I ⟨Z,O,E,hq⟩;refine Gs h pins s σ H Q I ?_
 obtain⟨Z1,O1,E1,h1⟩:=gI E hq;refine⟨Z1,O1,E1,Post.mono h1 λts H1 s1 q vs r=> ?_⟩
 obtain⟨t',r',s',E',q'⟩:=q vs r;unfold jN at q'
 split at q'
 ·rename_i hz
  refine⟨by rw[<-r'.length];exact hz,λp hp=> ?_⟩
  exact q' _ (aX hp _) _ (fO hp (E'.fresh hp) r')
 ·exact q'.elim
theorem IK {es:List Expr}{pos:Pos}{f:En->Rs (List T)}(h:p6 X es f):cg X (.List es pos) (eV f):=by
 intro pins s σ H Q I ⟨Z,O,E,hq⟩;refine Gx h pins s σ H Q I ?_
 obtain⟨Z1,O1,E1,h1⟩:=gI E hq;refine⟨Z1,O1,E1,Post.mono h1 λts H1 s1 q vs r=> ?_⟩
 obtain⟨t',r',s',E',q'⟩:=q vs r;unfold jO at q'
 split at q'
 ·rename_i hz
  refine⟨by rw[<-r'.length];exact hz,λp hp=> ?_⟩
  exact q' _ (aX hp _) _ (iN hp (E'.fresh hp) r')
 ·exact q'.elim
def OpT (X:Cx)(f:La->La->Sem La)(g:T->T->Rs T):Prop:=
 ∀(pins:List (Addr×Obj)) (s:Ld) (σ:L2.St) (H:Hp) (O:Ow) (x y:T) (vx vy:V) (ux uy:La) (Q:VK),Inv X pins σ H s->(∀p,H p=none->¬ O p)->Rep X.K O H x vx->Rep X.K O H y vy->RelV vx ux->RelV vy uy →
  Post X H (g x y) (λt H'=> ∀v,Rep X.K O H' t v->Q v H')->wpAny (model X.prog X.w) X.A (f ux uy) (EP X pins σ Q) X.xe s
def o2 (g:T->T->Rs T)(fa fb:En->Rs T)(Z:En):Rs T:=do
 let x <-fa Z
 let y <-fb Z
 g x y
variable {a b c:Expr}{fa fb fc:En->Rs T}{pos:Pos}
theorem IT {op:Operator}{g:T->T->Rs T}(ho:OpT X (MN op) g)(ha:cg X a fa)(hb:cg X b fb):cg X (.BinOp a op b pos) (o2 g fa fb):=by
 intro pins s σ H Q I ⟨Z,O,E,hq⟩
 have h1:=aZ E hq;refine wpAny_BinOp (bV (ha pins s σ H _ I h1) λv s1 hh_=> ?_)
 obtain⟨x,H1,I1,r1,t,rt,s',E',q1⟩:=hh_
 have h2:=aZ (f:=fb) E' q1;refine bV (hb pins s1 σ H1 _ I1 h2) λu s2 hh_=> ?_
 obtain⟨y,H2,I2,r2,t2,rt2,s'',E'',q2⟩:=hh_;exact ho pins s2 σ H2 O t t2 x y v u Q I2 (λp=>E''.fresh) (rt.same s'') rt2 r1 r2 q2
theorem IS {op:Sn}{g:T->T->Rs T}(ho:OpT X (L0 op) g)(ha:cg X a fa)(hb:cg X b fb)(hm:autoParam (Nv op b=false) aqd._auto_1):cg X (.Compare a [op] [b] pos) (o2 g fa fb):=by
 intro pins s σ H Q I ⟨Z,O,E,hq⟩
 have h1:=aZ E hq;refine wpAny_Compare1 (bV (ha pins s σ H _ I h1) λv s1 ⟨x,H1,I1,r1,t,rt,s',E',q1⟩=> ?_) hm
 have h2:=aZ (f:=fb) E' q1;refine bV (hb pins s1 σ H1 _ I1 h2) λu s2 hh_=> ?_
 obtain⟨y,H2,I2,r2,t2,rt2,s'',E'',q2⟩:=hh_;exact ho pins s2 σ H2 O t t2 x y v u Q I2 (λp=>E''.fresh) (rt.same s'') rt2 r1 r2 q2
theorem OpT.of {f:La->La->Sem La}{r:R2}(h:pj X f r){g:T->T->Rs T}
  (w:∀(H:Hp) (O:Ow) (x y:T) (vx vy:V) (Q:VK),(∀p,H p=none->¬ O p)->Rep X.K O H x vx->Rep X.K O H y vy->Post X H (g x y) (λt H'=> ∀v,Rep X.K O H' t v->Q v H')->r vx vy H Q):OpT X f g:=
 λpins s σ H O x y vx vy ux uy Q I hf rx ry r1 r2 hp=>h pins s σ H vx vy ux uy Q I r1 r2 (w H O x y vx vy Q hf rx ry hp)
def f9:T->T->Rs T
 | .int i,.int j=> .ok (.int (i - j))
 | _,_=> .bad
theorem eh:OpT X (MN .Sub) f9:=OpT.of GC λH O x y vx vy Q hf rx ry hp=>by
 unfold f9 at hp
 split at hp
 ·exact⟨_,_,Rep.Da.mp rx,Rep.Da.mp ry,hp H (Same.refl H) _ (Rep.Ke _)⟩
 ·exact hp.elim
def kX:T->T->Rs T
 | .int i,.int j=>if 0<j/\j<1073741824 then .ok (.int (i / j))else .bad
 | _,_=> .bad
def kN:T->T->Rs T
 | .int i,.int j=>if 0<j then .ok (.int (i % j))else .bad
 | _,_=> .bad
theorem mQ:OpT X (MN .FloorDiv) kX:=OpT.of DH λH O x y vx vy Q hf rx ry hp=>by
 unfold kX at hp
 split at hp
 ·split at hp
  ·rename_i h
   exact⟨_,_,Rep.Da.mp rx,Rep.Da.mp ry,h,hp H (Same.refl H) _ (Rep.Ke _)⟩
  ·exact hp.elim
 ·exact hp.elim
theorem jX:OpT X (MN .Mod) kN:=OpT.of GG λH O x y vx vy Q hf rx ry hp=>by
 unfold kN at hp
 split at hp
 ·split at hp
  ·rename_i h
   exact⟨_,_,Rep.Da.mp rx,Rep.Da.mp ry,h,hp H (Same.refl H) _ (Rep.Ke _)⟩
  ·exact hp.elim
 ·exact hp.elim
theorem Ap:pj X (MN .Add) (λx y H Q=> ∃a b ys,x= .ref a/\y= .ref b/\SqT X.K H a []/\SqT X.K H b ys/\Q (.ref b) H):=by
 intro pins s σ H x y v u Q I rx ry h;obtain⟨a,b,ys,rfl,rfl,ha,hb,q⟩:=h;cases rx;cases ry;obtain⟨its,r1,p1,_⟩:=I.tuple ha;obtain⟨its2,r2,p2,_⟩:=I.tuple hb;obtain⟨⟨cls,dd,data,sl⟩,ho,hc,n,hd⟩:=id p1;obtain⟨⟨cls2,dd2,data2,sl2⟩,ho2,hc2,n2,hd2⟩:=id p2;simp only at hc hd hc2 hd2;subst hc hd hc2 hd2
 have e:its= []:=by cases r1;rfl
 subst e;exact HT_concat0 ho ho2 ⟨.ref b,H,I,rfl,q⟩
where
 HT_concat0 {prog:LI} {w:Mj} {A:LZ} {E:La->Ld->Prop} {s:Ld} {t b:Addr} {ws:Array La} {n n2:Nat} {dd dd2:Option Addr} {sl sl2:Array (Option La)} {Q:La->Ld->Prop}
   (ho:s.heap.get? t=some { cls:=.type "tuple",dict:=dd,data:=.seq (([]:List La).toArray) n,slots:=sl }) (ho2:s.heap.get? b=some { cls:=.type "tuple",dict:=dd2,data:=.seq ws n2,slots:=sl2 }) (h:Q (.ref b) s) :
   wpAny (model prog w) A (MN .Add (.ref t) (.ref b)) Q E s:=
  RL ⟨_,ho,rfl⟩ ⟨_,ho2,rfl⟩ PM Rc Oc N1 (NX _ _)
   (tuple_addW0 t b _ _ n n2 dd dd2 sl sl2 (by simp)) ⟨ho,ho2,h⟩
def aL:T->T->Rs T
 | .int i,.int j=> .ok (.int (i+j))
 | .str i,.str j=>if i.length+j.length<=sizeLine then .ok (.str (i++j))else .bad
 | .tup l,.tup m=>jN (l++m)
 | .lst l,.lst m=>jO (l++m)
 | _,_=> .bad
theorem aK:OpT X (MN .Add) aL:=by
 intro pins s σ H O x y vx vy ux uy Q I hf rx ry r1 r2 hp;unfold aL at hp
 split at hp
 ·exact GJ pins s σ H vx vy ux uy Q I r1 r2 ⟨_,_,Rep.Da.mp rx,Rep.Da.mp ry,hp H (Same.refl H) _ (Rep.Ke _)⟩
 ·split at hp
  ·rename_i h
   exact vY pins s σ H vx vy ux uy Q I r1 r2 ⟨_,_,Rep.GM.mp rx,Rep.GM.mp ry,h,hp H (Same.refl H) _ (Rep.K3 _)⟩
  ·exact hp.elim
 ·rename_i l m
  unfold jN at hp
  split at hp
  ·rename_i h
   obtain⟨a,vs,e1,n1,q1,z1⟩:=Rep.Do.mp rx;obtain⟨b,ws,e2,n2,q2,z2⟩:=Rep.Do.mp ry
   have hl1:=z1.length
   have hl2:=z2.length;rw[Lb]at h
   cases vs with
   | nil=>
    have e:l= []:=by cases l with
     | nil=>rfl
     | cons _ _=>simp at hl1
    subst e
    exact Ap pins s σ H vx vy ux uy Q I r1 r2 ⟨a,b,ws,e1,e2,SqT.of q1,SqT.of q2,hp H (Same.refl H) _ (Rep.Do.mpr ⟨b,ws,rfl,n2,q2,z2⟩)⟩
   | cons v0 vr=>
    refine DI pins s σ H vx vy ux uy Q I r1 r2 ⟨a,b,v0::vr,ws,e1,e2,SqT.of q1,SqT.of q2,by simp,by omega,λhw=> ?_,λ_ p hpn=> ?_⟩
    ·subst hw
     have e:m= []:=by cases m with
      | nil=>rfl
      | cons _ _=>simp at hl2
     subst e;rw[LR]at hp;exact hp H (Same.refl H) _ (Rep.Do.mpr ⟨a,_,rfl,n1,q1,z1⟩)
    ·exact hp _ (aX hpn _) _ (fO hpn (hf p hpn) (z1.append z2))
  ·exact hp.elim
 ·rename_i l m
  unfold jO at hp
  split at hp
  ·rename_i h
   obtain⟨a,vs,e1,n1,q1,z1⟩:=Rep.Fk.mp rx;obtain⟨b,ws,e2,n2,q2,z2⟩:=Rep.Fk.mp ry
   have hl1:=z1.length
   have hl2:=z2.length;rw[Lb]at h;exact GI pins s σ H vx vy ux uy Q I r1 r2 ⟨a,b,vs,ws,e1,e2,q1,q2,by omega,λp hpn=>hp _ (aX hpn _) _ (iN hpn (hf p hpn) (z1.append z2))⟩
  ·exact hp.elim
 ·exact hp.elim
def wb:T->T->Rs T
 | .int i,.int j=>if (-(2 ^ 64)<i/\i<2 ^ 64)\/(-(2 ^ 64)<j/\j<2 ^ 64)then .ok (.int (i*j))else .bad
 | .lst l,.int k=>if -(2 ^ 63)<=k/\k<2 ^ 63/\l.length*k.toNat<=sizeLine then .ok (.lst (LA k.toNat l).flatten)else .bad
 | _,_=> .bad
theorem Reps.rep {K:K7}{O:Ow}{H:Hp}{l:List T}{vs:List V}(h:Reps K O H l vs):∀k:Nat,Reps K O H (LA k l).flatten (LA k vs).flatten
 | 0=>Reps.Gc
 | k+1=>by rw[MR,MR,Nj,Nj];exact h.append (h.rep k)
theorem GA:OpT X (MN .Mult) wb:=by
 intro pins s σ H O x y vx vy ux uy Q I hf rx ry r1 r2 hp;unfold wb at hp
 split at hp
 ·split at hp
  ·rename_i h
   exact GF pins s σ H vx vy ux uy Q I r1 r2 ⟨_,_,Rep.Da.mp rx,Rep.Da.mp ry,h,hp H (Same.refl H) _ (Rep.Ke _)⟩
  ·exact hp.elim
 ·split at hp
  ·rename_i l k h
   obtain⟨a,vs,e1,n1,q1,z1⟩:=Rep.Fk.mp rx
   have hl1:=z1.length;exact GD pins s σ H vx vy ux uy Q I r1 r2 ⟨a,k,vs,e1,Rep.Da.mp ry,q1,h.1,h.2.1,by rw[<-hl1];exact h.2.2,λp hpn=>hp _ (aX hpn _) _ (iN hpn (hf p hpn) (z1.rep _))⟩
  ·exact hp.elim
 ·exact hp.elim
def gz:T->Rs T
 | .int i=> .ok (.int (-i))
 | _=> .bad
def o1 (g:T->Rs T)(fa:En->Rs T)(Z:En):Rs T:=fa Z >>= g
theorem IJ (ha:cg X a fa):cg X (.UnaryOp .USub a pos) (o1 gz fa):=by
 intro pins s σ H Q I ⟨Z,O,E,hq⟩;refine EX zI ha pins s σ H Q I ?_
 obtain⟨Z1,O1,E1,h1⟩:=aZ E hq;refine⟨Z1,O1,E1,Post.mono h1 λts H1 s1 q vs r=> ?_⟩
 obtain⟨t',r',s',E',q'⟩:=q vs r;unfold gz at q'
 split at q'
 ·exact⟨_,Rep.Da.mp r',q' H1 (Same.refl H1) _ (Rep.Ke _)⟩
 ·exact q'.elim
def vm (p:Int->Int->Bool):T->T->Rs T
 | .int i,.int j=> .ok (.bl (p i j))
 | _,_=> .bad
theorem rK {op:Sn}{p:Int->Int->Bool}(h:pj X (L0 op) (EW λi j=> .bl (p i j))):OpT X (L0 op) (vm p):=OpT.of h λH O x y vx vy Q hf rx ry hp=>by
 unfold vm at hp
 split at hp
 ·exact⟨_,_,Rep.Da.mp rx,Rep.Da.mp ry,hp H (Same.refl H) _ (Rep.bl_ _)⟩
 ·exact hp.elim
abbrev zp:=vm λi j=>decide (i<j)
abbrev GY:=vm λi j=>decide (i<=j)
abbrev gtT:=vm λi j=>decide (j<i)
theorem uw:OpT X (L0 .Lt) zp:=rK Jc
theorem qj:OpT X (L0 .LtE) GY:=rK Jd
theorem Jb:OpT X (L0 .Gt) gtT:=rK Je
def T.isN:T->Bool
 | .non=>true
 | _=>false
theorem Rep.isN {K:K7}{O:Ow}{H:Hp}{t:T}{v:V}(r:Rep K O H t v):decide (v= .non)=t.isN:=by
 cases t with
 | non=>rw[Rep.IR.mp r];rfl
 | bl _=>rw[Rep.FM.mp r];rfl
 | int _=>rw[Rep.Da.mp r];rfl
 | str _=>rw[Rep.GM.mp r];rfl
 | tup _=>obtain⟨a,vs,e,_⟩:=Rep.Do.mp r;rw[e];rfl
 | lst _=>obtain⟨a,vs,e,_⟩:=Rep.Fk.mp r;rw[e];rfl
 | scr _=>unfold Rep at r;obtain⟨a,e,_⟩:=r;rw[e];rfl
 | dct _ _=>obtain⟨a,_,e,_⟩:=Rep.GE.mp r;rw[e];rfl
 | ob _ _ _=>obtain⟨a,_,_,e,_⟩:=Rep.Ko.mp r;rw[e];rfl
def lR:T->T->Rs T
 | x,.non=> .ok (.bl x.isN)
 | _,_=> .bad
def iw:T->T->Rs T
 | x,.non=> .ok (.bl (!x.isN))
 | _,_=> .bad
theorem uz:OpT X (L0 .Is) lR:=OpT.of GH λH O x y vx vy Q hf rx ry hp=>by
 unfold lR at hp
 split at hp
 ·exact⟨Rep.IR.mp ry,hp H (Same.refl H) _ (by rw[rx.isN];exact Rep.bl_ _)⟩
 ·exact hp.elim
theorem iP:OpT X (L0 .IsNot) iw:=OpT.of DG λH O x y vx vy Q hf rx ry hp=>by
 unfold iw at hp
 split at hp
 ·exact⟨Rep.IR.mp ry,hp H (Same.refl H) _ (by rw[rx.isN];exact Rep.bl_ _)⟩
 ·exact hp.elim
end
end Tr
namespace Tr
open PySem PySem.Spec PyProof.Rows L2
open PySem.SeqAt
mutual
def ReV (s:Ld):T->La->Prop
 | .non,u=>u= .none
 | .bl b,u=>u= .bool b
 | .int i,u=> ∃t,u= .int i t
 | .str x,u=> ∃t,u= .str x t
 | .tup l,u=> ∃a its,u= .ref a/\s.heap.IsTuple a (RH its)/\ReVs s l its
 | .lst l,u=> ∃a its,u= .ref a/\s.heap.IsList a (RH its)/\ReVs s l its
 | .scr l,u=> ∃a its,u= .ref a/\s.heap.IsList a (RH its)/\OR its l
 | .dct _ _,_=>False
 | .ob _ _ _,_=>False
def ReVs (s:Ld):List T->List La->Prop
 | [],us=>us= []
 | t::r,us=> ∃u ws,us=u::ws/\ReV s t u/\ReVs s r ws
end
theorem ReVs.AC {s:Ld}{us:List La}:ReVs s [] us↔us= []:=by unfold ReVs;exact N5
theorem ReVs.me {s:Ld}{t:T}{l:List T}{us:List La}:ReVs s (t::l) us↔ ∃u ws,us=u::ws/\ReV s t u/\ReVs s l ws:=by
 constructor
 ·intro h;unfold ReVs at h;exact h
 ·intro h;unfold ReVs;exact h
theorem ReVs.length {s:Ld}:∀{l:List T} {us:List La},ReVs s l us->l.length=us.length
 | [],us,r=>by rw[ReVs.AC.mp r];rfl
 | t::l,us,r=>by
  obtain⟨v,ws,rfl,_,q⟩:=ReVs.me.mp r;simp[q.length]
theorem ReVs.get {s:Ld}:∀{l:List T} {us:List La} {i:Nat} {t:T},ReVs s l us->l[i]? =some t->∃v,us[i]? =some v/\ReV s t v
 | [],_,_,_,_,e=>by simp at e
 | t::l,vs,i,u,r,e=>by
  obtain⟨v,ws,rfl,p,q⟩:=ReVs.me.mp r
  cases i with
  | zero=>simp at e;subst e;exact⟨v,rfl,p⟩
  | succ i=>
   obtain⟨z,e1,e2⟩:=q.get (i:=i) (t:=u) (by simpa using e)
   exact⟨z,by simpa using e1,e2⟩
mutual
def T.nd:T->Bool
 | .dct _ _=>false
 | .ob _ _ _=>false
 | .tup l=>nds l
 | .lst l=>nds l
 | _=>true
def nds:List T->Bool
 | [] =>true
 | t::l=>t.nd&&nds l
end
theorem uN {t:T}{l:List T}(h:nds (t::l)=true):t.nd=true/\nds l=true:=by unfold nds at h;exact Mv.mp h
section
variable {X:Cx}{pins:List (Addr×Obj)}{σ:L2.St}{H:Hp}{s:Ld}{O:Ow}
mutual
theorem Rep.val (I:Inv X pins σ H s):∀{t:T} {v:V} {u:La},t.nd=true->Rep X.K O H t v->RelV v u->ReV s t u
 | .non,v,u,hn,r,q=>by cases Rep.IR.mp r;unfold ReV;exact q
 | .bl b,v,u,hn,r,q=>by cases Rep.FM.mp r;unfold ReV;exact q
 | .int b,v,u,hn,r,q=>by cases Rep.Da.mp r;unfold ReV;exact q
 | .str b,v,u,hn,r,q=>by cases Rep.GM.mp r;unfold ReV;exact q
 | .tup l,v,u,hn,r,q=>by
  obtain⟨a,vs,rfl,_,z,w⟩:=Rep.Do.mp r;cases q;obtain⟨its,rv,p,_⟩:=I.tuple (SqT.of z);unfold ReV
  exact⟨a,its,rfl,p,Reps.val I (by unfold T.nd at hn;exact hn) w rv⟩
 | .lst l,v,u,hn,r,q=>by
  obtain⟨a,vs,rfl,_,z,w⟩:=Rep.Fk.mp r;cases q;obtain⟨its,rv,p,_⟩:=I.list (SqL.of z);unfold ReV
  exact⟨a,its,rfl,p.isList,Reps.val I (by unfold T.nd at hn;exact hn) w rv⟩
 | .scr l,v,u,hn,r,q=>by
  unfold Rep at r;obtain⟨a,rfl,_,z⟩:=r;cases q;obtain⟨its,rv,p,_⟩:=I.list z;unfold ReV
  exact⟨a,its,rfl,p.isList,wz rv⟩
 | .dct _ _,v,u,hn,r,q=>by cases hn
 | .ob _ _ _,v,u,hn,r,q=>by cases hn
theorem Reps.val (I:Inv X pins σ H s):∀{l:List T} {vs:List V} {us:List La},nds l=true->Reps X.K O H l vs->Vals vs us->ReVs s l us
 | [],vs,us,hn,r,q=>by
  cases Reps.AC.mp r;cases q
  exact ReVs.AC.mpr rfl
 | t::l,vs,us,hn,r,q=>by
  obtain⟨v,ws,rfl,p,z⟩:=Reps.me.mp r
  cases q with
  | cons q1 q2=>exact ReVs.me.mpr ⟨_,_,rfl,Rep.val I (uN hn).1 p q1,Reps.val I (uN hn).2 z q2⟩
end
end
mutual
def T.dep:T->Nat
 | .tup l=>deps l+1
 | .lst l=>deps l+1
 | .scr _=>1
 | _=>0
def deps:List T->Nat
 | [] =>0
 | t::l=>max t.dep (deps l)
end
def EC (i:Int):T->Bool
 | .int j=>i == j
 | .bl b=>i == (if b then 1 else 0)
 | _=>false
def jQ:List Int->List T->Bool
 | [],[] =>true
 | i::r,t::l=>EC i t&&jQ r l
 | _,_=>false
mutual
def bh:T->T->Bool
 | .non,.non=>true
 | .bl a,.bl b=>a == b
 | .bl a,.int b=>(if a then 1 else 0) == b
 | .int a,.bl b=>a == (if b then 1 else 0)
 | .int a,.int b=>a == b
 | .str a,.str b=>a == b
 | .tup l,.tup m=>beqTs l m
 | .lst l,.lst m=>beqTs l m
 | .lst l,.scr m=>beqTs l (m.map .int)
 | .scr l,.lst m=>jQ l m
 | .scr l,.scr m=>l == m
 | _,_=>false
def beqTs:List T->List T->Bool
 | [],[] =>true
 | t::l,u::m=>bh t u&&beqTs l m
 | _,_=>false
end
theorem o6 (n:Nat)(e:Nat->Bool):(L7 (n+1)).all e=(e 0&&(L7 n).all λj=>e (j+1)):=by
 rw[List.range_succ_eq_map,List.all_cons,List.all_map];rfl
theorem lX:∀(l m:List T) (e:Nat->Bool),(∀(j:Nat) t u,l[j]? =some t->m[j]? =some u->e j=bh t u) →
  beqTs l m=((L7 (min l.length m.length)).all e&&l.length == m.length)
 | [],[],_,_=>by simp[beqTs]
 | [],_::_,_,_=>by simp[beqTs]
 | _::_,[],_,_=>by simp[beqTs]
 | t::l,u::m,e,h=>by
  have ih:=lX l m (λj=>e (j+1)) λj t' u' h1 h2=>h (j+1) t' u' (by simpa using h1) (by simpa using h2)
  rw[beqTs,ih]
  have h0:=h 0 t u rfl rfl;simp only[Li];rw[Nat.succ_min_succ,o6,h0,Bool.and_assoc]
  congr 2
  simp
theorem qM:∀{l m:List T},l.length≠m.length->beqTs l m=false
 | [],[],h=>absurd rfl h
 | [],_::_,_=>by simp[beqTs]
 | _::_,[],_=>by simp[beqTs]
 | t::l,u::m,h=>by
  rw[beqTs,qM (l:=l) (m:=m) (by intro z;exact h (by simp[z]))]
  simp
theorem i8:∀{l:List T} {i:Nat} {t:T},l[i]? =some t->t.dep<=deps l
 | [],_,_,e=>by simp at e
 | t::l,0,u,e=>by simp at e;subst e;unfold deps;exact Nat.le_max_left _ _
 | t::l,i+1,u,e=>by
  have:=i8 (l:=l) (i:=i) (t:=u) (by simpa using e)
  unfold deps;exact Me this (Nat.le_max_right _ _)
theorem iZ {s:Ld}{a:Addr}{x y:List La}(h:s.heap.IsTuple a x.toArray)(h':s.heap.IsTuple a y.toArray):x=y:=by
 obtain⟨o,e,_,n,d⟩:=h;obtain⟨o',e',_,n',d'⟩:=h';rw[e]at e';cases e';rw[d]at d';injection d' with d1 _
 simpa using congrArg P2 d1
theorem cQ {s:Ld}{a:Addr}{x y:List La}(h:s.heap.IsList a x.toArray)(h':s.heap.IsList a y.toArray):x=y:=by
 obtain⟨o,e,_,n,d⟩:=h;obtain⟨o',e',_,n',d'⟩:=h';rw[e]at e';cases e';rw[d]at d';injection d' with d1 _
 simpa using congrArg P2 d1
theorem zj {s:Ld}{i:Int}{t:T}{k:Tok}(r:ReV s t (.int i k)):EC i t=true:=by
 cases t with
 | non=>unfold ReV at r;cases r
 | bl b=>unfold ReV at r;cases r
 | int j=>unfold ReV at r;obtain⟨t,e⟩:=r;injection e with e1 _;subst e1;simp[EC]
 | str x=>unfold ReV at r;obtain⟨t,e⟩:=r;cases e
 | tup l=>unfold ReV at r;obtain⟨a,its,e,_⟩:=r;cases e
 | lst l=>unfold ReV at r;obtain⟨a,its,e,_⟩:=r;cases e
 | scr l=>unfold ReV at r;obtain⟨a,its,e,_⟩:=r;cases e
 | dct _ _=>unfold ReV at r;exact r.elim
 | ob _ _ _=>unfold ReV at r;exact r.elim
theorem o5 {s:Ld}:∀{ns:List Int} {us:List La} {l:List T},OR us ns->ReVs s l us->jQ ns l=true
 | [],us,l,h,r=>by
  cases h
  cases l with
  | nil=>rfl
  | cons t l=>obtain⟨_,_,e,_⟩:=ReVs.me.mp r;cases e
 | n::ns,us,l,h,r=>by
  cases h with
  | cons a b hh=>
   cases l with
   | nil=>have:=ReVs.AC.mp r;cases this
   | cons t l=>
    obtain⟨u,ws,e,p,q⟩:=ReVs.me.mp r;injection e with e1 e2
    subst e1 e2;rw[jQ,zj p,o5 hh q];rfl
theorem dI {s:Ld}:∀{us:List La} {ns:List Int},OR us ns->ReVs s (ns.map T.int) us
 | _,_,.nil=>ReVs.AC.mpr rfl
 | _,_,.cons n t h=>ReVs.me.mpr ⟨_,_,rfl,by unfold ReV;exact⟨_,rfl⟩,dI h⟩
theorem i5:∀{us:List La} {ns ms:List Int},OR us ns->OR us ms->ns=ms
 | _,_,_,.nil,.nil=>rfl
 | _,_,_,.cons n t h,.cons _ _ h'=>by rw[i5 h h']
mutual
theorem ReV.refl {s:Ld}:∀{t u:T} {v:La},ReV s t v->ReV s u v->bh t u=true
 | .non,u,v,r,q=>by
  unfold ReV at r;subst r
  cases u <;> (unfold ReV at q) <;> first | rfl | (cases q;done) | (obtain⟨_,e⟩:=q;cases e;done) | (obtain⟨_,_,e,_⟩:=q;cases e;done)
 | .bl b,u,v,r,q=>by
  unfold ReV at r;subst r
  cases u <;> (unfold ReV at q) <;> first | (cases q;done) | (cases q;simp[bh];done) | (obtain⟨_,e⟩:=q;cases e;done) | (obtain⟨_,_,e,_⟩:=q;cases e;done)
 | .int b,u,v,r,q=>by
  unfold ReV at r;obtain⟨k,rfl⟩:=r
  cases u <;> (unfold ReV at q) <;> first | (cases q;done) | (obtain⟨_,e⟩:=q;cases e;simp[bh];done) | (obtain⟨_,e⟩:=q;cases e;done) | (obtain⟨_,_,e,_⟩:=q;cases e;done)
 | .str b,u,v,r,q=>by
  unfold ReV at r;obtain⟨k,rfl⟩:=r
  cases u <;> (unfold ReV at q) <;> first | (cases q;done) | (obtain⟨_,e⟩:=q;cases e;simp[bh];done) | (obtain⟨_,e⟩:=q;cases e;done) | (obtain⟨_,_,e,_⟩:=q;cases e;done)
 | .tup l,u,v,r,q=>by
  unfold ReV at r;obtain⟨a,its,rfl,h1,h2⟩:=r
  cases u with
  | non=>unfold ReV at q;cases q
  | dct _ _=>unfold ReV at q;exact q.elim
  | ob _ _ _=>unfold ReV at q;exact q.elim
  | bl _=>unfold ReV at q;cases q
  | int _=>unfold ReV at q;obtain⟨_,e⟩:=q;cases e
  | str _=>unfold ReV at q;obtain⟨_,e⟩:=q;cases e
  | tup m=>
   unfold ReV at q;obtain⟨a',its',e,h1',h2'⟩:=q;injection e with e;subst e
   have:=iZ h1 h1';subst this;unfold bh
   exact ReVs.refl h2 h2'
  | lst m=>unfold ReV at q;obtain⟨a',its',e,h1',h2'⟩:=q;injection e with e;subst e;exact absurd rfl (ne_of_list_tuple h1' h1)
  | scr m=>unfold ReV at q;obtain⟨a',its',e,h1',h2'⟩:=q;injection e with e;subst e;exact absurd rfl (ne_of_list_tuple h1' h1)
 | .lst l,u,v,r,q=>by
  unfold ReV at r;obtain⟨a,its,rfl,h1,h2⟩:=r
  cases u with
  | non=>unfold ReV at q;cases q
  | dct _ _=>unfold ReV at q;exact q.elim
  | ob _ _ _=>unfold ReV at q;exact q.elim
  | bl _=>unfold ReV at q;cases q
  | int _=>unfold ReV at q;obtain⟨_,e⟩:=q;cases e
  | str _=>unfold ReV at q;obtain⟨_,e⟩:=q;cases e
  | lst m=>
   unfold ReV at q;obtain⟨a',its',e,h1',h2'⟩:=q;injection e with e;subst e
   have:=cQ h1 h1';subst this;unfold bh
   exact ReVs.refl h2 h2'
  | tup m=>unfold ReV at q;obtain⟨a',its',e,h1',h2'⟩:=q;injection e with e;subst e;exact absurd rfl (ne_of_list_tuple h1 h1')
  | scr m=>
   unfold ReV at q;obtain⟨a',its',e,h1',h2'⟩:=q;injection e with e;subst e
   have:=cQ h1 h1';subst this;unfold bh
   exact ReVs.refl h2 (dI h2')
 | .scr l,u,v,r,q=>by
  unfold ReV at r;obtain⟨a,its,rfl,h1,h2⟩:=r
  cases u with
  | non=>unfold ReV at q;cases q
  | dct _ _=>unfold ReV at q;exact q.elim
  | ob _ _ _=>unfold ReV at q;exact q.elim
  | bl _=>unfold ReV at q;cases q
  | int _=>unfold ReV at q;obtain⟨_,e⟩:=q;cases e
  | str _=>unfold ReV at q;obtain⟨_,e⟩:=q;cases e
  | lst m=>
   unfold ReV at q;obtain⟨a',its',e,h1',h2'⟩:=q;injection e with e;subst e
   have:=cQ h1 h1';subst this;unfold bh
   exact o5 h2 h2'
  | tup m=>unfold ReV at q;obtain⟨a',its',e,h1',h2'⟩:=q;injection e with e;subst e;exact absurd rfl (ne_of_list_tuple h1 h1')
  | scr m=>
   unfold ReV at q;obtain⟨a',its',e,h1',h2'⟩:=q;injection e with e;subst e
   have:=cQ h1 h1';subst this;unfold bh
   have:=i5 h2 h2'
   simp[this]
 | .dct _ _,u,v,r,q=>by unfold ReV at r;exact r.elim
 | .ob _ _ _,u,v,r,q=>by unfold ReV at r;exact r.elim
theorem ReVs.refl {s:Ld}:∀{l m:List T} {us:List La},ReVs s l us->ReVs s m us->beqTs l m=true
 | [],m,us,r,q=>by
  cases ReVs.AC.mp r
  cases m with
  | nil=>simp[beqTs]
  | cons _ _=>obtain⟨_,_,e,_⟩:=ReVs.me.mp q;cases e
 | t::l,m,us,r,q=>by
  obtain⟨v,ws,rfl,p,z⟩:=ReVs.me.mp r
  cases m with
  | nil=>cases ReVs.AC.mp q
  | cons u m=>
   obtain⟨v',ws',e,p',z'⟩:=ReVs.me.mp q;injection e with e1 e2
   subst e1 e2;rw[beqTs,ReV.refl p p',ReVs.refl z z'];rfl
end
theorem o4:∀(l:List Int) (m:List T),jQ l m=beqTs (l.map T.int) m
 | [],[] =>by simp[jQ,beqTs]
 | [],_::_=>by simp[jQ,beqTs]
 | _::_,[] =>by simp[jQ,beqTs]
 | i::l,t::m=>by
  rw[jQ,Lf,beqTs,o4 l m]
  congr 1
  cases t <;> simp[EC,bh]
theorem qX:∀(l m:List Int),(l == m)=beqTs (l.map T.int) (m.map T.int)
 | [],[] =>by simp[beqTs]
 | [],_::_=>by simp[beqTs]
 | _::_,[] =>by simp[beqTs]
 | i::l,t::m=>by
  rw[Lf,Lf,beqTs,<-qX l m];simp[bh]
theorem fG:∀(l:List Int),deps (l.map T.int)=0
 | [] =>rfl
 | i::l=>by rw[Lf,deps,fG l];simp[T.dep]
def jk:T->T->Prop
 | .tup _,.tup _=>False
 | .lst _,.lst _=>False
 | .lst _,.scr _=>False
 | .scr _,.lst _=>False
 | .scr _,.scr _=>False
 | _,_=>True
theorem vd (A:LZ)(s:Ld)(x y:T)(u v:La)(hn:jk x y)(hu:A.units<cLine)(rx:ReV s x u)(ry:ReV s y v):EqAt A s u v (bh x y)/\RcAt A s u v (bh x y)/\RcNeAt A s u v (!bh x y):=by
 match x,y,hn,rx,ry with
 | .dct _ _,_,_,rx,_=>exact(by unfold ReV at rx;exact rx:False).elim
 | .ob _ _ _,_,_,rx,_=>exact(by unfold ReV at rx;exact rx:False).elim
 | _,.dct _ _,_,_,ry=>exact(by unfold ReV at ry;exact ry:False).elim
 | _,.ob _ _ _,_,_,ry=>exact(by unfold ReV at ry;exact ry:False).elim
 | .non,.non,hn,rx,ry=>
  obtain rfl:u=LW:=by unfold ReV at rx;exact rx
  obtain rfl:v=LW:=by unfold ReV at ry;exact ry
  exact⟨EqAt.same _,RcAt.none_none ,RcNeAt.none_none ⟩
 | .non,.bl b2,hn,rx,ry=>
  obtain rfl:u=LW:=by unfold ReV at rx;exact rx
  obtain rfl:v=Mr b2:=by unfold ReV at ry;exact ry
  exact⟨EqAt.none_bool b2,RcAt.none_bool b2,RcNeAt.none_bool b2⟩
 | .non,.int i2,hn,rx,ry=>
  obtain rfl:u=LW:=by unfold ReV at rx;exact rx
  obtain⟨k2,rfl⟩:∃k,v=MO i2 k:=by unfold ReV at ry;exact ry
  exact⟨EqAt.none_int i2 k2,RcAt.none_int i2 k2,RcNeAt.none_int i2 k2⟩
 | .non,.str x2,hn,rx,ry=>
  obtain rfl:u=LW:=by unfold ReV at rx;exact rx
  obtain⟨k2,rfl⟩:∃k,v=MP x2 k:=by unfold ReV at ry;exact ry
  exact⟨EqAt.none_str x2 k2,RcAt.none_str x2 k2,RcNeAt.none_str x2 k2⟩
 | .non,.tup l2,hn,rx,ry=>
  obtain rfl:u=LW:=by unfold ReV at rx;exact rx
  unfold ReV at ry;obtain⟨a2,us2,rfl,h2,q2⟩:=ry
  exact⟨EqAt.none_tuple h2 hu,RcAt.none_tuple h2 hu,RcNeAt.none_tuple h2 hu⟩
 | .non,.lst l2,hn,rx,ry=>
  obtain rfl:u=LW:=by unfold ReV at rx;exact rx
  unfold ReV at ry;obtain⟨a2,us2,rfl,h2,q2⟩:=ry
  exact⟨EqAt.none_list h2 hu,RcAt.none_list h2 hu,RcNeAt.none_list h2 hu⟩
 | .non,.scr l2,hn,rx,ry=>
  obtain rfl:u=LW:=by unfold ReV at rx;exact rx
  unfold ReV at ry;obtain⟨a2,us2,rfl,h2,q2⟩:=ry
  exact⟨EqAt.none_list h2 hu,RcAt.none_list h2 hu,RcNeAt.none_list h2 hu⟩
 | .bl b1,.non,hn,rx,ry=>
  obtain rfl:u=Mr b1:=by unfold ReV at rx;exact rx
  obtain rfl:v=LW:=by unfold ReV at ry;exact ry
  exact⟨EqAt.bool_none b1,RcAt.bool_none b1,RcNeAt.bool_none b1⟩
 | .bl b1,.bl b2,hn,rx,ry=>
  obtain rfl:u=Mr b1:=by unfold ReV at rx;exact rx
  obtain rfl:v=Mr b2:=by unfold ReV at ry;exact ry
  exact⟨EqAt.bool_bool b1 b2,RcAt.bool_bool b1 b2,RcNeAt.bool_bool b1 b2⟩
 | .bl b1,.int i2,hn,rx,ry=>
  obtain rfl:u=Mr b1:=by unfold ReV at rx;exact rx
  obtain⟨k2,rfl⟩:∃k,v=MO i2 k:=by unfold ReV at ry;exact ry
  exact⟨EqAt.bool_int b1 i2 k2,RcAt.bool_int b1 i2 k2,RcNeAt.bool_int b1 i2 k2⟩
 | .bl b1,.str x2,hn,rx,ry=>
  obtain rfl:u=Mr b1:=by unfold ReV at rx;exact rx
  obtain⟨k2,rfl⟩:∃k,v=MP x2 k:=by unfold ReV at ry;exact ry
  exact⟨EqAt.bool_str b1 x2 k2,RcAt.bool_str b1 x2 k2,RcNeAt.bool_str b1 x2 k2⟩
 | .bl b1,.tup l2,hn,rx,ry=>
  obtain rfl:u=Mr b1:=by unfold ReV at rx;exact rx
  unfold ReV at ry;obtain⟨a2,us2,rfl,h2,q2⟩:=ry
  exact⟨EqAt.bool_tuple b1 h2 hu,RcAt.bool_tuple b1 h2 hu,RcNeAt.bool_tuple b1 h2 hu⟩
 | .bl b1,.lst l2,hn,rx,ry=>
  obtain rfl:u=Mr b1:=by unfold ReV at rx;exact rx
  unfold ReV at ry;obtain⟨a2,us2,rfl,h2,q2⟩:=ry
  exact⟨EqAt.bool_list b1 h2 hu,RcAt.bool_list b1 h2 hu,RcNeAt.bool_list b1 h2 hu⟩
 | .bl b1,.scr l2,hn,rx,ry=>
  obtain rfl:u=Mr b1:=by unfold ReV at rx;exact rx
  unfold ReV at ry;obtain⟨a2,us2,rfl,h2,q2⟩:=ry
  exact⟨EqAt.bool_list b1 h2 hu,RcAt.bool_list b1 h2 hu,RcNeAt.bool_list b1 h2 hu⟩
 | .int i1,.non,hn,rx,ry=>
  obtain⟨k1,rfl⟩:∃k,u=MO i1 k:=by unfold ReV at rx;exact rx
  obtain rfl:v=LW:=by unfold ReV at ry;exact ry
  exact⟨EqAt.int_none i1 k1,RcAt.int_none i1 k1,RcNeAt.int_none i1 k1⟩
 | .int i1,.bl b2,hn,rx,ry=>
  obtain⟨k1,rfl⟩:∃k,u=MO i1 k:=by unfold ReV at rx;exact rx
  obtain rfl:v=Mr b2:=by unfold ReV at ry;exact ry
  exact⟨EqAt.int_bool i1 k1 b2,RcAt.int_bool i1 k1 b2,RcNeAt.int_bool i1 k1 b2⟩
 | .int i1,.int i2,hn,rx,ry=>
  obtain⟨k1,rfl⟩:∃k,u=MO i1 k:=by unfold ReV at rx;exact rx
  obtain⟨k2,rfl⟩:∃k,v=MO i2 k:=by unfold ReV at ry;exact ry
  exact⟨EqAt.int_int i1 k1 i2 k2,RcAt.int_int i1 k1 i2 k2,RcNeAt.int_int i1 k1 i2 k2⟩
 | .int i1,.str x2,hn,rx,ry=>
  obtain⟨k1,rfl⟩:∃k,u=MO i1 k:=by unfold ReV at rx;exact rx
  obtain⟨k2,rfl⟩:∃k,v=MP x2 k:=by unfold ReV at ry;exact ry
  exact⟨EqAt.int_str i1 k1 x2 k2,RcAt.int_str i1 k1 x2 k2,RcNeAt.int_str i1 k1 x2 k2⟩
 | .int i1,.tup l2,hn,rx,ry=>
  obtain⟨k1,rfl⟩:∃k,u=MO i1 k:=by unfold ReV at rx;exact rx
  unfold ReV at ry;obtain⟨a2,us2,rfl,h2,q2⟩:=ry
  exact⟨EqAt.int_tuple i1 k1 h2 hu,RcAt.int_tuple i1 k1 h2 hu,RcNeAt.int_tuple i1 k1 h2 hu⟩
 | .int i1,.lst l2,hn,rx,ry=>
  obtain⟨k1,rfl⟩:∃k,u=MO i1 k:=by unfold ReV at rx;exact rx
  unfold ReV at ry;obtain⟨a2,us2,rfl,h2,q2⟩:=ry
  exact⟨EqAt.int_list i1 k1 h2 hu,RcAt.int_list i1 k1 h2 hu,RcNeAt.int_list i1 k1 h2 hu⟩
 | .int i1,.scr l2,hn,rx,ry=>
  obtain⟨k1,rfl⟩:∃k,u=MO i1 k:=by unfold ReV at rx;exact rx
  unfold ReV at ry;obtain⟨a2,us2,rfl,h2,q2⟩:=ry
  exact⟨EqAt.int_list i1 k1 h2 hu,RcAt.int_list i1 k1 h2 hu,RcNeAt.int_list i1 k1 h2 hu⟩
 | .str x1,.non,hn,rx,ry=>
  obtain⟨k1,rfl⟩:∃k,u=MP x1 k:=by unfold ReV at rx;exact rx
  obtain rfl:v=LW:=by unfold ReV at ry;exact ry
  exact⟨EqAt.str_none x1 k1,RcAt.str_none x1 k1,RcNeAt.str_none x1 k1⟩
 | .str x1,.bl b2,hn,rx,ry=>
  obtain⟨k1,rfl⟩:∃k,u=MP x1 k:=by unfold ReV at rx;exact rx
  obtain rfl:v=Mr b2:=by unfold ReV at ry;exact ry
  exact⟨EqAt.str_bool x1 k1 b2,RcAt.str_bool x1 k1 b2,RcNeAt.str_bool x1 k1 b2⟩
 | .str x1,.int i2,hn,rx,ry=>
  obtain⟨k1,rfl⟩:∃k,u=MP x1 k:=by unfold ReV at rx;exact rx
  obtain⟨k2,rfl⟩:∃k,v=MO i2 k:=by unfold ReV at ry;exact ry
  exact⟨EqAt.str_int x1 k1 i2 k2,RcAt.str_int x1 k1 i2 k2,RcNeAt.str_int x1 k1 i2 k2⟩
 | .str x1,.str x2,hn,rx,ry=>
  obtain⟨k1,rfl⟩:∃k,u=MP x1 k:=by unfold ReV at rx;exact rx
  obtain⟨k2,rfl⟩:∃k,v=MP x2 k:=by unfold ReV at ry;exact ry
  exact⟨EqAt.str_str x1 k1 x2 k2,RcAt.str_str x1 k1 x2 k2,RcNeAt.str_str x1 k1 x2 k2⟩
 | .str x1,.tup l2,hn,rx,ry=>
  obtain⟨k1,rfl⟩:∃k,u=MP x1 k:=by unfold ReV at rx;exact rx
  unfold ReV at ry;obtain⟨a2,us2,rfl,h2,q2⟩:=ry
  exact⟨EqAt.str_tuple x1 k1 h2 hu,RcAt.str_tuple x1 k1 h2 hu,RcNeAt.str_tuple x1 k1 h2 hu⟩
 | .str x1,.lst l2,hn,rx,ry=>
  obtain⟨k1,rfl⟩:∃k,u=MP x1 k:=by unfold ReV at rx;exact rx
  unfold ReV at ry;obtain⟨a2,us2,rfl,h2,q2⟩:=ry
  exact⟨EqAt.str_list x1 k1 h2 hu,RcAt.str_list x1 k1 h2 hu,RcNeAt.str_list x1 k1 h2 hu⟩
 | .str x1,.scr l2,hn,rx,ry=>
  obtain⟨k1,rfl⟩:∃k,u=MP x1 k:=by unfold ReV at rx;exact rx
  unfold ReV at ry;obtain⟨a2,us2,rfl,h2,q2⟩:=ry
  exact⟨EqAt.str_list x1 k1 h2 hu,RcAt.str_list x1 k1 h2 hu,RcNeAt.str_list x1 k1 h2 hu⟩
 | .tup l1,.non,hn,rx,ry=>
  unfold ReV at rx;obtain⟨a1,us1,rfl,h1,q1⟩:=rx;obtain rfl:v=LW:=by unfold ReV at ry;exact ry
  exact⟨EqAt.tuple_none h1 hu,RcAt.tuple_none h1 hu,RcNeAt.tuple_none h1 hu⟩
 | .tup l1,.bl b2,hn,rx,ry=>
  unfold ReV at rx;obtain⟨a1,us1,rfl,h1,q1⟩:=rx;obtain rfl:v=Mr b2:=by unfold ReV at ry;exact ry
  exact⟨EqAt.tuple_bool b2 h1 hu,RcAt.tuple_bool b2 h1 hu,RcNeAt.tuple_bool b2 h1 hu⟩
 | .tup l1,.int i2,hn,rx,ry=>
  unfold ReV at rx;obtain⟨a1,us1,rfl,h1,q1⟩:=rx;obtain⟨k2,rfl⟩:∃k,v=MO i2 k:=by unfold ReV at ry;exact ry
  exact⟨EqAt.tuple_int i2 k2 h1 hu,RcAt.tuple_int i2 k2 h1 hu,RcNeAt.tuple_int i2 k2 h1 hu⟩
 | .tup l1,.str x2,hn,rx,ry=>
  unfold ReV at rx;obtain⟨a1,us1,rfl,h1,q1⟩:=rx;obtain⟨k2,rfl⟩:∃k,v=MP x2 k:=by unfold ReV at ry;exact ry
  exact⟨EqAt.tuple_str x2 k2 h1 hu,RcAt.tuple_str x2 k2 h1 hu,RcNeAt.tuple_str x2 k2 h1 hu⟩
 | .tup _,.tup _,hn,_,_=>exact hn.elim
 | .tup l1,.lst l2,hn,rx,ry=>
  unfold ReV at rx;obtain⟨a1,us1,rfl,h1,q1⟩:=rx;unfold ReV at ry;obtain⟨a2,us2,rfl,h2,q2⟩:=ry
  exact⟨EqAt.tuple_list h1 h2 hu,RcAt.tuple_list h1 h2 hu,RcNeAt.tuple_list h1 h2 hu⟩
 | .tup l1,.scr l2,hn,rx,ry=>
  unfold ReV at rx;obtain⟨a1,us1,rfl,h1,q1⟩:=rx;unfold ReV at ry;obtain⟨a2,us2,rfl,h2,q2⟩:=ry
  exact⟨EqAt.tuple_list h1 h2 hu,RcAt.tuple_list h1 h2 hu,RcNeAt.tuple_list h1 h2 hu⟩
 | .lst l1,.non,hn,rx,ry=>
  unfold ReV at rx;obtain⟨a1,us1,rfl,h1,q1⟩:=rx;obtain rfl:v=LW:=by unfold ReV at ry;exact ry
  exact⟨EqAt.list_none h1 hu,RcAt.list_none h1 hu,RcNeAt.list_none h1 hu⟩
 | .lst l1,.bl b2,hn,rx,ry=>
  unfold ReV at rx;obtain⟨a1,us1,rfl,h1,q1⟩:=rx;obtain rfl:v=Mr b2:=by unfold ReV at ry;exact ry
  exact⟨EqAt.list_bool b2 h1 hu,RcAt.list_bool b2 h1 hu,RcNeAt.list_bool b2 h1 hu⟩
 | .lst l1,.int i2,hn,rx,ry=>
  unfold ReV at rx;obtain⟨a1,us1,rfl,h1,q1⟩:=rx;obtain⟨k2,rfl⟩:∃k,v=MO i2 k:=by unfold ReV at ry;exact ry
  exact⟨EqAt.list_int i2 k2 h1 hu,RcAt.list_int i2 k2 h1 hu,RcNeAt.list_int i2 k2 h1 hu⟩
 | .lst l1,.str x2,hn,rx,ry=>
  unfold ReV at rx;obtain⟨a1,us1,rfl,h1,q1⟩:=rx;obtain⟨k2,rfl⟩:∃k,v=MP x2 k:=by unfold ReV at ry;exact ry
  exact⟨EqAt.list_str x2 k2 h1 hu,RcAt.list_str x2 k2 h1 hu,RcNeAt.list_str x2 k2 h1 hu⟩
 | .lst l1,.tup l2,hn,rx,ry=>
  unfold ReV at rx;obtain⟨a1,us1,rfl,h1,q1⟩:=rx;unfold ReV at ry;obtain⟨a2,us2,rfl,h2,q2⟩:=ry
  exact⟨EqAt.list_tuple h1 h2 hu,RcAt.list_tuple h1 h2 hu,RcNeAt.list_tuple h1 h2 hu⟩
 | .lst _,.lst _,hn,_,_=>exact hn.elim
 | .lst _,.scr _,hn,_,_=>exact hn.elim
 | .scr l1,.non,hn,rx,ry=>
  unfold ReV at rx;obtain⟨a1,us1,rfl,h1,q1⟩:=rx;obtain rfl:v=LW:=by unfold ReV at ry;exact ry
  exact⟨EqAt.list_none h1 hu,RcAt.list_none h1 hu,RcNeAt.list_none h1 hu⟩
 | .scr l1,.bl b2,hn,rx,ry=>
  unfold ReV at rx;obtain⟨a1,us1,rfl,h1,q1⟩:=rx;obtain rfl:v=Mr b2:=by unfold ReV at ry;exact ry
  exact⟨EqAt.list_bool b2 h1 hu,RcAt.list_bool b2 h1 hu,RcNeAt.list_bool b2 h1 hu⟩
 | .scr l1,.int i2,hn,rx,ry=>
  unfold ReV at rx;obtain⟨a1,us1,rfl,h1,q1⟩:=rx;obtain⟨k2,rfl⟩:∃k,v=MO i2 k:=by unfold ReV at ry;exact ry
  exact⟨EqAt.list_int i2 k2 h1 hu,RcAt.list_int i2 k2 h1 hu,RcNeAt.list_int i2 k2 h1 hu⟩
 | .scr l1,.str x2,hn,rx,ry=>
  unfold ReV at rx;obtain⟨a1,us1,rfl,h1,q1⟩:=rx;obtain⟨k2,rfl⟩:∃k,v=MP x2 k:=by unfold ReV at ry;exact ry
  exact⟨EqAt.list_str x2 k2 h1 hu,RcAt.list_str x2 k2 h1 hu,RcNeAt.list_str x2 k2 h1 hu⟩
 | .scr l1,.tup l2,hn,rx,ry=>
  unfold ReV at rx;obtain⟨a1,us1,rfl,h1,q1⟩:=rx;unfold ReV at ry;obtain⟨a2,us2,rfl,h2,q2⟩:=ry
  exact⟨EqAt.list_tuple h1 h2 hu,RcAt.list_tuple h1 h2 hu,RcNeAt.list_tuple h1 h2 hu⟩
 | .scr _,.lst _,hn,_,_=>exact hn.elim
 | .scr _,.scr _,hn,_,_=>exact hn.elim
theorem Eo:∀(n:Nat) (A:LZ) (s:Ld) (x y:T) (u v:La),(x.dep<=n\/y.dep<=n)->A.units+n<cLine->ReV s x u->ReV s y v->EqAt A s u v (bh x y)/\RcAt A s u v (bh x y)/\RcNeAt A s u v (!bh x y):=by
 intro n
 induction n with
 | zero=>
  intro A s x y u v hd hu rx ry
  exact vd A s x y u v (by cases x <;> cases y <;> simp_all [jk,T.dep]) (by omega) rx ry
 | succ n ih=>
  intro A s x y u v hd hu rx ry
  have hin:A.in1.units+n<cLine:=by show A.units+1+n<cLine;omega
  have items:∀(l m:List T) (us vs:List La),(deps l<=n\/deps m<=n)->ReVs s l us->ReVs s m vs->∃e:Nat->Bool,(∀j (h1:j<us.toArray.size) (h2:j<vs.toArray.size),EqAt A.in1 s us.toArray[j] vs.toArray[j] (e j)) ∧
    (∀(j:Nat) t u,l[j]? =some t->m[j]? =some u->e j=bh t u):=λl m us vs hd r1 r2=>by
   refine⟨λj=>bh (l.getD j .non) (m.getD j .non),λj h1 h2=> ?_,λj t u e1 e2=>by simp[Q1,e1,e2]⟩
   have l1:=r1.length
   have l2:=r2.length
   have h1':j<l.length:=by rw[l1];simpa using h1
   have h2':j<m.length:=by rw[l2];simpa using h2
   have e1:l[j]? =some l[j]:=by simp
   have e2:m[j]? =some m[j]:=by simp
   obtain⟨u1,z1,w1⟩:=r1.get e1;obtain⟨u2,z2,w2⟩:=r2.get e2
   have q1:us.toArray[j] =u1:=by
    have:us[j]? =some us.toArray[j]:=by simp
    rw[z1]at this;exact(LX this).symm
   have q2:vs.toArray[j] =u2:=by
    have:vs[j]? =some vs.toArray[j]:=by simp
    rw[z2]at this;exact(LX this).symm
   rw[q1,q2]
   have g1:l.getD j .non=l[j]:=by simp[Q1,e1]
   have g2:m.getD j .non=m[j]:=by simp[Q1,e2]
   show EqAt A.in1 s u1 u2 (bh (l.getD j .non) (m.getD j .non))
   rw[g1,g2];refine(ih A.in1 s l[j] m[j] u1 u2 ?_ hin w1 w2).1
   rcases hd with hd | hd
   ·exact .inl (Me (i8 e1) hd)
   ·exact .inr (Me (i8 e2) hd)
  have lists:∀(l m:List T) (a b:Addr) (us vs:List La),(deps l<=n\/deps m<=n)->ReVs s l us->ReVs s m vs->s.heap.IsList a us.toArray->s.heap.IsList b vs.toArray →
    EqAt A s (.ref a) (.ref b) (beqTs l m)/\RcAt A s (.ref a) (.ref b) (beqTs l m)/\RcNeAt A s (.ref a) (.ref b) (!beqTs l m):=λl m a b us vs hd r1 r2 h1 h2=>by
   have l1:=r1.length
   have l2:=r2.length
   have key:RcAt A s (.ref a) (.ref b) (beqTs l m)/\RcNeAt A s (.ref a) (.ref b) (!beqTs l m):=by
    by_cases hl:l.length=m.length
    ·obtain⟨e,he,hb⟩:=items l m us vs hd r1 r2
     have q:=lX l m e hb
     have q2:beqTs l m=(L7 us.toArray.size).all e:=by
      rw[q,hl,Nat.min_self];simp[l2.symm,hl.symm,l1]
     rw[q2]
     have hsz:us.toArray.size=vs.toArray.size:=by simp;omega
     exact⟨RcAt.lists h1 h2 hsz (by omega) he,RcNeAt.lists h1 h2 hsz (by omega) he⟩
    ·rw[qM hl]
     have hsz:(us.toArray.size != vs.toArray.size)=true:=by simp;omega
     exact⟨RcAt.lists_lengths h1 h2 hsz (by omega),RcNeAt.lists_lengths h1 h2 hsz (by omega)⟩
   refine⟨?_,key⟩
   by_cases hab:a=b
   ·subst hab
    have:=cQ h1 h2;subst this;rw[ReVs.refl r1 r2];exact EqAt.same _
   ·exact EqAt.of_refs hab key.1
  cases x with
  | tup l=>
   cases y with
   | tup m=>
    unfold ReV at rx ry;obtain⟨a,us,rfl,h1,r1⟩:=rx;obtain⟨b,vs,rfl,h2,r2⟩:=ry
    have hd':deps l<=n\/deps m<=n:=by
     simp only[T.dep]at hd;omega
    have l1:=r1.length
    have l2:=r2.length;obtain⟨e,he,hb⟩:=items l m us vs hd' r1 r2
    have q:=lX l m e hb
    have q2:beqTs l m=((L7 (min us.toArray.size vs.toArray.size)).all e&&us.toArray.size == vs.toArray.size):=by
     rw[q];simp[l1,l2]
    have key:RcAt A s (.ref a) (.ref b) (beqTs l m)/\RcNeAt A s (.ref a) (.ref b) (!beqTs l m):=by
     rw[q2];exact⟨RcAt.tuples h1 h2 (by omega) he,RcNeAt.tuples h1 h2 (by omega) he⟩
    unfold bh;refine⟨?_,key⟩
    by_cases hab:a=b
    ·subst hab
     have:=iZ h1 h2;subst this;rw[ReVs.refl r1 r2];exact EqAt.same _
    ·exact EqAt.of_refs hab key.1
   | _=>exact vd A s _ _ u v (by simp[jk]) (by omega) rx ry
  | lst l=>
   cases y with
   | lst m=>
    unfold ReV at rx ry;obtain⟨a,us,rfl,h1,r1⟩:=rx;obtain⟨b,vs,rfl,h2,r2⟩:=ry;unfold bh
    exact lists l m a b us vs (by simp only[T.dep]at hd;omega) r1 r2 h1 h2
   | scr m=>
    unfold ReV at rx ry;obtain⟨a,us,rfl,h1,r1⟩:=rx;obtain⟨b,vs,rfl,h2,r2⟩:=ry;unfold bh
    exact lists l (m.map T.int) a b us vs (by rw[fG];omega) r1 (dI r2) h1 h2
   | _=>exact vd A s _ _ u v (by simp[jk]) (by omega) rx ry
  | scr l=>
   cases y with
   | lst m=>
    unfold ReV at rx ry;obtain⟨a,us,rfl,h1,r1⟩:=rx;obtain⟨b,vs,rfl,h2,r2⟩:=ry;unfold bh;rw[o4]
    exact lists (l.map T.int) m a b us vs (by rw[fG];omega) (dI r1) r2 h1 h2
   | scr m=>
    unfold ReV at rx ry;obtain⟨a,us,rfl,h1,r1⟩:=rx;obtain⟨b,vs,rfl,h2,r2⟩:=ry;unfold bh;rw[qX]
    exact lists (l.map T.int) (m.map T.int) a b us vs (by rw[fG];omega) (dI r1) (dI r2) h1 h2
   | _=>exact vd A s _ _ u v (by simp[jk]) (by omega) rx ry
  | _=>exact vd A s _ _ u v (by simp[jk]) (by omega) rx ry
mutual
def T.nf:T->T
 | .tup l=> .tup (nfs l)
 | .lst l=> .lst (nfs l)
 | .scr l=> .lst (l.map .int)
 | .non=> .non
 | .bl b=> .bl b
 | .int b=> .int b
 | .str b=> .str b
 | .dct a b=> .dct a b
 | .ob a b c=> .ob a b c
def nfs:List T->List T
 | [] => []
 | t::l=>t.nf::nfs l
end
theorem uM:∀(l:List Int),nfs (l.map T.int)=l.map T.int
 | [] =>rfl
 | i::l=>by rw[Lf,nfs,uM l];simp[T.nf]
mutual
theorem lh:∀(t x:T),bh t.nf x=bh t x
 | .non,x=>by simp[T.nf]
 | .bl _,x=>by simp[T.nf]
 | .int _,x=>by simp[T.nf]
 | .str _,x=>by simp[T.nf]
 | .tup l,x=>by cases x <;> simp[T.nf,bh,beqTs_nf l]
 | .lst l,x=>by cases x <;> simp[T.nf,bh,beqTs_nf l]
 | .scr l,x=>by cases x <;> simp[T.nf,bh,o4,qX]
 | .dct _ _,x=>by simp[T.nf]
 | .ob _ _ _,x=>by simp[T.nf]
theorem beqTs_nf:∀(l m:List T),beqTs (nfs l) m=beqTs l m
 | [],m=>by simp[nfs]
 | t::l,m=>by cases m <;> simp[nfs,beqTs,lh t,beqTs_nf l]
end
theorem Hl {s:Ld}{t:T}{i:Int}{k:Tok}(r:ReV s t (.int i k)):t.nf= .int i:=by
 cases t with
 | non=>unfold ReV at r;cases r
 | bl b=>unfold ReV at r;cases r
 | int j=>unfold ReV at r;obtain⟨t,e⟩:=r;injection e with e1 _;subst e1;rfl
 | str x=>unfold ReV at r;obtain⟨t,e⟩:=r;cases e
 | tup l=>unfold ReV at r;obtain⟨a,its,e,_⟩:=r;cases e
 | lst l=>unfold ReV at r;obtain⟨a,its,e,_⟩:=r;cases e
 | scr l=>unfold ReV at r;obtain⟨a,its,e,_⟩:=r;cases e
 | dct _ _=>unfold ReV at r;exact r.elim
 | ob _ _ _=>unfold ReV at r;exact r.elim
theorem xW {s:Ld}:∀{l:List T} {us:List La} {ns:List Int},ReVs s l us->OR us ns->nfs l=ns.map T.int
 | [],us,ns,r,h=>by cases ReVs.AC.mp r;cases h;rfl
 | t::l,us,ns,r,h=>by
  obtain⟨u,ws,rfl,p,q⟩:=ReVs.me.mp r
  cases h with
  | cons a b hh=>rw[nfs,Hl p,xW q hh];rfl
mutual
theorem ReV.nf {s:Ld}:∀{t u:T} {v:La},ReV s t v->ReV s u v->t.nf=u.nf
 | .non,u,v,r,q=>by
  unfold ReV at r;subst r
  cases u <;> (unfold ReV at q) <;> first | rfl | (cases q;done) | (obtain⟨_,e⟩:=q;cases e;done) | (obtain⟨_,_,e,_⟩:=q;cases e;done)
 | .bl b,u,v,r,q=>by
  unfold ReV at r;subst r
  cases u <;> (unfold ReV at q) <;> first | (cases q;done) | (cases q;rfl) | (obtain⟨_,e⟩:=q;cases e;done) | (obtain⟨_,_,e,_⟩:=q;cases e;done)
 | .int b,u,v,r,q=>by
  unfold ReV at r;obtain⟨k,rfl⟩:=r
  cases u <;> (unfold ReV at q) <;> first | (cases q;done) | (obtain⟨_,e⟩:=q;cases e;done) | (obtain⟨_,e⟩:=q;cases e;rfl) | (obtain⟨_,_,e,_⟩:=q;cases e;done)
 | .str b,u,v,r,q=>by
  unfold ReV at r;obtain⟨k,rfl⟩:=r
  cases u <;> (unfold ReV at q) <;> first | (cases q;done) | (obtain⟨_,e⟩:=q;cases e;done) | (obtain⟨_,e⟩:=q;cases e;rfl) | (obtain⟨_,_,e,_⟩:=q;cases e;done)
 | .tup l,u,v,r,q=>by
  unfold ReV at r;obtain⟨a,its,rfl,h1,h2⟩:=r
  cases u with
  | non=>unfold ReV at q;cases q
  | dct _ _=>unfold ReV at q;exact q.elim
  | ob _ _ _=>unfold ReV at q;exact q.elim
  | bl _=>unfold ReV at q;cases q
  | int _=>unfold ReV at q;obtain⟨_,e⟩:=q;cases e
  | str _=>unfold ReV at q;obtain⟨_,e⟩:=q;cases e
  | tup m=>
   unfold ReV at q;obtain⟨a',its',e,h1',h2'⟩:=q;injection e with e;subst e
   have:=iZ h1 h1';subst this;unfold T.nf
   rw[ReVs.nf h2 h2']
  | lst m=>unfold ReV at q;obtain⟨a',its',e,h1',h2'⟩:=q;injection e with e;subst e;exact absurd rfl (ne_of_list_tuple h1' h1)
  | scr m=>unfold ReV at q;obtain⟨a',its',e,h1',h2'⟩:=q;injection e with e;subst e;exact absurd rfl (ne_of_list_tuple h1' h1)
 | .lst l,u,v,r,q=>by
  unfold ReV at r;obtain⟨a,its,rfl,h1,h2⟩:=r
  cases u with
  | non=>unfold ReV at q;cases q
  | dct _ _=>unfold ReV at q;exact q.elim
  | ob _ _ _=>unfold ReV at q;exact q.elim
  | bl _=>unfold ReV at q;cases q
  | int _=>unfold ReV at q;obtain⟨_,e⟩:=q;cases e
  | str _=>unfold ReV at q;obtain⟨_,e⟩:=q;cases e
  | lst m=>
   unfold ReV at q;obtain⟨a',its',e,h1',h2'⟩:=q;injection e with e;subst e
   have:=cQ h1 h1';subst this;unfold T.nf
   rw[ReVs.nf h2 h2']
  | tup m=>unfold ReV at q;obtain⟨a',its',e,h1',h2'⟩:=q;injection e with e;subst e;exact absurd rfl (ne_of_list_tuple h1 h1')
  | scr m=>
   unfold ReV at q;obtain⟨a',its',e,h1',h2'⟩:=q;injection e with e;subst e
   have:=cQ h1 h1';subst this;unfold T.nf
   rw[ReVs.nf h2 (dI h2'),uM]
 | .scr l,u,v,r,q=>by
  unfold ReV at r;obtain⟨a,its,rfl,h1,h2⟩:=r
  cases u with
  | non=>unfold ReV at q;cases q
  | dct _ _=>unfold ReV at q;exact q.elim
  | ob _ _ _=>unfold ReV at q;exact q.elim
  | bl _=>unfold ReV at q;cases q
  | int _=>unfold ReV at q;obtain⟨_,e⟩:=q;cases e
  | str _=>unfold ReV at q;obtain⟨_,e⟩:=q;cases e
  | lst m=>
   unfold ReV at q;obtain⟨a',its',e,h1',h2'⟩:=q;injection e with e;subst e
   have:=cQ h1 h1';subst this
   have z:=xW h2' h2;unfold T.nf
   rw[z]
  | tup m=>unfold ReV at q;obtain⟨a',its',e,h1',h2'⟩:=q;injection e with e;subst e;exact absurd rfl (ne_of_list_tuple h1 h1')
  | scr m=>
   unfold ReV at q;obtain⟨a',its',e,h1',h2'⟩:=q;injection e with e;subst e
   have:=cQ h1 h1';subst this
   rw[i5 h2 h2']
 | .dct _ _,u,v,r,q=>by unfold ReV at r;exact r.elim
 | .ob _ _ _,u,v,r,q=>by unfold ReV at r;exact r.elim
theorem ReVs.nf {s:Ld}:∀{l m:List T} {us:List La},ReVs s l us->ReVs s m us->nfs l=nfs m
 | [],m,us,r,q=>by
  cases ReVs.AC.mp r
  cases m with
  | nil=>rfl
  | cons _ _=>obtain⟨_,_,e,_⟩:=ReVs.me.mp q;cases e
 | t::l,m,us,r,q=>by
  obtain⟨v,ws,rfl,p,z⟩:=ReVs.me.mp r
  cases m with
  | nil=>cases ReVs.AC.mp q
  | cons u m=>
   obtain⟨v',ws',e,p',z'⟩:=ReVs.me.mp q;injection e with e1 e2
   subst e1 e2;rw[nfs,nfs,ReV.nf p p',ReVs.nf z z']
end
section
variable {X:Cx}{a b c:Expr}{fa fb fc:En->Rs T}{pos:Pos}
def hI (x y:T):Bool:=(decide (x.dep<=60)||decide (y.dep<=60))&&(x.nd&&y.nd)
def ve (x y:T):Rs T:=if hI x y=true then .ok (.bl (bh x y))else .bad
def pY (x y:T):Rs T:=if hI x y=true then .ok (.bl (!bh x y))else .bad
theorem i6 {x y:T}(h:x.dep<=60)(hx:x.nd=true)(hy:y.nd=true):hI x y=true:=by unfold hI;rw[decide_eq_true h,hx,hy];rfl
theorem jv {x y:T}(h:hI x y=true):x.nd=true/\y.nd=true:=by
 unfold hI at h;exact Mv.mp (Mv.mp h).2
theorem qz {x y:T}(h:hI x y=true):x.dep<=60\/y.dep<=60:=by
 unfold hI at h
 replace h:=(Mv.mp h).1
 rcases Bool.or_eq_true_iff.mp h with h | h
 ·exact .inl (of_decide_eq_true h)
 ·exact .inr (of_decide_eq_true h)
theorem qk (hu:X.A.units+60<cLine):OpT X (L0 .Eq) ve:=by
 intro pins s σ H O x y vx vy ux uy Q I hf rx ry r1 r2 hp;unfold ve at hp
 split at hp
 ·rename_i h
  have z:=Eo 60 X.A s x y ux uy (qz h) hu (Rep.val I (jv h).1 rx r1) (Rep.val I (jv h).2 ry r2);exact z.2.1 _ _ _ _ ⟨.bl _,H,I,rfl,hp H (Same.refl H) _ (Rep.bl_ _)⟩
 ·exact hp.elim
theorem nN (hu:X.A.units+60<cLine):OpT X (L0 .NotEq) pY:=by
 intro pins s σ H O x y vx vy ux uy Q I hf rx ry r1 r2 hp;unfold pY at hp
 split at hp
 ·rename_i h
  have z:=Eo 60 X.A s x y ux uy (qz h) hu (Rep.val I (jv h).1 rx r1) (Rep.val I (jv h).2 ry r2);exact z.2.2 _ _ _ _ ⟨.bl _,H,I,rfl,hp H (Same.refl H) _ (Rep.bl_ _)⟩
 ·exact hp.elim
def T.items:T->Option (List T)
 | .tup l=>some l
 | .lst l=>some l
 | .scr l=>some (l.map T.int)
 | _=>none
def jR (x:T)(l:List T):Bool:=l.any λy=>bh y x
def HQ (x y:T):Rs T:=match y.items with
 | some l=>if (x.dep<=60\/deps l<=60)/\x.nd=true/\y.nd=true then .ok (.bl (jR x l))else .bad
 | none=> .bad
def r6 (x y:T):Rs T:=match y.items with
 | some l=>if (x.dep<=60\/deps l<=60)/\x.nd=true/\y.nd=true then .ok (.bl (!jR x l))else .bad
 | none=> .bad
theorem xE {A:LZ}{s:Ld}{x:T}{ux:La}(rx:ReV s x ux)(hu:A.units+60<cLine){l:List T}{us:List La}(hd:x.dep<=60\/deps l<=60)(r:ReVs s l us) :
  ∃e:La->Bool,(∀y∈us,EqAt A s y ux (e y))/\us.any e=jR x l:=by
 classical
 have ex:∀y∈us,∃t∈l,ReV s t y:=λy hy=>by
  obtain⟨i,hi,rfl⟩:=Nr hy
  have hl:=r.length
  have e1:l[i]? =some l[i]:=by simp
  obtain⟨u,q1,q2⟩:=r.get e1
  have:us[i]? =some us[i]:=by simp
  rw[this]at q1;cases q1;exact⟨l[i],Mz _,q2⟩
 let e:La->Bool:=λy=>decide (∃t∈l,ReV s t y/\bh t x=true)
 have dep:∀t∈l,t.dep<=60\/x.dep<=60:=λt ht=>by
  rcases hd with h | h
  ·exact .inr h
  ·obtain⟨i,hi,rfl⟩:=Nr ht
   exact .inl (Me (i8 (i:=i) (by simp)) h)
 have uniq:∀y t t',ReV s t y->ReV s t' y->bh t x=bh t' x:=λy t t' z z'=>by
  rw[<-lh t,<-lh t',ReV.nf z z']
 have agree:∀y t,t∈l->ReV s t y->e y=bh t x:=λy t h z=>by
  show decide (∃t∈l,ReV s t y/\bh t x=true)=bh t x
  cases q:bh t x with
  | true=>exact decide_eq_true ⟨t,h,z,q⟩
  | false=>
   refine decide_eq_false ?_
   rintro ⟨t',h',z',q'⟩
   rw[<-uniq y t t' z z',q]at q';cases q'
 refine⟨e,λy hy=> ?_,?_⟩
 ·obtain⟨t,h,z⟩:=ex y hy
  rw[agree y t h z];exact(Eo 60 A s t x y ux (dep t h) hu z rx).1
 ·have go:∀(l':List T) (us':List La),(∀t∈l',t∈l)->ReVs s l' us'->us'.any e=l'.any λy=>bh y x:=by
   intro l'
   induction l' with
   | nil=>intro us' _ r';rw[ReVs.AC.mp r'];rfl
   | cons t l' ih=>
    intro us' sub r';obtain⟨u,ws,rfl,p,q⟩:=ReVs.me.mp r';rw[Nt,Nt,ih ws (λt ht=>sub t (K9 _ ht)) q,agree u t (sub t Lg) p]
  exact go l us (λ_ h=>h) r
theorem qw {s:Ld}{y:T}{u:La}{l:List T}(r:ReV s y u)(h:y.items=some l):∃a us,u= .ref a/\ReVs s l us/\(s.heap.IsTuple a us.toArray\/s.heap.IsList a us.toArray):=by
 cases y with
 | tup m=>cases h;unfold ReV at r;obtain⟨a,us,e,h1,h2⟩:=r;exact⟨a,us,e,h2,.inl h1⟩
 | lst m=>cases h;unfold ReV at r;obtain⟨a,us,e,h1,h2⟩:=r;exact⟨a,us,e,h2,.inr h1⟩
 | scr m=>cases h;unfold ReV at r;obtain⟨a,us,e,h1,h2⟩:=r;exact⟨a,us,e,dI h2,.inr h1⟩
 | _=>cases h
theorem Ja (hu:X.A.units+61<cLine):OpT X (L0 .In) HQ:=by
 intro pins s σ H O x y vx vy ux uy Q I hf rx ry r1 r2 hp;unfold HQ at hp
 split at hp
 ·rename_i l hl
  split at hp
  ·rename_i hd3
   obtain⟨hd,hnx,hny⟩:=hd3;obtain⟨a,us,rfl,rs,hh⟩:=qw (Rep.val I hny ry r2) hl;obtain⟨e,he,ha⟩:=xE (A:=X.A.in1) (Rep.val I hnx rx r1) (by show X.A.units+1+60<cLine;omega) hd rs
   have q:=hp H (Same.refl H) _ (Rep.bl_ (jR x l))
   have he':∀y,y∈us.toArray->EqAt X.A.in1 s y ux (e y):=λy hy=>he y (by simpa using hy)
   have ha':us.toArray.any e=jR x l:=by simpa using ha
   rcases hh with hh | hh
   ·exact in_tupleAt e hh he' (by rw[ha'];exact⟨.bl _,H,I,rfl,q⟩)
   ·exact in_listAt e hh he' (by rw[ha'];exact⟨.bl _,H,I,rfl,q⟩)
  ·exact hp.elim
 ·exact hp.elim
theorem Ao (hu:X.A.units+61<cLine):OpT X (L0 .NotIn) r6:=by
 intro pins s σ H O x y vx vy ux uy Q I hf rx ry r1 r2 hp;unfold r6 at hp
 split at hp
 ·rename_i l hl
  split at hp
  ·rename_i hd3
   obtain⟨hd,hnx,hny⟩:=hd3;obtain⟨a,us,rfl,rs,hh⟩:=qw (Rep.val I hny ry r2) hl;obtain⟨e,he,ha⟩:=xE (A:=X.A.in1) (Rep.val I hnx rx r1) (by show X.A.units+1+60<cLine;omega) hd rs
   have q:=hp H (Same.refl H) _ (Rep.bl_ (!jR x l))
   have he':∀y,y∈us.toArray->EqAt X.A.in1 s y ux (e y):=λy hy=>he y (by simpa using hy)
   have ha':us.toArray.any e=jR x l:=by simpa using ha
   rcases hh with hh | hh
   ·exact notIn_tupleAt e hh he' (by rw[ha'];exact⟨.bl _,H,I,rfl,q⟩)
   ·exact notIn_listAt e hh he' (by rw[ha'];exact⟨.bl _,H,I,rfl,q⟩)
  ·exact hp.elim
 ·exact hp.elim
def ch (g g':T->T->Rs T)(fa fb fc:En->Rs T)(Z:En):Rs T:=do
 let x <-fa Z
 let y <-fb Z
 let z <-g x y
 match z with
 | .bl true=>do
  let w <-fc Z
  g' y w
 | .bl false=> .ok (.bl false)
 | _=> .bad
theorem Dp {op op':Sn}{g g':T->T->Rs T}(ho:OpT X (L0 op) g)(ho':OpT X (L0 op') g')(ha:cg X a fa)(hb:cg X b fb)(hc:cg X c fc)
  (hm:autoParam (lastMarks [op,op'] [b,c] =false) aqf._auto_1):cg X (.Compare a [op,op'] [b,c] pos) (ch g g' fa fb fc):=by
 intro pins s σ H Q I ⟨Z,O,E,hq⟩
 have h1:=aZ E hq;refine Compare_chain (bV (ha pins s σ H _ I h1) λv s1 ⟨x,H1,I1,r1,t,rt,s',E',q1⟩=>chain_link ?_) hm
 have h2:=aZ (f:=fb) E' q1;refine bV (hb pins s1 σ H1 _ I1 h2) λu s2 hh_=> ?_
 obtain⟨y,H2,I2,r2,t2,rt2,s'',E'',q2⟩:=hh_
 refine bV (ho pins s2 σ H2 O t t2 x y v u (λv' H'=> ∃t',Rep X.K O H' t' v'/\Same H2 H'/\Post X H' (match t' with
  | .bl true=>fc Z >>= λw=>g' t2 w
  | .bl false=> .ok (.bl false)
  | _=> .bad) (λt H'=> ∀v,Rep X.K O H' t v->Q v H')) I2 (λp=>E''.fresh) (rt.same s'') rt2 r1 r2 (Post.mono q2.bind λt' H' s3 q v rv=>⟨t',rv,s3,q⟩)) λd s3 ⟨z,H3,I3,r3,t3,rt3,sm3,q3⟩=> ?_
 have E3:=E''.same sm3
 split at q3
 ·cases Rep.FM.mp rt3
  cases r3;refine MF (ite_tt (chain_last ?_))
  have h4:=aZ (f:=fc) E3 q3;refine bV (hc pins s3 σ H3 _ I3 h4) λw' s4 ⟨z',H4,I4,r4,t4,rt4,s4',E4,q4⟩=> ?_
  exact ho' pins s4 σ H4 O t2 t4 y z' u w' Q I4 (λp=>E4.fresh) ((rt2.same sm3).same s4') rt4 r2 r4 q4
 ·cases Rep.FM.mp rt3
  cases r3;refine MF (ite_ff ⟨.bl false,H3,I3,rfl,q3 H3 (Same.refl H3) _ (Rep.bl_ false)⟩)
 ·exact q3.elim
def tb (f:En->Rs T)(Z:En):Rs Bool:=do
 let x <-f Z
 match x with
 | .bl k=> .ok k
 | _=> .bad
def bt (f:En->Rs Bool)(Z:En):Rs T:=do
 let k <-f Z
 .ok (.bl k)
theorem FX {e:Expr}{f:En->Rs T}(h:cg X e f)(he:autoParam (∀whole,isTrue e X.env whole=(do let v <-whole;standAt e.pos;holding [v] (truthy v))) aqc._auto_1):vC X e (tb f):=by
 intro pins s σ H Q I ⟨Z,O,E,hq⟩;refine z5 h he pins s σ H Q I ?_
 obtain⟨Z1,O1,E1,h1⟩:=aZ E hq;refine⟨Z1,O1,E1,Post.mono h1 λts H1 s1 q vs r=> ?_⟩
 obtain⟨t',r',s',E',q'⟩:=q vs r
 split at q'
 ·exact⟨_,Rep.FM.mp r',q' H1 (Same.refl H1)⟩
 ·exact q'.elim
theorem FZ {op:Sn}{g:T->T->Rs T}(ho:OpT X (L0 op) g)(ha:cg X a fa)(hb:cg X b fb)(hm:autoParam (Nv op b=false) aqd._auto_1):vC X (.Compare a [op] [b] pos) (tb (o2 g fa fb)):=by
 intro pins s σ H Q I ⟨Z,O,E,hq⟩
 have hq':Post X H (o2 g fa fb Z) λt H'=> ∀v,Rep X.K O H' t v->∃k,v= .bl k/\Q k H':=Post.mono hq.bind λt H' s' q v r=>by
  split at q
  ·exact⟨_,Rep.FM.mp r,q H' (Same.refl H')⟩
  ·exact q.elim
 have h1:=aZ E hq';refine Qn (bV (ha pins s σ H _ I h1) λv s1 ⟨x,H1,I1,r1,t,rt,s',E',q1⟩=> ?_) hm
 have h2:=aZ (f:=fb) E' q1;refine bV (hb pins s1 σ H1 _ I1 h2) λu s2 hh_=> ?_
 obtain⟨y,H2,I2,r2,t2,rt2,s'',E'',q2⟩:=hh_;refine bV (ho pins s2 σ H2 O t t2 x y v u _ I2 (λp=>E''.fresh) (rt.same s'') rt2 r1 r2 q2) λd s3 hh_=> ?_
 obtain⟨z,H3,I3,r3,k,e,q3⟩:=hh_;subst e;cases r3;exact MF ⟨H3,I3,q3⟩
def lZ (f g:En->Rs Bool)(Z:En):Rs Bool:=do
 let k <-f Z
 if k then g Z else .ok false
def ph (f g:En->Rs Bool)(Z:En):Rs Bool:=do
 let k <-f Z
 if k then .ok true else g Z
def du (f:En->Rs Bool)(Z:En):Rs Bool:=do
 let k <-f Z
 .ok (!k)
variable {f g:En->Rs Bool}{cp:List Expr}
abbrev Fq (X:Cx)(e:Expr)(f:En->Rs Bool):Prop:=PW X e (Cm X f)
theorem C6 (ha:vC X a f):Fq X (.BoolOp .And [a] pos) f:=Dr ha
theorem FV (ha:vC X a f):Fq X (.BoolOp .Or [a] pos) f:=Gm ha
theorem FW (ha:vC X a f)(hb:Fq X (.BoolOp .And (b::cp) pos) g):Fq X (.BoolOp .And (a::b::cp) pos) (lZ f g):=by
 intro wh pins s σ H Q I ⟨Z,O,E,hq⟩;refine Gn ha hb wh pins s σ H Q I ?_
 obtain⟨Z1,O1,E1,h1⟩:=kq E hq;refine⟨Z1,O1,E1,Post.mono h1 λk H1 s1 q=> ?_⟩
 obtain⟨s',E',q'⟩:=q
 cases k with
 | true=>rw[if_pos rfl];exact⟨Z,O,E',by simpa using q'⟩
 | false=>rw[if_neg LK];exact q' H1 (Same.refl H1)
theorem Iy (ha:vC X a f)(hb:Fq X (.BoolOp .Or (b::cp) pos) g):Fq X (.BoolOp .Or (a::b::cp) pos) (ph f g):=by
 intro wh pins s σ H Q I ⟨Z,O,E,hq⟩;refine IV ha hb wh pins s σ H Q I ?_
 obtain⟨Z1,O1,E1,h1⟩:=kq E hq;refine⟨Z1,O1,E1,Post.mono h1 λk H1 s1 q=> ?_⟩
 obtain⟨s',E',q'⟩:=q
 cases k with
 | true=>rw[if_pos rfl];exact q' H1 (Same.refl H1)
 | false=>rw[if_neg LK];exact⟨Z,O,E',by simpa using q'⟩
theorem qt_w {e:Expr}(h:Fq X e f):vC X e f:=h.pt
theorem FY (ha:vC X a f):vC X (.UnaryOp .Not a pos) (du f):=by
 intro pins s σ H Q I ⟨Z,O,E,hq⟩;refine z6 ha pins s σ H Q I ?_
 obtain⟨Z1,O1,E1,h1⟩:=kq E hq;exact⟨Z1,O1,E1,Post.mono h1 λk H1 s1 ⟨s',E',q'⟩=>q' H1 (Same.refl H1)⟩
def cD (f g:En->Rs T)(Z:En):Rs T:=do
 let x <-f Z
 match x with
 | .bl true=>g Z
 | .bl false=> .ok (.bl false)
 | _=> .bad
def Co (f g:En->Rs T)(Z:En):Rs T:=do
 let x <-f Z
 match x with
 | .bl true=> .ok (.bl true)
 | .bl false=>g Z
 | _=> .bad
def DN:T->Rs T
 | .bl k=> .ok (.bl (!k))
 | _=> .bad
theorem IG {op}(h:cg X a fa):cg X (.BoolOp op [a] pos) fa:=Gu h
theorem IU (ha:cg X a fa)(hb:cg X (.BoolOp .And (b::cp) pos) fb):cg X (.BoolOp .And (a::b::cp) pos) (cD fa fb):=by
 intro pins s σ H Q I ⟨Z,O,E,hq⟩;refine Gz ha hb pins s σ H Q I ?_
 obtain⟨Z1,O1,E1,h1⟩:=aZ E hq;refine⟨Z1,O1,E1,Post.mono h1 λts H1 s1 q vs r=> ?_⟩
 obtain⟨t',r',s',E',q'⟩:=q vs r
 split at q'
 ·exact⟨true,Rep.FM.mp r',by rw[if_pos rfl];exact⟨Z,O,E',q'⟩⟩
 ·exact⟨false,Rep.FM.mp r',by rw[if_neg LK];exact q' H1 (Same.refl H1) _ (Rep.bl_ false)⟩
 ·exact q'.elim
theorem q_or (ha:cg X a fa)(hb:cg X (.BoolOp .Or (b::cp) pos) fb):cg X (.BoolOp .Or (a::b::cp) pos) (Co fa fb):=by
 intro pins s σ H Q I ⟨Z,O,E,hq⟩;refine IX ha hb pins s σ H Q I ?_
 obtain⟨Z1,O1,E1,h1⟩:=aZ E hq;refine⟨Z1,O1,E1,Post.mono h1 λts H1 s1 q vs r=> ?_⟩
 obtain⟨t',r',s',E',q'⟩:=q vs r
 split at q'
 ·exact⟨true,Rep.FM.mp r',by rw[if_pos rfl];exact q' H1 (Same.refl H1) _ (Rep.bl_ true)⟩
 ·exact⟨false,Rep.FM.mp r',by rw[if_neg LK];exact⟨Z,O,E',q'⟩⟩
 ·exact q'.elim
theorem IH (ha:cg X a fa):cg X (.UnaryOp .Not a pos) (o1 DN fa):=by
 intro pins s σ H Q I ⟨Z,O,E,hq⟩;refine Gv ha pins s σ H Q I ?_
 obtain⟨Z1,O1,E1,h1⟩:=aZ E hq;refine⟨Z1,O1,E1,Post.mono h1 λts H1 s1 q vs r=> ?_⟩
 obtain⟨t',r',s',E',q'⟩:=q vs r;unfold DN at q'
 split at q'
 ·exact⟨_,Rep.FM.mp r',q' H1 (Same.refl H1) _ (Rep.bl_ _)⟩
 ·exact q'.elim
def Fd (f:En->Rs Bool)(fa fb:En->Rs T)(Z:En):Rs T:=do
 let k <-f Z
 if k then fa Z else fb Z
theorem q_if (hc:vC X c f)(ha:cg X a fa)(hb:cg X b fb):cg X (.IfExp c a b pos) (Fd f fa fb):=by
 intro pins s σ H Q I ⟨Z,O,E,hq⟩;refine Ah hc ha hb pins s σ H Q I ?_
 obtain⟨Z1,O1,E1,h1⟩:=kq E hq;refine⟨Z1,O1,E1,Post.mono h1 λk H1 s1 q=> ?_⟩
 obtain⟨s',E',q'⟩:=q
 cases k with
 | true=>rw[if_pos rfl];exact⟨Z,O,E',by simpa using q'⟩
 | false=>rw[if_neg LK];exact⟨Z,O,E',by simpa using q'⟩
end
end Tr
namespace HT
open PySem PyProof.Rows
section
variable {prog:LI}{w:Mj}{A:LZ}{E:La->Ld->Prop}{s:Ld}
theorem jB {t:Addr}{items:Array La}{Q:Bool->Ld->Prop}(ht:Ss s.heap t items)(h:Q true s):wpAny (model prog w) A (OS (.ref t)) Q E s:=by
 unfold OS;refine Lc (Ot ht.typeIs (Lm ?_))
 exact h
theorem getItem_tuple_whole {t sl:Addr}{items:Array La}{vl vu:La}{lo hi:Option Int}{Q:La->Ld->Prop}(ht:Ss s.heap t items)(hs:s.heap.IsSliceOf sl vl vu .none)(pl:Re vl lo)(pu:Re vu hi)
  (hw:sIx items.size 0 lo=0/\sIx items.size items.size hi=items.size) (h:Q (.ref t) s):wpAny (model prog w) A (getItem (.ref t) (.ref sl)) Q E s:=by
 obtain⟨os,hos,hcs,hds⟩:=id hs
 have hTs:s.TypeIs (.ref sl) "slice":=⟨os,hos,hcs⟩;unfold getItem
 try with_reducible refine OD ?_
 first | refine Lc (Lm ?_) | skip
 refine Lc (Pu ht.typeIs (by decide) ?_)
 refine Lc (MJ (name:=Lp "__getitem__") ht.typeIs LL
  (Nz LL ht.typeIs OQ ?_ (Pa _ _)))
 show wpAny _ _ (NP (.ref t) >>= _) _ _ s
 refine Lc (PF ht ?_)
 refine Lc (Ot hTs ?_)
 rw[if_pos (by decide)]
 refine Lc (gL hs pl pu ?_)
 have hyes:(((sIx items.size 0 lo:Nat):Int) == 0&&(1:Int) == 1&&(sIx items.size items.size hi - sIx items.size 0 lo) == items.size)=true:=by
  rw[hw.1,hw.2];simp
 show wpAny _ _ (if (((sIx items.size 0 lo:Nat):Int) == 0&&(1:Int) == 1&&(sIx items.size items.size hi - sIx items.size 0 lo) == items.size)=true then _ else _) _ _ s
 rw[if_pos hyes]
 first
  | refine Lc (jB ht ?_)
  | refine jB ht ?_
 try rw[if_pos rfl]
 first
  | exact Lc (Rw (Lm ⟨_,rfl,Lm h⟩))
  | exact Lc (Rw (Lc (Lm (Lm ⟨_,rfl,Lm h⟩))))
theorem lu {sl:Addr}{t:Tok}{n:Nat}{Q:Int×Int×Nat->Ld->Prop}(hs:s.heap.IsSliceOf sl .none .none (.int (-1) t))
  (h:Q ((n:Int) - 1,-1,n) s):wpAny (model prog w) A (M6 (.ref sl) (pure (n:Int))) Q E s:=by
 obtain⟨os,hos,hcs,hds⟩:=id hs;unfold M6 Pd;refine Lc (Lc (MS hos hds (x:=.none) rfl (Lc (MS hos hds (x:=.none) rfl (Lc (MS hos hds (x:=.int (-1) t) rfl (Lm ?_)))))))
 refine Lc (slicePart_int ?_)
 show wpAny _ _ (if ((-1:Int) == 0)=true then _ else _) _ _ s
 rw[if_neg (by decide)]
 refine Lc (Pf (Lc (Pf (Lc (Lm ?_)))))
 show wpAny _ _ (match Mx none none (-1) (n:Int)with | (lo,hi)=>pure (lo,(-1:Int),Mc lo hi (-1))) _ _ s
 have e1:Mx none none (-1) (n:Int)=((n:Int) - 1,-1):=by simp[Mx]
 have e2:Mc ((n:Int) - 1) (-1) (-1)=n:=by
  unfold Mc;simp only[show ¬((-1:Int) > 0)by decide,if_false,Int.neg_neg,RE]
  split <;> omega
 rw[e1]
 show wpAny _ _ (pure ((n:Int) - 1,(-1:Int),Mc ((n:Int) - 1) (-1) (-1))) _ _ s
 rw[e2];exact Lm h
theorem ur (xs:List La):((L7 xs.length).filterMap λ(m:Nat)=>xs.toArray[(((xs.length:Int) - 1)+(m:Int)*(-1)).toNat]?)=xs.reverse:=by
 apply Ro
 intro i
 have key:∀m∈L7 xs.length,xs.toArray[(((xs.length:Int) - 1)+(m:Int)*(-1)).toNat]? =some (xs.reverse.getD m .none):=λm hm=>by
  have hm':m<xs.length:=L4.mp hm
  have e:(((xs.length:Int) - 1)+(m:Int)*(-1)).toNat=xs.length - 1 - m:=by omega
  rw[e,List.getElem?_toArray,Lv (by omega)]
  have:m<xs.reverse.length:=by simpa using hm'
  simp[Q1,Lv this,List.getElem_reverse]
 have hmap:((L7 xs.length).filterMap λ(m:Nat)=>xs.toArray[(((xs.length:Int) - 1)+(m:Int)*(-1)).toNat]?)=(L7 xs.length).map λm=>xs.reverse.getD m .none:=by
  have gen:∀(r:List Nat) (f:Nat->Option La) (g:Nat->La),(∀m∈r,f m=some (g m))->r.filterMap f=r.map g:=by
   intro r f g
   induction r with
   | nil=>intro _;rfl
   | cons m r ih=>
    intro h;rw[MB,h m Lg,Lf,ih λm' hm'=>h m' (K9 _ hm')]
  exact gen _ _ _ key
 rw[hmap];rw[LD]
 by_cases hi:i<xs.length
 ·have hr:i<xs.reverse.length:=by simpa using hi
  rw[QH hi]
  simp[Q1,Lv hr]
 ·rw[Na (by simpa using hi),Na (by simpa using hi)]
  rfl
theorem slicePick_rev (xs:List La):Sj xs.toArray none none (some (-1))=xs.reverse.toArray:=by
 have e:Sj xs.toArray none none (some (-1))=((sliceRange ((xs.toArray.size:Int) - 1) (-1) (-1)).filterMap (xs.toArray[·]?)).toArray:=rfl
 rw[e,<-ur xs,Ln];unfold sliceRange
 have c:(if ((xs.length:Int) - 1) > -1 then(((xs.length:Int) - 1) - (-1) - (-1) - 1) / (-(-1:Int))else 0).toNat=xs.length:=by
  rw[Int.neg_neg,RE]
  split <;> omega
 show(((L7 (if ((xs.length:Int) - 1) > -1 then(((xs.length:Int) - 1) - (-1) - (-1) - 1) / (-(-1:Int))else 0).toNat).map λ(k:Nat)=>(((xs.length:Int) - 1)+(-1)*(k:Int)).toNat).filterMap (xs.toArray[·]?)).toArray=_
 rw[c,QV]
 congr 2
 funext k
 show xs.toArray[(((xs.length:Int) - 1)+(-1)*(k:Int)).toNat]? =_
 rw[P4]
theorem getItem_tuple_rev {u sl:Addr}{items:List La}{t:Tok}{Q:La->Ld->Prop}(ht:Ss s.heap u items.toArray)(hs:s.heap.IsSliceOf sl .none .none (.int (-1) t))
  (h:Q (.ref s.heap.objs.size) { s with heap:=s.heap.push { cls:=.type "tuple",data:=.seq items.reverse.toArray } })
  (hsz:items.length<=sizeLine):wpAny (model prog w) A (getItem (.ref u) (.ref sl)) Q E s:=by
 have htake:sizeOk (.seq items.reverse.toArray):=by
  show items.reverse.toArray.size<=sizeLine
  simpa using hsz
 obtain⟨os,hos,hcs,hds⟩:=id hs
 have hTs:s.TypeIs (.ref sl) "slice":=⟨os,hos,hcs⟩;unfold getItem
 try with_reducible refine OD ?_
 first | refine Lc (Lm ?_) | skip
 refine Lc (Pu ht.typeIs (by decide) ?_)
 refine Lc (MJ (name:=Lp "__getitem__") ht.typeIs LL
  (Nz LL ht.typeIs OQ ?_ (Pa _ _)))
 show wpAny _ _ (NP (.ref u) >>= _) _ _ s
 refine Lc (PF ht ?_)
 refine Lc (Ot hTs ?_)
 rw[if_pos (by decide)]
 refine Lc (lu (n:=items.toArray.size) hs ?_)
 show wpAny _ _ (if ((((items.toArray.size:Nat):Int) - 1) == 0&&(-1:Int) == 1&&items.toArray.size == items.toArray.size)=true then _ else _) _ _ s
 rw[if_neg (by simp)]
 have e:((L7 items.toArray.size).filterMap λ(m:Nat)=>items.toArray[((((items.toArray.size:Nat):Int) - 1)+(m:Int)*(-1)).toNat]?)=items.reverse:=by
  rw[Ln];exact ur items
 rw[e]
 first
  | exact Lc (m:=L3 _) (Mh (Lm ⟨_,rfl,Lm h⟩) htake)
  | exact Lc (m:=L3 _) (Mh (Lc (Lm (Lm ⟨_,rfl,Lm h⟩))) htake)
  | exact Lc (Lc (m:=L3 _) (Mh (Lm (Lm ⟨_,rfl,Lm h⟩)) htake))
  | exact Lc (Lc (m:=L3 _) (Mh (Lm ⟨_,rfl,Lm h⟩) htake))
end
end HT
namespace Tr
open PySem PySem.Spec PyProof.Rows L2
section
variable {X:Cx}{a b c:Expr}{fa fb fc:En->Rs T}{pos:Pos}
theorem Reps.atI {K:K7}{O:Ow}{H:Hp}{l:List T}{vs:List V}{i:Int}{t:T}(r:Reps K O H l vs)(e:L2.atI l i=some t):∃v,L2.atI vs i=some v/\Rep K O H t v:=by
 unfold L2.atI at e ⊢;rw[r.length]at e
 cases q:ixN vs.length i with
 | none=>rw[q]at e;cases e
 | some j=>
  rw[q]at e;obtain⟨v,e1,e2⟩:=r.get (i:=j) (t:=t) e;exact⟨v,e1,e2⟩
def aQ (x y:T):Rs T:=match x.items,y with
 | some l,.int i=>match L2.atI l i with
  | some t=> .ok t
  | none=> .bad
 | _,_=> .bad
theorem q_ix (ha:cg X a fa)(hb:cg X b fb)(hs:autoParam (ym b) aqg._auto_1):cg X (.Subscript a b pos) (o2 aQ fa fb):=by
 intro pins s σ H Q I ⟨Z,O,E,hq⟩
 have h1:=aZ E hq;refine Rv (bV (ha pins s σ H _ I h1) λv s1 hh_=> ?_)
 obtain⟨x,H1,I1,r1,t,rt,s',E',q1⟩:=hh_
 have h2:=aZ (f:=fb) E' q1;refine bV (hb pins s1 σ H1 _ I1 h2) λu s2 hh_=> ?_
 obtain⟨y,H2,I2,r2,t2,rt2,s'',E'',q2⟩:=hh_
 have rt':=rt.same s'';unfold aQ at q2
 split at q2
 ·rename_i l i hl
  split at q2
  ·rename_i z hz
   have hy:=Rep.Da.mp rt2;refine Hj a b pins s2 σ H2 x y v u Q I2 r1 r2 ?_ (hs _ _)
   cases t with
   | tup m=>
    cases hl;obtain⟨p,vs,e,n,q,rr⟩:=Rep.Do.mp rt';obtain⟨w,ew,rw'⟩:=rr.atI hz
    exact .inr (.inl ⟨p,vs,i,w,e,hy,SqT.of q,ew,q2 H2 (Same.refl H2) _ rw'⟩)
   | lst m=>
    cases hl;obtain⟨p,vs,e,n,q,rr⟩:=Rep.Fk.mp rt';obtain⟨w,ew,rw'⟩:=rr.atI hz
    exact .inl ⟨p,vs,i,w,e,hy,SqL.of q,ew,q2 H2 (Same.refl H2) _ rw'⟩
   | scr m=>
    cases hl;unfold Rep at rt';obtain⟨p,e,n,q⟩:=rt';obtain⟨w,ew,rw'⟩:=(Reps.ints (K:=X.K) (O:=O) (H:=H2) (ns:=m)).atI hz
    exact .inl ⟨p,_,i,w,e,hy,q,ew,q2 H2 (Same.refl H2) _ rw'⟩
   | _=>cases hl
  ·exact q2.elim
 ·exact q2.elim
def lb (l:List T)(lo hi:Option Int):List T:=(l.drop (HT.sIx l.length 0 lo)).take (HT.sIx l.length l.length hi - HT.sIx l.length 0 lo)
theorem Reps.cut {K:K7}{O:Ow}{H:Hp}{l:List T}{vs:List V}(r:Reps K O H l vs)(lo hi:Option Int):Reps K O H (lb l lo hi) (vk vs lo hi):=by
 unfold lb vk;rw[r.length];exact(r.drop _).take _
theorem zg {l:List T}{lo hi:Option Int}(h:HT.sIx l.length 0 lo=0/\HT.sIx l.length l.length hi=l.length):lb l lo hi=l:=by
 unfold lb;rw[h.1,h.2];simp
theorem sl_tup_whole:SlR X (λx lo hi H Q=> ∃a xs,x= .ref a/\SqT X.K H a xs/\(HT.sIx xs.length 0 lo=0/\HT.sIx xs.length xs.length hi=xs.length)/\Q (.ref a) H):=by
 intro pins s σ H x v vl vu lo hi sl Q I rx hs pl pu h;obtain⟨a,xs,rfl,hx,hw,q⟩:=h;cases rx;obtain⟨its,r,ht,hz⟩:=I.tuple hx
 have hlen:its.toArray.size=xs.length:=by rw[Ln];exact r.length.symm
 refine⟨"tuple",_,LL.lookup,ht.typeIs,?_⟩
 exact HT.getItem_tuple_whole ht hs pl pu (by rw[hlen];exact hw) ⟨.ref a,H,I,rfl,q⟩
def pN (_:En):Rs (Option Int):=.ok none
def pS (f:En->Rs T)(Z:En):Rs (Option Int):=do
 let x <-f Z
 match x with
 | .int i=> .ok (some i)
 | _=> .bad
def tPO (X:Cx)(f:En->Rs (Option Int)):TO:=λσ H Q=> ∃Z O,EnvO X.K O H Z σ/\Post X H (f Z) λb H'=>Q b H'
abbrev JV (X:Cx)(e:Option Expr)(f:En->Rs (Option Int)):Prop:=PO X e (tPO X f)
theorem Dg:JV X none pN:=by
 intro pins s σ H Q I ⟨Z,O,E,hq⟩;exact Dw pins s σ H Q I (hq H (Same.refl H))
theorem Df (ha:cg X a fa):JV X (some a) (pS fa):=by
 intro pins s σ H Q I ⟨Z,O,E,hq⟩;refine Dv ha pins s σ H Q I ?_
 obtain⟨Z1,O1,E1,h1⟩:=aZ E hq;refine⟨Z1,O1,E1,Post.mono h1 λts H1 s1 q vs r=> ?_⟩
 obtain⟨t',r',s',E',q'⟩:=q vs r
 split at q'
 ·exact⟨_,Rep.Da.mp r',q' H1 (Same.refl H1)⟩
 ·exact q'.elim
def slT (x:T)(lo hi:Option Int):Rs T:=match x with
 | .tup l=> .ok (.tup (lb l lo hi))
 | .lst l=> .ok (.lst (lb l lo hi))
 | _=> .bad
def sl (fe:En->Rs T)(fl fu:En->Rs (Option Int))(Z:En):Rs T:=do
 let x <-fe Z
 let l <-fl Z
 let u <-fu Z
 slT x l u
theorem tY {σ:L2.St}{H:Hp}{Z:En}{O:Ow}{α:Type}{f:En->Rs (Option Int)}{k:Option Int->Rs α}{Q:α->Hp->Prop}(E:EnvO X.K O H Z σ)(h:Post X H (f Z >>= k) Q) :
  tPO X f σ H λb H'=>Same H H'/\EnvO X.K O H' Z σ/\Post X H' (k b) Q:=
 ⟨Z,O,E,Post.mono h.bind λt H' s q=>⟨s,E.same s,q⟩⟩
theorem Dm {lo hi:Option Expr}{p2:Pos}{fl fu:En->Rs (Option Int)}(ha:cg X a fa)(hl:JV X lo fl)(hu:JV X hi fu):cg X (.Subscript a (.Slice lo hi none p2) pos) (sl fa fl fu):=by
 intro pins s σ H Q I ⟨Z,O,E,hq⟩;refine Ae (sl_tup.or (sl_tup_whole.or CV)) ha hl hu pins s σ H Q I ?_
 obtain⟨Z1,O1,E1,h1⟩:=aZ E hq;refine⟨Z1,O1,E1,Post.mono h1 λts H1 s1 q vs r=> ?_⟩
 obtain⟨t',r',s',E',q'⟩:=q vs r;obtain⟨Z2,O2,E2,h2⟩:=tY E' q';refine⟨Z2,O2,E2,Post.mono h2 λo1 H2 s2 q=> ?_⟩
 obtain⟨s2',E2',q2⟩:=q;obtain⟨Z3,O3,E3,h3⟩:=tY E2' q2;refine⟨Z3,O3,E3,Post.mono h3 λo2 H3 s3 q=> ?_⟩
 obtain⟨s3',E3',q3⟩:=q
 have rt:=(r'.same s2').same s3';unfold slT at q3
 split at q3
 ·rename_i l
  obtain⟨p,ws,e,n,q,rr⟩:=Rep.Do.mp rt
  have hlen:=rr.length
  by_cases hw:HT.sIx ws.length 0 o1=0/\HT.sIx ws.length ws.length o2=ws.length
  ·refine .inr (.inl ⟨p,ws,e,SqT.of q,hw,?_⟩)
   rw[<-hlen]at hw;refine q3 H3 (Same.refl H3) _ ?_
   rw[zg hw];exact Rep.Do.mpr ⟨p,ws,rfl,n,q,rr⟩
  ·exact .inl ⟨p,ws,e,SqT.of q,hw,λp' hp=>q3 _ (aX hp _) _ (fO hp (E3'.fresh hp) (rr.cut o1 o2))⟩
 ·rename_i l
  obtain⟨p,ws,e,n,q,rr⟩:=Rep.Fk.mp rt;exact .inr (.inr ⟨p,ws,e,SqL.of q,λp' hp=>q3 _ (aX hp _) _ (iN hp (E3'.fresh hp) (rr.cut o1 o2))⟩)
 ·exact q3.elim
def C2:T->Rs T
 | .tup l=> .ok (.tup l.reverse)
 | .lst l=> .ok (.lst l.reverse)
 | _=> .bad
theorem Reps.reverse {K:K7}{O:Ow}{H:Hp}:∀{l:List T} {vs:List V},Reps K O H l vs->Reps K O H l.reverse vs.reverse
 | [],vs,r=>by rw[Reps.AC.mp r];exact Reps.Gc
 | t::l,vs,r=>by
  obtain⟨v,us,rfl,p,q⟩:=Reps.me.mp r;rw[NL,NL];exact q.reverse.append (Reps.FS p Reps.Gc)
theorem IF {j:Nat}{p1 p2 p3:Pos}(ha:cg X a fa):cg X (.Subscript a (.Slice none none (some (.UnaryOp .USub (.Constant (.int 1) j p1) p2)) p3) pos) (o1 C2 fa):=by
 intro pins s σ H Q I ⟨Z,O,E,hq⟩
 have h1:=aZ E hq;refine Rv (bV (ha pins s σ H _ I h1) λv s1 hh_=> ?_)
 obtain⟨x,H1,I1,r1,t,rt,s',E',q1⟩:=hh_;refine wpAny_Slice ?_
 rw[Rf];refine Lm (Lm ?_)
 rw[evalPart_some];refine bV (EX zI Ag pins s1 σ H1 (λw' H'=>w'= .int (-1)/\H'=H1) I1 ⟨1,rfl,rfl,rfl⟩) λsv s2 hh_=> ?_
 obtain⟨w',H2,I2,r2,e1,e2⟩:=hh_;subst e1 e2;obtain⟨tk,rfl⟩:=r2
 have I4:Inv X pins σ H2 { s2 with heap:=s2.heap.push { cls:=.type "slice",data:=.fields #[.none,.none,.int (-1) tk] } }:=I2.kept (t':=s2.toks) λb ob q=>Lk _ q
 unfold C2 at q1
 split at q1
 ·rename_i l
  obtain⟨p,ws,e,n,q,rr⟩:=Rep.Do.mp rt;subst e;cases r1;obtain⟨its,r,ht,hz⟩:=I4.tuple (SqT.of q)
  have hs:Sr (s2.heap.push { cls:=.type "slice",data:=.fields #[.none,.none,.int (-1) tk] }) s2.heap.objs.size .none .none (.int (-1) tk):=O4 ..;refine tail_any (ops:=[.ref p,.ref s2.heap.objs.size]) ht.typeIs LL.lookup ?_ (by with_unfolding_all rfl)
  refine HT.getItem_tuple_rev ht hs ?_ (by rw[<-r.length];exact hz)
  refine⟨.ref _,_,I4.laid (t':=s2.toks) (o:=.tup ws.reverse) (λb ob q=>Lk _ q) (Lo _) ?_,rfl,?_⟩
  ·exact⟨by rw[QK];exact hz,_,r.reverse,QY _ _⟩
  ·have hn:=I4.hok.fresh (Lo _)
   exact q1 _ (aX hn _) _ (fO hn (E'.fresh hn) rr.reverse)
 ·rename_i l
  obtain⟨p,ws,e,n,q,rr⟩:=Rep.Fk.mp rt;subst e;cases r1;obtain⟨its,r,ht,hz⟩:=I4.list (SqL.of q)
  have hs:Sr (s2.heap.push { cls:=.type "slice",data:=.fields #[.none,.none,.int (-1) tk] }) s2.heap.objs.size .none .none (.int (-1) tk):=O4 ..;refine tail_any (ops:=[.ref p,.ref s2.heap.objs.size]) ht.isList.typeIs slot_list_getitem.lookup ?_ (by with_unfolding_all rfl)
  refine Pv ht.isList hs .none .none (.int (-1) tk) (by simp) ?_ (by rw[Ln,<-r.length];exact hz)
  rw[HT.slicePick_rev];refine⟨.ref _,_,I4.laid (t':=s2.toks) (o:=.lst ws.reverse) (λb ob q=>Lk _ q) (Lo _) ?_,rfl,?_⟩
  ·exact⟨by rw[QK];exact hz,_,0,r.reverse,Lz _ rfl⟩
  ·have hn:=I4.hok.fresh (Lo _)
   exact q1 _ (aX hn _) _ (iN hn (E'.fresh hn) rr.reverse)
 ·exact q1.elim
def CallT (X:Cx)(f:La)(g:List T->Rs T):Prop:=
 ∀(pins:List (Addr×Obj)) (s:Ld) (σ:L2.St) (H:Hp) (O:Ow) (ts:List T) (vs:List V) (us:List La) (Q:VK),Inv X pins σ H s->(∀p,H p=none->¬ O p)->Reps X.K O H ts vs->Vals vs us →
  Post X H (g ts) (λt H'=> ∀v,Rep X.K O H' t v->Q v H')->wpAny (model X.prog X.w) X.A (call f us) (EP X pins σ Q) X.xe s
theorem CallT.of {f:La}{r:List V->Hp->VK->Prop}(h:CallR X f r){g:List T->Rs T}
  (w:∀(H:Hp) (O:Ow) (ts:List T) (vs:List V) (Q:VK),(∀p,H p=none->¬ O p)->Reps X.K O H ts vs->Post X H (g ts) (λt H'=> ∀v,Rep X.K O H' t v->Q v H')->r vs H Q):CallT X f g:=
 λpins s σ H O ts vs us Q I hf rs rv hp=>h pins s σ H vs us Q I rv (w H O ts vs Q hf rs hp)
def cl (g:List T->Rs T)(fs:En->Rs (List T))(Z:En):Rs T:=fs Z >>= g
variable {e:Expr}{es:List Expr}{fs:En->Rs (List T)}{x:Str}{p:Pos}{id:String}{g:List T->Rs T}
theorem Dq (hc:CallT X (.builtin id) g)(hm:X.mg x=none)(hv:Mf x=some (.builtin id))(ha:p6 X (e::es) fs)(hg:autoParam (Gl X x) aqd._auto_1)(hn:autoParam (x≠ "__name__") aqb._auto_1)(hdb:autoParam ((x == ("__debug__" : Str))=false) aqb._auto_1)
  (he:autoParam (Lx (e::es) X.env=(false,eval e X.env)::Lx es X.env) aqd._auto_1) (hpl:autoParam ((backTo pos (Lx es X.env)).any (·.1)=false) aqd._auto_1):cg X (.Call (.Name x p) (e::es) [] pos) (cl g fs):=by
 intro pins s σ H Q I ⟨Z,O,E,hq⟩;refine MI (j4 I hg hm hv ?_ hn hdb)
 have h1:=gI E hq;exact Ol (bV (ha pos pins s σ H _ I h1) λus s1 ⟨vs,H1,I1,r1,ts,rs,s',E',q1⟩=>hc pins s1 σ H1 O ts vs us Q I1 (λp=>E'.fresh) rs r1 q1) he hpl
theorem zZ {Ty:String}(hc:CallT X (.type Ty) g)(hm:X.mg x=none)(hv:Mf x=some (.type Ty))(ha:p6 X (e::es) fs)(hg:autoParam (Gl X x) aqd._auto_1)(hn:autoParam (x≠ "__name__") aqb._auto_1)(hdb:autoParam ((x == ("__debug__" : Str))=false) aqb._auto_1)
  (he:autoParam (Lx (e::es) X.env=(false,eval e X.env)::Lx es X.env) aqd._auto_1) (hpl:autoParam ((backTo pos (Lx es X.env)).any (·.1)=false) aqd._auto_1):cg X (.Call (.Name x p) (e::es) [] pos) (cl g fs):=by
 intro pins s σ H Q I ⟨Z,O,E,hq⟩;refine MI (j4 I hg hm hv ?_ hn hdb)
 have h1:=gI E hq;exact M0 (bV (ha pos pins s σ H _ I h1) λus s1 ⟨vs,H1,I1,r1,ts,rs,s',E',q1⟩=>hc pins s1 σ H1 O ts vs us Q I1 (λp=>E'.fresh) rs r1 q1) he hpl
theorem Reps.one {K:K7}{O:Ow}{H:Hp}{t:T}{vs:List V}(r:Reps K O H [t] vs):∃v,vs= [v]/\Rep K O H t v:=by
 obtain⟨v,ws,rfl,p,q⟩:=Reps.me.mp r;cases Reps.AC.mp q;exact⟨v,rfl,p⟩
theorem Rep.sq {K:K7}{O:Ow}{H:Hp}{t:T}{v:V}{l:List T}(r:Rep K O H t v)(h:t.items=some l):∃a vs,v= .ref a/\¬ O a/\Reps K O H l vs/\(SqL K H a vs\/SqT K H a vs):=by
 cases t with
 | tup m=>cases h;obtain⟨a,vs,e,n,q,z⟩:=Rep.Do.mp r;exact⟨a,vs,e,n,z,.inr (SqT.of q)⟩
 | lst m=>cases h;obtain⟨a,vs,e,n,q,z⟩:=Rep.Fk.mp r;exact⟨a,vs,e,n,z,.inl (SqL.of q)⟩
 | scr m=>cases h;unfold Rep at r;obtain⟨a,e,n,q⟩:=r;exact⟨a,_,e,n,Reps.ints,.inl q⟩
 | _=>cases h
def bL:List T->Rs T
 | [.str x] =>if x.length<=sizeLine then .ok (.int x.length)else .bad
 | [x] =>match x.items with
  | some l=> .ok (.int l.length)
  | none=> .bad
 | _=> .bad
theorem bQ:CallT X (.builtin "len") bL:=CallT.of (call_len_seq.or tu) λH O ts vs Q hf rs hp=>by
 unfold bL at hp
 split at hp
 ·obtain⟨v,rfl,r⟩:=rs.one
  split at hp
  ·rename_i h
   exact .inr ⟨_,by rw[Rep.GM.mp r],h,hp H (Same.refl H) _ (Rep.Ke _)⟩
  ·exact hp.elim
 ·obtain⟨v,rfl,r⟩:=rs.one
  split at hp
  ·rename_i l hl
   obtain⟨a,vs,rfl,n,z,q⟩:=r.sq hl;exact .inl ⟨a,vs,rfl,q,hp H (Same.refl H) _ (by rw[<-z.length];exact Rep.Ke _)⟩
  ·exact hp.elim
 ·exact hp.elim
def jU:List T->Rs T
 | [.tup l] => .ok (.tup l)
 | [.lst l] => .ok (.tup l)
 | _=> .bad
theorem oU:CallT X (.type "tuple") jU:=CallT.of pZ λH O ts vs Q hf rs hp=>by
 unfold jU at hp
 split at hp
 ·obtain⟨v,rfl,r⟩:=rs.one
  obtain⟨a,ws,rfl,n,q,z⟩:=Rep.Do.mp r;exact⟨a,ws,rfl,.inr ⟨SqT.of q,hp H (Same.refl H) _ (Rep.Do.mpr ⟨a,ws,rfl,n,q,z⟩)⟩⟩
 ·obtain⟨v,rfl,r⟩:=rs.one
  obtain⟨a,ws,rfl,n,q,z⟩:=Rep.Fk.mp r;exact⟨a,ws,rfl,.inl ⟨SqL.of q,λl hl=>hp _ (aX hl _) _ (fO hl (hf l hl) z)⟩⟩
 ·exact hp.elim
def sM:List T->Rs T
 | [.int i] => .ok (.int i)
 | [.bl k] => .ok (.int (if k then 1 else 0))
 | _=> .bad
theorem BU:CallT X (.type "int") sM:=CallT.of zi λH O ts vs Q hf rs hp=>by
 unfold sM at hp
 split at hp
 ·obtain⟨v,rfl,r⟩:=rs.one
  exact .inl ⟨_,by rw[Rep.Da.mp r],hp H (Same.refl H) _ (Rep.Ke _)⟩
 ·obtain⟨v,rfl,r⟩:=rs.one
  exact .inr ⟨_,by rw[Rep.FM.mp r],hp H (Same.refl H) _ (Rep.Ke _)⟩
 ·exact hp.elim
def oZ:List T->Option (List Bool)
 | [] =>some []
 | .bl k::r=>(oZ r).map (k:: ·)
 | _=>none
def p0:List T->Rs T
 | [.lst l] =>match oZ l with
  | some ks=> .ok (.bl (ks.all λk=>k))
  | none=> .bad
 | _=> .bad
theorem oY {K:K7}{O:Ow}{H:Hp}:∀{l:List T} {ks:List Bool} {vs:List V} {us:List La},oZ l=some ks->Reps K O H l vs->Vals vs us->us=ks.map Mr
 | [],ks,vs,us,e,r,v=>by cases e;cases Reps.AC.mp r;cases v;rfl
 | t::l,ks,vs,us,e,r,v=>by
  obtain⟨w,ws,rfl,p,q⟩:=Reps.me.mp r
  cases t with
  | bl k=>
   unfold oZ at e
   cases z:oZ l with
   | none=>rw[z]at e;cases e
   | some ks'=>
    rw[z]at e;cases e
    cases v with
    | cons v1 v2=>
     cases Rep.FM.mp p;cases v1
     rw[oY z q v2];rfl
  | _=>cases e
theorem tp (hc:X.calm=true):CallT X (.builtin "all") p0:=by
 intro pins s σ H O ts vs us Q I hf rs rv hp;unfold p0 at hp
 split at hp
 ·obtain⟨v,rfl,r⟩:=rs.one
  split at hp
  ·rename_i ks hk
   obtain⟨a,ws,rfl,n,q,z⟩:=Rep.Fk.mp r;obtain⟨u,rfl,ru⟩:=m9 rv;cases ru;obtain⟨its,r',pl,hz⟩:=I.list (SqL.of q)
   have hits:=oY hk z r';refine call_all_walk (Pt pl.isList ?_)
   have hne:a≠s.heap.objs.size:=λe=>by
    obtain⟨o,ho,_⟩:=pl.isList;rw[e]at ho;exact absurd (Lq ho) (LQ _)
   refine⟨s.heap.objs.size,_,_,_,_,_,λi=>(ks[i]?).getD true,rfl,Walks.list (A:=X.A.in1) (I.ok.hd hc) s.heap.objs.size a hne its.toArray,⟨⟨_,Lz _ rfl,rfl,rfl⟩,?_⟩,?_,?_⟩
   ·obtain⟨o,ho,hh⟩:=pl.isList
    exact⟨o,Lk _ ho,hh⟩
   ·intro i v s' Q' E' hP hQ'
    subst hits
    dsimp only at hQ'
    have hP':(ks.map Mr)[i]? =some v:=by simpa using hP
    rw[LD]at hP'
    cases e:ks[i]? with
    | none=>rw[e]at hP';cases hP'
    | some k=>
     rw[e]at hP' hQ';cases hP';exact MF hQ'
   ·intro h' tk hk'
    have hlen:its.toArray.size=ks.length:=by rw[hits];simp
    have e:((L7 its.toArray.size).all λi=>(ks[i]?).getD true)=(ks.all λk=>k):=by
     rw[hlen];rw[Bool.eq_iff_iff,LG,LG]
     constructor
     ·intro h x hx
      obtain⟨i,hi,rfl⟩:=Nr hx
      have:=h i (L4.mpr hi)
      simpa [hi]using this
     ·intro h i hi
      have hi':=L4.mp hi
      have:=h ks[i] (Mz hi')
      simpa [hi']using this
    rw[e]
    have I1:Inv X pins σ H { s with heap:=s.heap.push { cls:=.type "list_iterator",data:=.fields #[.ref a,.int 0 0] } }:=I.kept (t':=s.toks) λb o e=>Lk _ e
    have I2:Inv X pins σ H { s with heap:=h',toks:=tk }:=by
     have:=I1.turned (h':=h') (t':=tk) (it:=s.heap.objs.size) (λb o hb e=>hk' b o (by simpa using hb) e) (I.hok.fresh (Lo _))
      (O5 I.lt) (.inr I.sz) (λx c e z=> ?_) (λp hp z=> ?_)
     ·exact this
     ·obtain⟨v,q⟩:=I.cell x c e
      exact absurd (Ly q.lt (Oq z.symm)) (LQ _)
     ·exact absurd (Ly (Lq (I.pin p hp).1) (Oq z.symm)) (LQ _)
    exact⟨.bl _,H,I2,rfl,hp H (Same.refl H) _ (Rep.bl_ _)⟩
  ·exact hp.elim
 ·exact hp.elim
end
def T.ty:T->Option String
 | .non=>some "NoneType"
 | .bl _=>some "bool"
 | .int _=>some "int"
 | .str _=>some "str"
 | .tup _=>some "tuple"
 | .lst _=>some "list"
 | .scr _=>none
 | .dct _ _=>none
 | .ob _ _ _=>none
def u7 (i b t l s:Bool)(Ty:String):Option Bool:=match Ty with
 | "int" =>some i | "bool" =>some b | "tuple" =>some t | "list" =>some l | "str" =>some s
 | _=>none
def xU (n Ty:String):Option Bool:=match n with
 | "NoneType" =>u7 false false false false false Ty
 | "bool" =>u7 true true false false false Ty
 | "int" =>u7 true false false false false Ty
 | "str" =>u7 false false false false true Ty
 | "tuple" =>u7 false false true false false Ty
 | "list" =>u7 false false false true false Ty
 | _=>none
theorem yZ (K:K7){n Ty:String}{b:Bool}(h:xU n Ty=some b):PySem.W.kitOne K (.type n) (.type Ty)=some b:=by
 unfold xU at h
 split at h <;> first | (cases h;done) | (unfold u7 at h;split at h <;> first | (cases h;done) | (cases h;kernel_rfl))
def Ef (Ty:String)(t:T):Rs T:=match t.ty with
 | some n=>match xU n Ty with
  | some b=> .ok (.bl b)
  | none=> .bad
 | none=> .bad
theorem Rep.K5 {K:K7}{O:Ow}{H:Hp}{t:T}{v:V}{n:String}(r:Rep K O H t v)(h:t.ty=some n):l0 K H v (.type n):=by
 cases t with
 | non=>cases h;cases Rep.IR.mp r;exact .non
 | bl b=>cases h;cases Rep.FM.mp r;exact .bl b
 | int b=>cases h;cases Rep.Da.mp r;exact .int b
 | str b=>cases h;cases Rep.GM.mp r;exact .str b
 | tup l=>cases h;obtain⟨a,vs,rfl,_,q,_⟩:=Rep.Do.mp r;exact .tup q
 | lst l=>cases h;obtain⟨a,vs,rfl,_,q,_⟩:=Rep.Fk.mp r;exact .lst q
 | scr l=>cases h
 | dct _ _=>cases h
 | ob _ _ _=>cases h
section
variable {X:Cx}{a b c e:Expr}{es:List Expr}{fa fb fc:En->Rs T}{fs:En->Rs (List T)}{pos p p2:Pos}{x:Str}
theorem mJ:Mf "isinstance" =some (.builtin "isinstance"):=by decide+kernel
theorem IL {tn:Str}{Ty:String}(hm:X.mg "isinstance" =none)(hmt:X.mg tn=none)(hv:Mf tn=some (.type Ty))(ha:cg X a fa)(hg:autoParam (Gl X "isinstance") aqd._auto_1)(hgt:autoParam (Gl X tn) aqd._auto_1)
  (hn:autoParam (tn≠ "__name__") aqb._auto_1) (hd:autoParam ((tn == ("__debug__" : Str))=false) aqb._auto_1)
  (he:autoParam (Lx [a,.Name tn p2] X.env=(false,eval a X.env)::Lx [.Name tn p2] X.env) aqd._auto_1) (hpl:autoParam ((backTo pos (Lx [.Name tn p2] X.env)).any (·.1)=false) aqd._auto_1)
  (hs:autoParam (Lx [.Name tn p2] X.env=(false,eval (.Name tn p2) X.env)::Lx [] X.env) aqd._auto_1) :
  cg X (.Call (.Name "isinstance" p) [a,.Name tn p2] [] pos) (o1 (Ef Ty) fa):=by
 intro pins s σ H Q I ⟨Z,O,E,hq⟩;refine MI (j4 I hg hm mJ ?_ (by decide) (by decide))
 have hA:PA X [a,.Name tn p2] (zK (tP X fa) (zK (tC (.ty Ty)) Ic)):=gg ha (gg (DD (v:=.ty Ty) hgt hmt hv rfl hn hd) lA hs) he;obtain⟨Z1,O1,E1,h1⟩:=aZ E hq;refine Ol (bV (hA pos pins s σ H (λvs H'=> ∃v t,vs= [v,.ty Ty]/\Rep X.K O H' t v/\Post X H' (Ef Ty t) (λt H'=> ∀v,Rep X.K O H' t v->Q v H')) I ?_) λus s1 ⟨vs,H1,I1,r1,v,t,e1,rt,q⟩=> ?_) he hpl
 ·refine⟨Z1,O1,E1,Post.mono h1 λts H1 s1 q vs r=> ?_⟩
  obtain⟨t',r',s',E',q'⟩:=q vs r;exact⟨vs,t',rfl,r',q'⟩
 ·subst e1
  obtain⟨u,w',rfl,ru,rw'⟩:=HY r1;cases rw';unfold Ef at q
  split at q
  ·rename_i n hn'
   split at q
   ·rename_i bb hb
    exact yY I1 ru (rt.K5 hn') (yZ _ hb) λtk=>⟨.bl bb,H1,I1.tok _,rfl,q H1 (Same.refl H1) _ (Rep.bl_ _)⟩
   ·exact q.elim
  ·exact q.elim
def spP (K:K7)(n:Nat)(g:List T->Rs T):Sp:=λvs H Q _=> ∃ts O,Reps K O H ts vs/\(∀a,O a->Mtb H a)/\ts.length=n ∧
 match g ts with
 | .ok t=> ∀v H',Same H H'->Rep K O H' t v->Q v H'
 | _=>False
def RzC (P:LI)(w:Mj)(mg:Str->Option La)(outer:List Env)(H:Hp)(s:Ld)(c:Str)(ev:La)(s':Ld):Prop:=
 ∃e T C H',ev= .ref e/\mg c=some (.ref C)/\s'.os=s.os/\PD s'.gens/\Un (oK outer) [] H H' s.heap s'.heap/\HOk P w H' s'.heap/\Same H H'/\H' e=none/\s.heap.get? e=none/\JX s'.heap C e (some T)/\H' T=none/\s.heap.get? T=none
def FnX (P:LI)(w:Mj)(K:K7)(mg:Str->Option La)(base:Heap)(k:Nat)(f:Addr)(fd:Mp)(ps:List Str)(n:Nat)(g:List T->Rs T):Prop:=
 ∀(A:LZ) (outer:List Env) (s:Ld) (H:Hp) (args:Args) (us:List La) (vs:List V) (O:Ow) (ts:List T) (c:Str) (R:Si->Ld->Prop),Room k A->Env0 P w K mg base A outer s H->Qk s fd args (ps.zip us)->Vals vs us →
  Reps K O H ts vs->(∀a,O a->Mtb H a)->ts.length=n->g ts= .err c->(∀ev s',RzC P w mg outer H s c ev s'->R (.error ev) s')->codeAny (model P w) A (.call (.ref f) args) R s
structure Cw (P:LI)(w:Mj)(K:K7)(mg:Str->Option La)(base:Heap)(k:Nat)(f:Addr)(fd:Mp)(ps:List Str)(n:Nat)(g:List T->Rs T):Prop where
 h:o9 P w K mg base CX0 k f fd ps (spP K n g)
 x:FnX P w K mg base k f fd ps n g
theorem Au {P:LI}{w:Mj}{H:Hp}{h:Heap}{a:Addr}{o:HO}(x:ObjOk P w H h a o):∃u,h.get? a=some u:=by
 cases o with
 | lst xs=>obtain⟨_,_,_,_,e⟩:=x;exact⟨_,e⟩
 | tup xs=>obtain⟨_,_,_,ob,e,_⟩:=x;exact⟨_,e⟩
 | dK kvs=>obtain⟨_,_,_,_,o,_,_,e,_⟩:=x;exact⟨_,e⟩
 | dT kvs=>obtain⟨_,_,_,_,o,_,_,e,_⟩:=x;exact⟨_,e⟩
 | set S n=>obtain⟨o,_,_,_,e,_⟩:=x;exact⟨_,e⟩
 | ins C dx fs=>obtain⟨_,_,_,e,_⟩:=x;exact⟨_,e⟩
 | own y=>obtain⟨_,e⟩:=x;exact⟨_,e⟩
 | xd fs=>obtain⟨_,⟨_,_,_,e,_⟩,_⟩:=x;exact⟨_,e⟩
 | rng lo hi=>obtain⟨_,_,_,e⟩:=x;exact⟨_,e⟩
 | frz ob u=>obtain⟨e,_⟩:=x;exact⟨_,e⟩
 | tbl ps=>exact⟨_,(show h.get? a=some _ from x)⟩
 | met f y=>exact⟨_,(show h.get? a=some _ from x)⟩
 | ext φ=>obtain⟨_,⟨_,e⟩,_⟩:=x;exact⟨_,e⟩
theorem kM {X:Cx}{pins:List (Addr×Obj)}{σ:L2.St}{H:Hp}{s:Ld}(I:Inv X pins σ H s){e:Addr}(n:s.heap.get? e=none):H e=none:=by
 cases z:H e with
 | none=>rfl
 | some o=>
  obtain⟨o',ho'⟩:=Au (I.hok e o z);rw[n]at ho';cases ho'
theorem gy {X:Cx}{pins:List (Addr×Obj)}{σ:L2.St}{H:Hp}{s:Ld}(I:Inv X pins σ H s)(hex:X.ex= []){e:Addr}(n:s.heap.get? e=none):X.s₀.heap.get? e=none:=by
 cases z:X.s₀.heap.get? e with
 | none=>rfl
 | some o=>
  obtain⟨o',ho'⟩:=I.base.there e o z (by rw[hex];simp)
  rw[n]at ho';cases ho'
theorem Gk {n k:Nat}{f:Addr}{fd:Mp}{ps:List Str}{g:List T->Rs T}(F:Cw X.prog X.w X.K X.mg X.base k f fd ps n g)(hr:Room k X.A)(hm:X.mg x=some (.ref f))(hk:Nb X.K (.ref f)=true)(hb:Binds X.K fd ps [])(hps:ps.length=n)
  (hl:∀Z ts,fs Z= .ok ts->ts.length=n) (ha:p6 X (e::es) fs) (hg:autoParam (Gl X x) aqd._auto_1) (hdb:autoParam ((x == ("__debug__" : Str))=false) aqb._auto_1) (he:autoParam (Lx (e::es) X.env=(false,eval e X.env)::Lx es X.env) aqd._auto_1) (hpl:autoParam ((backTo pos (Lx es X.env)).any (·.1)=false) aqd._auto_1) :
  cg X (.Call (.Name x p) (e::es) [] pos) (cl g fs):=by
 intro pins s σ H Q I ⟨Z,O,E,hq⟩
 have hq':Post X H (fs Z >>= g) λt H'=> ∀v,Rep X.K O H' t v->Q v H':=hq
 cases q:fs Z with
 | bad=>rw[q]at hq';exact hq'.elim
 | err c=>
  rw[q]at hq';refine xr (E:=E0) F.h hr hg hm hk hb .nil xt ha hdb he hpl pins s σ H Q I ⟨Z,O,E,?_⟩
  rw[q]
  exact hq'
 | ok ts=>
  rw[q]at hq'
  have hq2:Post X H (g ts) λt H'=> ∀v,Rep X.K O H' t v->Q v H':=hq'
  cases q2:g ts with
  | bad=>rw[q2]at hq2;exact hq2.elim
  | ok t=>
   rw[q2]at hq2;refine xr (E:=E0) F.h hr hg hm hk hb .nil xt ha hdb he hpl pins s σ H Q I ⟨Z,O,E,?_⟩
   rw[q];intro H1 s1 vs rs;rw[LR];refine⟨ts,O,rs,(E.same s1).mtb,hl Z ts q,?_⟩
   rw[q2]
   exact λv H' s2 r=>hq2 H' (s1.trans s2) v r
  | err c=>
   rw[q2]at hq2;refine MI (g7 I hg hm ?_ hdb)
   refine ND (h₀:=X.base) I.ok.mod.kin hk (bV (ha pos pins s σ H (λvs H'=>Same H H'/\Reps X.K O H' ts vs) I ⟨Z,O,E,?_⟩) (λus s1 ⟨vs,H1,I1,r,sm,rs⟩=>⟨I1.kIn,?_⟩)) he hpl
   ·rw[q];exact λH' sm vs rs=>⟨sm,rs⟩
   ·have hlen:us.length=ps.length:=by rw[<-r.length,<-rs.length,hl Z ts q,hps]
    have hb':=hb s1 us I1.kIn (by rw[LR];exact hlen)
    rw[LR]at hb';refine Qq (N0 (F.x X.A X.stack s1 H1 ⟨us,[]⟩ us vs O ts c (λr s'=>match r with | .error ev=>X.xe ev s' | _=>False) hr I1.KA hb' r rs (E.same sm).mtb (hl Z ts q) q2 λev s' w=> ?_) λr s' hq=> ?_)
    ·obtain⟨ea,T,C,H',rfl,hmc,ho,hbare,hun,hok,sm2,hea,heo,fl,hT,hTo⟩:=w
     have I2:Inv X pins σ H' s':=I1.Kx ho hun hok hbare (λb z=>absurd z (by simp))
     exact hq2 pins _ _ ⟨ea,some T,C,σ,H',rfl,hmc,I2,λb o q _=>sm2 b o (sm b o q),hea,λhex=>gy I1 hex heo,fl,(λt zt=>by cases zt;exact⟨hT,λhex=>gy I1 hex hTo⟩),λpp hpp=>⟨λzz=>(by have:=(I1.pin pp hpp).1;rw[zz,heo]at this;cases this),λzz=>(by cases zz;have:=(I1.pin pp hpp).1;rw[hTo]at this;cases this)⟩⟩
    ·cases r with
     | error ev=>exact hq
     | ok fl=>exact hq.elim
def EU (X:Cx)(g:T->En->Rs En):TG:=λv σ H Q=> ∃Z O M t,EnvM X.K O M H Z σ/\Rep X.K O H t v/\match g t Z with
 | .ok Z'=> ∀σ',EnvM X.K O M H Z' σ'->Q σ' H
 | _=>False
abbrev Fs (X:Cx)(tg:Expr)(g:T->En->Rs En):Prop:=PG X tg (EU X g)
def tPGs (X:Cx)(g:List T->En->Rs En):Cr:=λvs σ H Q=> ∃Z O M ts,EnvM X.K O M H Z σ/\Reps X.K O H ts vs/\match g ts Z with
 | .ok Z'=> ∀σ',EnvM X.K O M H Z' σ'->Q σ' H
 | _=>False
abbrev Cf (X:Cx)(tg:List Expr)(g:List T->En->Rs En):Prop:=PGs X tg (tPGs X g)
theorem PG.imp {X:Cx}{e:Expr}{t t':TG}(h:PG X e t)(w:∀v σ H Q,t' v σ H Q->t v σ H Q):PG X e t':=λpins s σ H v u Q I r q=>h pins s σ H v u Q I r (w v σ H Q q)
theorem PGs.imp {X:Cx}{e:List Expr}{t t':Cr}(h:PGs X e t)(w:∀v σ H Q,t' v σ H Q->t v σ H Q):PGs X e t':=λpins s σ H v u Q I r q=>h pins s σ H v u Q I r (w v σ H Q q)
def gN (i:Nat)(t:T)(Z:En):Rs En:=if i<Z.length then .ok (Z.set i (.va t))else .bad
theorem EnvM.set {K:K7}{O:Ow}{M:Mn}{H:Hp}{Z:En}{σ:L2.St}{i:Nat}{t:T}{v:V}(E:EnvM K O M H Z σ)(hi:i<Z.length)(r:Rep K O H t v):EnvM K O M H (Z.set i (.va t)) (σ.set i (some v)) where
 len:=by rw[MH,MH];exact E.len
 val:=λj u e=>by
  by_cases hj:i=j
  ·subst hj
   rw[LH hi]at e
   cases e;exact⟨v,LH (by rw[<-E.len];exact hi),r⟩
  ·rw[LC hj]at e
   obtain⟨w,e1,e2⟩:=E.val j u e;exact⟨w,by rw[LC hj];exact e1,e2⟩
 own:=λj o e=>by
  by_cases hj:i=j
  ·subst hj
   rw[LH hi]at e
   cases e
  ·rw[LC hj]at e
   obtain⟨w,e1,e2⟩:=E.own j o e;exact⟨w,by rw[LC hj];exact e1,e2⟩
 sub:=E.sub
 dis:=E.dis
 trk:=E.trk
theorem Dk (i:Nat)(hN:X.N.Nodup)(hi:autoParam (X.N[i]? =some x) aqd._auto_1)(hx:autoParam (Loc X.env.scope x) aqh._auto_1)(hf:autoParam (X.fn x=true\/X.env.scope.names.lookup x=some .local) aqa._auto_1):Fs X (.Name x pos) (gN i):=
 PG.imp (xo hN hi hx hf) λv σ H Q hh_=>by
  obtain⟨Z,O,M,t,E,r,h⟩:=hh_;unfold gN at h
  split at h
  ·rename_i Z' e
   split at e
   ·rename_i hl
    cases e;exact h _ (E.set hl r)
   ·cases e
  ·exact h.elim
def vB (ts:List T)(Z:En):Rs En:=match ts with
 | [] => .ok Z
 | _=> .bad
def kW (g:T->En->Rs En)(gs:List T->En->Rs En)(ts:List T)(Z:En):Rs En:=match ts with
 | t::r=>do
  let Z1 <-g t Z
  gs r Z1
 | [] => .bad
theorem Dj:Cf X [] vB:=PGs.imp xn λvs σ H Q hh_=>by
 obtain⟨Z,O,M,ts,E,r,h⟩:=hh_;unfold vB at h
 cases ts with
 | nil=>exact⟨Reps.AC.mp r,h σ E⟩
 | cons _ _=>exact h.elim
theorem zX {g:T->En->Rs En}{gs:List T->En->Rs En}(h1:Fs X e g)(h2:Cf X es gs)
  (hs:autoParam ((L9 (e::es) X.env).map (·.2)=assign e X.env::(L9 es X.env).map (·.2)) aqd._auto_1):Cf X (e::es) (kW g gs):=
 PGs.imp (uu h1 h2 hs) λvs σ H Q hh_=>by
  obtain⟨Z,O,M,ts,E,r,h⟩:=hh_
  cases ts with
  | nil=>exact h.elim
  | cons t ts=>
   obtain⟨v,ws,rfl,p,q⟩:=Reps.me.mp r;refine⟨v,ws,rfl,Z,O,M,t,E,p,?_⟩
   unfold kW at h
   cases e1:g t Z with
   | bad=>simp[e1]at h
   | err c=>simp[e1]at h
   | ok Z1=>
    intro σ1 E1;refine⟨Z1,O,M,ts,E1,q,?_⟩
    simp only[e1,aA]at h
    cases e2:gs ts Z1 with
    | bad=>simp[e2]at h
    | err c=>simp[e2]at h
    | ok Z2=>
     simp only[e2]at h;exact λσ2 E2=>h σ2 E2
def gT (n:Nat)(gs:List T->En->Rs En)(t:T)(Z:En):Rs En:=match t with
 | .tup l=>if l.length=n then gs l Z else .bad
 | _=> .bad
theorem Gg {k n:Nat}{gs:List T->En->Rs En}(hc:X.calm=true)(h:Cf X es gs)(hn:autoParam ((L9 es X.env).length=n) aqd._auto_1)(hst:autoParam ((L9 es X.env).findIdx? (·.1)=none) aqd._auto_1):Fs X (.Tuple es k pos) (gT n gs):=
 PG.imp (Ad hc h hn hst) λv σ H Q hh_=>by
  obtain⟨Z,O,M,t,E,r,h⟩:=hh_;unfold gT at h
  cases t with
  | tup l=>
   obtain⟨a,vs,rfl,n',q,z⟩:=Rep.Do.mp r
   by_cases hl:l.length=n
   ·simp only[if_pos hl]at h
    exact⟨a,vs,rfl,SqT.of q,by rw[<-z.length];exact hl,Z,O,M,l,E,z,h⟩
   ·simp only[if_neg hl]at h
  | _=>exact h.elim
theorem SqL.nn {K:K7}{H:Hp}{a:Addr}{vs:List V}(q:SqL K H a vs):¬ Nw K H a:=λ⟨h1,h2⟩=>by
 rcases q with(q | ⟨o,q⟩) | ⟨o,_,_,q,_⟩
 ·rw[h1]at q;cases q
 ·rw[h1]at q;cases q
 ·rw[h2]at q;cases q
mutual
theorem Rep.more {K:K7}{O O':Ow}{H:Hp}(sub:∀a,O' a->O a\/Nw K H a):∀{t:T} {v:V},Rep K O H t v->Rep K O' H t v
 | .non,_,r=>by unfold Rep at r ⊢;exact r
 | .bl _,_,r=>by unfold Rep at r ⊢;exact r
 | .int _,_,r=>by unfold Rep at r ⊢;exact r
 | .str _,_,r=>by unfold Rep at r ⊢;exact r
 | .tup l,_,r=>by
  unfold Rep at r ⊢;obtain⟨a,vs,e,n,q,z⟩:=r
  exact⟨a,vs,e,λp=>(sub a p).elim n λw=>(by rw[w.1]at q;cases q),q,Reps.more sub z⟩
 | .lst l,_,r=>by
  unfold Rep at r ⊢;obtain⟨a,vs,e,n,q,z⟩:=r
  exact⟨a,vs,e,λp=>(sub a p).elim n λw=>(by rw[w.1]at q;cases q),q,Reps.more sub z⟩
 | .scr l,_,r=>by
  unfold Rep at r ⊢;obtain⟨a,e,n,q⟩:=r
  exact⟨a,e,λp=>(sub a p).elim n λw=>Tr.SqL.nn q w,q⟩
 | .dct ks ts,_,r=>by
  unfold Rep at r ⊢;obtain⟨a,kvs,e,n,q,k,z⟩:=r
  exact⟨a,kvs,e,λp=>(sub a p).elim n λw=>(by rcases q with q | ⟨_,q⟩ <;> rw[w.1]at q <;> cases q),q,k,Reps.more sub z⟩
 | .ob C ns ts,_,r=>by
  unfold Rep at r ⊢;obtain⟨a,dx,fs,e,n,q,k,z⟩:=r;exact⟨a,dx,fs,e,λp=>(sub a p).elim n λw=>(by rw[w.1]at q;cases q),q,k,Reps.more sub z⟩
theorem Reps.more {K:K7}{O O':Ow}{H:Hp}(sub:∀a,O' a->O a\/Nw K H a):∀{l:List T} {vs:List V},Reps K O H l vs->Reps K O' H l vs
 | [],_,r=>by unfold Reps at r ⊢;exact r
 | t::l,_,r=>by
  unfold Reps at r ⊢;obtain⟨v,ws,e,p,q⟩:=r;exact⟨v,ws,e,Rep.more sub p,Reps.more sub q⟩
end
theorem Rep.move {K:K7}{O O' P:Ow}{H H':Hp}{t:T}{v:V}(hP:∀a,P a->O a\/Nw K H a)(hO:∀a,O' a->O a\/Nw K H a)(h:SameO P H H')(r:Rep K O H t v):Rep K O' H' t v:=
 Rep.less (O:=λa=>O' a\/P a) (λ_ z=> .inl z) (Rep.keep h (λ_ z=> .inr z) (Rep.more (λa z=>z.elim (hO a) (hP a)) r))
theorem Reps.move {K:K7}{O O' P:Ow}{H H':Hp}{t:List T}{v:List V}(hP:∀a,P a->O a\/Nw K H a)(hO:∀a,O' a->O a\/Nw K H a)(h:SameO P H H')(r:Reps K O H t v):Reps K O' H' t v:=
 Reps.less (O:=λa=>O' a\/P a) (λ_ z=> .inl z) (Reps.keep h (λ_ z=> .inr z) (Reps.more (λa z=>z.elim (hO a) (hP a)) r))
def ItT (K:K7)(O:Ow)(H:Hp)(ts:List T)(J:It):Prop:=∀(P O':Ow),(∀a,P a->O a\/Nw K H a)->(∀a,O' a->O a\/Nw K H a)->∀(i:Nat) (Hc:Hp),SameO P H Hc->(∀a,O' a->∃o,Hc a=some o) →
 (ts.length<=i->J.stop i Hc)/\(∀t,ts[i]? =some t->J.go i Hc/\∀x Hc',J.yld i Hc x Hc'->Same Hc Hc'/\Rep K O' Hc' t x)
def tPI (X:Cx)(f:En->Rs (List T)):TI:=λσ H R=> ∃Z O,EnvO X.K O H Z σ/\Post X H (f Z) λts H'=> ∀J,ItT X.K O H' ts J->R J H'
abbrev EJ (X:Cx)(tg iter:Expr)(f:En->Rs (List T)):Prop:=PI X tg iter (tPI X f)
theorem PI.imp {tg iter:Expr}{t t':TI}(h:PI X tg iter t)(w:∀σ H R,t' σ H R->t σ H R):PI X tg iter t':=λpins s σ H R I q=>h pins s σ H R I (w σ H R q)
def iL (f:En->Rs T)(Z:En):Rs (List T):=do
 let x <-f Z
 match x with
 | .lst l=> .ok l
 | _=> .bad
def iT (f:En->Rs T)(Z:En):Rs (List T):=do
 let x <-f Z
 match x with
 | .tup l=> .ok l
 | _=> .bad
theorem xg {tg:Expr}(ha:cg X a fa):EJ X tg a (iL fa):=PI.imp (Dz ha) λσ H R hh_=>by
 obtain⟨Z,O,E,h⟩:=hh_;obtain⟨Z1,O1,E1,h1⟩:=aZ E h;refine⟨Z1,O1,E1,Post.mono h1 λts H1 s1 q vs r=> ?_⟩
 obtain⟨t',r',s',E',q'⟩:=q vs r
 split at q'
 ·rename_i l
  obtain⟨a,ws,rfl,n,q,z⟩:=Rep.Fk.mp r';refine⟨a,rfl,⟨ws,SqL.of q⟩,q' H1 (Same.refl H1) _ λP O' hP hO i Hc hs ht=> ?_⟩
  have hnP:¬ P a:=λz=>(hP a z).elim n λw=>by rw[w.1]at q;cases q
  refine⟨λhi=>⟨ws,SqL.of (hs _ _ q hnP),by rw[<-z.length];exact hi⟩,λt ht'=> ?_⟩
  obtain⟨v,e1,e2⟩:=z.get ht';refine⟨⟨ws,v,SqL.of (hs _ _ q hnP),e1⟩,λx Hc' y=> ?_⟩
  obtain⟨e,y⟩:=y;subst e
  have:=y ws (SqL.of (hs _ _ q hnP));rw[e1]at this;cases this;exact⟨Same.refl _,e2.move hP hO hs⟩
 ·exact q'.elim
theorem Ge {tg:Expr}(ha:cg X a fa):EJ X tg a (iT fa):=PI.imp (Gq ha) λσ H R hh_=>by
 obtain⟨Z,O,E,h⟩:=hh_;obtain⟨Z1,O1,E1,h1⟩:=aZ E h;refine⟨Z1,O1,E1,Post.mono h1 λts H1 s1 q vs r=> ?_⟩
 obtain⟨t',r',s',E',q'⟩:=q vs r
 split at q'
 ·rename_i l
  obtain⟨a,ws,rfl,n,q,z⟩:=Rep.Do.mp r';refine⟨a,rfl,⟨ws,SqT.of q⟩,q' H1 (Same.refl H1) _ λP O' hP hO i Hc hs ht=> ?_⟩
  have hnP:¬ P a:=λz=>(hP a z).elim n λw=>by rw[w.1]at q;cases q
  refine⟨λhi=>⟨ws,SqT.of (hs _ _ q hnP),by rw[<-z.length];exact hi⟩,λt ht'=> ?_⟩
  obtain⟨v,e1,e2⟩:=z.get ht';refine⟨⟨ws,v,SqT.of (hs _ _ q hnP),e1⟩,λx Hc' y=> ?_⟩
  obtain⟨e,y⟩:=y;subst e
  have:=y ws (SqT.of (hs _ _ q hnP));rw[e1]at this;cases this;exact⟨Same.refl _,e2.move hP hO hs⟩
 ·exact q'.elim
def rng (lo hi:Int):List T:=(L7 (hi - lo).toNat).map λ(k:Nat)=>T.int (lo+(k:Int))
def Cq (i:Int):Bool:=decide (-(2 ^ 62)<=i)&&decide (i<2 ^ 62)
def iR (f:En->Rs (List T))(Z:En):Rs (List T):=do
 let x <-f Z
 match x with
 | [.int j] =>if Cq j then .ok (rng 0 j)else .bad
 | [.int i,.int j] =>if Cq i&&Cq j then .ok (rng i j)else .bad
 | _=> .bad
theorem sO {i:Int}(h:Cq i=true) : -(2 ^ 62)<=i/\i<2 ^ 62:=by
 unfold Cq at h;rw[K8]at h;exact⟨of_decide_eq_true h.1,of_decide_eq_true h.2⟩
theorem xT {K:K7}{O:Ow}{H:Hp}(lo hi:Int):ItT K O H (rng lo hi) (Itr lo (hi - lo).toNat):=λP O' hP hO i Hc hs ht=>by
 refine⟨λh=> ?_,λt h=> ?_⟩
 ·show(hi - lo).toNat<=i
  unfold rng at h;rw[Lh,NM]at h;exact h
 ·unfold rng at h
  rw[LD]at h
  by_cases hi':i<(hi - lo).toNat
  ·rw[QH hi']at h
   cases h;refine⟨hi',λx Hc' y=> ?_⟩
   obtain⟨e,y⟩:=y;subst e y;exact⟨Same.refl _,Rep.Ke _⟩
  ·rw[Na (by simpa using hi')]at h
   cases h
theorem yE {tg:Expr}(hm:X.mg "range" =none)(ha:p6 X [a] fs)(hg:autoParam (Gl X "range") aqd._auto_1)(hs:autoParam (Lx [a] X.env= [(false,eval a X.env)]) aqd._auto_1):EJ X tg (.Call (.Name "range" p) [a] [] pos) (iR fs):=by
 intro pins s σ H R I ⟨Z,O,E,h⟩
 have h1:=gI E h;refine Call_ (j4 I hg hm boot_range (M0 (bV (ha pos pins s σ H _ I h1) λus s1 ⟨vs,H1,I1,r1,ts,rs,s',E',q1⟩=> ?_) hs rfl))
 split at q1
 ·obtain⟨v,rfl,r⟩:=rs.one
  split at q1
  ·rename_i j hj
   obtain⟨b1,b2⟩:=sO hj;cases Rep.Da.mp r
   cases r1 with
   | cons r rr=>
    cases rr;obtain⟨t,rfl⟩:=r;exact call_range_1 (um I1 (by omega) (by omega) b1 b2 (q1 H1 (Same.refl H1) _ (xT 0 j)))
  ·exact q1.elim
 ·obtain⟨v,ws,rfl,p1,q⟩:=Reps.me.mp rs
  obtain⟨v2,rfl,r⟩:=q.one
  split at q1
  ·rename_i i j hj
   rw[K8]at hj;obtain⟨b1,b2⟩:=sO hj.1;obtain⟨b3,b4⟩:=sO hj.2;cases Rep.Da.mp p1;cases Rep.Da.mp r
   cases r1 with
   | cons r rr=>
    cases rr with
    | cons r' rr=>
     cases rr;obtain⟨t,rfl⟩:=r;obtain⟨t',rfl⟩:=r';exact call_range_2 (um I1 b1 b2 b3 b4 (q1 H1 (Same.refl H1) _ (xT i j)))
  ·exact q1.elim
 ·exact q1.elim
end
section
variable {X:Cx}{a b c e:Expr}{es:List Expr}{fa fb fc:En->Rs T}{fs:En->Rs (List T)}{pos p p2:Pos}{x:Str}
def dz (src:List (Option Nat))(Z:En):En:=src.map λo=>match o with
 | some i=>match Z[i]? with
  | some (.va t)=> .va t
  | _=> .em
 | none=> .em
def dW (tgt:T->En->Rs En)(fc:En->Rs Bool)(fe:En->Rs T):List T->En->Rs (List T)
 | [],_=> .ok []
 | t::r,Z=>do
  let Z1 <-tgt t Z
  let k <-fc Z1
  if k then do
   let y <-fe Z1
   let ys <-dW tgt fc fe r Z1
   .ok (y::ys)
  else dW tgt fc fe r Z1
def jr (fi:En->Rs (List T))(src:List (Option Nat))(tgt:T->En->Rs En)(fc:En->Rs Bool)(fe:En->Rs T)(Z:En):Rs T:=do
 let ts <-fi Z
 if ts.length<=sizeLine then match dW tgt fc fe ts (dz src Z)with
  | .ok ys=> .ok (.lst ys)
  | _=> .bad
 else .bad
def bT (_:En):Rs Bool:=.ok true
def tP0 (K:K7)(f:En->Rs T):TE:=λσ H Q=> ∃Z O,EnvO K O H Z σ/\match f Z with
 | .ok t=> ∀H',Same H H'->∀v,Rep K O H' t v->Q v H'
 | _=>False
def tPT0 (K:K7)(f:En->Rs Bool):TT:=λσ H Q=> ∃Z O,EnvO K O H Z σ/\match f Z with
 | .ok t=> ∀H',Same H H'->Q t H'
 | _=>False
theorem tP0.up {f:En->Rs T}{σ:L2.St}{H:Hp}{Q:VK}(h:tP0 X.K f σ H Q):tP X f σ H Q:=by
 obtain⟨Z,O,E,h⟩:=h;refine⟨Z,O,E,?_⟩
 cases q:f Z with
 | ok t=>rw[q]at h;exact h
 | err c=>rw[q]at h;exact h.elim
 | bad=>rw[q]at h;exact h.elim
theorem tPT0.up {f:En->Rs Bool}{σ:L2.St}{H:Hp}{Q:Bool->Hp->Prop}(h:tPT0 X.K f σ H Q):Cm X f σ H Q:=by
 obtain⟨Z,O,E,h⟩:=h;refine⟨Z,O,E,?_⟩
 cases q:f Z with
 | ok t=>rw[q]at h;exact h
 | err c=>rw[q]at h;exact h.elim
 | bad=>rw[q]at h;exact h.elim
theorem Dh:Cv X [] (Cm X bT):=λpins s σ H Q I ⟨Z,O,E,h⟩=>Dx pins s σ H Q I (h H (Same.refl H))
abbrev noM:Mn:=λ_ _=>False
theorem yU {src:List (Option Nat)}{Z:En}{j:Nat}{o:OT}(e:(dz src Z)[j]? =some (.ow o)):False:=by
 unfold dz at e;rw[LD]at e
 cases q:src[j]? with
 | none=>rw[q]at e;cases e
 | some o'=>
  rw[q]at e
  cases o' with
  | none=>cases e
  | some i=>
   have e':(match Z[i]? with | some (Sl.va t)=>Sl.va t | _=>Sl.em)=Sl.ow o:=LX e
   split at e' <;> cases e'
theorem AR {K:K7}{O:Ow}{H:Hp}{Z:En}{σ:L2.St}(E:EnvO K O H Z σ)(src:List (Option Nat)):EnvM K O noM H (dz src Z) (fB src σ) where
 len:=by unfold dz fB;rw[Lh,Lh]
 val:=λj t e=>by
  unfold dz at e;unfold fB;rw[LD]at e ⊢
  cases q:src[j]? with
  | none=>rw[q]at e;cases e
  | some o=>
   rw[q]at e
   cases o with
   | none=>cases e
   | some i=>
    have e':(match Z[i]? with | some (Sl.va t)=>Sl.va t | _=>Sl.em)=Sl.va t:=LX e
    cases q2:Z[i]? with
    | none=>rw[q2]at e';cases e'
    | some z=>
     rw[q2]at e'
     cases z with
     | em=>cases e'
     | ow l=>cases e'
     | va t'=>
      cases e';obtain⟨v,e1,e2⟩:=E.val i _ q2;exact⟨v,by simp[e1],e2⟩
 own:=λj o e=>(yU e).elim
 sub:=λ_ _ z=>z.elim
 dis:=λ_ _ _ z=>z.elim
 trk:=E.mtb
theorem ORep.no {K:K7}{O:Ow}{H:Hp}{o:OT}{v:V}(r:ORep K O lp H o v):False:=by
 cases o with
 | lst l=>obtain⟨a,_,_,e,_⟩:=r;exact(e a).mpr rfl
 | dct ks ts=>obtain⟨a,_,_,e,_⟩:=r;exact(e a).mpr rfl
 | dd ks rows=>obtain⟨a,_,_,_,e,_⟩:=r;exact(e a).mpr (.inl rfl)
 | ob C ns ls=>obtain⟨a,_,_,_,e,_⟩:=r;exact(e a).mpr (.inl rfl)
theorem EnvM.move {K:K7}{O O' P:Ow}{H H':Hp}{Z:En}{σ:L2.St}(E:EnvM K O noM H Z σ)(hP:∀a,P a->O a\/Nw K H a)(hO:∀a,O' a->O a\/Nw K H a)(h:SameO P H H')(trk:∀a,O' a->Mtb H' a):EnvM K O' noM H' Z σ where
 len:=E.len
 val:=λi t e=>let ⟨v,e1,e2⟩:=E.val i t e;⟨v,e1,e2.move hP hO h⟩
 own:=λi o e=>let ⟨_,_,r⟩:=E.own i o e;r.no.elim
 sub:=λ_ _ z=>z.elim
 dis:=λ_ _ _ z=>z.elim
 trk:=trk
def HP (fi:En->Rs (List T))(src:List (Option Nat))(tgt:T->En->Rs En)(fc:En->Rs Bool)(fe:En->Rs T)(Z:En):Rs (List T):=fi Z >>= λts=>if ts.length<=sizeLine then(match dW tgt fc fe ts (dz src Z)with | .ok ys=>Rs.ok ys | _=> .bad)else .bad
theorem AQ {src:List (Option Nat)}{fi:En->Rs (List T)}{tgt:T->En->Rs En}{fc:En->Rs Bool}{fe:En->Rs T}{Z:En}:jr fi src tgt fc fe Z=HP fi src tgt fc fe Z >>= λl=> .ok (.lst l):=by
 unfold jr HP
 cases fi Z with
 | bad=>rfl
 | err c=>rfl
 | ok ts=>
  rw[aA,aA]
  by_cases hz:ts.length<=sizeLine
  ·rw[if_pos hz,if_pos hz]
   cases dW tgt fc fe ts (dz src Z) <;> rfl
  ·rw[if_neg hz,if_neg hz];rfl
theorem AO {src:List (Option Nat)}{fi:En->Rs (List T)}{tgt:T->En->Rs En}{fc:En->Rs Bool}{fe:En->Rs T}{σ:L2.St}{H:Hp}{Q:VK}{Z:En}{O:Ow}(E:EnvO X.K O H Z σ)
  (hq1:Post X H (HP fi src tgt fc fe Z) λall H1=> ∀D ys H',Nw X.K H1 D->Same H1 H'->H' D=some (.lst ys)->Reps X.K (λa=>O a\/a=D) H' all ys->Q (.ref D) H'):Ih X.K (tPI X fi) src (EU X tgt) (tPT0 X.K fc) (tP0 X.K fe) σ H Q:=by
 unfold HP at hq1;refine⟨Z,O,E,Post.mono hq1.bind λts H1 s1 q1 J hJ D hD hK=> ?_⟩
 have E1:=E.same s1
 by_cases hz:ts.length<=sizeLine
 ·rw[if_pos hz]at q1
  cases hall:dW tgt fc fe ts (dz src Z)with
  | bad=>rw[hall]at q1;exact q1.elim
  | err c=>rw[hall]at q1;exact q1.elim
  | ok all=>
   rw[hall]at q1
   have q2:∀D ys H',Nw X.K H1 D->Same H1 H'->H' D=some (.lst ys)->Reps X.K (λa=>O a\/a=D) H' all ys->Q (.ref D) H':=q1 H1 (Same.refl H1)
   have nD:Nw X.K H1 D:=⟨hD,hK⟩
   let O':Ow:=λa=>O a\/a=D
   have subO:∀a,O' a->O a\/Nw X.K H1 a:=λa z=>z.elim .inl λw=> .inr (w▸nD)
   -- the walk's word
   refine⟨λi m σ' ys H'=>m=ts.length - i/\i<=ts.length/\ys.length<=i/\H' D=some (.lst ys)/\SameO (λa=>a=D) (upd H1 D (.lst [])) H' ∧
    ∃Z' yts zs,EnvM X.K O' noM H' Z' σ'/\Reps X.K O' H' yts ys/\dW tgt fc fe (ts.drop i) Z'= .ok zs/\yts++zs=all,⟨ts.length,?_⟩,?_⟩
   ·have sN:Same H1 (upd H1 D (.lst [])):=aX hD _
    refine⟨by omega,Nq _,Lo _,aT,λb o e _=>e,dz src Z,[],all,?_,Reps.Gc,by simpa using hall,rfl⟩
    have E2:EnvM X.K O noM H1 (dz src Z) (fB src σ):=AR E1 src
    exact E2.move (P:=λa=>a=D) (λa z=> .inr (z▸nD)) subO (λb o e _=>sN b o e) λa z=>by
     rcases z with z | z
     ·exact(E1.mtb a z).same sN
     ·rw[z];exact .inl ⟨_,aT⟩
   ·rintro i m σ' ys H' ⟨rfl,hi',hyl,hDl,hsm,Z',yts,zs,E',ry,hl,hyz⟩
    refine⟨hDl,?_⟩
    have sm1:SameO (λa=>a=D) H1 H':=λb o e nb=>hsm b o (by rw[aH nb];exact e) nb
    have it:=hJ (λa=>a=D) O' (λa z=> .inr (z▸nD)) subO i H' sm1 (λa z=>(E'.trk a z).some)
    by_cases hlt:i<ts.length
    ·refine .inr ?_
     have hti:ts[i]? =some ts[i]:=by simp
     obtain⟨go,yl⟩:=it.2 ts[i] hti;refine⟨go,by omega,λxx Hc y=> ?_⟩
     obtain⟨sc,rx⟩:=yl xx Hc y
     have Ec:=E'.same sc;rw[NS hlt]at hl;unfold dW at hl;refine⟨Z',O',noM,ts[i],Ec,rx,?_⟩
     cases e1:tgt ts[i] Z' with
     | bad=>rw[e1]at hl;cases hl
     | err cc=>rw[e1]at hl;cases hl
     | ok Z1=>
      rw[e1,aA]at hl;intro σ1 Eg;refine⟨Z1,O',⟨noM,Eg⟩,?_⟩
      cases e2:fc Z1 with
      | bad=>rw[e2]at hl;cases hl
      | err cc=>rw[e2]at hl;cases hl
      | ok k=>
       rw[e2,aA]at hl;intro H3 s3
       have E3:=Eg.same s3
       have tot:Same H' H3:=sc.trans s3
       have D3:H3 D=some (.lst ys):=tot _ _ hDl
       have sm3:SameO (λa=>a=D) (upd H1 D (.lst [])) H3:=λb o e nb=>tot _ _ (hsm b o e nb)
       cases k with
       | false=>
        refine L2.iteF ?_
        have hl':dW tgt fc fe (ts.drop (i+1)) Z1= .ok zs:=by simpa using hl
        exact⟨ts.length - (i+1),by omega,rfl,hlt,by omega,D3,sm3,Z1,yts,zs,E3,ry.same tot,hl',hyz⟩
       | true=>
        refine L2.iteT ?_
        have hl':(fe Z1 >>= λy=>dW tgt fc fe (ts.drop (i+1)) Z1 >>= λys=>Rs.ok (y::ys))= .ok zs:=by simpa using hl
        refine⟨Z1,O',⟨noM,E3⟩,?_⟩
        cases e3:fe Z1 with
        | bad=>rw[e3]at hl';cases hl'
        | err cc=>rw[e3]at hl';cases hl'
        | ok yt=>
         rw[e3,aA]at hl'
         cases e4:dW tgt fc fe (ts.drop (i+1)) Z1 with
         | bad=>rw[e4]at hl';cases hl'
         | err cc=>rw[e4]at hl';cases hl'
         | ok zs'=>
          rw[e4,aA]at hl'
          have hzs:yt::zs'=zs:=by injection hl'
          intro H4 s4 v rv
          have D4:H4 D=some (.lst ys):=s4 _ _ D3
          have E4:=E3.same s4
          have tot4:Same H' H4:=tot.trans s4
          have smD:SameO (λa=>a=D) H4 (upd H4 D (.lst (ys++ [v]))):=λb o e nb=>by rw[aH nb];exact e
          have inO:∀a,a=D->O' a\/Nw X.K H4 a:=λa z=> .inl (.inr z)
          refine⟨D4,ts.length - (i+1),by omega,rfl,hlt,?_,aT,λb o e nb=>smD b o (s4 _ _ (sm3 b o e nb)) nb,Z1,yts++ [yt],zs',?_,?_,e4,?_⟩
          ·rw[Lb,MU];omega
          ·exact E4.move inO (λa z=> .inl z) smD λaa z=>by
            by_cases hz:aa=D
            ·rw[hz];exact .inl ⟨_,aT⟩
            ·unfold Mtb;rw[aH hz];exact E4.trk aa z
          ·have r1:Reps X.K O' H4 (yts++ [yt]) (ys++ [v]):=(ry.same tot4).append (Reps.FS rv Reps.Gc)
           exact r1.move inO (λa z=> .inl z) smD
          ·rw[LS,P5,hzs];exact hyz
    ·refine .inl ⟨it.1 (by omega),?_⟩
     have hi2:i=ts.length:=by omega
     subst hi2;rw[RU]at hl
     have hzs:zs= []:=by unfold dW at hl;injection hl with hl;exact hl.symm
     subst hzs;rw[LR]at hyz;subst hyz
     have sF:Same H1 H':=λb o e=>sm1 b o e λz=>by rw[z,hD]at e;cases e
     exact q2 D ys H' nD sF hDl ry
 ·rw[if_neg hz]at q1
  exact q1.elim
theorem xI {src:List (Option Nat)}{fi:En->Rs (List T)}{tgt:T->En->Rs En}{fc:En->Rs Bool}{fe:En->Rs T}{σ:L2.St}{H:Hp}{Q:VK}(h0:tP X (jr fi src tgt fc fe) σ H Q):Ih X.K (tPI X fi) src (EU X tgt) (tPT0 X.K fc) (tP0 X.K fe) σ H Q:=by
 obtain⟨Z,O,E,hq⟩:=h0;refine AO E ?_
 have e:jr fi src tgt fc fe Z=HP fi src tgt fc fe Z >>= λl=> .ok (.lst l):=AQ
 rw[e]at hq
 cases q:HP fi src tgt fc fe Z with
 | bad=>rw[q]at hq;exact hq.elim
 | err c=>rw[q]at hq;exact hq
 | ok l=>
  rw[q,aA]at hq;intro H1 s1 D ys H' nD sD eD rD;exact hq H' (s1.trans sD) _ (Rep.Fk.mpr ⟨D,ys,rfl,λz=>(E.same s1).fresh nD.1 z,eD,rD.less λa z=> .inl z⟩)
theorem q_lc {elt tg iter:Expr}{ifs:List Expr}{scope:Ov}{N':List Str}{src:List (Option Nat)}{fi:En->Rs (List T)}{tgt:T->En->Rs En}{fc:En->Rs Bool}{fe:En->Rs T}
  (hc:X.calm=true) (S:LcScope X scope N' src) (hi:EJ X tg iter fi)
  (block:∀cl C s₀ H₀ fp,Fs (cJ X scope cl N' C s₀ H₀ fp) tg tgt/\Cv (cJ X scope cl N' C s₀ H₀ fp) ifs (Cm (cJ X scope cl N' C s₀ H₀ fp) fc)/\cg (cJ X scope cl N' C s₀ H₀ fp) elt fe)
  (hs:autoParam (∀x,Mt iter X.env x=pure x) aqc._auto_1) :
  cg X (.ListComp elt [⟨tg,iter,ifs,0⟩] scope pos) (jr fi src tgt fc fe):=by
 have hPG:∀cl C s₀ H₀ fp,PG (cJ X scope cl N' C s₀ H₀ fp) tg (EU X tgt):=λcl C s₀ H₀ fp=>(block cl C s₀ H₀ fp).1
 have hPI:∀cl C s₀ H₀ fp,Cv (cJ X scope cl N' C s₀ H₀ fp) ifs (tPT0 X.K fc):=λcl C s₀ H₀ fp pins s σ H Q I h=>(block cl C s₀ H₀ fp).2.1 pins s σ H Q I (tPT0.up (X:=cJ X scope cl N' C s₀ H₀ fp) h)
 have hPE:∀cl C s₀ H₀ fp,PE (cJ X scope cl N' C s₀ H₀ fp) elt (tP0 X.K fe):=λcl C s₀ H₀ fp pins s σ H Q I h=>(block cl C s₀ H₀ fp).2.2 pins s σ H Q I (tP0.up (X:=cJ X scope cl N' C s₀ H₀ fp) h)
 exact PE.imp (Af (g:=EU X tgt) (tc:=tPT0 X.K fc) (te:=tP0 X.K fe) hc S hi (λcl C s₀ H₀ fp=>⟨hPG cl C s₀ H₀ fp,hPI cl C s₀ H₀ fp,hPE cl C s₀ H₀ fp⟩) hs) λσ H Q h=>xI h
inductive Fl where
 | nx (Z:En) | rt (t:T) | bk (Z:En) | ct (Z:En)
def OO (B:Ow)(M:Mn):Ow:=λa=>B a\/M.u a
structure Ev (K:K7)(B:Ow)(M:Mn)(H:Hp)(Z:En)(σ:L2.St):Prop where
 env:EnvM K (OO B M) M H Z σ
 mine:∀a,M.u a->¬ B a
theorem Ev.same {K:K7}{B:Ow}{M:Mn}{H H':Hp}{Z:En}{σ:L2.St}(h:Same H H')(e:Ev K B M H Z σ):Ev K B M H' Z σ:=⟨e.env.same h,e.mine⟩
theorem Ev.o {K:K7}{B:Ow}{M:Mn}{H:Hp}{Z:En}{σ:L2.St}(e:Ev K B M H Z σ):EnvO K (OO B M) H Z σ:=⟨M,e.env⟩
def PostF (X:Cx)(B P:Ow)(H:Hp)(r:Rs Fl)(D:mL):Prop:=match r with
 | .ok (.nx Z')=> ∀σ' H' M',SameO P H H'->Ev X.K B M' H' Z' σ'->(∀a,M'.u a->P a\/Nw X.K H a)->D.nx σ' H'
 | .ok (.rt t)=> ∀v H',SameO P H H'->Rep X.K B H' t v->D.rt v H'
 | .ok (.bk Z')=> ∀σ' H' M',SameO P H H'->Ev X.K B M' H' Z' σ'->(∀a,M'.u a->P a\/Nw X.K H a)->D.bk σ' H'
 | .ok (.ct Z')=> ∀σ' H' M',SameO P H H'->Ev X.K B M' H' Z' σ'->(∀a,M'.u a->P a\/Nw X.K H a)->D.ct σ' H'
 | .err c=>XA X P H c
 | .bad=>False
def J3 (X:Cx)(F:En->Rs Fl):TS:=λD σ H=> ∃Z B M,Ev X.K B M H Z σ/\PostF X B M.u H (F Z) D
abbrev mZ (X:Cx)(s:Stmt)(F:En->Rs Fl):Prop:=PS X s (J3 X F)
abbrev kc (X:Cx)(s:List Stmt)(F:En->Rs Fl):Prop:=PSs X s (J3 X F)
theorem PostF.later {B P P1:Ow}{H H1:Hp}{r:Rs Fl}{D:mL}(h:PostF X B P H r D)(s:SameO P H H1)(sub:∀a,P1 a->P a\/Nw X.K H a):PostF X B P1 H1 r D:=by
 have back:∀a,P1 a\/Nw X.K H1 a->P a\/Nw X.K H a:=λa z=>z.elim (sub a) (gh s)
 cases r with
 | bad=>exact h
 | err c=>exact XA.later h s sub
 | ok f=>
  cases f with
  | nx Z'=>exact λσ' H' M' s' E' o'=>h σ' H' M' (s.trans s' sub) E' λa z=>back a (o' a z)
  | rt t=>exact λv H' s' r=>h v H' (s.trans s' sub) r
  | bk Z'=>exact λσ' H' M' s' E' o'=>h σ' H' M' (s.trans s' sub) E' λa z=>back a (o' a z)
  | ct Z'=>exact λσ' H' M' s' E' o'=>h σ' H' M' (s.trans s' sub) E' λa z=>back a (o' a z)
theorem PostF.xa {B P:Ow}{H:Hp}{c:Str}{D:mL}(h:PostF X B P H (.err c) D):XA X lp H c:=XA.later (P:=P) h (λ_ _ e _=>e) λ_ z=>z.elim
def sN (Z:En):Rs Fl:=.ok (.nx Z)
def aC (F G:En->Rs Fl)(Z:En):Rs Fl:=do
 let f <-F Z
 match f with
 | .nx Z'=>G Z'
 | f=> .ok f
theorem F4:kc X [] sN:=PSs.imp xk λD σ H ⟨Z,B,M,E,h⟩=>h σ H M (λ_ _ e _=>e) E λa z=> .inl z
theorem De {st:Stmt}{cp:List Stmt}{F G:En->Rs Fl}(h1:mZ X st F)(h2:kc X cp G):kc X (st::cp) (aC F G):=PSs.imp (uo h1 h2) λD σ H hh_=>by
 obtain⟨Z,B,M,E,h⟩:=hh_;refine⟨Z,B,M,E,?_⟩
 unfold aC at h
 cases q:F Z with
 | bad=>rw[q]at h;exact h.elim
 | err c=>rw[q]at h;exact h
 | ok f=>
  rw[q,aA]at h
  cases f with
  | nx Z'=>exact λσ' H' M' s' E' o'=>⟨Z',B,M',E',h.later s' o'⟩
  | rt t=>exact h
  | bk Z'=>exact h
  | ct Z'=>exact h
theorem F3 {st:Stmt}{F:En->Rs Fl}(h:mZ X st F):kc X [st] F:=xj h
def aM (f:En->Rs T)(Z:En):Rs Fl:=do
 let t <-f Z
 .ok (.rt t)
theorem F0 (ha:cg X a fa):mZ X (.Return (some a) pos) (aM fa):=PS.imp (z8 ha) λD σ H hh_=>by
 obtain⟨Z,B,M,E,h⟩:=hh_;refine⟨Z,OO B M,E.o,?_⟩
 unfold aM at h
 cases q:fa Z with
 | bad=>rw[q]at h;exact h.elim
 | err c=>rw[q]at h;exact PostF.xa h
 | ok t=>
  rw[q,aA]at h;exact λH' s v r=>h v H' (SameO.of s) (r.less λ_ z=> .inl z)
def gf (f:En->Rs Bool)(F G:En->Rs Fl)(Z:En):Rs Fl:=do
 let k <-f Z
 if k then F Z else G Z
theorem IB {f:En->Rs Bool}{A B:List Stmt}{F G:En->Rs Fl}(hc:vC X c f)(ha:kc X A F)(hb:kc X B G):mZ X (.If c A B pos) (gf f F G):=PS.imp (z9 hc ha hb) λD σ H hh_=>by
 obtain⟨Z,B,M,E,h⟩:=hh_;refine⟨Z,OO B M,E.o,?_⟩
 unfold gf at h
 cases q:f Z with
 | bad=>rw[q]at h;exact h.elim
 | err c=>rw[q]at h;exact PostF.xa h
 | ok k=>
  rw[q,aA]at h;intro H' s
  have E':Ev X.K B M H' Z σ:=E.same s
  cases k with
  | true=>refine L2.iteT ?_;exact⟨Z,B,M,E',PostF.later (by simpa using h) (SameO.of s) λa z=> .inl z⟩
  | false=>refine L2.iteF ?_;exact⟨Z,B,M,E',PostF.later (by simpa using h) (SameO.of s) λa z=> .inl z⟩
def cE (f:En->Rs T)(g:T->En->Rs En)(Z:En):Rs Fl:=do
 let t <-f Z
 match g t Z with
 | .ok Z'=> .ok (.nx Z')
 | _=> .bad
theorem zS {B:Ow}{M:Mn}{Z:En}{σ:L2.St}{H:Hp}{D:mL}{g:T->En->Rs En}{f:En->Rs T}(E:Ev X.K B M H Z σ)(h:PostF X B M.u H (cE f g Z) D):CS (tP X f) (EU X g) D σ H:=by
 refine⟨Z,OO B M,E.o,?_⟩
 unfold cE at h
 cases q:f Z with
 | bad=>rw[q]at h;exact h.elim
 | err c=>rw[q]at h;exact PostF.xa h
 | ok t=>
  rw[q,aA]at h;intro H' s v r;refine⟨Z,OO B M,M,t,E.env.same s,r,?_⟩
  cases q2:g t Z with
  | bad=>rw[q2]at h;exact h.elim
  | err c=>rw[q2]at h;exact h.elim
  | ok Z'=>
   rw[q2]at h;exact λσ' E'=>h σ' H' M (SameO.of s) ⟨E',E.mine⟩ λa z=> .inl z
theorem xb {f:En->Rs T}{σ:L2.St}{H:Hp}{Q Q':VK}(h:tP X f σ H Q)(w:∀v H',Q v H'->Q' v H'):tP X f σ H Q':=by
 obtain⟨Z,O,E,q⟩:=h;exact⟨Z,O,E,Post.mono q λt H' _ z v r=>w v H' (z v r)⟩
theorem IA {elt tg iter:Expr}{ifs:List Expr}{scope:Ov}{spos py:Pos}{N':List Str}{src:List (Option Nat)}{fi:En->Rs (List T)}{tgt:T->En->Rs En}{fc:En->Rs Bool}{fe:En->Rs T}(i:Nat){y:Str}
  (hc:X.calm=true) (S:LcScope X scope N' src) (hi:EJ X tg iter fi)
  (block:∀cl C s₀ H₀ fp,Fs (cJ X scope cl N' C s₀ H₀ fp) tg tgt/\Cv (cJ X scope cl N' C s₀ H₀ fp) ifs (Cm (cJ X scope cl N' C s₀ H₀ fp) fc)/\cg (cJ X scope cl N' C s₀ H₀ fp) elt fe)
  (hN:X.N.Nodup) (hiy:autoParam (X.N[i]? =some y) aqd._auto_1) (hy:autoParam (Loc X.env.scope y) aqh._auto_1) (hsw:autoParam (L5 (.ListComp elt [⟨tg,iter,ifs,0⟩] scope pos) (some (.Name y py)) spos.line X.env=pure true) aqd._auto_1)
  (hf:autoParam (X.fn y=true\/X.env.scope.names.lookup y=some .local) aqa._auto_1) (hs:autoParam (∀x,Mt iter X.env x=pure x) aqc._auto_1) :
  mZ X (.Assign [.Name y py] (.ListComp elt [⟨tg,iter,ifs,0⟩] scope pos) spos) (cE (jr fi src tgt fc fe) (gN i)):=by
 have hPG:∀cl C s₀ H₀ fp,PG (cJ X scope cl N' C s₀ H₀ fp) tg (EU X tgt):=λcl C s₀ H₀ fp=>(block cl C s₀ H₀ fp).1
 have hPI:∀cl C s₀ H₀ fp,Cv (cJ X scope cl N' C s₀ H₀ fp) ifs (tPT0 X.K fc):=λcl C s₀ H₀ fp pins s σ H Q I h=>(block cl C s₀ H₀ fp).2.1 pins s σ H Q I (tPT0.up (X:=cJ X scope cl N' C s₀ H₀ fp) h)
 have hPE:∀cl C s₀ H₀ fp,PE (cJ X scope cl N' C s₀ H₀ fp) elt (tP0 X.K fe):=λcl C s₀ H₀ fp pins s σ H Q I h=>(block cl C s₀ H₀ fp).2.2 pins s σ H Q I (tP0.up (X:=cJ X scope cl N' C s₀ H₀ fp) h)
 refine PS.imp (IW (g:=EU X tgt) (tc:=tPT0 X.K fc) (te:=tP0 X.K fe) (i:=i) hc S hi (λcl C s₀ H₀ fp=>⟨hPG cl C s₀ H₀ fp,hPI cl C s₀ H₀ fp,hPE cl C s₀ H₀ fp⟩) hN hiy hy hsw hf hs) λD σ H ⟨Z,B,M,E,h⟩=>xI (xb (zS E h) λv H' z=> ?_)
 obtain⟨Z',O,M',t,E',r,q⟩:=z;unfold gN at q
 split at q
 ·rename_i Z2 e
  split at e
  ·rename_i hl
   cases e;exact q _ (E'.set hl r)
  ·cases e
 ·exact q.elim
theorem Gb {tg:Expr}{g:T->En->Rs En}(ha:cg X a fa)(hg:Fs X tg g)(hs:autoParam (OA [tg] a pos.line X.env=pure false) aqd._auto_1)(hw:autoParam (OB [tg] a X.env=pure none) aqd._auto_1)
  (h1:autoParam ((L9 [tg] X.env).map (·.2)= [assign tg X.env]) aqd._auto_1):mZ X (.Assign [tg] a pos) (cE fa g):=PS.imp (Aa ha hg hs hw h1) λD σ H ⟨Z,B,M,E,h⟩=>zS E h
def tJ (f:En->Rs T)(Z:En):Rs Fl:=do
 let _ <-f Z
 .ok (.nx Z)
theorem Dd (ha:cg X a fa)(hs:autoParam (L5 a none pos.line X.env=pure false) aqd._auto_1):mZ X (.Expr a pos) (tJ fa):=PS.imp (kJ ha hs) λD σ H hh_=>by
 obtain⟨Z,B,M,E,h⟩:=hh_;refine⟨Z,OO B M,E.o,?_⟩
 unfold tJ at h
 cases q:fa Z with
 | bad=>rw[q]at h;exact h.elim
 | err c=>rw[q]at h;exact PostF.xa h
 | ok t=>
  rw[q,aA]at h;exact λH' s v r=>h σ H' M (SameO.of s) (E.same s) λa z=> .inl z
def bO (g:T->En->Rs En)(F:En->Rs Fl):List T->En->Rs Fl
 | [],Z=> .ok (.nx Z)
 | t::r,Z=>do
  let Z1 <-g t Z
  let f <-F Z1
  match f with
  | .nx Z2=>bO g F r Z2
  | .ct Z2=>bO g F r Z2
  | .bk Z2=> .ok (.nx Z2)
  | .rt t=> .ok (.rt t)
def jy (fi:En->Rs (List T))(g:T->En->Rs En)(F:En->Rs Fl)(Z:En):Rs Fl:=do
 let ts <-fi Z
 match bO g F ts Z with
 | .ok f=> .ok f
 | _=> .bad
theorem lE {α:Type}{t:Sem α}{Q:α->Ld->Prop}{s:Ld}{E:La->Ld->Prop}{P:LI}{w:Mj}{A:LZ}(h:wpAny (model P w) A t Q (λ_ _=>False) s):wpAny (model P w) A t Q E s:=M9 h (λ_ _ q=>q) λ_ _ z=>z.elim
theorem Dt {tg iter:Expr}{body:List Stmt}{wi:TI}{g:TG}{tb:TS}{pos:Pos}(hc:X.calm=true)(hi:PI X tg iter wi)(hg:PG X.nox tg g)(hb:PSs X.nox body tb)
  (hs:autoParam (∀x,Mt iter X.env x=pure x) aqc._auto_1):PS X (.For tg iter body [] pos) (tFor wi g tb):=by
 intro pins s σ H D I h;refine wpAny_For (bV (hi pins s σ H _ I h) λv s1 h1=>bV h1 λitv s2 h2=> ?_) hs
 obtain⟨it,fp,tn,J,H2,e,I2,T,st2,f2,W,⟨m0,w0⟩,turn⟩:=h2;subst e
 have stat:∀{H':Hp},(∀b∈fp,H' b=none)->∀b∈fp,o8 X pins H' b:=λhn b hb=>⟨hn b hb,(f2 b hb).2⟩
 refine codeAny_forLoop_any (λn s'=> ∃i σ' H',Inv X pins σ' H' s'/\tn i s'.heap/\(∀b∈fp,H' b=none)/\W i n σ' H') ?_ m0 ⟨0,σ,H2,I2,st2,λb hb=>(f2 b hb).1,w0⟩
 rintro n s3 ⟨i,σ3,H3,I3,st3,fr3,w3⟩
 rcases turn i n σ3 H3 w3 with⟨stop,qn⟩ | ⟨go,N,hN,step⟩
 ·refine lE (bV (T.done X.nox rfl rfl rfl hc i pins s3 σ3 H3 _ (I3.FB _) (stat fr3) st3 stop) λr s4 ⟨hr,I4⟩=> ?_)
  subst hr;exact N9 ⟨σ3,H3,I4.FB _,qn⟩
 ·refine lE (bV (T.item X.nox rfl rfl rfl hc i pins s3 σ3 H3 _ (I3.FB _) (stat fr3) st3 go) λr s4 ⟨u,hr,h4⟩=> ?_)
  subst hr;refine lE (bV h4 λ_ s5 hh_=> ?_)
  obtain⟨x,H5,I5,r5,y5,st5,fr5⟩:=hh_
  have I5':=Inv.pinned (X:=X.nox) I5 (stat fr5) (T.obj _ _ st5);refine lE (bV (hg _ s5 σ3 H5 x u _ I5' r5 (step x H5 y5)) λ_ s6 hh_=> ?_)
  obtain⟨σ6,H6,I6,q6⟩:=hh_;refine lE (bV (hb _ s6 σ6 H6 _ I6 q6) λf s7 q7=> ?_)
  have again:∀{σ7:L2.St} {H7:Hp},Inv X.nox (pins++nL fp s5.heap) σ7 H7 s7->N σ7 H7->∃m,m<n/\∃i σ' H',Inv X pins σ' H' s7/\tn i s7.heap/\(∀b∈fp,H' b=none)/\W i m σ' H':=λ{σ7 H7} I7 n7=>by
   obtain⟨m',hm,w7⟩:=hN σ7 H7 n7;refine⟨m',hm,i+1,σ7,H7,(Inv.Ki (X:=X.nox) I7).FB _,T.keep _ _ _ st5 λb hb o e=>(I7.pin (b,o) (Lu _ (Lu _ (gY hb e)))).1,λb hb=> ?_,w7⟩
   obtain⟨o,e,d⟩:=T.obj _ _ st5 b hb;exact(I7.pin (b,o) (Lu _ (Lu _ (gY hb e)))).2.1
  cases f with
  | next=>obtain⟨σ7,H7,I7,n7⟩:=q7;exact again I7 n7
  | cont=>obtain⟨σ7,H7,I7,n7⟩:=q7;exact again I7 n7
  | brk=>obtain⟨σ7,H7,I7,q7⟩:=q7;exact⟨σ7,H7,(Inv.Ki (X:=X.nox) I7).FB _,q7⟩
  | ret v=>obtain⟨x7,σ7,H7,I7,r7,q7⟩:=q7;exact⟨x7,σ7,H7,(Inv.Ki (X:=X.nox) I7).FB _,r7,q7⟩
theorem F6 {tg iter:Expr}{body:List Stmt}{fi:En->Rs (List T)}{g:T->En->Rs En}{F:En->Rs Fl}(hc:X.calm=true)(hi:EJ X tg iter fi)(hg:Fs X.nox tg g)(hb:kc X.nox body F)
  (hs:autoParam (∀x,Mt iter X.env x=pure x) aqc._auto_1):mZ X (.For tg iter body [] pos) (jy fi g F):=PS.imp (Dt hc hi hg hb hs) λD σ H hh_=>by
 obtain⟨Z,B,M,E,h⟩:=hh_;refine⟨Z,OO B M,E.o,?_⟩
 unfold jy at h
 cases q:fi Z with
 | bad=>rw[q]at h;exact h.elim
 | err c=>rw[q]at h;exact PostF.xa h
 | ok ts=>
  rw[q,aA]at h
  cases qq:bO g F ts Z with
  | bad=>rw[qq]at h;exact h.elim
  | err c=>rw[qq]at h;exact h.elim
  | ok fin=>
  rw[qq]at h;intro H1 s1 J hJ
  have E1:Ev X.K B M H1 Z σ:=E.same s1
  have h1:PostF X B M.u H1 (.ok fin) D:=PostF.later h (SameO.of s1) λa z=> .inl z
  refine⟨λi m σ' H'=>m=ts.length - i/\i<=ts.length/\SameO M.u H1 H'/\∃Z' M',Ev X.K B M' H' Z' σ'/\(∀a,M'.u a->M.u a\/Nw X.K H1 a)/\bO g F (ts.drop i) Z'= .ok fin,
   ⟨ts.length,by omega,Nq _,λ_ _ e _=>e,Z,M,E1,λa z=> .inl z,by simpa using qq⟩,?_⟩
  rintro i m σ' H' ⟨rfl,hi',sm,Z',M',E',ow,hl⟩
  have it:=hJ M.u (OO B M') (λa z=> .inl (.inr z)) (λa z=>z.elim (λw=> .inl (.inl w)) λw=>(ow a w).elim (λy=> .inl (.inr y)) .inr) i H' sm (λa z=>(E'.env.trk a z).some)
  by_cases hlt:i<ts.length
  ·have hti:ts[i]? =some ts[i]:=by simp
   obtain⟨go,yl⟩:=it.2 ts[i] hti;rw[NS hlt]at hl;unfold bO at hl;refine .inr ⟨go,λσ2 H2=> ∃m',m'<ts.length - i/\(m'=ts.length - (i+1)/\i+1<=ts.length/\SameO M.u H1 H2/\∃Z2 M2,Ev X.K B M2 H2 Z2 σ2/\(∀a,M2.u a->M.u a\/Nw X.K H1 a)/\bO g F (ts.drop (i+1)) Z2= .ok fin),λσ2 H2 z=>z,λx Hc y=> ?_⟩
   obtain⟨sc,rx⟩:=yl x Hc y;refine⟨Z',OO B M',M',ts[i],E'.env.same sc,rx,?_⟩
   cases e1:g ts[i] Z' with
   | bad=>rw[e1]at hl;cases hl
   | err cc=>rw[e1]at hl;cases hl
   | ok Z1=>
    rw[e1,aA]at hl;intro σ1 Eg
    have E2:Ev X.K B M' Hc Z1 σ1:=⟨Eg,E'.mine⟩;refine⟨Z1,B,M',E2,?_⟩
    have smc:SameO M.u H1 Hc:=λb o e n=>sc _ _ (sm b o e n)
    have onward:∀{σ3:L2.St} {H3:Hp} {Z3:En} {M3:Mn},SameO M'.u Hc H3->Ev X.K B M3 H3 Z3 σ3->(∀a,M3.u a->M'.u a\/Nw X.K Hc a)->bO g F (ts.drop (i+1)) Z3= .ok fin →
      ∃m',m'<ts.length - i/\(m'=ts.length - (i+1)/\i+1<=ts.length/\SameO M.u H1 H3/\∃Z2 M2,Ev X.K B M2 H3 Z2 σ3/\(∀a,M2.u a->M.u a\/Nw X.K H1 a)/\bO g F (ts.drop (i+1)) Z2= .ok fin):=
     λ{σ3 H3 Z3 M3} s3 E3 o3 p3=>⟨_,by omega,rfl,hlt,smc.trans s3 ow,Z3,M3,E3,λa z=>(o3 a z).elim (ow a) (gh smc),p3⟩
    cases e2:F Z1 with
    | bad=>rw[e2]at hl;cases hl
    | err cc=>rw[e2]at hl;cases hl
    | ok f=>
     rw[e2,aA]at hl
     cases f with
     | nx Z2=>exact λσ3 H3 M3 s3 E3 o3=>onward s3 E3 o3 hl
     | ct Z2=>exact λσ3 H3 M3 s3 E3 o3=>onward s3 E3 o3 hl
     | bk Z2=>
      cases hl
      exact λσ3 H3 M3 s3 E3 o3=>h1 σ3 H3 M3 (smc.trans s3 ow) E3 λa z=>(o3 a z).elim (ow a) (gh smc)
     | rt t=>
      cases hl;exact λv H3 s3 r=>h1 v H3 (smc.trans s3 ow) r
  ·refine .inl ⟨it.1 (by omega),?_⟩
   have hi2:i=ts.length:=by omega
   subst hi2;rw[RU]at hl;cases hl;exact h1 σ' H' M' sm E' ow
def bN (c:En->Rs Bool)(F:En->Rs Fl):Nat->En->Rs Fl
 | 0,_=> .bad
 | n+1,Z=>match c Z with
  | .ok false=> .ok (.nx Z)
  | .ok true=>match F Z with
   | .ok (.nx Z')=>bN c F n Z'
   | .ok (.ct Z')=>bN c F n Z'
   | .ok (.bk Z')=> .ok (.nx Z')
   | .ok (.rt t)=> .ok (.rt t)
   | _=> .bad
  | _=> .bad
theorem zV {c:Expr}{body:List Stmt}{fc:En->Rs Bool}{F:En->Rs Fl}(n:Nat)(hc:vC X.nox c fc)(hb:kc X.nox body F):mZ X (.While c body [] pos) (bN fc F n):=by
 have base:PS X.nox (.While c body [] pos) (vH (Cm X.nox fc) (J3 X.nox F)):=z7 PassesOwn.never hc hb;intro pins s σ H D I ⟨Z,B,M,E,h⟩
 cases qq:bN fc F n Z with
 | bad=>rw[qq]at h;exact h.elim
 | err c=>
  exfalso
  have:∀n Z,bN fc F n Z≠ .err c:=by
   intro n
   induction n with
   | zero=>intro Z z;cases z
   | succ n ih=>
    intro Z z;unfold bN at z
    split at z
    ·cases z
    ·split at z <;> first | exact ih _ z | cases z
    ·cases z
  exact this n Z qq
 | ok fin=>
  rw[qq]at h
  have goal:vH (Cm X.nox fc) (J3 X.nox F) D σ H:=by
   refine⟨λm σ' H'=>SameO M.u H H'/\∃Z' M',Ev X.K B M' H' Z' σ'/\(∀a,M'.u a->M.u a\/Nw X.K H a)/\bN fc F m Z'= .ok fin,⟨n,λ_ _ e _=>e,Z,M,E,λa z=> .inl z,qq⟩,?_⟩
   rintro m σ' H' ⟨sm,Z',M',E',ow,hl⟩
   cases m with
   | zero=>cases hl
   | succ m=>
    refine⟨Z',OO B M',E'.o,?_⟩
    unfold bN at hl
    cases e1:fc Z' with
    | bad=>rw[e1]at hl;cases hl
    | err cc=>rw[e1]at hl;cases hl
    | ok k=>
     rw[e1]at hl;intro H2 s2
     have E2:Ev X.K B M' H2 Z' σ':=E'.same s2
     have sm2:SameO M.u H H2:=λb o e n=>s2 _ _ (sm b o e n)
     cases k with
     | false=>
      cases hl;refine L2.iteF ?_
      exact h σ' H2 M' sm2 E2 ow
     | true=>
      refine L2.iteT ?_
      refine⟨λσ3 H3=>SameO M.u H H3/\∃Z3 M3,Ev X.K B M3 H3 Z3 σ3/\(∀a,M3.u a->M.u a\/Nw X.K H a)/\bN fc F m Z3= .ok fin,λσ3 H3 z=>⟨m,PH m,z⟩,Z',B,M',E2,?_⟩
      have hl':(match F Z' with | .ok (.nx Z')=>bN fc F m Z' | .ok (.ct Z')=>bN fc F m Z' | .ok (.bk Z')=> .ok (.nx Z') | .ok (.rt t)=> .ok (.rt t) | _=> .bad)= .ok fin:=hl
      cases e2:F Z' with
      | bad=>rw[e2]at hl';cases hl'
      | err cc=>rw[e2]at hl';cases hl'
      | ok f=>
       rw[e2]at hl'
       cases f with
       | nx Z2=>exact λσ3 H3 M3 s3 E3 o3=>⟨sm2.trans s3 ow,Z2,M3,E3,λa z=>(o3 a z).elim (ow a) (gh sm2),hl'⟩
       | ct Z2=>exact λσ3 H3 M3 s3 E3 o3=>⟨sm2.trans s3 ow,Z2,M3,E3,λa z=>(o3 a z).elim (ow a) (gh sm2),hl'⟩
       | bk Z2=>
        cases hl'
        exact λσ3 H3 M3 s3 E3 o3=>h σ3 H3 M3 (sm2.trans s3 ow) E3 λa z=>(o3 a z).elim (ow a) (gh sm2)
       | rt t=>
        cases hl';exact λv H3 s3 r=>h v H3 (sm2.trans s3 ow) r
  refine lE (bV (base pins s σ H D (I.FB _) goal) λf s' q=> ?_)
  cases f with
  | next=>obtain⟨σ7,H7,I7,n7⟩:=q;exact⟨σ7,H7,I7.FB _,n7⟩
  | cont=>obtain⟨σ7,H7,I7,n7⟩:=q;exact⟨σ7,H7,I7.FB _,n7⟩
  | brk=>obtain⟨σ7,H7,I7,n7⟩:=q;exact⟨σ7,H7,I7.FB _,n7⟩
  | ret v=>obtain⟨x7,σ7,H7,I7,r7,q7⟩:=q;exact⟨x7,σ7,H7,I7.FB _,r7,q7⟩
def EV (Z:En):Rs Fl:=.ok (.ct Z)
end
def bD (F:En->Rs Fl)(Z:En):Rs T:=do
 let f <-F Z
 match f with
 | .nx _=> .ok .non
 | .rt t=> .ok t
 | _=> .bad
def aO (n:Nat)(ts:List T):En:=ts.map Sl.va++LA (n - ts.length) Sl.em
theorem yz {n:Nat}{ts:List T}{i:Nat}{o:OT}(e:(aO n ts)[i]? =some (.ow o)):False:=by
 unfold aO at e
 by_cases hi:i<ts.length
 ·rw[LN (by simpa using hi),LD,Lv hi]at e
  cases e
 ·rw[L6 (by simpa using hi),Mi]at e
  split at e <;> cases e
theorem qd {K:K7}{O:Ow}{H:Hp}{N:List Str}{ts:List T}{vs:List V}(r:Reps K O H ts vs)(hl:ts.length<=N.length)(trk:∀a,O a->Mtb H a):Ev K O noM H (aO N.length ts) (start N vs):=by
 have hlen:=r.length
 have sub:∀a,OO O noM a->O a:=λa z=>z.elim id λ⟨_,w⟩=>w.elim
 refine⟨⟨by unfold aO L2.start;simp;omega,λi t e=> ?_,λi o e=>(yz e).elim,λ_ _ z=>z.elim,λ_ _ _ z=>z.elim,λa z=>trk a (sub a z)⟩,λa ⟨_,z⟩=>z.elim⟩
 unfold aO at e;unfold L2.start
 by_cases hi:i<ts.length
 ·rw[LN (by simpa using hi),LD,Lv hi]at e
  have e':ts[i] =t:=by injection e with e;injection e
  obtain⟨v,e1,e2⟩:=r.get (i:=i) (t:=t) (by rw[<-e'];simp)
  refine⟨v,?_,e2.less sub⟩
  rw[LN (by simp;omega),LD,e1];rfl
 ·rw[L6 (by simpa using hi),Mi]at e
  split at e <;> cases e
section
variable {P:LI}{w:Mj}{K:K7}{mg:Str->Option La}{base:Heap}
theorem JL {x qual:Str}{st:Stmt}{f:Addr}{fd:Mp}{N ps:List Str}{k n:Nat}{g:List T->Rs T}(Fn:L2.Fun K x qual st f fd)(S:az N ps (aj st))(hn:ps.length=n)
  (hbody:∀(cdv:La) (A:LZ) (outer:List Env) (s:Ld) (H:Hp) (E:XK),Room k (A.deeper (envOfC qual (aj st) s.heap.objs.size f cdv)) →
   ∃F,kc (gb CX0 P w K mg base N qual (aj st) f cdv A outer s H E).nox (bM st) F/\∀ts,ts.length=n->∀t,g ts= .ok t->bD F (aO N.length ts)= .ok t):o9 P w K mg base CX0 (k+1) f fd ps (spP K n g):=by
 have hpl:ps.length<=N.length:=by have:=congrArg M4 S.pre;rw[Mq]at this;omega
 refine Fn.ok S (λvs H Q E h=> ?_) (λcdv A outer s H vs Q E hr h=> ?_)
 ·obtain⟨ts,O,r,_,hl,_⟩:=h
  rw[<-r.length,hl,hn]
 ·obtain⟨ts,O,r,trk,hl,h⟩:=h
  obtain⟨F,hF,hv⟩:=hbody cdv A outer s H E hr;refine⟨_,hF,aO N.length ts,O,noM,qd r (by omega) trk,?_⟩
  have no:∀a,¬noM.u a:=λa ⟨_,z⟩=>z
  cases q:g ts with
  | bad=>rw[q]at h;exact h.elim
  | err c=>rw[q]at h;exact h.elim
  | ok t=>
   rw[q]at h
   have hb:=hv ts hl t q;unfold bD at hb
   cases q2:F (aO N.length ts)with
   | bad=>rw[q2]at hb;cases hb
   | err c=>rw[q2]at hb;cases hb
   | ok fl=>
    rw[q2,aA]at hb
    have sameOf:∀H',SameO noM.u H H'->Same H H':=λH' s b o e=>s b o e (no b)
    cases fl with
    | nx Z'=>cases hb;exact λσ' H' M' s' E' o'=>h .non H' (sameOf H' s') Rep.Kz
    | rt t'=>cases hb;exact λv H' s' r'=>h v H' (sameOf H' s') r'
    | bk Z'=>cases hb
    | ct Z'=>cases hb
end
end Tr
namespace Enu
open PySem
open AutoSeq1 (wpAny_loadPart')
section
variable {prog:LI}{w:Mj}{A:LZ}{E:La->Ld->Prop}{s:Ld}
theorem CN {it tt:Addr}{k:Nat}{its:Array La}{x:La}{Q:La->Ld->Prop}(hi:s.heap.IsTupleIter it tt k)(ht:s.heap.IsTuple tt its)(hx:its[k]? =some x)
  (hQ:∀h',h'.IsTupleIter it tt (k+1)->Oo it s.heap h'->Q x { s with heap:=h' }):wpAny (model prog w) A (Nc (.ref it)) Q E s:=by
 obtain⟨ob,g1,g2,g3⟩:=id hi;obtain⟨ot,k1,_,m,k3⟩:=ht;unfold Nc;refine Lc (MJ (name:=Lp "__next__") hi.typeIs M7 (Nz M7 hi.typeIs OL ?_ (Oy _)))
 show wpAny (model prog w) _ (field (.ref it) 0 >>= _) _ _ s
 refine Lc (MS g1 g3 (x:=.ref tt) rfl ?_)
 show wpAny (model prog w) _ (if (LJ tt == LW)=true then _ else _) _ _ s
 rw[if_neg (show ¬((LJ tt == LW)=true)by exact LK)]
 show wpAny (model prog w) _ (field (.ref it) 1 >>= _) _ _ s
 refine Lc (MS g1 g3 (x:=.int k 0) rfl ?_)
 show wpAny (model prog w) _ (seqItems? (.ref tt) >>= _) _ _ s
 refine Lc (Qy k1 k3 ?_)
 simp only[hx,ME];refine Lc (Qz g1 g3 (by simp) (Lm ⟨x,rfl,Lm (hQ _ ?_ (QB ..))⟩))
 refine⟨_,P6 _ g1 (P7 (N6 g3 _)),(Obj.cls_mapFields ..).trans g2,?_⟩
 rw[N6 g3];simp[rawInt]
theorem tupStop {it tt:Addr}{k:Nat}{its:Array La}{Q:La->Ld->Prop}(hh:A.handled=none)(hi:s.heap.IsTupleIter it tt k)(ht:s.heap.IsTuple tt its)(hx:its[k]? =none)
  (hE:∀h' e,Heap.ExtBut it s.heap h'->(∃o,h'.get? e=some o/\o.cls= .type "StopIteration")->E (.ref e) { s with heap:=h' }):wpAny (model prog w) A (Nc (.ref it)) Q E s:=by
 obtain⟨ob,g1,g2,g3⟩:=id hi;obtain⟨ot,k1,_,m,k3⟩:=ht;unfold Nc;refine Lc (MJ (name:=Lp "__next__") hi.typeIs M7 (Nz M7 hi.typeIs OL ?_ (Oy _)))
 show wpAny (model prog w) _ (field (.ref it) 0 >>= _) _ _ s
 refine Lc (MS g1 g3 (x:=.ref tt) rfl ?_)
 show wpAny (model prog w) _ (if (LJ tt == LW)=true then _ else _) _ _ s
 rw[if_neg (show ¬((LJ tt == LW)=true)by exact LK)]
 show wpAny (model prog w) _ (field (.ref it) 1 >>= _) _ _ s
 refine Lc (MS g1 g3 (x:=.int k 0) rfl ?_)
 show wpAny (model prog w) _ (seqItems? (.ref tt) >>= _) _ _ s
 refine Lc (Qy k1 k3 ?_)
 simp only[hx,ME];refine Lc (Rw (Lc (Qz g1 g3 (by simp) ?_)))
 show wpAny (model prog w) _ (newExc (.type "StopIteration") [] >>= _) _ _ _
 refine Lc ?_
 simp only[newTuple,newExc];refine Lc (Mh ?_ (by size_fits))
 refine Lc (m:=firstArgMember _ _) (wpAny_of_eq (a:=LW) (by first | (simp only[firstArgMember];rfl) | rfl) ?_)
 refine Mh ?_ (by size_fits)
 simp only[raiseNew];refine Lc (wpAny_handled ?_)
 first | rw[hh] | rw[show A.in1.handled=none from hh]
 refine Lc (Lm (wpAny_throw ?_))
 refine hE _ _ (((QB ..).extBut.push _).push _) ⟨_,Lz _ rfl,rfl⟩
end
theorem tupDraws {prog:LI}{w:Mj}{A:LZ}(hh:A.handled=none)(it tt:Addr)(hne:tt≠it)(its:Array La) :
  Draws prog w A it [it,tt] its.size (λi v=>its[i]? =some v) (λi h=>h.IsTupleIter it tt i/\h.IsTuple tt its) where
 live:=λ_ _ st=>by obtain⟨o,ho,_⟩:=st.1;exact⟨o,ho⟩
 frame:=λ_ _ _ st hk=>by
  obtain⟨⟨o,e,r⟩,⟨o',e',r'⟩⟩:=st;exact⟨⟨o,hk it (by simp) o e,r⟩,⟨o',hk tt (by simp) o' e',r'⟩⟩
 item:=λi s Q E hi st hQ=>by
  refine CN st.1 st.2 (x:=its[i]) (by simp[hi]) λh' hit' hs'=> ?_
  obtain⟨o',e',r'⟩:=st.2;exact hQ _ h' s.toks (by simp[hi]) ⟨hit',⟨o',(hs'.2 tt hne).trans e',r'⟩⟩ hs'
 done:=λs Q E st hE=>tupStop hh st.1 st.2 (by simp) hE
theorem newT (l:Addr)(items:Array La)(n:Nat)(dct:Option Addr)(sl:Array (Option La)) :
  Meets (Builtin.«enumerate.__new__» ⟨[.type "enumerate",.ref l],[]⟩) (λ_ R s=>s.heap.get? l=some { cls:=.type "tuple",dict:=dct,data:=.seq items n,slots:=sl } ∧
   R (.ok (.ret (.ref (s.heap.push { cls:=.type "tuple_iterator",data:=.fields #[.ref l,.int 0 0] }).objs.size)))
    { s with heap:=(s.heap.push { cls:=.type "tuple_iterator",data:=.fields #[.ref l,.int 0 0] }).push { cls:=.type "enumerate",data:=.fields #[.none,.bool false,.ref s.heap.objs.size,rawInt 0,.none,.none] } }):=
 .of_wp λprog w A R s h=>by
  obtain⟨hp,g,d,tk,os⟩:=s;obtain⟨hl,h⟩:=h
  have hsub:=sub_enumerate
  have hT:Heap.IsTuple (Shared.heap ⟨hp,g,d,tk,os⟩) l items:=⟨_,hl,rfl,n,rfl⟩
  wp_walk using Nn hl
  refine wpAny_stack_any λst=>Lm ?_
  split
  ·rename_i c _ _ _ _ _
   cases (c == OF "enumerate")
   ·wp_walk using Nn hl,Ob hT
    exact⟨_,rfl,h⟩
   ·wp_walk using Nn hl,Ob hT
    exact⟨_,rfl,h⟩
  ·wp_walk using Nn hl,Ob hT
   exact⟨_,rfl,h⟩
theorem callT {prog:LI}{w:Mj}{A:LZ}{E:La->Ld->Prop}{s:Ld}{l:Addr}{items:Array La}{Q:La->Ld->Prop}(hL:s.heap.IsTuple l items)
  (h:∀h',IsEnum h' (s.heap.objs.size+1) s.heap.objs.size 0 .none->h'.IsTupleIter s.heap.objs.size l 0->h'.objs.size=s.heap.objs.size+2 →
   (∀b o,s.heap.get? b=some o->h'.get? b=some o)->Q (.ref (s.heap.objs.size+1)) { s with heap:=h' }):wpAny (model prog w) A (call (.type "enumerate") [.ref l]) Q E s:=by
 obtain⟨⟨cc,dc,dd,ss⟩,hl,hc,n,hd⟩:=hL
 replace hc:cc= .type "tuple":=hc
 replace hd:dd= .seq items n:=hd
 subst hc hd;refine callType_new F.called_enumerate (by decide) (F.typeCall_enumerate_1 _) (F.newCall_enumerate_1 _) (λobj=>F.args_object_init_2 obj _) F.entry_enumerate_new (newT l items n dc ss) ⟨hl,?_⟩
 have hz:(s.heap.push { cls:=.type "tuple_iterator",data:=.fields #[.ref l,.int 0 0] }).objs.size=s.heap.objs.size+1:=Nd ..
 show _/\_
 rw[hz]
 have he:IsEnum ((s.heap.push { cls:=.type "tuple_iterator",data:=.fields #[.ref l,.int 0 0] }).push
   { cls:=.type "enumerate",data:=.fields #[.none,.bool false,.ref s.heap.objs.size,rawInt 0,.none,.none] }) (s.heap.objs.size+1) s.heap.objs.size 0 .none:=by
  have q:=Lz (s.heap.push { cls:=.type "tuple_iterator",data:=.fields #[.ref l,.int 0 0] })
   (o:={ cls:=.type "enumerate",data:=.fields #[.none,.bool false,.ref s.heap.objs.size,rawInt 0,.none,.none] }) rfl
  rw[hz]at q;exact q
 refine⟨⟨_,he,rfl⟩,h _ he ⟨_,Lk _ (Lz _ rfl),rfl,rfl⟩ (by rw[Nd,hz]) λb o x=>Lk _ (Lk _ x)⟩
end Enu
namespace L2
open PySem PySem.Spec PyProof.Rows
section
variable {X:Cx}{pins:List (Addr×Obj)}{σ:L2.St}{H:Hp}{s:Ld}{h':Heap}
theorem Inv.KC {t':Nat}{fp:List Addr}{Tp:Addr}{xs:List V}(I:Inv X pins σ H s)(hf:∀b∈fp,o8 X pins H b)(k:∀b o,b∉fp->s.heap.get? b=some o->h'.get? b=some o)
  (ht:∀b∈fp,∃o,h'.get? b=some o) (hT:s.heap.objs.size<=Tp) (new:ObjOk X.prog X.w (upd H Tp (.tup xs)) h' Tp (.tup xs)):Inv X pins σ (upd H Tp (.tup xs)) { s with heap:=h',toks:=t' }:=by
 have hn:H Tp=none:=I.hok.fresh hT
 have pY:∀b o,s.heap.get? b=some o->b≠Tp:=λb o e=>MD (Ly (Lq e) hT)
 have nf:∀b u,H b=some u->b∉fp:=λb u e z=>by rw[(hf b z).1]at e;cases e
 refine I.step (g':=s.gens) (d':=s.drawn) (ch:=fp) (λb hb=>⟨(hf b hb).2.2.2.1,(hf b hb).2.1,(hf b hb).2.2.2.2.1,(hf b hb).2.2.2.2.2⟩) (λb o _ _ hc e _=>k b o hc e) (λb o _ _ hc e _=>⟨o.slots,k b o hc e⟩)
  (λb o _ e n=>by rw[aH (pY b o e)];exact n) (λb o hc e=>⟨o,k b o hc e⟩) (λb ys e=>by rw[aH (bX e hn)];exact e) (λb o u e=>by rw[aH (bX e hn)];exact e)
  (λb ps e=>⟨#[],by rw[aH (bX e hn),e];simp⟩) (λm hm=> ?_) (λb u e=> ?_) I.bare
 ·obtain⟨o,es,ep,ho,r⟩:=hm
  exact⟨o,es,ep,k _ o (λz=>(hf _ z).2.1 rfl) ho,r⟩
 ·by_cases hb:b=Tp
  ·subst hb;rw[aT]at e;cases e;exact new
  ·rw[aH hb]at e
   refine(I.hok b u e).stay (λc v hc q=>k c v ?_ q) (λc q=>by rw[aH (bX q hn)];exact q) λc ys q=>by rw[aH (bX q hn)];exact q
   rcases hc with z | z
   ·rw[z];exact nf b u e
   ·exact nf c _ z
theorem Inv.Kp {t':Nat}{fp:List Addr}(I:Inv X pins σ H s)(hf:∀b∈fp,o8 X pins H b)(k:∀b o,b∉fp->s.heap.get? b=some o->h'.get? b=some o):Inv X pins σ H { s with heap:=h',toks:=t' }:=by
 have nf:∀b u,H b=some u->b∉fp:=λb u e z=>by rw[(hf b z).1]at e;cases e
 refine I.step (g':=s.gens) (d':=s.drawn) (ch:=fp) (λb hb=>⟨(hf b hb).2.2.2.1,(hf b hb).2.1,(hf b hb).2.2.2.2.1,(hf b hb).2.2.2.2.2⟩) (λb o _ _ hc e _=>k b o hc e) (λb o _ _ hc e _=>⟨o.slots,k b o hc e⟩)
  (λb o _ e n=>n) (λb o hc e=>⟨o,k b o hc e⟩) (λb ys e=>e) (λb o u e=>e)
  (λb ps e=>⟨#[],by rw[e];simp⟩) (λm hm=> ?_) (λb u e=> ?_) I.bare
 ·obtain⟨o,es,ep,ho,r⟩:=hm
  exact⟨o,es,ep,k _ o (λz=>(hf _ z).2.1 rfl) ho,r⟩
 ·refine(I.hok b u e).stay (λc v hc q=>k c v ?_ q) (λc q=>q) λc ys q=>q
  rcases hc with z | z
  ·rw[z];exact nf b u e
  ·exact nf c _ z
end
def Ct (K:K7)(H:Hp)(a:Addr)(tt:Bool)(xs:List V):Prop:=if tt then SqT K H a xs else SqL K H a xs
def Kd (K:K7)(a:Addr)(tt:Bool):It:=
 ⟨λi H=> ∃xs x,Ct K H a tt xs/\xs[i]? =some x,λi H x H'=> ∃p v,x= .ref p/\H p=none/\H'=upd H p (.tup [.int (i:Nat),v])/\∀xs,Ct K H a tt xs->xs[i]? =some v,λi H=> ∃xs,Ct K H a tt xs/\xs.length<=i⟩
def itAt (tt:Bool)(h:Heap)(it a:Addr)(i:Nat):Prop:=if tt then h.IsTupleIter it a i else h.IsListIter it a i
theorem itAt.obj {tt:Bool}{h:Heap}{it a:Addr}{i:Nat}(st:itAt tt h it a i):∃o,h.get? it=some o/\∀v,o.data≠ .cell v:=by
 cases tt with
 | true=>obtain⟨o,e,c,d⟩:=(show h.IsTupleIter it a i from st);exact⟨o,e,λv z=>by rw[d]at z;cases z⟩
 | false=>obtain⟨o,e,c,d⟩:=(show h.IsListIter it a i from st);exact⟨o,e,λv z=>by rw[d]at z;cases z⟩
theorem itAt.keep {tt:Bool}{h h':Heap}{it a:Addr}{i:Nat}(st:itAt tt h it a i)(k:∀o,h.get? it=some o->h'.get? it=some o):itAt tt h' it a i:=by
 cases tt with
 | true=>obtain⟨o,e,r⟩:=(show h.IsTupleIter it a i from st);exact(show h'.IsTupleIter it a i from⟨o,k o e,r⟩)
 | false=>obtain⟨o,e,r⟩:=(show h.IsListIter it a i from st);exact(show h'.IsListIter it a i from⟨o,k o e,r⟩)
theorem yv {P:LI}{w:Mj}{K:K7}{elts:List Expr}{kk:Nat}{pos:Pos}(tt:Bool)(a e it:Addr)(hei:e≠it) :
  B9 P w K (.Tuple elts kk pos) (Kd K a tt) [e,it] e (λi h=>(∃old,IsEnum h e it i old)/\itAt tt h it a i) where
 mem:=by simp
 obj:=λi h st b hb=>by
  obtain⟨⟨old,he⟩,hi⟩:=st;rcases Lj.mp hb with rfl | hb
  ·exact⟨_,he,λv z=>by have z':Data.fields _=Data.cell v:=z;cases z'⟩
  ·rw[Lr.mp hb];exact hi.obj
 keep:=λi h h' st k=>by
  obtain⟨⟨old,he⟩,hi⟩:=st;exact⟨⟨old,k e (by simp) _ he⟩,hi.keep λo q=>k it (by simp) o q⟩
 item:=by
  intro X hP hw hK hc i pins s σ H E I hf st hg;subst hP hw hK;obtain⟨xs,x,hq,hx⟩:=hg;obtain⟨⟨old,he⟩,hi⟩:=st
  -- by what is walked
  have key:∀(its:List La),Vals xs its->(∀ys,Ct X.K H a tt ys->ys=xs)->∀(fp0:List Addr) (St:Nat->Heap->Prop),Draws X.prog X.w X.A.in1 it fp0 its.toArray.size (λi v=>its.toArray[i]? =some v) St->e∉fp0->it∈fp0->St i s.heap →
    (∀h',St (i+1) h'->itAt tt h' it a (i+1)) →
    wpAny (model X.prog X.w) X.A (pyNext (.ref e)) (λr s1=> ∃u,r=some u/\wpAny (model X.prog X.w) X.A (Oa (.Tuple elts kk pos) (.ref e) u) (λ_ s2=> ∃x' H',Inv X pins σ H' s2/\RelV x' u/\(Kd X.K a tt).yld i H x' H' ∧
     ((∃old,IsEnum s2.heap e it (i+1:Nat) old)/\itAt tt s2.heap it a (i+1))/\∀b∈ [e,it],H' b=none) E s1) E s:=by
   intro its rv uniq fp0 St D hef hif hst hnext;obtain⟨u,hu,ru⟩:=rv.get hx
   have hlt:i<its.toArray.size:=by
    have:=(Ll.mp hu).1
    simpa using this
   have W:=WalksT.enumerateD D e hei hef hif;refine W.item i s _ _ hlt ⟨⟨old,he⟩,hst⟩ λTp vals h1 tk hPt hTsz hTup hMid hk=>⟨.ref Tp,rfl,?_⟩
   refine W.go elts kk pos i Tp { s with heap:=h1,toks:=tk } _ _ hMid λh2 hst2 hk2=> ?_
   obtain⟨t,x',hPx,hvals⟩:=hPt;subst hvals
   have hxe:x'=u:=by
    have h1':its.toArray[i]? =some x':=hPx
    have h2':its.toArray[i]? =some u:=by simpa using hu
    rw[h1']at h2';exact LX h2'
   subst hxe
   have hTw:=W.apart i Tp h1 hMid;obtain⟨oT,eT,rT⟩:=hTup
   have eT2:h2.get? Tp=some oT:=hk2 Tp oT hTw eT
   have kAll:∀b o,b∉ [e,it]->s.heap.get? b=some o->h2.get? b=some o:=λb o hb q=>hk2 b o hb (hk b o hb q)
   obtain⟨⟨old2,he2⟩,hs2⟩:=hst2
   have hit2:=hnext h2 hs2
   have there:∀b∈ [e,it],∃o,h2.get? b=some o:=λb hb=>by
    rcases Lj.mp hb with rfl | hb
    ·exact⟨_,he2⟩
    ·rw[Lr.mp hb];obtain⟨o,q,_⟩:=hit2.obj;exact⟨o,q⟩
   have hn:H Tp=none:=I.hok.fresh hTsz
   have new:ObjOk X.prog X.w (upd H Tp (.tup [.int (i:Nat),x])) h2 Tp (.tup [.int (i:Nat),x]):=
    ⟨by show 2<=sizeLine;decide,[.int (i:Nat) t,x'],.cons ⟨t,rfl⟩ (.cons ru .nil),⟨oT,eT2,rT⟩⟩
   have I2:=I.KC (t':=tk) hf kAll there hTsz new;refine⟨.ref Tp,_,I2,rfl,⟨Tp,x,rfl,hn,rfl,λys hy=>by rw[uniq ys hy];exact hx⟩,⟨⟨old2,he2⟩,hit2⟩,λb hb=> ?_⟩
   have hbT:b≠Tp:=λz=>by
    obtain⟨o,q⟩:∃o,s.heap.get? b=some o:=by
     rcases Lj.mp hb with rfl | hb
     ·exact⟨_,he⟩
     ·rw[Lr.mp hb];obtain⟨o,q,_⟩:=hi.obj;exact⟨o,q⟩
    exact absurd (Ly (Lq q) hTsz) (by rw[z];exact LQ _)
   rw[aH hbT];exact(hf b hb).1
  have hne:∀b∈ [e,it],a≠b:=λb hb z=>by
   have hb':=(hf b hb).1;rw[<-z]at hb'
   have hbs:=hf b hb
   cases tt with
   | true=>
    have hq':SqT X.K H a xs:=hq;rcases hq' with(q | ⟨o,q⟩) | ⟨o,its,n,q,_⟩
    ·rw[hb']at q;cases q
    ·rw[hb']at q;cases q
    ·rcases hbs.2.2.2.1 with z1 | z1
     ·exact I.ok.noex a o (I.ok.mod.kin a o q) (z▸z1)
     ·exact absurd (Ly (Lq (I.ok.bs a o (I.ok.mod.kin a o q)).1) (z▸z1)) (LQ _)
   | false=>
    have hq':SqL X.K H a xs:=hq;rcases hq' with(q | ⟨o,q⟩) | ⟨o,its,n,q,_⟩
    ·rw[hb']at q;cases q
    ·rw[hb']at q;cases q
    ·rcases hbs.2.2.2.1 with z1 | z1
     ·exact I.ok.noex a o (I.ok.mod.kin a o q) (z▸z1)
     ·exact absurd (Ly (Lq (I.ok.bs a o (I.ok.mod.kin a o q)).1) (z▸z1)) (LQ _)
  have hea:e≠a:=λz=>hne e (by simp) z.symm
  have hia:it≠a:=λz=>hne it (by simp) z.symm
  cases tt with
  | true=>
   have hq':SqT X.K H a xs:=hq;obtain⟨its,rv,p,hz⟩:=I.tuple hq'
   exact key its rv (λys hy=>I.Kn hy hq') _ _ (Enu.tupDraws (A:=X.A.in1) (I.ok.hd hc) it a (NV hia) its.toArray) (by simp[hei,hea]) (by simp) ⟨hi,p⟩ λh' z=>z.1
  | false=>
   have hq':SqL X.K H a xs:=hq;obtain⟨its,rv,p,hz⟩:=I.list hq';exact key its rv (λys hy=>I.Kr hy hq') _ _ (Draws.list (A:=X.A.in1) (I.ok.hd hc) it a (NV hia) its.toArray) (by simp[hei,hea]) (by simp) ⟨hi,p.isList⟩ λh' z=>z.1
 done:=by
  intro X hP hw hK hc i pins s σ H E I hf st hg;subst hP hw hK;obtain⟨xs,hq,hx⟩:=hg;obtain⟨⟨old,he⟩,hi⟩:=st
  have fin:∀h',Heap.ExtBut it s.heap h'->(none:Option La)=none/\Inv X pins σ H { s with heap:=h' }:=λh' eb=>⟨rfl,I.Kp (t':=s.toks) hf λb o hb q=>eb b o (λz=>hb (by simp[z])) q⟩
  cases tt with
  | true=>
   have hq':SqT X.K H a xs:=hq;obtain⟨its,rv,p,hz⟩:=I.tuple hq'
   have hl:=rv.length
   have hnone:its.toArray[i]? =none:=by simp;omega
   have hT:s.TypeIs (.ref e) "enumerate":=⟨_,he,rfl⟩;unfold pyNext;refine Lc (wpAny_attempt (MJ (name:=Lp "__next__") hT P8 (Nz P8 hT F.entry_enumerate_next ?_ (F.args_enumerate_next_1 _))))
   show wpAny (model X.prog X.w) _ (field (.ref e) 2 >>= _) _ _ _
   refine Lc (MS he rfl (x:=.ref it) rfl ?_)
   refine Lc (Enu.tupStop (I.ok.hd hc) hi p hnone λh' x he' hx'=> ?_)
   obtain⟨o,ho,hcl⟩:=hx'
   exact Lc (wpAny_isInstance (T:="StopIteration") (b:=true) ⟨o,ho,hcl⟩ isSubtype_stop (Lm (fin h' he')))
  | false=>
   have hq':SqL X.K H a xs:=hq;obtain⟨its,rv,p,hz⟩:=I.list hq'
   have hl:=rv.length
   have hnone:its.toArray[i]? =none:=by simp;omega
   exact wpAny_pyNext_enum_end (I.ok.hd hc) he hi p.isList hnone fin
 self:=λ_ _ _ _ _ st h=>by
  obtain⟨⟨old,he⟩,_⟩:=st;exact Rx he h
section
variable {X:Cx}{elts:List Expr}{kk:Nat}{tpos:Pos}
theorem oX:Mf "enumerate" =some (.type "enumerate"):=by decide+kernel
def iEnu (K:K7)(tl:TA):TI:=λσ H R=>tl σ H λvs H1=> ∃a tt,vs= [.ref a]/\(∃xs,Ct K H1 a tt xs)/\R (Kd K a tt) H1
theorem DA {l:Expr}{tl:TA}{p pos:Pos}(hg:Gl X "enumerate")(hm:X.mg "enumerate" =none)(hl:PA X [l] tl)(hs:autoParam (Lx [l] X.env= [(false,eval l X.env)]) aqd._auto_1):PI X (.Tuple elts kk tpos) (.Call (.Name "enumerate" p) [l] [] pos) (iEnu X.K tl):=by
 intro pins s σ H R I h;refine Call_ (j4 I hg hm oX (M0 (bV (hl pos pins s σ H _ I h) λus s1 ⟨vs,H1,I1,r1,q1⟩=> ?_) hs rfl))
 obtain⟨a,tt,e,⟨xs,hq⟩,q⟩:=q1;subst e;obtain⟨u,rfl,ru⟩:=m9 r1;cases ru
 have fin:∀h',IsEnum h' (s1.heap.objs.size+1) s1.heap.objs.size 0 .none->itAt tt h' s1.heap.objs.size a 0->h'.objs.size=s1.heap.objs.size+2->(∀b o,s1.heap.get? b=some o->h'.get? b=some o) →
   wpAny (model X.prog X.w) X.A (pyIter (.ref (s1.heap.objs.size+1))) (PIE X pins σ (.Tuple elts kk tpos) R) X.xe { s1 with heap:=h' }:=λh' he hi hsz hk=>by
  refine Rx he ?_
  have I2:Inv X pins σ H1 { s1 with heap:=h' }:=I1.kept (t':=s1.toks) hk
  refine⟨s1.heap.objs.size+1,[s1.heap.objs.size+1,s1.heap.objs.size],_,_,H1,rfl,I2,yv tt a (s1.heap.objs.size+1) s1.heap.objs.size (Nat.succ_ne_self _),⟨⟨_,he⟩,hi⟩,λb hb=> ?_,q⟩
  rcases Lj.mp hb with rfl | hb
  ·exact I1.Ky (by omega) (I1.hok.fresh (by omega))
  ·rw[Lr.mp hb];exact I1.Ky (Lo _) (I1.hok.fresh (Lo _))
 cases tt with
 | true=>
  have hq':SqT X.K H1 a xs:=hq;obtain⟨its,rv,pl,hz⟩:=I1.tuple hq'
  exact Enu.callT pl λh' he hi hsz hk=>fin h' he hi hsz hk
 | false=>
  have hq':SqL X.K H1 a xs:=hq;obtain⟨its,rv,pl,hz⟩:=I1.list hq';exact call_enumerate_list pl.isList λh' he hi hsz hk=>fin h' he hi hsz hk
end
end L2
namespace Tr
open PySem PySem.Spec PyProof.Rows L2
section
variable {X:Cx}{a:Expr}{fa:En->Rs T}{fs:En->Rs (List T)}{p pos:Pos}
def iS (f:En->Rs T)(Z:En):Rs (List T):=do
 let x <-f Z
 match x with
 | .lst l=> .ok l
 | .tup l=> .ok l
 | _=> .bad
theorem Gf {tg:Expr}(ha:cg X a fa):EJ X tg a (iS fa):=by
 intro pins s σ H R I ⟨Z,O,E,h⟩;unfold iS at h
 cases q:fa Z with
 | bad=>rw[q]at h;exact h.elim
 | err c=>exact xg ha pins s σ H R I ⟨Z,O,E,by unfold iL;rw[q]at h ⊢;exact h⟩
 | ok x=>
  rw[q,aA]at h
  cases x with
  | lst l=>exact xg ha pins s σ H R I ⟨Z,O,E,by unfold iL;rw[q];exact h⟩
  | tup l=>exact Ge ha pins s σ H R I ⟨Z,O,E,by unfold iT;rw[q];exact h⟩
  | _=>exact h.elim
def cR:Nat->List T->List T
 | _,[] => []
 | n,t::r=> .tup [.int n,t] ::cR (n+1) r
theorem qD:∀(l:List T) (n i:Nat),(cR n l)[i]? =(l[i]?).map λt=>T.tup [.int ((n+i:Nat):Int),t]
 | [],n,i=>by simp[cR]
 | t::l,n,0=>by simp[cR]
 | t::l,n,i+1=>by
  rw[cR,Ms,qD l (n+1) i,Ms]
  congr 2
  funext t
  congr 4
  omega
theorem qC:∀(l:List T) (n:Nat),(cR n l).length=l.length
 | [],n=>rfl
 | t::l,n=>by rw[cR,Li,Li,qC l]
def iE (f:En->Rs (List T))(Z:En):Rs (List T):=do
 let xs <-f Z
 match xs with
 | [x] =>match x.items with
  | some l=> .ok (cR 0 l)
  | none=> .bad
 | _=> .bad
theorem Di {elts:List Expr}{kk:Nat}{tpos:Pos}(hm:X.mg "enumerate" =none)(ha:p6 X [a] fs)(hg:autoParam (Gl X "enumerate") aqd._auto_1)(hs:autoParam (Lx [a] X.env= [(false,eval a X.env)]) aqd._auto_1) :
  EJ X (.Tuple elts kk tpos) (.Call (.Name "enumerate" p) [a] [] pos) (iE fs):=PI.imp (DA hg hm ha hs) λσ H R hh_=>by
 obtain⟨Z,O,E,h⟩:=hh_;obtain⟨Z1,O1,E1,h1⟩:=gI E h;refine⟨Z1,O1,E1,Post.mono h1 λts H1 s1 q vs r=> ?_⟩
 obtain⟨t',r',s',E',q'⟩:=q vs r
 split at q'
 ·rename_i x0
  obtain⟨v,rfl,rv⟩:=r'.one
  split at q'
  ·rename_i l hl
   have main:∀(aa:Addr) (tt:Bool) (ws:List V),v= .ref aa->¬ O aa->Reps X.K O H1 l ws->Ct X.K H1 aa tt ws->(∀P Hc,SameO P H1 Hc->¬ P aa->Ct X.K Hc aa tt ws)->¬ Nw X.K H1 aa →
     ∃a tt,[v] = [V.ref a]/\(∃xs,Ct X.K H1 a tt xs)/\R (Kd X.K a tt) H1:=λaa tt ws e n z sq mv nn=>by
    refine⟨aa,tt,by rw[e],⟨ws,sq⟩,q' H1 (Same.refl H1) _ λP O' hP hO i Hc hsm htr=> ?_⟩
    have hnP:¬ P aa:=λy=>(hP aa y).elim n nn
    have sqc:=mv P Hc hsm hnP;refine⟨λhi=>⟨ws,sqc,by rw[<-z.length,<-qC l 0];exact hi⟩,λt ht=> ?_⟩
    rw[qD]at ht
    cases e1:l[i]? with
    | none=>rw[e1]at ht;cases ht
    | some t0=>
     rw[e1]at ht;cases ht;obtain⟨v0,f1,f2⟩:=z.get e1;refine⟨⟨ws,v0,sqc,f1⟩,λx Hc' y=> ?_⟩
     obtain⟨pp,vv,e2,hpn,e3,hy⟩:=y
     have:=hy ws sqc;rw[f1]at this;cases this;subst e2 e3;refine⟨aX hpn _,fO hpn (λzz=> ?_) (Reps.FS (by simpa using Rep.Ke _) (Reps.FS (f2.move hP hO hsm) Reps.Gc))⟩
     obtain⟨o,w⟩:=htr pp zz;rw[hpn]at w;cases w
   cases x0 with
   | tup m=>
    cases hl;obtain⟨aa,ws,e,n,qq,z⟩:=Rep.Do.mp rv
    exact main aa true ws e n z (show SqT X.K H1 aa ws from SqT.of qq) (λP Hc hsm hn=>show SqT X.K Hc aa ws from SqT.of (hsm _ _ qq hn)) λw=>by rw[w.1]at qq;cases qq
   | lst m=>
    cases hl;obtain⟨aa,ws,e,n,qq,z⟩:=Rep.Fk.mp rv
    exact main aa false ws e n z (show SqL X.K H1 aa ws from SqL.of qq) (λP Hc hsm hn=>show SqL X.K Hc aa ws from SqL.of (hsm _ _ qq hn)) λw=>by rw[w.1]at qq;cases qq
   | scr m=>
    cases hl;unfold Rep at rv;obtain⟨aa,e,n,qq⟩:=rv
    exact main aa false _ e n Reps.ints (show SqL X.K H1 aa _ from qq) (λP Hc hsm hn=>show SqL X.K Hc aa _ from Tr.SqL.keep hsm hn qq) (Tr.SqL.nn qq)
   | _=>cases hl
  ·exact q'.elim
 ·exact q'.elim
end
end Tr
namespace Tm
open PySem PyProof.Rows
theorem lG:fillsNumberSlot (.type "tuple") "mul" =pure false:=
 PySem.fillsNumberSlot_seq (id:="tuple.__mul__") (r:=some (.builtin "tuple.__rmul__")) PJ.lookup (by decide+kernel) Rp.lookup (by decide+kernel)
theorem rB:seqRepeat? (.type "tuple")=pure (some (.builtin "tuple.__mul__")):=by
 unfold seqRepeat?;rw[RV (T:="tuple") (name:="__mul__") (id:="tuple.__mul__") PJ.lookup (by decide+kernel),RV (T:="tuple") (name:="__rmul__") (id:="tuple.__rmul__") Rp.lookup (by decide+kernel)]
 rfl
theorem vR (a:Int)(t:Tok)(l:Addr)(items:Array La)(n:Nat)(dd:Option Addr)(sl:Array (Option La)) :
  Meets (Builtin.«int.__rmul__» ⟨[.int a t,.ref l],[]⟩) (λ_ R s=>s.heap.get? l=some { cls:=.type "tuple",dict:=dd,data:=.seq items n,slots:=sl }/\R (.ok (.ret Value.notImplemented)) s):=
 .of_wp λprog w A R s h=>by obtain⟨hp,g,d,tk,os⟩:=s;obtain⟨hl,h⟩:=h;wp_walk;exact⟨_,rfl,h⟩
open AutoSeq1 (wpAny_loadPart')
theorem AG (l:Addr)(items:Array La)(n:Nat)(dd:Option Addr)(sl:Array (Option La))(x:Int)(u:Tok)(h1:1<x)(h2:x<2 ^ 31)(hne:items.isEmpty=false)(hz:items.size*x.toNat<=sizeLine)
  (hz2:(Pn (λa b=>a++b) #[] (LA x.toNat items)).size<=sizeLine) :
  Meets (Builtin.«tuple.__mul__» ⟨[.ref l,.int x u],[]⟩) (λ_ R s=>s.heap.get? l=some { cls:=.type "tuple",dict:=dd,data:=.seq items n,slots:=sl } ∧
   R (.ok (.ret (LJ s.heap.objs.size))) { s with heap:=s.heap.push { cls:=OF "tuple",data:=Data.seq (Pn (λa b=>a++b) #[] (LA x.toNat items)) } }):=
 .of_wp λprog w A R s h=>by
  obtain⟨hp,g,d,tk,os⟩:=s;obtain⟨hl,h⟩:=h
  have hT:Ss hp l items:=⟨_,hl,rfl,n,rfl⟩
  have hx:((items.size:Nat):Int)*x=((items.size*x.toNat:Nat):Int):=by
   have e:x=((x.toNat:Nat):Int):=by omega
   rw[Int.natCast_mul,<-e]
  wp_walk using Nn hl
  rw[if_neg (by simp;omega)]
  refine Lc (PF (s:=⟨hp,g,d,tk,os⟩) hT ?_)
  dsimp only
  rw[if_neg (by rw[hne];simp;omega),if_neg (by rw[hne];simp;omega),hx,if_neg (by have:(sizeLine:Nat)<=1000000000:=(by decide);omega),if_neg (by unfold Builtin.Tuple.tupleTooMany;rw[decide_eq_true_iff];omega)]
  refine Lc (m:=L3 _) (Mh ?_ hz2)
  exact Lm ⟨_,rfl,h⟩
section
variable {prog:LI}{w:Mj}{A:LZ}{E:La->Ld->Prop}{s:Ld}
theorem mul_tuple {t:Addr}{vs:List La}{k:Int}{tk:Tok}{Q:La->Ld->Prop}(ht:Ss s.heap t vs.toArray)(h1:1<k)(h2:k<2 ^ 31)(hv:vs≠ [])(hz:vs.length*k.toNat<=sizeLine)
  (h:Q (.ref s.heap.objs.size) { s with heap:=s.heap.push { cls:=.type "tuple",data:=.seq (LA k.toNat vs).flatten.toArray } }) :
  wpAny (model prog w) A (MN .Mult (.ref t) (.int k tk)) Q E s:=by
 obtain⟨⟨cls,dd,data,sl⟩,ho,hc,n,hd⟩:=id ht;simp only at hc hd;subst hc hd
 have e:Pn (λa b=>a++b) #[] (LA k.toNat vs.toArray)=(LA k.toNat vs).flatten.toArray:=by
  have q:=L2.foldl_rep vs k.toNat []
  simpa using q
 refine Pg (T:="tuple") (U:="int") (by decide) ⟨_,ho,rfl⟩ (λs'=>Qr s' k tk) lG R9 OK rB RS.lookup
  (Oi OK (Qr s k tk) RT (Rl _ _) (vR k tk t vs.toArray n dd sl)
   ⟨ho,rfl,⟨_,ho,rfl⟩,Oi PJ ⟨_,ho,rfl⟩ F.entry_tuple_mul (F.args_tuple_mul_2 _ _) (AG t vs.toArray n dd sl k tk h1 h2 (by simpa using hv) (by simpa using hz) (by rw[e,Ln,L2.len_rep,RG];exact hz)) ⟨ho,?_⟩⟩)
 rw[e];exact h
end
end Tm
namespace Tr
open PySem PySem.Spec PyProof.Rows L2
section
variable {X:Cx}
def bS (x y:T):Rs T:=match x,y with
 | .tup l,.int k=>if 1<k/\k<2 ^ 31/\l≠ []/\l.length*k.toNat<=sizeLine then .ok (.tup (LA k.toNat l).flatten)else .bad
 | x,y=>wb x y
instance (l:List T):Decidable (l≠ []):=by cases l <;> simp <;> infer_instance
theorem cN:OpT X (MN .Mult) bS:=by
 intro pins s σ H O x y vx vy ux uy Q I hf rx ry r1 r2 hp;unfold bS at hp
 split at hp
 ·rename_i l k
  split at hp
  ·rename_i h
   obtain⟨a,vs,e1,n1,q1,z1⟩:=Rep.Do.mp rx;subst e1;cases Rep.Da.mp ry;cases r1;obtain⟨tk,rfl⟩:=r2;obtain⟨its,rv,pl,hz⟩:=I.tuple (SqT.of q1)
   have hl1:=z1.length
   have hl2:=rv.length
   have hne:its≠ []:=λz=>h.2.2.1 (List.eq_nil_of_length_eq_zero (by rw[hl1,hl2,z];rfl))
   refine Tm.mul_tuple pl h.1 h.2.1 hne (by rw[<-hl2,<-hl1];exact h.2.2.2) ?_
   have hn:=I.hok.fresh (Lo _);refine⟨.ref _,_,I.laid (t':=s.toks) (o:=.tup (LA k.toNat vs).flatten) (λb ob q=>Lk _ q) (Lo _) ?_,rfl,hp _ (aX hn _) _ (fO hn (hf _ hn) (z1.rep _))⟩
   refine⟨?_,_,rv.rep k.toNat,QY _ _⟩
   rw[len_rep,RG,<-hl1];exact h.2.2.2
  ·exact hp.elim
 ·exact GA pins s σ H O _ _ vx vy ux uy Q I hf rx ry r1 r2 hp
end
def Js (outer:List (Str×NN))(N:List Str)(names:List (Str×NN))(N':List Str)(src:List (Option Nat)):Bool:=
 names.all (λy=>y.2 != .cell||names.lookup y.1 == some .cell)&&names.all (λy=>y.2 != .local||names.lookup y.1 == some .local)&&src.length == N'.length&&
 (L7 N'.length).all (λj=>match src[j]? with
  | some (some i)=>match N'[j]? with
   | some x=>N[i]? == some x&&names.lookup x == some .free
   | none=>true
  | _=>true)&&
 names.all (λy=>y.2 != .free||(outer.lookup y.1 == some .cell||outer.lookup y.1 == some .free))
theorem LcScope.by {X:Cx}{scope:Ov}{N N':List Str}{src:List (Option Nat)}{names:List (Str×NN)}(hN:X.N=N)(hs:X.env.scope.names=names)(hk:scope.kind= .function)(h:Js names N scope.names N' src=true):LcScope X scope N' src:=by
 unfold Js at h;simp only[K8]at h;obtain⟨⟨⟨⟨h1,h2⟩,h3⟩,h4⟩,h5⟩:=h
 have a1:=LG.mp h1
 have a2:=LG.mp h2
 have a4:=LG.mp h4
 have a5:=LG.mp h5;refine⟨hk,λy hy hl=>by have:=a1 y hy;rw[hl]at this;simpa using this,λy hy hl=> ?_,by simpa using h3,λj i x e1 e2=> ?_,λx hx=> ?_⟩
 ·have:=a2 y hy
  rw[hl]at this
  simpa using this
 ·have hj:j<N'.length:=(Ll.mp e2).1
  have:=a4 j (L4.mpr hj);rw[e1]at this;simp only[e2]at this;rw[K8]at this;rw[hN];exact⟨by simpa using this.1,by simpa using this.2⟩
 ·have:=a5 _ hx
  simp only[bne_self_eq_false,Q2,Sb]at this
  show X.env.scope.names.lookup x=_\/X.env.scope.names.lookup x=_
  rw[hs];rcases this with z | z
  ·exact .inl (by simpa using z)
  ·exact .inr (by simpa using z)
def bK:Expr->Bool
 | .Starred .. =>false
 | _=>true
def bF:List Expr->Bool
 | [] =>true
 | e::r=>bK e&&bF r
theorem bH {e:Expr}{es:List Expr}{env:Env}(h:bK e=true):Lx (e::es) env=(false,eval e env)::Lx es env:=by
 cases e <;> first | rfl | cases h
theorem eM {pos:Pos}{env:Env}:∀{es:List Expr},bF es=true->(backTo pos (Lx es env)).any (·.1)=false
 | [],_=>rfl
 | e::r,h=>by
  unfold bF at h;rw[K8]at h;rw[bH h.1]
  have ih:=eM (pos:=pos) (env:=env) h.2
  show(false||(backTo pos (Lx r env)).any (·.1))=false
  rw[ih];rfl
section
variable {X:Cx}{a b e:Expr}{es:List Expr}{fa:En->Rs T}{fs:En->Rs (List T)}{pos p p2:Pos}{x:Str}
theorem qa_c {f:En->Rs T}{g:En->Rs (List T)}(he:cg X e f)(hr:p6 X es g)(hn:autoParam (bK e=true) aqd._auto_1):p6 X (e::es) (af f g):=Dl he hr (bH hn)
theorem q_cB {id:String}{g:List T->Rs T}(hc:CallT X (.builtin id) g)(hm:X.mg x=none)(hv:Mf x=some (.builtin id))(ha:p6 X (e::es) fs)(hn:autoParam (bF (e::es)=true) aqd._auto_1)(hg:autoParam (Gl X x) aqd._auto_1)(h1:autoParam (x≠ "__name__") aqb._auto_1)(h2:autoParam ((x == ("__debug__" : Str))=false) aqb._auto_1) :
  cg X (.Call (.Name x p) (e::es) [] pos) (cl g fs):=by
 unfold bF at hn;rw[K8]at hn;exact Dq hc hm hv ha hg h1 h2 (bH hn.1) (eM hn.2)
theorem q_cT {Ty:String}{g:List T->Rs T}(hc:CallT X (.type Ty) g)(hm:X.mg x=none)(hv:Mf x=some (.type Ty))(ha:p6 X (e::es) fs)(hn:autoParam (bF (e::es)=true) aqd._auto_1)(hg:autoParam (Gl X x) aqd._auto_1)(h1:autoParam (x≠ "__name__") aqb._auto_1)(h2:autoParam ((x == ("__debug__" : Str))=false) aqb._auto_1) :
  cg X (.Call (.Name x p) (e::es) [] pos) (cl g fs):=by
 unfold bF at hn;rw[K8]at hn;exact zZ hc hm hv ha hg h1 h2 (bH hn.1) (eM hn.2)
theorem q_c {n k:Nat}{f:Addr}{fd:Mp}{ps:List Str}{g:List T->Rs T}(F:Cw X.prog X.w X.K X.mg X.base k f fd ps n g)(hr:Room k X.A)(hm:X.mg x=some (.ref f))(hk:Nb X.K (.ref f)=true)(hb:Binds X.K fd ps [])
  (hl:∀Z ts,fs Z= .ok ts->ts.length=n) (ha:p6 X (e::es) fs) (hps:autoParam (ps.length=n) aqd._auto_1) (hn:autoParam (bF (e::es)=true) aqd._auto_1) (hg:autoParam (Gl X x) aqd._auto_1) (h2:autoParam ((x == ("__debug__" : Str))=false) aqb._auto_1):cg X (.Call (.Name x p) (e::es) [] pos) (cl g fs):=by
 unfold bF at hn;rw[K8]at hn;exact Gk F hr hm hk hb hps hl ha hg h2 (bH hn.1) (eM hn.2)
theorem q_is {tn:Str}{Ty:String}(hm:X.mg "isinstance" =none)(hmt:X.mg tn=none)(hv:Mf tn=some (.type Ty))(ha:cg X a fa)(hn:autoParam (bK a=true) aqd._auto_1)(hg:autoParam (Gl X "isinstance") aqd._auto_1)(hgt:autoParam (Gl X tn) aqd._auto_1)
  (h1:autoParam (tn≠ "__name__") aqb._auto_1) (h2:autoParam ((tn == ("__debug__" : Str))=false) aqb._auto_1):cg X (.Call (.Name "isinstance" p) [a,.Name tn p2] [] pos) (o1 (Ef Ty) fa):=
 IL hm hmt hv ha hg hgt h1 h2 (bH hn) (eM rfl) (bH rfl)
end
theorem yk (Z:En)(ts:List T)(h:ak Z= .ok ts):ts.length=0:=by cases h;rfl
theorem yj {n:Nat}{f:En->Rs T}{g:En->Rs (List T)}(hg:∀Z ts,g Z= .ok ts->ts.length=n)(Z:En)(ts:List T)(h:af f g Z= .ok ts):ts.length=n+1:=by
 unfold af at h
 cases q:f Z with
 | bad=>rw[q]at h;cases h
 | err c=>rw[q]at h;cases h
 | ok t=>
  rw[q,aA]at h
  cases q2:g Z with
  | bad=>rw[q2]at h;cases h
  | err c=>rw[q2]at h;cases h
  | ok r=>
   rw[q2,aA]at h;cases h;rw[Li,hg Z r q2]
theorem lT {k:Nat}{A:LZ}(h:Room k A):A.units+60<cLine:=by have:=h.un;omega
theorem Ho {k:Nat}{A:LZ}(h:Room k A):A.units+61<cLine:=by have:=h.un;omega
structure Fn (K:K7)(mg:Str->Option La)(x:Str)(st:Stmt)(ps:List Str)(f:Addr)(fd:Mp):Prop where
 fn:L2.Fun K x x st f fd
 bd:Binds K fd ps []
 mg:mg x=some (.ref f)
def val (n m:Nat)(F:En->Rs Fl)(ts:List T):Rs T:=if ts.length=n then bD F (aO m ts)else .bad
theorem FK {n m:Nat}{F:En->Rs Fl}{ts:List T}{t:T}(h:val n m F ts= .ok t):bD F (aO m ts)= .ok t:=by
 unfold val at h
 split at h
 ·exact h
 ·cases h
theorem sp_script {K:K7}{H:Hp}{a:Addr}{ns:List Int}{g:List T->Rs T}{E:XK}(hS:SqL K H a (ns.map V.int))(h:g [.scr ns] = .ok (.bl true)):spP K 1 g [.ref a] H (λv _=>v= .bl true) E:=by
 refine⟨[.scr ns],λ_=>False,Reps.FS ?_ Reps.Gc,λ_ z=>z.elim,rfl,?_⟩
 ·unfold Rep;exact⟨a,rfl,λz=>z,hS⟩
 ·rw[h];exact λv H' _ r=>Rep.FM.mp r
theorem uc {α:Type}{l:List α}{i:Nat}{z:α}(h:l[i]? =some z):l.set i z=l:=by
 obtain⟨hi,rfl⟩:=Ll.mp h
 exact List.set_getElem_self hi
def Mn.set (M:Mn)(i:Nat)(m:Ow):Mn:=λj=>if j=i then m else M j
theorem Mn.Kf {M:Mn}{i:Nat}{m:Ow}{a:Addr}(h:(M.set i m).u a):m a\/M.u a:=by
 obtain⟨j,h⟩:=h;unfold Mn.set at h
 by_cases z:j=i
 ·rw[if_pos z]at h;exact .inl h
 ·rw[if_neg z]at h;exact .inr ⟨j,h⟩
theorem Mn.Kl {M:Mn}{i:Nat}{m:Ow}:M.set i m i=m:=by unfold Mn.set;rw[if_pos rfl]
theorem Mn.Kq {M:Mn}{i j:Nat}{m:Ow}(h:j≠i):M.set i m j=M j:=by unfold Mn.set;rw[if_neg h]
theorem RowsR.move {K:K7}{O O' P:Ow}{H H':Hp}(hP:∀a,P a->O a\/Nw K H a)(hO:∀a,O' a->O a\/Nw K H a)(h:SameO P H H'):∀{rs:List (List T×List T)} {as:List Addr},(∀b∈as,¬P b)->RowsR K O H rs as->RowsR K O' H' rs as
 | [],_,_,r=>r
 | _::_,_,hb,⟨b,bs,kvs,e1,e2,e3,e4,e5⟩=>by
  subst e1;exact⟨b,bs,kvs,rfl,h _ _ e2 (hb b Lg),e3,e4.move hP hO h,e5.move hP hO h λc hc=>hb c (K9 _ hc)⟩
theorem LsR.move {K:K7}{O O' P:Ow}{H H':Hp}(hP:∀a,P a->O a\/Nw K H a)(hO:∀a,O' a->O a\/Nw K H a)(h:SameO P H H'):∀{rs:List (List T)} {as:List Addr},(∀b∈as,¬P b)->LsR K O H rs as->LsR K O' H' rs as
 | [],_,_,r=>r
 | _::_,_,hb,⟨b,bs,vs,e1,e2,e4,e5⟩=>by
  subst e1;exact⟨b,bs,vs,rfl,h _ _ e2 (hb b Lg),e4.move hP hO h,e5.move hP hO h λc hc=>hb c (K9 _ hc)⟩
theorem ORep.move {K:K7}{O O' P M:Ow}{H H':Hp}{o:OT}{v:V}(hP:∀a,P a->O a\/Nw K H a)(hO:∀a,O' a->O a\/Nw K H a)(h:SameO P H H')(hM:∀a,M a->¬ P a)(r:ORep K O M H o v):ORep K O' M H' o v:=by
 cases o with
 | lst l=>obtain⟨a,vs,e1,e2,e3,e4⟩:=r;exact⟨a,vs,e1,e2,h _ _ e3 (hM a ((e2 a).mpr rfl)),e4.move hP hO h⟩
 | dct ks ts=>obtain⟨a,kvs,e1,e2,e3,e4,e5⟩:=r;exact⟨a,kvs,e1,e2,h _ _ e3 (hM a ((e2 a).mpr rfl)),e4,e5.move hP hO h⟩
 | dd ks rows=>
  obtain⟨a,kvs,as,e1,e2,e3,e4,e5,e6,e7,e8⟩:=r
  exact⟨a,kvs,as,e1,e2,e3,e4,h _ _ e5 (hM a ((e2 a).mpr (.inl rfl))),e6,e7,e8.move hP hO h λb hb=>hM b ((e2 b).mpr (.inr hb))⟩
 | ob C ns ls=>
  obtain⟨a,dx,as,e1,e2,e3,e4,e5,e6,e7,e8⟩:=r;exact⟨a,dx,as,e1,e2,e3,h _ _ e4 (hM a ((e2 a).mpr (.inl rfl))),h _ _ e5 (hM dx ((e2 dx).mpr (.inr (.inl rfl)))),e6,e7,e8.move hP hO h λb hb=>hM b ((e2 b).mpr (.inr (.inr hb)))⟩
theorem RowsR.mtb {K:K7}{O:Ow}{H:Hp}:∀{rs:List (List T×List T)} {as:List Addr},RowsR K O H rs as->∀b∈as,∃kvs,H b=some (.dT kvs)
 | [],_,r,b,hb=>by unfold RowsR at r;subst r;simp at hb
 | _::_,_,⟨b0,bs,kvs,e1,e2,e3,e4,e5⟩,b,hb=>by
  subst e1;rcases Lj.mp hb with rfl | hb
  ·exact⟨kvs,e2⟩
  ·exact e5.mtb b hb
theorem LsR.mtb {K:K7}{O:Ow}{H:Hp}:∀{rs:List (List T)} {as:List Addr},LsR K O H rs as->∀b∈as,∃vs,H b=some (.lst vs)
 | [],_,r,b,hb=>by unfold LsR at r;subst r;simp at hb
 | _::_,_,⟨b0,bs,kvs,e1,e2,e4,e5⟩,b,hb=>by
  subst e1;rcases Lj.mp hb with rfl | hb
  ·exact⟨kvs,e2⟩
  ·exact e5.mtb b hb
def LO (H:Hp)(a:Addr):Prop:=(∃vs,H a=some (.lst vs))\/∃o,H a=some o/\isO o=true
def OT.isD:OT->Bool
 | .lst _=>false
 | .ob _ _ _=>false
 | _=>true
theorem ORep.kind {K:K7}{O M:Ow}{H:Hp}{o:OT}{v:V}(r:ORep K O M H o v):∀a,M a->if o.isD then ∃kvs,H a=some (.dT kvs)else LO H a:=λa z=>by
 cases o with
 | lst l=>obtain⟨b,vs,e1,e2,e3,e4⟩:=r;cases (e2 a).mp z;exact .inl ⟨vs,e3⟩
 | dct ks ts=>obtain⟨b,kvs,e1,e2,e3,e4,e5⟩:=r;cases (e2 a).mp z;exact⟨kvs,e3⟩
 | dd ks rows=>
  obtain⟨b,kvs,as,e1,e2,e3,e4,e5,e6,e7,e8⟩:=r
  rcases(e2 a).mp z with z | z
  ·cases z;exact⟨kvs,e5⟩
  ·exact e8.mtb a z
 | ob C ns ls=>
  obtain⟨b,dx,as,e1,e2,e3,e4,e5,e6,e7,e8⟩:=r
  rcases(e2 a).mp z with z | z | z
  ·cases z;exact .inr ⟨_,e4,rfl⟩
  ·cases z;exact .inr ⟨_,e5,rfl⟩
  ·exact .inl (e8.mtb a z)
theorem ORep.mtb {K:K7}{O M:Ow}{H:Hp}{o:OT}{v:V}(r:ORep K O M H o v)(a:Addr)(z:M a):Mtb H a:=by
 have:=r.kind a z
 split at this
 ·exact .inr (.inl this)
 ·exact this.imp_right .inr
theorem uk {K:K7}{O:Ow}{H:Hp}:∀{rs:List (List T×List T)} {as:List Addr},(∀b∈as,¬O b)->RowsR K O H rs as->Reps K O H (rs.map λr=>T.dct r.1 r.2) (as.map V.ref)
 | [],_,_,r=>by unfold RowsR at r;subst r;exact Reps.Gc
 | _::_,_,hn,⟨b,bs,kvs,e1,e2,e3,e4,e5⟩=>by
  subst e1;exact Reps.FS (Rep.GE.mpr ⟨b,kvs,rfl,hn b Lg,.inl e2,e3,e4⟩) (uk (λc hc=>hn c (K9 _ hc)) e5)
theorem RowsR.less {K:K7}{O O':Ow}{H:Hp}(sub:∀a,O' a->O a):∀{rs:List (List T×List T)} {as:List Addr},RowsR K O H rs as->RowsR K O' H rs as
 | [],_,r=>r
 | _::_,_,⟨b,bs,kvs,e1,e2,e3,e4,e5⟩=>⟨b,bs,kvs,e1,e2,e3,e4.less sub,e5.less sub⟩
theorem LsR.less {K:K7}{O O':Ow}{H:Hp}(sub:∀a,O' a->O a):∀{rs:List (List T)} {as:List Addr},LsR K O H rs as->LsR K O' H rs as
 | [],_,r=>r
 | _::_,_,⟨b,bs,kvs,e1,e2,e4,e5⟩=>⟨b,bs,kvs,e1,e2,e4.less sub,e5.less sub⟩
theorem LsR.rep {K:K7}{O:Ow}{H:Hp}:∀{rs:List (List T)} {as:List Addr},(∀b∈as,¬O b)->LsR K O H rs as->Reps K O H (rs.map T.lst) (as.map V.ref)
 | [],_,_,r=>by unfold LsR at r;subst r;exact Reps.Gc
 | _::_,_,hn,⟨b,bs,kvs,e1,e2,e4,e5⟩=>by
  subst e1;exact Reps.FS (Rep.Fk.mpr ⟨b,kvs,rfl,hn b Lg,e2,e4⟩) (LsR.rep (λc hc=>hn c (K9 _ hc)) e5)
theorem mP {α β:Type}:∀{l:List α} {m:List β},l.length=m.length->(l.zip m).map (·.1)=l
 | [],[],_=>rfl
 | a::l,b::m,h=>by
  have h':l.length=m.length:=by simpa using h
  show a::(l.zip m).map (·.1)=_
  rw[mP h']
theorem w6 {α β:Type}:∀{l:List α} {m:List β},l.length=m.length->(l.zip m).map (·.2)=m
 | [],[],_=>rfl
 | a::l,b::m,h=>by
  have h':l.length=m.length:=by simpa using h
  show b::(l.zip m).map (·.2)=_
  rw[w6 h']
theorem ORep.rep {K:K7}{O O' M:Ow}{H:Hp}{o:OT}{v:V}(sub:∀a,O' a->O a)(hn:∀a,M a->¬ O' a)(r:ORep K O M H o v):Rep K O' H o.view v:=by
 cases o with
 | lst l=>obtain⟨a,vs,e1,e2,e3,e4⟩:=r;exact Rep.Fk.mpr ⟨a,vs,e1,hn a ((e2 a).mpr rfl),e3,e4.less sub⟩
 | dct ks ts=>obtain⟨a,kvs,e1,e2,e3,e4,e5⟩:=r;exact Rep.GE.mpr ⟨a,kvs,e1,hn a ((e2 a).mpr rfl),.inl e3,e4,e5.less sub⟩
 | dd ks rows=>
  obtain⟨a,kvs,as,e1,e2,e3,e4,e5,e6,e7,e8⟩:=r;refine Rep.GE.mpr ⟨a,kvs,e1,hn a ((e2 a).mpr (.inl rfl)),.inl e5,e6,?_⟩
  rw[e7]
  exact uk (λb hb=>hn b ((e2 b).mpr (.inr hb))) (e8.less sub)
 | ob C ns ls=>
  obtain⟨a,dx,as,e1,e2,e3,e4,e5,e6,e7,e8⟩:=r
  have hl:ns.length=(as.map V.ref).length:=by rw[Lh];exact e6
  refine Rep.Ko.mpr ⟨a,dx,_,e1,hn a ((e2 a).mpr (.inl rfl)),e4,mP hl,?_⟩
  rw[w6 hl];exact(e8.less sub).rep λb hb=>hn b ((e2 b).mpr (.inr (.inr hb)))
section
variable {K:K7}{B:Ow}{M:Mn}{H H':Hp}{Z:En}{σ:L2.St}{i:Nat}{o o':OT}{v:V}{m:Ow}
theorem Ev.new (E:Ev K B M H Z σ)(hl:i<Z.length)(hm:∀a,m a->Nw K H a)(s:Same H H')(r:ORep K (OO B (M.set i m)) m H' o v) :
  Ev K B (M.set i m) H' (Z.set i (.ow o)) (σ.set i (some v))/\∀a,(M.set i m).u a->M.u a\/Nw K H a:=by
 have hls:i<σ.length:=by rw[<-E.env.len];exact hl
 have sub:∀a,(M.set i m).u a->M.u a\/Nw K H a:=λa z=>(Mn.Kf z).elim (λw=> .inr (hm a w)) .inl
 have subO:∀a,OO B (M.set i m) a->OO B M a\/Nw K H a:=λa z=>z.elim (λw=> .inl (.inl w)) λw=>(sub a w).elim (λy=> .inl (.inr y)) .inr
 have du:∀a,Nw K H a->¬ OO B M a:=λa w z=>by
  obtain⟨o,e⟩:=(E.env.trk a z).some;rw[w.1]at e;cases e
 refine⟨⟨⟨by rw[MH,MH];exact E.env.len,λj t e=> ?_,λj o' e=> ?_,λj a z=> .inr ⟨j,z⟩,λj k a z1 z2=> ?_,λa z=> ?_⟩,λa z=> ?_⟩,sub⟩
 ·by_cases hj:i=j
  ·subst hj;rw[LH hl]at e;cases e
  ·rw[LC hj]at e
   obtain⟨w,e1,e2⟩:=E.env.val j t e;exact⟨w,by rw[LC hj];exact e1,(e2.more subO).same s⟩
 ·by_cases hj:i=j
  ·subst hj
   rw[LH hl]at e
   cases e;exact⟨v,LH hls,by rw[Mn.Kl];exact r⟩
  ·rw[LC hj]at e
   obtain⟨w,e1,e2⟩:=E.env.own j o' e;refine⟨w,by rw[LC hj];exact e1,?_⟩
   rw[Mn.Kq (λz=>hj z.symm)]
   exact(e2.move (P:=lp) (λ_ z=>z.elim) subO (λb u q _=>q) λ_ _ z=>z).same s
 ·unfold Mn.set at z1 z2
  by_cases hj:j=i
  ·by_cases hk:k=i
   ·exact hj.trans hk.symm
   ·rw[if_pos hj]at z1;rw[if_neg hk]at z2
    exact(du a (hm a z1) (.inr ⟨k,z2⟩)).elim
  ·by_cases hk:k=i
   ·rw[if_neg hj]at z1;rw[if_pos hk]at z2
    exact(du a (hm a z2) (.inr ⟨j,z1⟩)).elim
   ·rw[if_neg hj]at z1;rw[if_neg hk]at z2
    exact E.env.dis j k a z1 z2
 ·rcases z with z | z
  ·exact(E.env.trk a (.inl z)).same s
  ·rcases Mn.Kf z with w | w
   ·exact r.mtb a w
   ·exact(E.env.trk a (.inr w)).same s
 ·intro hb
  rcases Mn.Kf z with w | w
  ·exact du a (hm a w) (.inl hb)
  ·exact E.mine a w hb
theorem Ev.put (E:Ev K B M H Z σ)(hi:Z[i]? =some (.ow o))(hs:σ[i]? =some (some v))(s:SameO (M i) H H')(r:ORep K (OO B M) (M i) H' o' v):Ev K B M H' (Z.set i (.ow o')) σ/\SameO M.u H H':=by
 have hl:i<Z.length:=(Ll.mp hi).1
 have inO:∀a,M i a->OO B M a\/Nw K H a:=λa z=> .inl (.inr ⟨i,z⟩)
 have idO:∀a,OO B M a->OO B M a\/Nw K H a:=λa z=> .inl z
 refine⟨⟨⟨by rw[MH];exact E.env.len,λj t e=> ?_,λj o2 e=> ?_,E.env.sub,E.env.dis,λa z=> ?_⟩,E.mine⟩,λb u e n=>s b u e λz=>n ⟨i,z⟩⟩
 ·by_cases hj:i=j
  ·subst hj;rw[LH hl]at e;cases e
  ·rw[LC hj]at e
   obtain⟨w,e1,e2⟩:=E.env.val j t e;exact⟨w,e1,e2.move inO idO s⟩
 ·by_cases hj:i=j
  ·subst hj
   rw[LH hl]at e
   cases e;exact⟨v,hs,r⟩
  ·rw[LC hj]at e
   obtain⟨w,e1,e2⟩:=E.env.own j o2 e;exact⟨w,e1,e2.move inO idO s λa z y=>hj (E.env.dis i j a y z)⟩
 ·by_cases hz:M i a
  ·exact r.mtb a hz
  ·exact(E.env.trk a z).at λo e=>s _ _ e hz
def disown (i:Nat)(Z:En):En:=match Z[i]? with
 | some (.ow o)=>Z.set i (.va o.view)
 | _=>Z
theorem EnvM.disown {O O':Ow}{Z:En}(E:EnvM K O M H Z σ)(i:Nat)(sub:∀a,O' a->O a)(hn:∀a,M i a->¬ O' a)(hin:∀j a,j≠i->M j a->O' a):EnvM K O' (M.set i lp) H (disown i Z) σ:=by
 have base:EnvM K O' (M.set i lp) H (Z.set i (match Z[i]? with | some (.ow o)=> .va o.view | some x=>x | none=> .em)) σ:=by
  refine⟨by rw[MH];exact E.len,λj t e=> ?_,λj o e=> ?_,λj a z=> ?_,λj k a z1 z2=> ?_,λa z=>E.trk a (sub a z)⟩
  ·by_cases hj:i=j
   ·subst hj
    by_cases hl:i<Z.length
    ·rw[LH hl]at e
     cases q:Z[i]? with
     | none=>rw[q]at e;cases e
     | some z=>
      rw[q]at e
      cases z with
      | em=>cases e
      | va t'=>cases e;obtain⟨w,e1,e2⟩:=E.val i _ q;exact⟨w,e1,e2.less sub⟩
      | ow o=>cases e;obtain⟨w,e1,e2⟩:=E.own i _ q;exact⟨w,e1,e2.rep sub hn⟩
    ·rw[Na (by rw[MH];omega)]at e;cases e
   ·rw[LC hj]at e
    obtain⟨w,e1,e2⟩:=E.val j t e;exact⟨w,e1,e2.less sub⟩
  ·by_cases hj:i=j
   ·subst hj
    by_cases hl:i<Z.length
    ·rw[LH hl]at e
     cases q:Z[i]? with
     | none=>rw[q]at e;cases e
     | some z=>
      rw[q]at e
      cases z with
      | em=>cases e
      | va t'=>cases e
      | ow o=>cases e
    ·rw[Na (by rw[MH];omega)]at e;cases e
   ·rw[LC hj]at e
    obtain⟨w,e1,e2⟩:=E.own j o e;refine⟨w,e1,?_⟩
    rw[Mn.Kq (λz=>hj z.symm)]
    exact e2.move (P:=lp) (λ_ z=>z.elim) (λa z=> .inl (sub a z)) (λb u q _=>q) λ_ _ z=>z
  ·unfold Mn.set at z
   by_cases hj:j=i
   ·rw[if_pos hj]at z;exact z.elim
   ·rw[if_neg hj]at z;exact hin j a hj z
  ·unfold Mn.set at z1 z2
   by_cases hj:j=i
   ·rw[if_pos hj]at z1;exact z1.elim
   ·by_cases hk:k=i
    ·rw[if_pos hk]at z2;exact z2.elim
    ·rw[if_neg hj]at z1;rw[if_neg hk]at z2;exact E.dis j k a z1 z2
 unfold Tr.disown
 cases q:Z[i]? with
 | none=>rw[q,List.set_eq_of_length_le (List.getElem?_eq_none_iff.mp q)]at base;exact base
 | some z=>
  rw[q]at base
  cases z with
  | em=>rw[uc q]at base;exact base
  | va t=>rw[uc q]at base;exact base
  | ow o=>exact base
theorem Ev.disown (E:Ev K B M H Z σ)(i:Nat):Ev K B (M.set i lp) H (disown i Z) σ/\∀a,(M.set i lp).u a->M.u a:=by
 have sub:∀a,(M.set i lp).u a->M.u a:=λa z=>(Mn.Kf z).elim (λw=>w.elim) id
 refine⟨⟨E.env.disown i (λa z=>z.elim .inl λw=> .inr (sub a w)) (λa z y=> ?_) λj a hj z=> .inr ⟨j,by rw[Mn.Kq hj];exact z⟩,λa z=>E.mine a (sub a z)⟩,sub⟩
 rcases y with y | ⟨j,y⟩
 ·exact E.mine a ⟨i,z⟩ y
 ·unfold Mn.set at y
  by_cases hj:j=i
  ·rw[if_pos hj]at y;exact y
  ·rw[if_neg hj]at y;exact hj (E.env.dis j i a y z)
end
section
variable {X:Cx}{a:Expr}{es:List Expr}{fa:En->Rs T}{pos p2 p3:Pos}{x:Str}
theorem Ev.subO {K:K7}{B:Ow}{M:Mn}{H:Hp}{i:Nat}{m:Ow}(hm:∀a,m a->Nw K H a)(a:Addr)(z:OO B (M.set i m) a):OO B M a\/Nw K H a:=
 z.elim (λw=> .inl (.inl w)) λw=>(Mn.Kf w).elim (λy=> .inr (hm a y)) λy=> .inl (.inr y)
theorem jj {K:K7}{H H1:Hp}(s:Same H H1){a:Addr}(n:Nw K H1 a):Nw K H a:=(gh (SameO.of (P:=lp) s) n).elim (λz=>z.elim) id
def Ig (X:Cx)(t:TA):TE:=λσ H Q=>t σ H λxs H1=>xs.length<=sizeLine/\∀p,Nw X.K H1 p->Q (.ref p) (upd H1 p (.lst xs))
theorem xp {t:TA}(h:PA X es t):PE X (.List es pos) (Ig X t):=by
 intro pins s σ H Q I hq;refine Rb (bV (h pos pins s σ H _ I hq) λus s1 ⟨xs,H1,I1,r,z,q⟩=>⟨by rw[<-r.length];exact z,?_⟩)
 have hf:H1 s1.heap.objs.size=none:=I1.hok.fresh (Lo _)
 have hk:X.K.lookup s1.heap.objs.size=none:=by
  cases q:X.K.lookup s1.heap.objs.size with
  | none=>rfl
  | some o=>exact absurd (Lq (I1.kIn _ o q)) (LQ _)
 refine⟨.ref s1.heap.objs.size,upd H1 s1.heap.objs.size (.lst xs),I1.laid (t':=s1.toks) (λb u e=>Lk _ e) (Lo _) ?_,rfl,q _ ⟨hf,hk⟩⟩
 exact⟨z,us,0,r,Lz _ rfl⟩
def iM (i:Nat)(f:En->Rs (List T))(Z:En):Rs Fl:=do
 let l <-f Z
 if i<Z.length/\l.length<=sizeLine then .ok (.nx (Z.set i (.ow (.lst l))))else .bad
theorem C7 (i:Nat){f:En->Rs (List T)}(hN:X.N.Nodup)(ha:p6 X es f)(hi:autoParam (X.N[i]? =some x) aqd._auto_1)(hx:autoParam (Loc X.env.scope x) aqh._auto_1)(hs:autoParam (L5 (.List es p2) (some (.Name x p3)) pos.line X.env=pure false) aqd._auto_1)
  (hf:autoParam (X.fn x=true\/X.env.scope.names.lookup x=some .local) aqa._auto_1):mZ X (.Assign [.Name x p3] (.List es p2) pos) (iM i f):=PS.imp (nK hN hi hx (xp ha) hs hf) λD σ H hh_=>by
 obtain⟨Z,B,M,E,h⟩:=hh_;refine⟨Z,OO B M,E.o,?_⟩
 unfold iM at h
 cases q:f Z with
 | bad=>rw[q]at h;exact h.elim
 | err c=>rw[q]at h;exact PostF.xa h
 | ok l=>
  rw[q,aA]at h;intro H1 s1 vs rs
  by_cases hl:i<Z.length/\l.length<=sizeLine
  ·rw[if_pos hl]at h
   refine⟨by rw[<-rs.length];exact hl.2,λp hp=> ?_⟩
   have hm:∀a,a=p->Nw X.K H1 a:=λa z=>z▸hp
   obtain⟨E2,sub⟩:=(E.same s1).new (m:=λa=>a=p) (o:=.lst l) (v:=.ref p) (H':=upd H1 p (.lst vs)) hl.1 hm (aX hp.1 _) ⟨p,vs,rfl,λb=>N5,aT,(rs.more (Ev.subO hm)).same (aX hp.1 _)⟩
   exact h _ _ _ (SameO.of (s1.trans (aX hp.1 _))) E2 λa z=>(sub a z).imp_right (jj s1)
  ·rw[if_neg hl]at h
   exact h.elim
def ly (i:Nat)(f:En->Rs T)(Z:En):Rs Fl:=match Z[i]? with
 | some (.ow (.lst l))=>f Z >>= λt=>if l.length<sizeLine then .ok (.nx (Z.set i (.ow (.lst (l++ [t])))))else .bad
 | _=> .bad
theorem Ev.putL {K:K7}{B:Ow}{M:Mn}{H:Hp}{Z:En}{σ:L2.St}{i:Nat}{o:OT}{l':List T}{b:Addr}{vs':List V}(E:Ev K B M H Z σ)(hi:Z[i]? =some (.ow o))(hs:σ[i]? =some (some (.ref b)))(hM:∀c,M i c↔c=b)(r:Reps K (OO B M) H l' vs') :
  Ev K B M (upd H b (.lst vs')) (Z.set i (.ow (.lst l'))) σ/\SameO M.u H (upd H b (.lst vs')):=by
 have sm:SameO (M i) H (upd H b (.lst vs')):=λc u e nb=>by rw[aH (λz=>nb ((hM c).mpr z))];exact e
 exact E.put hi hs sm ⟨b,vs',rfl,hM,aT,r.move (P:=M i) (λa z=> .inl (.inr ⟨i,z⟩)) (λa z=> .inl z) sm⟩
theorem Gd (i:Nat){apos cpos:Pos}(ha:cg X a fa)(hN:autoParam (X.N[i]? =some x) aqd._auto_1)(hv:autoParam (mK X.env.scope x) aqe._auto_1)(hn:autoParam (bK a=true) aqd._auto_1)
  (hbase:autoParam (LP (.Name x p2) "append" X.env (eval (.Name x p2) X.env)=eval (.Name x p2) X.env) aqd._auto_1) (hline:autoParam ((apos.endLine == cpos.line)=true) aqd._auto_1)
  (hd:autoParam ((x == ("__debug__" : Str))=false) aqb._auto_1) (hcd:autoParam ((x == ("__classdict__" : Str))=false) aqb._auto_1)
  (hsw:autoParam (L5 (.Call (.Attribute (.Name x p2) "append" apos) [a] [] cpos) none pos.line X.env=pure false) aqd._auto_1):mZ X (.Expr (.Call (.Attribute (.Name x p2) "append" apos) [a] [] cpos) pos) (ly i fa):=by
 have h1:Lx [a] X.env=(false,eval a X.env)::Lx [] X.env:=bH hn;refine PS.imp (kJ (Ak MW Pk Pl lL (fP hN hv hd hcd) (gg ha lA h1) hbase ?_ hline h1 rfl) hsw) λD σ H ⟨Z,B,M,E,h⟩=> ?_
 ·rw[h1];rfl
 unfold ly at h
 split at h
 ·rename_i l hl
  obtain⟨v0,e1,b,vs,rfl,hM,e3,e4⟩:=E.env.own i _ hl;refine⟨.ref b,e1,.inl ⟨rfl,vs,SqL.of e3⟩,Z,OO B M,E.o,?_⟩
  cases q:fa Z with
  | bad=>rw[q]at h;exact h.elim
  | err c=>rw[q]at h;exact PostF.xa h
  | ok t=>
   rw[q,aA]at h
   split at h
   ·rename_i hz
    intro H1 s1 v r
    have e3':=s1 _ _ e3;refine⟨b,vs,v,rfl,rfl,e3',by rw[<-e4.length];exact hz,?_⟩
    obtain⟨g1,g2⟩:=(E.same s1).putL (l':=l++ [t]) (vs':=vs++ [v]) hl e1 hM ((e4.same s1).append (Reps.FS r Reps.Gc));exact h σ _ M (λc o e nb=>g2 c o (s1 _ _ e) nb) g1 λc z=> .inl z
   ·exact h.elim
 ·exact h.elim
def Ht (i:Nat)(l:List T)(Z:En):T->Rs Fl
 | .lst m=>if l.length+m.length<=sizeLine then .ok (.nx (Z.set i (.ow (.lst (l++m)))))else .bad
 | _=> .bad
def nH (i:Nat)(f:En->Rs T)(Z:En):Rs Fl:=match Z[i]? with
 | some (.ow (.lst l))=>f Z >>= Ht i l Z
 | _=> .bad
theorem F7 (i:Nat){apos cpos:Pos}(ha:cg X a fa)(hN:autoParam (X.N[i]? =some x) aqd._auto_1)(hv:autoParam (mK X.env.scope x) aqe._auto_1)(hn:autoParam (bK a=true) aqd._auto_1)
  (hbase:autoParam (LP (.Name x p2) "extend" X.env (eval (.Name x p2) X.env)=eval (.Name x p2) X.env) aqd._auto_1) (hline:autoParam ((apos.endLine == cpos.line)=true) aqd._auto_1)
  (hd:autoParam ((x == ("__debug__" : Str))=false) aqb._auto_1) (hcd:autoParam ((x == ("__classdict__" : Str))=false) aqb._auto_1)
  (hsw:autoParam (L5 (.Call (.Attribute (.Name x p2) "extend" apos) [a] [] cpos) none pos.line X.env=pure false) aqd._auto_1):mZ X (.Expr (.Call (.Attribute (.Name x p2) "extend" apos) [a] [] cpos) pos) (nH i fa):=by
 have h1:Lx [a] X.env=(false,eval a X.env)::Lx [] X.env:=bH hn;refine PS.imp (kJ (Ak MW PySem.F.slot_list_extend PySem.F.type_list_extend yN (fP hN hv hd hcd) (gg ha lA h1) hbase ?_ hline h1 rfl) hsw) λD σ H ⟨Z,B,M,E,h⟩=> ?_
 ·rw[h1];rfl
 unfold nH at h
 split at h
 ·rename_i l hl
  obtain⟨v0,e1,b,vs,rfl,hM,e3,e4⟩:=E.env.own i _ hl;refine⟨.ref b,e1,.inl ⟨rfl,vs,SqL.of e3⟩,Z,OO B M,E.o,?_⟩
  cases q:fa Z with
  | bad=>rw[q]at h;exact h.elim
  | err c=>rw[q]at h;exact PostF.xa h
  | ok t=>
   rw[q,aA]at h;unfold Ht at h
   split at h
   ·rename_i m
    split at h
    ·rename_i hz
     intro H1 s1 v r;obtain⟨c,ws,rfl,nO,hc,rm⟩:=Rep.Fk.mp r
     have e3':=s1 _ _ e3;refine⟨b,c,vs,ws,rfl,rfl,e3',hc,by rw[<-e4.length,<-rm.length];exact hz,?_⟩
     obtain⟨g1,g2⟩:=(E.same s1).putL (l':=l++m) (vs':=vs++ws) hl e1 hM ((e4.same s1).append rm);exact h σ _ M (λc o e nb=>g2 c o (s1 _ _ e) nb) g1 λc z=> .inl z
    ·exact h.elim
   ·exact h.elim
 ·exact h.elim
def pC (i:Nat)(F:En->Rs Fl)(Z:En):Rs Fl:=F (disown i Z)
theorem F9 (i:Nat){st:Stmt}{F:En->Rs Fl}(h:mZ X st F):mZ X st (pC i F):=PS.imp h λD σ H hh_=>by
 obtain⟨Z,B,M,E,q⟩:=hh_;obtain⟨E',sub⟩:=E.disown i;exact⟨disown i Z,B,_,E',PostF.later q (λ_ _ e _=>e) λa z=> .inl (sub a z)⟩
mutual
def T.nk (D:Bool):T->Bool
 | .scr _=>false
 | .dct _ ts=> !D&&nks D ts
 | .ob _ _ _=>false
 | .lst l=>D&&nks D l
 | .tup l=>nks D l
 | _=>true
def nks (D:Bool):List T->Bool
 | [] =>true
 | t::l=>t.nk D&&nks D l
end
mutual
theorem Rep.lend {K:K7}{O O':Ow}{H:Hp}{D:Bool}(hk:∀a,O a->O' a\/if D then ∃kvs,Rd H a (.dT kvs)else LO H a):∀{t:T} {v:V},t.nk D=true->Rep K O' H t v->Rep K O H t v
 | .non,_,_,r=>by unfold Rep at r ⊢;exact r
 | .bl _,_,_,r=>by unfold Rep at r ⊢;exact r
 | .int _,_,_,r=>by unfold Rep at r ⊢;exact r
 | .str _,_,_,r=>by unfold Rep at r ⊢;exact r
 | .tup l,_,h,r=>by
  unfold Rep at r ⊢;unfold T.nk at h;obtain⟨a,vs,e,n,q,z⟩:=r;refine⟨a,vs,e,λp=>(hk a p).elim n λw=> ?_,q,Reps.lend hk h z⟩
  split at w
  ·obtain⟨_,w | ⟨_,w⟩⟩:=w <;> rw[q]at w <;> cases w
  ·rcases w with⟨_,w⟩ | ⟨_,w,y⟩ <;> rw[q]at w <;> cases w <;> cases y
 | .lst l,_,h,r=>by
  unfold Rep at r ⊢;unfold T.nk at h;rw[K8]at h;obtain⟨h1,h2⟩:=h;subst h1;obtain⟨a,vs,e,n,q,z⟩:=r;refine⟨a,vs,e,λp=>(hk a p).elim n λw=> ?_,q,Reps.lend hk h2 z⟩
  rw[if_pos rfl]at w;obtain⟨_,w | ⟨_,w⟩⟩:=w <;> rw[q]at w <;> cases w
 | .scr l,_,h,r=>by unfold T.nk at h;cases h
 | .dct ks ts,_,h,r=>by
  unfold Rep at r ⊢;unfold T.nk at h;rw[K8]at h;obtain⟨h1,h2⟩:=h
  cases D with
  | true=>cases h1
  | false=>
   obtain⟨a,kvs,e,n,q,k,z⟩:=r;refine⟨a,kvs,e,λp=>(hk a p).elim n λw=> ?_,q,k,Reps.lend hk h2 z⟩
   rw[if_neg LK]at w;rcases w with⟨_,w⟩ | ⟨_,w,y⟩ <;> rcases q with q | ⟨_,q⟩ <;> rw[q]at w <;> cases w <;> cases y
 | .ob _ _ _,_,h,r=>by unfold T.nk at h;cases h
theorem Reps.lend {K:K7}{O O':Ow}{H:Hp}{D:Bool}(hk:∀a,O a->O' a\/if D then ∃kvs,Rd H a (.dT kvs)else LO H a):∀{l:List T} {vs:List V},nks D l=true->Reps K O' H l vs->Reps K O H l vs
 | [],_,_,r=>by unfold Reps at r ⊢;exact r
 | t::l,_,h,r=>by
  unfold Reps at r ⊢;unfold nks at h;rw[K8]at h;obtain⟨v,ws,e,p,q⟩:=r;exact⟨v,ws,e,Rep.lend hk h.1 p,Reps.lend hk h.2 q⟩
end
def ln (i:Nat)(f:En->Rs T)(Z:En):Rs T:=match Z[i]? with
 | some (.ow o)=>f (disown i Z) >>= λt=>if t.nk o.isD=true then .ok t else .bad
 | _=>f Z
def GW (i:Nat)(f:En->Rs Bool)(Z:En):Rs Bool:=f (disown i Z)
theorem qP {K:K7}{O:Ow}{M:Mn}{H:Hp}{Z:En}{σ:L2.St}(E:EnvM K O M H Z σ)(i:Nat):EnvM K (λa=>O a/\¬ M i a) (M.set i lp) H (disown i Z) σ:=
 E.disown i (λa z=>z.1) (λa z y=>y.2 z) λj a hj z=>⟨E.sub j a z,λy=>hj (E.dis j i a z y)⟩
theorem q_ln (i:Nat){e:Expr}{f:En->Rs T}(h:cg X e f):cg X e (ln i f):=PE.imp h λσ H Q ⟨Z,O,⟨M,E⟩,q⟩=>by
 unfold ln at q
 split at q
 ·rename_i o hi
  refine⟨disown i Z,_,⟨_,qP E i⟩,?_⟩
  obtain⟨w,e1,r⟩:=E.own i o hi;refine Post.mono (Post.bind q) λt H' s q2 v rv=> ?_
  split at q2
  ·rename_i hk
   have kd:=(r.same s).kind;refine q2 H' (Same.refl _) v (Rep.lend (λa z=> ?_) hk rv)
   by_cases hm:M i a
   ·refine .inr ?_
    have this:=kd a hm
    by_cases hD:o.isD=true
    ·rw[if_pos hD]at this ⊢;exact this.imp λ_ z=> .inl z
    ·rw[if_neg hD]at this ⊢;exact this
   ·exact .inl ⟨z,hm⟩
  ·exact q2.elim
 ·exact⟨Z,O,⟨M,E⟩,q⟩
theorem Iz (i:Nat){e:Expr}{f:En->Rs Bool}(h:vC X e f):vC X e (GW i f):=PT.imp h λσ H Q ⟨Z,O,⟨M,E⟩,q⟩=>⟨disown i Z,_,⟨_,qP E i⟩,q⟩
end
end Tr
namespace Tr
open PySem L2
def lV:List T->List T->List Key->Option T
 | k'::ks,v::vs,k=>if keyOf k'=some k then some v else lV ks vs k
 | _,_,_=>none
def hV (k v:T):List T->List T->List T×List T
 | k'::ks,v'::vs=>if keyOf k'=keyOf k then(k'::ks,v::vs)else(k'::(hV k v ks vs).1,v'::(hV k v ks vs).2)
 | _,_=>([k],[v])
def ti (x y:T):Rs T:=match x,keyOf y with
 | .dct ks vs,some k=>match lV ks vs k with
  | some t=> .ok t
  | none=> .bad
 | _,_=> .bad
def iz (x y:T):Rs T:=match x,keyOf y with
 | .dct ks vs,some k=>match lV ks vs k with
  | some t=> .ok t
  | none=> .ok .non
 | _,_=> .bad
def BN (x y:T):Rs T:=match y,keyOf x with
 | .dct ks vs,some k=> .ok (.bl (lV ks vs k).isSome)
 | _,_=> .bad
def oD (g:T->T->Rs T)(fa fb:En->Rs T)(Z:En):Rs T:=fa Z >>= λx=>match x with
 | .dct ks vs=>fb Z >>= g (.dct ks vs)
 | _=> .bad
def oL (g:T->T->Rs T)(fa fb:En->Rs T)(Z:En):Rs T:=fa Z >>= λx=>match x with
 | .lst l=>fb Z >>= g (.lst l)
 | _=> .bad
def HM:List T->Option (List (T×T))
 | [] =>some []
 | .tup [k,v] ::l=>match keyOf k,HM l with
  | some _,some r=>some ((k,v)::r)
  | _,_=>none
 | _=>none
def i7:List (T×T)->List T×List T->List T×List T
 | [],d=>d
 | (k,v)::r,d=>i7 r (hV k v d.1 d.2)
def x9:List T->Rs T
 | [.lst l] =>match HM l with
  | some ps=>if l.length<=1000 then .ok (.dct (i7 ps ([],[])).1 (i7 ps ([],[])).2)else .bad
  | none=> .bad
 | _=> .bad
def qg (i:Nat)(f:En->Rs T)(Z:En):Rs Fl:=f Z >>= λt=>x9 [t] >>= λd=>match d with
 | .dct ks vs=>if i<Z.length then .ok (.nx (Z.set i (.ow (.dct ks vs))))else .bad
 | _=> .bad
def yC (i:Nat)(fk fv:En->Rs T)(Z:En):Rs Fl:=match Z[i]? with
 | some (.ow (.dct ks vs))=>fv Z >>= λv=>fk Z >>= λk=>match keyOf k with
  | some _=>if ks.length<1000 then .ok (.nx (Z.set i (.ow (.dct (hV k v ks vs).1 (hV k v ks vs).2))))else .bad
  | none=> .bad
 | _=> .bad
def jw (x:T):List T->Nat->Option Nat
 | [],_=>none
 | t::l,n=>if bh t x then some n else jw x l (n+1)
def gk (y x:T):Rs T:=match y with
 | .lst l=>if (x.dep<=60\/deps l<=60)/\x.nd=true/\nds l=true then match jw x l 0 with
   | some n=> .ok (.int n)
   | none=> .bad
  else .bad
 | _=> .bad
def FU:Nat:=1000000000000
end Tr
namespace Tr
open PySem PySem.Spec PyProof.Rows L2
theorem gB {h b b':Heap}:∀{l:List Env},h.FunFrames b l->(∀a∈l.filterMap (·.frame),b'.get? a=none)->h.FunFrames b' l
 | [],_,_=>trivial
 | env::cp,⟨hk,⟨L,o,hf,hn,ho,hd⟩,hr⟩,q=>by
  rw[MB,hf]at q;exact⟨hk,⟨L,o,hf,q L Lg,ho,hd⟩,gB hr λa ha=>q a (K9 _ ha)⟩
section
variable {M:Model}{A:LZ}{E:La->Ld->Prop}{s:Ld}
structure EM (fs:List Addr)(C e:Addr)(T:Option Addr)(h h':Heap)(T':Addr):Prop where
 flt:JX h' C e (some T')
 new:T=some T'\/h.get? T'=none
 keep:∀b o,b∉fs->b≠e->T≠some b->h.get? b=some o->h'.get? b=some o
 slot:∀b o,b∈fs->h.get? b=some o->∃sl,h'.get? b=some { o with slots:=sl }
theorem AN {base:Heap}{env:Env}{outer:List Env}{L C e:Addr}{T:Option Addr}{Q:Unit->Ld->Prop}(hfr:A.frames=some (env::outer))(hl:s.heap.FunFrames base (env::outer))(hf:env.frame=some L)
  (F:JX s.heap C e T) (h:∀h' T',EM ((env::outer).filterMap (·.frame)) C e T s.heap h' T'->Q () { s with heap:=h' }):wpAny M A (leaving env (.ref e)) Q E s:=by
 generalize hB:PX s.heap (e::(T.toList++(env::outer).filterMap (·.frame)))=B
 have bm:∀b,b∈e::(T.toList++(env::outer).filterMap (·.frame))->B.get? b=none:=λb m=>by rw[<-hB];exact Ox _ m
 have hl':s.heap.FunFrames B (env::outer):=gB hl λa ha=>bm a (K9 _ (Lu _ ha))
 have hst:B.StaysIn s.heap:=λb o q=>by rw[<-hB]at q;exact OZ _ q
 have hen:B.get? e=none:=bm e Lg
 have main:∀h',Heap.Left B (env::outer) e (.ref C) s.heap h'->Q () { s with heap:=h' }:=λh' ⟨x1,x2,⟨oe,vs,T',oT,ts,he,hc,hd,h1,hnT,hTe,hT,hdT,h3⟩,x4⟩=>by
  refine h h' T' ⟨⟨hTe,oe,vs,he,hc,hd,h1,oT,ts,hT,hdT,h3⟩,?_,λb o n1 n2 n3 q=> ?_,λb o m q=> ?_⟩
  ·cases q:s.heap.get? T' with
   | none=>exact .inr rfl
   | some o=>
    left
    by_cases z:T'∈e::(T.toList++(env::outer).filterMap (·.frame))
    ·rcases Lj.mp z with z | z
     ·exact absurd z hTe
     ·rcases Lw.mp z with z | z
      ·cases T with
       | none=>simp at z
       | some t=>simp at z;rw[z]
      ·obtain⟨_,o',ho',hnf⟩:=x2.mem z
       rw[hT]at ho';cases ho';exact absurd hdT (hnf ts)
    ·rw[<-hB,Np _ q z]at hnT;cases hnT
  ·refine x1 b o ?_
   rw[<-hB];refine Np _ q λz=> ?_
   rcases Lj.mp z with z | z
   ·exact n2 z
   ·rcases Lw.mp z with z | z
    ·cases T with
     | none=>simp at z
     | some t=>simp at z;exact n3 (by rw[z])
    ·exact n1 z
  ·obtain⟨_,o',ho',hnf⟩:=hl.mem m
   rw[q]at ho';cases ho';exact x4 b o q hnf
 cases T with
 | none=>
  obtain⟨oe,vs,he,hc,hd,h1⟩:=F;refine wpAny_leaving_first hfr hl' hf he hst hen hd h1 λh' x=>main h' ?_
  rw[hc]at x;exact x
 | some t=>
  obtain⟨hte,oe,vs,he,hc,hd,h1,oT,ts,hT,hdT,h3⟩:=F;exact wpAny_leaving_next hfr hl' hf ⟨oe,vs,t,oT,ts,he,hc,hd,h1,bm t (K9 _ (LB _ (by simp))),hte,hT,hdT,h3⟩ hst hen main
end
abbrev tK:List La:=[.type "ValueError",.type "Exception",.type "BaseException",.type "object"]
structure OwnExc (K:K7)(C:Addr)(bm:List La):Prop where
 at_:∀h:Heap,K.In h->∃nm q N bs hdct sn sub ab col dd k0 k1 k2 k3 k5 mN,h.get? C=some (NW nm q C N bs bm hdct sn sub ab col dd k0 k1 k2 k3 k5 "ValueError.__new__")/\h.Ns N mN/\mN "__init__" =none/\OwnTail h tK bm
theorem OwnExc.base {K:K7}{C:Addr}{bm:List La}(O:OwnExc K C bm){h:Heap}(k:K.In h):bm.contains (.type "BaseException")=true:=by
 obtain⟨_,_,_,_,_,_,_,_,_,_,_,_,_,_,_,_,_,_,_,T⟩:=O.at_ h k;exact T.hasType (by decide)
def ui (c:Str)(_:En):Rs Fl:=.err c
section
variable {X:Cx}
theorem zW {c:Str}{msg:Str}{C:Addr}{bm:List La}{np p1 cpos pos:Pos}{j:Nat}(O:OwnExc X.K C bm)(hc:X.calm=true)(hm:X.mg c=some (.ref C))(hg:autoParam (Gl X c) aqd._auto_1)(hd:autoParam ((c == ("__debug__" : Str))=false) aqb._auto_1) :
  mZ X (.Raise (some (.Call (.Name c np) [.Constant (.str msg) j p1] [] cpos)) none pos) (ui c):=by
 intro pins s σ H D I ⟨Z,B,M,E,k⟩
 have k:XA X M.u H c:=k;obtain⟨nm,q,N,bs,hdct,sn,sub,ab,col,dd,k0,k1,k2,k3,k5,mN,hC,hN,hni,T⟩:=O.at_ s.heap I.kIn;refine wpAny_Raise_call_subU (C:=C) (mN:=mN) (nm:=nm) (q:=q) (N:=N) (bs:=bs) (hdct:=hdct) (sn:=sn) (sub:=sub) (ab:=ab) (col:=col) (dd:=dd) (k0:=k0) (k1:=k1) (k2:=k2) (k3:=k3) (k5:=k5) OU (Bn:="ValueError") (by decide) OU (O.base I.kIn) (I.ok.hd hc) (by rfl) hni (g7 I hg hm ⟨rfl,?_⟩ hd)
 show wpAny _ _ (evalArgs (.ref C) true ((false,eval (.Constant (.str msg) j p1) X.env)::backTo cpos (Lx [] X.env)) []) _ _ s
 refine NR (N3 (Calls.Constant_str (Og ?_)))
 refine⟨rfl,by show 1<=sizeLine;decide,hC,hN,T,λh' e hm'=>k pins _ _ ?_⟩
 obtain⟨t,ht,ht2,ht3⟩:=hm'.there
 have I':Inv X pins σ H { s with heap:=h',toks:=s.toks+1 }:=I.kept (t':=s.toks+1) λb o z=>hm'.keeps b o z
 refine⟨e,none,C,σ,H,rfl,hm,I',λb o z _=>z,?_,?_,⟨_,_,ht,rfl,rfl,rfl⟩,(λt z=>by cases z),λp hp=>⟨λz=> ?_,λz=>by cases z⟩⟩
 ·exact kM I hm'.new
 ·exact λhex=>gy I hex hm'.new
 ·have:=(I.pin p hp).1
  rw[z,show s.heap.get? e=none from hm'.new]at this
  cases this
end
section
variable {P:LI}{w:Mj}{K:K7}{mg:Str->Option La}{base:Heap}
theorem Hr {x qual:Str}{st:Stmt}{f:Addr}{fd:Mp}{N ps:List Str}{k n:Nat}{g:List T->Rs T}(Fn:L2.Fun K x qual st f fd)(S:az N ps (aj st))(hn:ps.length=n)
  (hbody:∀(cdv:La) (A:LZ) (outer:List Env) (s:Ld) (H:Hp) (E:XK),Room k (A.deeper (envOfC qual (aj st) s.heap.objs.size f cdv)) →
   ∃F,(∀xe,kc ((gb CX0 P w K mg base N qual (aj st) f cdv A outer s H E).FB xe) (bM st) F)/\∀ts,ts.length=n->∀c,g ts= .err c->F (aO N.length ts)= .err c):FnX P w K mg base (k+1) f fd ps n g:=by
 intro A outer s H args us vs O ts c R hr e0 hb r rs trk hl hg hR
 have hpl:ps.length<=N.length:=by have:=congrArg M4 S.pre;rw[Mq]at this;omega
 obtain⟨oc,od,kV,doc,pm,an,cdv,ct,osl,rfl,lk,hcd⟩:=Fn.ex
 have hlen:vs.length=ps.length:=by rw[<-rs.length,hl,hn]
 have KX:K.In s.heap:=e0.mod.kin.keeps λb o e=>(e0.bs b o e).1
 have lim:s.heap.NoLimit:=e0.mod.nolimit.keeps λb o e=>(e0.bs b o e).1
 have hkind:∀y∈ps.zip us,(aj st).names.lookup y.1=some .local\/((aj st).names.lookup y.1=some .cell/\((Nm (s.heap.objs.size+1) (aj st).names []).lookup y.1).isSome=true):=λ⟨n,v⟩ hy=>by
  rcases S.par n (N4 hy).1 with q | q
  ·exact .inl q
  ·exact .inr ⟨q,NB _ _ _ (.inl q)⟩
 refine Os hr.depth (KX _ _ lk) rfl S.co S.gen rfl (O0 KX hcd) (hb _ _ _ _ ?_)
 refine NQ S.kind hkind λenv he s1 x=> ?_
 subst he;refine⟨lim.keeps x.toInCall.keep,RJ ?_⟩
 obtain⟨F,hF,hv⟩:=hbody cdv A outer s H E0 (hr.deeper _)
 let xe:La->Ld->Prop:=λev s'=>wpAny (model P w) (A.deeper (envOfC qual (aj st) s.heap.objs.size f cdv)) (leaving (envOfC qual (aj st) s.heap.objs.size f cdv) ev) (λ_ s''=>R (.error ev) s'') (λe' s''=>R (.error e') s'') s'
 have I:Inv ((gb CX0 P w K mg base N qual (aj st) f cdv A outer s H E0).FB xe) [] (start N vs) H s1:=(lS S hr.hd e0 hlen r x).FB _
 have no:∀a,¬noM.u a:=λa ⟨_,z⟩=>z
 refine M9 (hF xe [] s1 (start N vs) H { nx:=λ_ _=>False,rt:=λ_ _=>False,bk:=λ_ _=>False,ct:=λ_ _=>False } I ⟨aO N.length ts,O,noM,qd rs (by omega) trk,?_⟩) (λfl s' z=> ?_) λe s' hs=>hs
 rotate_left
 ·cases fl with
  | next=>obtain⟨_,_,_,z⟩:=z;exact z.elim
  | cont=>obtain⟨_,_,_,z⟩:=z;exact z.elim
  | brk=>obtain⟨_,_,_,z⟩:=z;exact z.elim
  | ret v=>obtain⟨_,_,_,_,_,z⟩:=z;exact z.elim
 rw[hv ts hl c hg];intro pins ev s' w'
 show wpAny _ _ _ _ _ _
 obtain⟨e,T,C,σ',H',rfl,hm,I',sm,he,heo,fl,hT,_⟩:=w'
 have heo:=heo rfl
 have hT:∀t,T=some t->H' t=none/\s.heap.get? t=none:=λt z=>⟨(hT t z).1,(hT t z).2 rfl⟩
 refine AN (base:=base) (outer:=outer) (L:=s.heap.objs.size) I'.ok.frames I'.stack rfl fl λh' T' g=>hR _ _ ?_
 have hex:((gb CX0 P w K mg base N qual (aj st) f cdv A outer s H E0).FB xe).ex= []:=rfl
 have Tn:H' T'=none/\s.heap.get? T'=none:=by
  rcases g.new with z | z
  ·exact hT T' z
  ·exact⟨kM I' z,gy I' hex z⟩
 have out:∀b o,s.heap.get? b=some o->b≠s.heap.objs.size:=λb o q z=>by
  have:=Lq q;rw[z]at this;exact absurd this (LQ _)
 have mem:∀b,b∈oK ((envOfC qual (aj st) s.heap.objs.size f cdv)::outer)->b=s.heap.objs.size\/b∈oK outer:=λb z=>by
  have z':b∈s.heap.objs.size::oK outer:=z;exact Lj.mp z'
 have ne:∀b o,s.heap.get? b=some o->b≠e/\T≠some b:=λb o q=>⟨λz=>(by subst z;rw[show s.heap.get? b=none from heo]at q;cases q),λz=>(by rw[show s.heap.get? b=none from(hT b z).2]at q;cases q)⟩
 have keepH:∀b u,H' b≠none->s'.heap.get? b=some u->h'.get? b=some u:=λb u hb q=>by
  refine g.keep b u (λz=>hb (I'.Kh b z)) (λz=>hb (by rw[z];exact he)) (λz=>hb (hT b z).1) q
 refine⟨e,T',C,H',rfl,hm,I'.os,I'.bare,⟨λb o q n hb hx=> ?_,λb o q n hb hx=> ?_,λb o q n hx=>I'.base.free b o q n hx,λb o q hx=> ?_,I'.base.tups,I'.base.frzs,I'.base.tbls⟩,λa o q=> ?_,λb o q=>sm b o q (no b),he,heo,g.flt,Tn.1,Tn.2⟩
 ·exact g.keep b o (λz=>(mem b z).elim (out b o q) hb) (ne b o q).1 (ne b o q).2 (I'.base.keep b o q n hb hx)
 ·obtain⟨sl,q1⟩:=I'.base.slot b o q n hb hx
  obtain⟨sl',q2⟩:=g.slot b _ (K9 _ hb) q1;exact⟨sl',q2⟩
 ·obtain⟨o',q1⟩:=I'.base.there b o q hx
  by_cases z:b∈oK ((envOfC qual (aj st) s.heap.objs.size f cdv)::outer)
  ·obtain⟨sl,q2⟩:=g.slot b o' z q1
   exact⟨_,q2⟩
  ·exact⟨o',g.keep b o' z (ne b o q).1 (ne b o q).2 q1⟩
 ·refine(I'.hok a o q).stay (λb u hb z=>keepH b u ?_ z) (λ_ z=>z) λ_ _ z=>z
  rcases hb with rfl | hb
  ·rw[q];simp
  ·rw[hb];simp
end
theorem CM {n m:Nat}{F:En->Rs Fl}{ts:List T}{c:Str}(h:val n m F ts= .err c):F (aO m ts)= .err c:=by
 unfold val at h
 split at h
 ·unfold bD at h
  cases z:F (aO m ts)with
  | bad=>rw[z]at h;cases h
  | err c'=>rw[z]at h;cases h;rfl
  | ok f=>
   rw[z,aA]at h;cases f <;> cases h
 ·cases h
section
variable {P:LI}{w:Mj}{K:K7}{mg:Str->Option La}{base:Heap}
theorem Hs {x qual:Str}{st:Stmt}{f:Addr}{fd:Mp}{N ps:List Str}{k n:Nat}{F:En->Rs Fl}(Fn:L2.Fun K x qual st f fd)(S:az N ps (aj st))(hn:ps.length=n)
  (hbody:∀(cdv:La) (A:LZ) (outer:List Env) (s:Ld) (H:Hp) (E:XK),Room k (A.deeper (envOfC qual (aj st) s.heap.objs.size f cdv)) →
   ∀xe,kc ((gb CX0 P w K mg base N qual (aj st) f cdv A outer s H E).FB xe) (bM st) F):Cw P w K mg base (k+1) f fd ps n (val n N.length F):=
 ⟨JL Fn S hn λcdv A outer s H E hr=>⟨F,hbody cdv A outer s H E hr _,λts _ _ h=>FK h⟩,Hr Fn S hn λcdv A outer s H E hr=>⟨F,hbody cdv A outer s H E hr,λts _ c h=>CM h⟩⟩
end
section
variable {X:Cx}{k n:Nat}{f:Addr}{fd:Mp}{ps:List Str}{g:List T->Rs T}{pins:List (Addr×Obj)}{σ:L2.St}{H:Hp}{s:Ld}{us:List La}{vs:List V}{ts:List T}{O:Ow}{Q:VK}
theorem Ip (F:Cw X.prog X.w X.K X.mg X.base k f fd ps n g)(hr:Room k X.A)(hb:Binds X.K fd ps [])(hps:ps.length=n)(I:Inv X pins σ H s)(r:Vals vs us)(rs:Reps X.K O H ts vs)(mt:∀a,O a->Mtb H a)(hl:ts.length=n)
  (hq:Post X H (g ts) λt H'=> ∀v,Rep X.K O H' t v->Q v H'):wpAny (model X.prog X.w) X.A (call (.ref f) us) (EP X pins σ Q) X.xe s:=by
 cases q2:g ts with
 | bad=>rw[q2]at hq;exact hq.elim
 | ok t=>
  rw[q2]at hq;refine vQ (E:=E0) (dvs:=[]) (ds:=[]) F.h hr hb .nil xt I r ⟨ts,O,by simpa using rs,mt,hl,?_⟩
  rw[q2]
  exact λv H' s2 rr=>hq H' s2 v rr
 | err c=>
  rw[q2]at hq
  have hlen:us.length=ps.length:=by rw[<-r.length,<-rs.length,hl,hps]
  have hb':=hb s us I.kIn (by rw[LR];exact hlen)
  rw[LR]at hb';refine Qq (N0 (F.x X.A X.stack s H ⟨us,[]⟩ us vs O ts c (λr s'=>match r with | .error ev=>X.xe ev s' | _=>False) hr I.KA hb' r rs mt hl q2 λev s' w=> ?_) λr s' hq=> ?_)
  ·obtain⟨ea,T,C,H',rfl,hmc,ho,hbare,hun,hok,sm2,hea,heo,fl,hT,hTo⟩:=w
   have I2:Inv X pins σ H' s':=I.Kx ho hun hok hbare (λb z=>absurd z (by simp))
   exact hq pins _ _ ⟨ea,some T,C,σ,H',rfl,hmc,I2,λb o q _=>sm2 b o q,hea,λhex=>gy I hex heo,fl,(λt zt=>by cases zt;exact⟨hT,λhex=>gy I hex hTo⟩),λpp hpp=>⟨λzz=>(by have:=(I.pin pp hpp).1;rw[zz,heo]at this;cases this),λzz=>(by cases zz;have:=(I.pin pp hpp).1;rw[hTo]at this;cases this)⟩⟩
  ·cases r with
   | error ev=>exact hq
   | ok fl=>exact hq.elim
end
section
variable {X:Cx}{a:Expr}{fa:En->Rs T}{pos p:Pos}{x:Str}
theorem IC:mZ X (.Continue pos) EV:=PS.imp uq λD σ H ⟨Z,B,M,E,h⟩=>h σ H M (λ_ _ e _=>e) E λa z=> .inl z
end
inductive OTail (h:Heap):List La->Prop
 | base:OTail h tK
 | own {A:Addr} {c0:La} {dd:Option Addr} {cd:ClassData} {sl:Array (Option La)} {mA:Str->Option La} {tl:List La} :
   h.get? A=some { cls:=c0,dict:=dd,data:=.cls cd,slots:=sl }->h.Ns cd.ns mA->(∀n∈calmNames,mA n=none)->OTail h tl->OTail h (.ref A::tl)
theorem OTail.tail {h:Heap}{tl:List La}(T:OTail h tl):OwnTail h tK tl:=by
 induction T with
 | base=>exact .base
 | own hA hN hq _ ih=>exact .own hA hN (hq _ (.head _)) ih
structure OX (K:K7)(C:Addr)(bm:List La):Prop where
 at_:∀h:Heap,K.In h->∃nm q N bs hdct sn sub ab col dd k0 k1 k2 k3 k5 mN,h.get? C=some (NW nm q C N bs bm hdct sn sub ab col dd k0 k1 k2 k3 k5 "ValueError.__new__")/\h.Ns N mN/\(∀n∈calmNames,mN n=none)/\OTail h bm
theorem OX.own {K:K7}{C:Addr}{bm:List La}(O:OX K C bm):OwnExc K C bm:=⟨λh k=>by
 obtain⟨nm,q,N,bs,hdct,sn,sub,ab,col,dd,k0,k1,k2,k3,k5,mN,h1,h2,h3,h4⟩:=O.at_ h k;exact⟨nm,q,N,bs,hdct,sn,sub,ab,col,dd,k0,k1,k2,k3,k5,mN,h1,h2,h3 _ (.head _),h4.tail⟩⟩
section
variable {M:Model}{A:LZ}{E:La->Ld->Prop}{s:Ld}
theorem Jj {base:Heap}{env:Env}{outer:List Env}{L C e:Addr}{T:Option Addr}{Q:Unit->Ld->Prop}(hfr:A.frames=some (env::outer))(hl:s.heap.FunFrames base (env::outer))(hf:env.frame=some L)
  (F:JX s.heap C e T) (h:∀h' T',EM ((env::outer).filterMap (·.frame)) C e T s.heap h' T'->Q () { s with heap:=h' }) :
  wpAny M A (Sm (.ref e) env) (λ_ s'=>wpAny M A (setFlight (.ref e) none) Q E s') E s:=by
 generalize hB:PX s.heap (e::(T.toList++(env::outer).filterMap (·.frame)))=B
 have bm:∀b,b∈e::(T.toList++(env::outer).filterMap (·.frame))->B.get? b=none:=λb m=>by rw[<-hB];exact Ox _ m
 have hl':s.heap.FunFrames B (env::outer):=gB hl λa ha=>bm a (K9 _ (Lu _ ha))
 have hst:B.StaysIn s.heap:=λb o q=>by rw[<-hB]at q;exact OZ _ q
 have hen:B.get? e=none:=bm e Lg
 have main:∀h',Heap.Left B (env::outer) e (.ref C) s.heap h'->Q () { s with heap:=h' }:=λh' ⟨x1,x2,⟨oe,vs,T',oT,ts,he,hc,hd,h1,hnT,hTe,hT,hdT,h3⟩,x4⟩=>by
  refine h h' T' ⟨⟨hTe,oe,vs,he,hc,hd,h1,oT,ts,hT,hdT,h3⟩,?_,λb o n1 n2 n3 q=> ?_,λb o m q=> ?_⟩
  ·cases q:s.heap.get? T' with
   | none=>exact .inr rfl
   | some o=>
    left
    by_cases z:T'∈e::(T.toList++(env::outer).filterMap (·.frame))
    ·rcases Lj.mp z with z | z
     ·exact absurd z hTe
     ·rcases Lw.mp z with z | z
      ·cases T with
       | none=>simp at z
       | some t=>simp at z;rw[z]
      ·obtain⟨_,o',ho',hnf⟩:=x2.mem z
       rw[hT]at ho';cases ho';exact absurd hdT (hnf ts)
    ·rw[<-hB,Np _ q z]at hnT;cases hnT
  ·refine x1 b o ?_
   rw[<-hB];refine Np _ q λz=> ?_
   rcases Lj.mp z with z | z
   ·exact n2 z
   ·rcases Lw.mp z with z | z
    ·cases T with
     | none=>simp at z
     | some t=>simp at z;exact n3 (by rw[z])
    ·exact n1 z
  ·obtain⟨_,o',ho',hnf⟩:=hl.mem m
   rw[q]at ho';cases ho';exact x4 b o q hnf
 cases T with
 | none=>
  obtain⟨oe,vs,he,hc,hd,h1⟩:=F;unfold Sm;simp only[hf];refine Lc (MS he hd h1 ?_)
  rw[if_neg (by decide)]
  refine wpAny_newEntry hfr hl' hf he hst hen hd (ML.mp h1).1 λh' x=>main h' ?_
  rw[hc]at x;exact x
 | some t=>
  obtain⟨hte,oe,vs,he,hc,hd,h1,oT,ts,hT,hdT,h3⟩:=F
  have hnT:B.get? t=none:=bm t (K9 _ (LB _ (by simp)))
  unfold Sm;simp only[hf];refine Lc (MS he hd h1 ?_)
  rw[if_pos (show(LJ t != LW)=true from by simp)]
  refine Lc (MS hT hdT h3 ?_)
  rw[if_neg (show ¬((LW == rawInt L)=true)from by simp[rawInt])]
  refine Lc (Qz hT hdT (ML.mp h3).1 ?_)
  have other:∀b,b≠t->(s.heap.update t (Q3 (·.setIfInBounds 3 LW))).get? b=s.heap.get? b:=λb hb=>Od _ _ (NV hb)
  have noRec:∀b o,s.heap.get? b=some o->(∀vs,o.data≠ .fields vs)->b≠t:=λb o hb hnf q=>by
   rw[q,hT]at hb;injection hb with hb;subst hb;exact hnf ts hdT
  refine wpAny_newEntry hfr (hl'.of_keeps λb o hb hnf=>⟨o,(other b (noRec b o hb hnf)).trans hb,rfl⟩) hf ((other e (NV hte)).trans he)
   (λb o hbo=>(other b λq=>by rw[q,hnT]at hbo;cases hbo).trans (hst b o hbo)) hen hd (ML.mp h1).1
   λh' x=>main h' ?_
  obtain⟨x1,x2,x3,x4⟩:=x;rw[hc]at x3;exact⟨x1,x2,x3,λb o hb hnf=>x4 b o ((other b (noRec b o hb hnf)).trans hb) hnf⟩
end
section
variable {X:Cx}{pins:List (Addr×Obj)}{σ:L2.St}{H:Hp}{s:Ld}{h':Heap}
theorem Inv.gone {C e T':Addr}{T:Option Addr}(I:Inv X pins σ H s)(hst:X.stack=X.env::X.outer)(hfe:X.env.frame=some X.env.locals)(hcl:∀x c,X.env.cells.lookup x≠some c)(hex:X.ex= [])
  (g:EM ((X.env::X.outer).filterMap (·.frame)) C e T s.heap h' T') (he:H e=none) (heo:X.s₀.heap.get? e=none) (hT:∀t,T=some t->H t=none/\X.s₀.heap.get? t=none) (hp:∀p∈X.pn++pins,p.1≠e/\T≠some p.1) :
  Inv X pins σ H { s with heap:=h' }:=by
 have mem:∀b,b∈(X.env::X.outer).filterMap (·.frame)↔b=X.env.locals\/b∈X.fs:=λb=>by
  rw[MB,hfe];exact Lj
 have out:∀b o,X.s₀.heap.get? b=some o->b≠X.env.locals:=λb o q z=>by
  have h1:=Lq q
  have h2:=I.ok.above;rw[z]at h1;exact absurd (Ly h1 h2) (LQ _)
 have ne:∀b o,X.s₀.heap.get? b=some o->b≠e/\T≠some b:=λb o q=>⟨λz=>(by subst z;rw[heo]at q;cases q),λz=>(by rw[(hT b z).2]at q;cases q)⟩
 have fr:∀b,b∈(X.env::X.outer).filterMap (·.frame)->H b=none:=λb z=>I.Kh b (by rw[hst];exact z)
 have keepH:∀b u,H b≠none->s.heap.get? b=some u->h'.get? b=some u:=λb u hb q=>by
  refine g.keep b u (λz=>hb (fr b z)) (λz=>hb (by rw[z];exact he)) (λz=>hb (hT b z).1) q
 refine⟨I.ok,I.os,I.bare,⟨λb o q n hb hx=> ?_,λb o q n hb hx=> ?_,I.base.free,λb o q hx=> ?_,I.base.tups,I.base.frzs,I.base.tbls⟩,?_,λx c z=>absurd z (hcl x c),I.free,I.freeC,λp hp'=> ?_,λa o q=> ?_,I.len⟩
 ·exact g.keep b o (λz=>((mem b).mp z).elim (out b o q) hb) (ne b o q).1 (ne b o q).2 (I.base.keep b o q n hb hx)
 ·obtain⟨sl,q1⟩:=I.base.slot b o q n hb hx
  obtain⟨sl',q2⟩:=g.slot b _ ((mem b).mpr (.inr hb)) q1;exact⟨sl',q2⟩
 ·obtain⟨o',q1⟩:=I.base.there b o q hx
  by_cases z:b∈(X.env::X.outer).filterMap (·.frame)
  ·obtain⟨sl,q2⟩:=g.slot b o' z q1
   exact⟨_,q2⟩
  ·exact⟨o',g.keep b o' z (ne b o q).1 (ne b o q).2 q1⟩
 ·obtain⟨m,⟨o,es,ep,ho,hd,r⟩,hl⟩:=I.loc
  obtain⟨sl,q2⟩:=g.slot X.env.locals o ((mem _).mpr (.inl rfl)) ho;refine⟨m,⟨_,es,ep,q2,hd,r⟩,λi x v a1 a2 a3=> ?_⟩
  obtain⟨u,ru,lk⟩:=hl i x v a1 a2 a3;refine⟨u,ru,?_⟩
  rcases lk with z | ⟨_,c,z,_⟩
  ·exact .inl z
  ·exact absurd z (hcl x c)
 ·obtain⟨b1,b2,b3,b4,b5⟩:=I.pin p hp'
  exact⟨g.keep p.1 p.2 (λz=>((mem _).mp z).elim b3 b4) (hp p hp').1 (hp p hp').2 b1,b2,b3,b4,b5⟩
 ·refine(I.hok a o q).stay (λb u hb z=>keepH b u ?_ z) (λ_ z=>z) λ_ _ z=>z
  rcases hb with rfl | hb
  ·rw[q];simp
  ·rw[hb];simp
end
section
variable {M:Model}{A:LZ}{E:La->Ld->Prop}{h:Heap}{g:Array GenState}{d:Drawn}{t:Nat}{os:Pe}
variable {nm q:Str}{C N:Addr}{bs bm:List La}{hdct:Bool}{sn:List Str}{sub:List La}{ab:Bool}{col:Option Bool}{dd:Option Addr}{k0 k1 k2 k3 k5:Option La}{newId:String}
variable {nm' q':Str}{D N':Addr}{bs' bm':List La}{hdct':Bool}{sn':List Str}{sub':List La}{ab':Bool}{col':Option Bool}{dd':Option Addr}{k0' k1' k2' k3' k5':Option La}{newId':String}
theorem yO {e:Addr}{oe:Obj}{Q:Bool->Ld->Prop}(hC:h.get? C=some (NW nm q C N bs bm hdct sn sub ab col dd k0 k1 k2 k3 k5 newId))(hD:h.get? D=some (NW nm' q' D N' bs' bm' hdct' sn' sub' ab' col' dd' k0' k1' k2' k3' k5' newId'))
  (he:h.get? e=some oe) (hcls:oe.cls= .ref C) (hb:bm'.contains (.type "BaseException")=true) (hin:(LJ C::bm).contains (.ref D)=true) (hq:Q true ⟨h,g,d,t,os⟩):wpAny M A (excMatches (.ref e) (.ref D)) Q E ⟨h,g,d,t,os⟩:=by
 have hcB:(LJ D::bm').contains (.type "BaseException")=true:=by rw[N7,hb,Bool.or_true]
 have f:=tc_notTuple;unfold excMatches
 repeat (first | (with_reducible refine Ry he ?_;rw[hcls]) | with_reducible refine Ry hD ?_ | (with_reducible refine QR hD ?_;rw[hcB]) | (with_reducible refine QR hC ?_;rw[hin]) | wp_step)
 exact hq
end
abbrev Fg (X:Cx)(e:Addr)(oe:Obj):Cx:={ X with A:=X.A.mark (some (.ref e)),calm:=false,pn:=(e,oe)::X.pn,xe:=λ_ _=>False }
section
variable {X:Cx}{pins:List (Addr×Obj)}{σ:L2.St}{H:Hp}{s:Ld}{e:Addr}{oe:Obj}
theorem xV (I:Inv X pins σ H s)(he:s.heap.get? e=some oe)(hH:H e=none)(hne:e≠X.env.locals)(hf:e∉X.fs)(hc:∀v,oe.data≠ .cell v):Inv (Fg X e oe) pins σ H s:=by
 have ok:=I.ok;refine⟨⟨ok.mod,ok.kind,ok.glob,ok.blt,ok.above,ok.inj,ok.has,ok.cab,(λz=>by cases z),?_,ok.stk,ok.exf,ok.bs,ok.bsz,ok.noex,ok.exfs,ok.funs,ok.frf⟩,I.os,I.bare,I.base,I.loc,I.cell,I.free,I.freeC,λp hp=> ?_,I.hok,I.len⟩
 ·exact ok.frames
 ·rcases Lj.mp (show p∈(e,oe)::(X.pn++pins)from hp)with z | z
  ·subst z;exact⟨he,hH,hne,hf,hc⟩
  ·exact I.pin p z
theorem Eh (ok:X.Ok)(I:Inv (Fg X e oe) pins σ H s):Inv X pins σ H s:=
 ⟨ok,I.os,I.bare,I.base,I.loc,I.cell,I.free,I.freeC,λp hp=>I.pin p (K9 _ hp),I.hok,I.len⟩
end
section
variable {X:Cx}
theorem Inv.KP {σ:L2.St}{H:Hp}{s:Ld}(pins:List (Addr×Obj))(I:Inv X pins σ H s):Inv { X with pn:=X.pn++pins } [] σ H s:=
 ⟨⟨I.ok.mod,I.ok.kind,I.ok.glob,I.ok.blt,I.ok.above,I.ok.inj,I.ok.has,I.ok.cab,I.ok.hd,I.ok.frames,I.ok.stk,I.ok.exf,I.ok.bs,I.ok.bsz,I.ok.noex,I.ok.exfs,I.ok.funs,I.ok.frf⟩,I.os,I.bare,I.base,I.loc,I.cell,I.free,I.freeC,λp hp=>I.pin p (by rw[LR]at hp;exact hp),I.hok,I.len⟩
theorem Inv.KZ {σ:L2.St}{H:Hp}{s:Ld}{pins pins1:List (Addr×Obj)}{xe:La->Ld->Prop}(I:Inv { X with pn:=X.pn++pins,xe:=xe } pins1 σ H s):Inv X pins σ H s:=
 ⟨⟨I.ok.mod,I.ok.kind,I.ok.glob,I.ok.blt,I.ok.above,I.ok.inj,I.ok.has,I.ok.cab,I.ok.hd,I.ok.frames,I.ok.stk,I.ok.exf,I.ok.bs,I.ok.bsz,I.ok.noex,I.ok.exfs,I.ok.funs,I.ok.frf⟩,I.os,I.bare,I.base,I.loc,I.cell,I.free,I.freeC,λp hp=>I.pin p (LB _ hp),I.hok,I.len⟩
end
theorem Ji {K:K7}{N:Addr}{ob:La}{oe:Option Addr}{es:Array DictEntry}{n:Nat}{oz:Array (Option La)}(r:K.lookup N=some ⟨ob,oe,.dict es n,oz⟩)(s:(es.toList.all λe=>zL e.key)=true)
  (u0:NY K N "__init__" =some none) (u1:NY K N "__getattribute__" =some none) (u2:NY K N "__getattr__" =some none) (u3:NY K N "__class__" =some none) :
  ∀h:Heap,K.In h->∃mN,h.Ns N mN/\∀n∈calmNames,mN n=none:=λh k=>by
 refine⟨nsFind es,⟨_,es,n,k _ _ r,rfl,λe he=> ?_,λ_=>rfl⟩,λx hx=> ?_⟩
 ·have:=LG.mp s e (by simpa using he)
  cases q:e.key <;> rw[q]at this <;> first | exact⟨_,_,rfl⟩ | cases this
 ·have key:∀x,NY K N x=some none->nsFind es x=none:=λx u=>by
   unfold NY at u;rw[r]at u;simp only at u
   split at u
   ·cases u
   ·rename_i he
    unfold nsFind findBy;rw[<-QU,he];rfl
  unfold calmNames at hx;simp only[Lj,Mo,or_false]at hx;rcases hx with rfl | rfl | rfl | rfl
  ·exact key _ u0
  ·exact key _ u1
  ·exact key _ u2
  ·exact key _ u3
section
variable {K:K7}{nm q:Str}{C N:Addr}{bs:List La}{hdct:Bool}{sn:List Str}{sub:List La}{ab:Bool}{col:Option Bool}{dd:Option Addr}{k0 k1 k2 k3 k5:Option La}
variable {nm' q':Str}{D N':Addr}{bs':List La}{hdct':Bool}{sn':List Str}{sub':List La}{ab':Bool}{col':Option Bool}{dd':Option Addr}{k0' k1' k2' k3' k5':Option La}
theorem DE (w:K.lookup C=some (NW nm q C N bs tK hdct sn sub ab col dd k0 k1 k2 k3 k5 "ValueError.__new__"))(ns:∀h:Heap,K.In h->∃mN,h.Ns N mN/\∀n∈calmNames,mN n=none):OX K C tK:=⟨λh k=>by
 obtain⟨mN,h1,h2⟩:=ns h k;exact⟨nm,q,N,bs,hdct,sn,sub,ab,col,dd,k0,k1,k2,k3,k5,mN,k _ _ w,h1,h2,.base⟩⟩
theorem An (w:K.lookup C=some (NW nm q C N bs (.ref D::tK) hdct sn sub ab col dd k0 k1 k2 k3 k5 "ValueError.__new__"))(ns:∀h:Heap,K.In h->∃mN,h.Ns N mN/\∀n∈calmNames,mN n=none)
  (wD:K.lookup D=some (NW nm' q' D N' bs' tK hdct' sn' sub' ab' col' dd' k0' k1' k2' k3' k5' "ValueError.__new__")) (nsD:∀h:Heap,K.In h->∃mN,h.Ns N' mN/\∀n∈calmNames,mN n=none):OX K C (.ref D::tK):=⟨λh k=>by
 obtain⟨mN,h1,h2⟩:=ns h k;obtain⟨mD,d1,d2⟩:=nsD h k;exact⟨nm,q,N,bs,hdct,sn,sub,ab,col,dd,k0,k1,k2,k3,k5,mN,k _ _ w,h1,h2,.own (k _ _ wD) d1 d2 .base⟩⟩
end
end Tr
namespace L2
open PySem PySem.Spec PyProof.Rows
section
variable {κ:Type}[DecidableEq κ]
def jx (kvs:List (κ×V))(k:κ):Option V:=(kvs.find? λkv=>decide (kv.1=k)).map (·.2)
def dN (kvs:List (κ×V))(k:κ)(v:V):List (κ×V):=
 if (kvs.any λkv=>decide (kv.1=k))=true then kvs.map (λkv=>if kv.1=k then(kv.1,v)else kv)else kvs++ [(k,v)]
theorem zE {k:κ}:jx ([]:List (κ×V)) k=none:=rfl
theorem kn {p:κ×V}{r:List (κ×V)}{k:κ}(e:p.1=k):jx (p::r) k=some p.2:=by simp[jx,NH,e]
theorem ko {p:κ×V}{r:List (κ×V)}{k:κ}(e:¬ p.1=k):jx (p::r) k=jx r k:=by simp[jx,NH,e]
theorem tT (k:κ):∀kvs:List (κ×V),(kvs.any λkv=>decide (kv.1=k))=(jx kvs k).isSome
 | [] =>rfl
 | p::r=>by
  rw[Nt]
  by_cases e:p.1=k
  ·simp only[kn e,decide_eq_true e,Bool.true_or,Q0]
  ·rw[ko e,decide_eq_false e,Q2];exact tT k r
theorem gn (kvs:List (κ×V))(k:κ)(v:V):(dN kvs k v).length<=kvs.length+1:=by
 unfold dN;split
 ·rw[Lh];omega
 ·rw[Lb,Li,My];omega
theorem RelO.Kk {o:Option V}{u:Option La}(r:RelO o u):o.isSome=u.isSome:=by
 cases o with
 | none=>cases u with
  | none=>rfl
  | some _=>exact(show False from r).elim
 | some _=>cases u with
  | none=>exact(show False from r).elim
  | some _=>rfl
theorem RelO.getD {o:Option V}{u:Option La}{d:V}{d':La}(r:RelO o u)(rd:RelV d d'):RelV (o.getD d) (u.getD d'):=by
 cases o with
 | none=>cases u with
  | none=>exact rd
  | some _=>exact(show False from r).elim
 | some _=>cases u with
  | none=>exact(show False from r).elim
  | some _=>exact r
theorem KV.val {kvs:List (κ×V)}{vs:List (κ×La)}(r:KV kvs vs)(k:κ):RelO (jx kvs k) (valueAt vs k):=by
 unfold KV at r
 induction r with
 | nil=>exact Ni
 | @cons p q ps qs h t ih=>
  obtain⟨h1,h2⟩:=h
  by_cases e:p.1=k
  ·have e':q.1=k:=h1.symm.trans e
   have b:valueAt (q::qs) k=some q.2:=by simp[valueAt,NH,e']
   rw[kn e,b];exact h2
  ·have e':¬ q.1=k:=λz=>e (h1.trans z)
   have b:valueAt (q::qs) k=valueAt qs k:=by simp[valueAt,NH,e']
   rw[ko e,b];exact ih
theorem KV.any {kvs:List (κ×V)}{vs:List (κ×La)}(r:KV kvs vs)(k:κ):(kvs.any λkv=>decide (kv.1=k))=vs.any λkv=>decide (kv.1=k):=by
 unfold KV at r
 induction r with
 | nil=>rfl
 | cons h t ih=>rw[Nt,Nt,ih,h.1]
theorem KV.KI {kvs:List (κ×V)}{vs:List (κ×La)}(r:KV kvs vs)(k:κ){y:V}{u:La}(ry:RelV y u) :
  KV (kvs.map λkv=>if kv.1=k then(kv.1,y)else kv) (vs.map λkv=>if kv.1=k then(kv.1,u)else kv):=by
 unfold KV at r ⊢
 induction r with
 | nil=>exact .nil
 | @cons p q ps qs h t ih=>
  rw[Lf,Lf];refine .cons ?_ ih
  obtain⟨h1,h2⟩:=h
  by_cases e:p.1=k
  ·rw[if_pos e,if_pos (h1.symm.trans e)];exact⟨h1,ry⟩
  ·rw[if_neg e,if_neg (λz=>e (h1.trans z))];exact⟨h1,h2⟩
theorem KV.put {kvs:List (κ×V)}{vs:List (κ×La)}(r:KV kvs vs)(k:κ){y:V}{u:La}(ry:RelV y u):KV (dN kvs k y) (stored vs k u):=by
 unfold dN stored;rw[r.any k]
 by_cases e:(vs.any λkv=>decide (kv.1=k))=true
 ·rw[if_pos e,if_pos e];exact r.KI k ry
 ·rw[if_neg e,if_neg e];exact Paired.snoc r ⟨rfl,ry⟩
theorem KV.length {kvs:List (κ×V)}{vs:List (κ×La)}(r:KV kvs vs):kvs.length=vs.length:=Pz r
end
theorem uX {P:LI}{w:Mj}{k:Key}{u:La}(r:RelV (kV k) u):(cF P w).is k u=true:=by
 cases k with
 | inl i=>obtain⟨t,e⟩:=(show ∃t,u=MO i t from r);subst e;exact uQ P w i t
 | inr x=>obtain⟨t,e⟩:=(show ∃t,u=MP x t from r);subst e;exact uP P w x t
theorem qx {P:LI}{w:Mj}:∀{ks:List Key} {us:List La},Vals (ks.map kV) us->ItemsAre (cF P w) ks us
 | [],_,r=>by rw[P3]at r;cases r;exact .nil
 | k::ks,_,r=>by
  rw[Lf]at r
  cases r with
  | cons h t=>exact .cons (uX h) (qx t)
abbrev KT (H:Hp):List (List Key×V)->List (List Key×Addr×La)->Prop:=Su λp q=>p.1=q.1/\H q.2.1=some (.tup (p.1.map kV))/\RelV p.2 q.2.2
theorem KT.val {H:Hp}{kvs:List (List Key×V)}{xs:List (List Key×Addr×La)}(r:KT H kvs xs)(k:List Key):RelO (jx kvs k) ((atKey xs k).map (·.2)):=by
 induction r with
 | nil=>exact Ni
 | @cons p q ps qs h t ih=>
  obtain⟨h1,_,h2⟩:=h
  by_cases e:p.1=k
  ·have e':q.1=k:=h1.symm.trans e
   have b:atKey (q::qs) k=some q.2:=by simp[atKey,NH,e']
   rw[kn e,b];exact h2
  ·have e':¬ q.1=k:=λz=>e (h1.trans z)
   have b:atKey (q::qs) k=atKey qs k:=by simp[atKey,NH,e']
   rw[ko e,b];exact ih
theorem KT.KI {H:Hp}{kvs:List (List Key×V)}{xs:List (List Key×Addr×La)}(r:KT H kvs xs)(k:List Key){y:V}{u:La}(ry:RelV y u) :
  KT H (kvs.map λkv=>if kv.1=k then(kv.1,y)else kv) (xs.map (putAt k u)):=by
 induction r with
 | nil=>exact .nil
 | @cons p q ps qs h t ih=>
  rw[Lf,Lf];refine .cons ?_ ih
  obtain⟨h1,h2,h3⟩:=h;unfold putAt
  by_cases e:p.1=k
  ·rw[if_pos e,if_pos (h1.symm.trans e)];exact⟨h1,h2,ry⟩
  ·rw[if_neg e,if_neg (λz=>e (h1.trans z))];exact⟨h1,h2,h3⟩
theorem KT.put {H:Hp}{kvs:List (List Key×V)}{xs:List (List Key×Addr×La)}(r:KT H kvs xs)(k:List Key){b:Addr}{y:V}{u:La}(hb:H b=some (.tup (k.map kV)))(ry:RelV y u) :
  KT H (dN kvs k y) (storedH xs k b u):=by
 have e:(kvs.any λkv=>decide (kv.1=k))=(atKey xs k).isSome:=by
  rw[tT,(r.val k).Kk,Rq]
 unfold dN storedH;rw[e]
 by_cases q:(atKey xs k).isSome=true
 ·rw[if_pos q,if_pos q];exact r.KI k ry
 ·rw[if_neg q,if_neg q];exact Paired.snoc r ⟨rfl,hb,ry⟩
theorem KT.keeps {H H':Hp}{kvs:List (List Key×V)}{xs:List (List Key×Addr×La)}(r:KT H kvs xs)(ht:∀b ys,H b=some (.tup ys)->H' b=some (.tup ys)):KT H' kvs xs:=
 Paired.KL r λ_ _ z=>⟨z.1,ht _ _ z.2.1,z.2.2⟩
section
variable {P:LI}{w:Mj}{H:Hp}{h:Heap}{a:Addr}
theorem mi {u:HO}(ok:HOk P w H h)(e:Rd H a u):ObjOk P w H h a u:=e.ok ok
theorem qG {kvs:List (Key×V)}(ok:HOk P w H h)(e:Rd H a (.dK kvs)):kvs.length<=sizeLine/\(a == NO)=false/\∃vs,KV kvs vs/\h.DictOf (cF P w) a vs:=
 show ObjOk P w H h a (.dK kvs)from mi ok e
theorem JR {kvs:List (Key×V)}(ok:HOk P w H h)(e:H a=some (.dK kvs)):kvs.length<=sizeLine/\(a == NO)=false/\∃vs,KV kvs vs/\h.DictOf (cF P w) a vs:=qG ok (.inl e)
theorem lQ {ks:List Key}(ok:HOk P w H h)(e:H a=some (.tup (ks.map kV))):(Pr (cF P w)).is h ks a:=by
 obtain⟨_,its,r,o,h1,h2,n,h3⟩:=(show ObjOk P w H h a (.tup (ks.map kV))from ok a _ e)
 exact⟨o,its.toArray,n,h1,h2,h3,by simpa using qx r⟩
theorem qE {kvs:List (List Key×V)}(ok:HOk P w H h)(e:Rd H a (.dT kvs)):kvs.length<=sizeLine/\(a == NO)=false ∧
  ∃xs,KT H kvs xs/\h.DictOfH (Pr (cF P w)) a xs:=by
 obtain⟨z,y,xs,r,o,es,ep,h1,h2,h3,h4,h5⟩:=(show ObjOk P w H h a (.dT kvs)from mi ok e)
 refine⟨z,y,xs,r,o,es,ep,h1,h2,h3,h4,λx hx=> ?_,h5⟩
 have all:∀{l:List (List Key×V)} {m:List (List Key×Addr×La)},KT H l m->∀x∈m,(Pr (cF P w)).is h x.1 x.2.1:=by
  intro l m q
  induction q with
  | nil=>intro x hx;exact nomatch hx
  | @cons p q ps qs hq t ih=>
   intro x hx;rcases Lj.mp hx with e | hx
   ·subst e
    exact lQ ok (by rw[<-hq.1];exact hq.2.1)
   ·exact ih x hx
 exact all r x hx
theorem BJ {kvs:List (List Key×V)}(ok:HOk P w H h)(e:H a=some (.dT kvs)):kvs.length<=sizeLine/\(a == NO)=false ∧
  ∃xs,KT H kvs xs/\h.DictOfH (Pr (cF P w)) a xs:=qE ok (.inl e)
end
def DGet (H:Hp)(a:Addr)(y:V)(r:Option V):Prop:=
 (∃kvs k,Rd H a (.dK kvs)/\y=kV k/\r=jx kvs k)\/∃kvs k b,Rd H a (.dT kvs)/\y= .ref b/\H b=some (.tup (k.map kV))/\r=jx kvs k
def DPut (H:Hp)(a:Addr)(y v:V)(H':Hp):Prop:=
 (∃kvs k,H a=some (.dK kvs)/\y=kV k/\kvs.length<sizeLine/\H'=upd H a (.dK (dN kvs k v))) ∨
 ∃kvs k b,H a=some (.dT kvs)/\y= .ref b/\H b=some (.tup (k.map kV))/\kvs.length<sizeLine/\H'=upd H a (.dT (dN kvs k v))
theorem DPut.t {H:Hp}{a b:Addr}{kvs:List (List Key×V)}{k:List Key}{v:V}(e:H a=some (.dT kvs))(eb:H b=some (.tup (k.map kV)))(hl:kvs.length<sizeLine) :
  DPut H a (.ref b) v (upd H a (.dT (dN kvs k v))):=.inr ⟨kvs,k,b,e,rfl,eb,hl,rfl⟩
section
variable {X:Cx}{pins:List (Addr×Obj)}{σ:St}{H:Hp}{s:Ld}{a:Addr}{y v:V}{u r:La}{o:Option V}{A:LZ}{E:La->Ld->Prop}
theorem Inv.big (I:Inv X pins σ H s):NO<s.heap.objs.size:=by
 have h:LV<s.heap.objs.size:=(I.mod.glob.keeps I.bk).lt;exact Nat.lt_trans (by decide) h
theorem zf {Q:La->Ld->Prop}(hu:A.units+1<cLine)(I:Inv X pins σ H s)(g:DGet H a y (some v))(ry:RelV y u)(h:∀w' s',Inv X pins σ H s'->RelV v w'->Q w' s') :
  wpAny (model X.prog X.w) A (getItem (.ref a) u) Q E s:=by
 rcases g with⟨kvs,k,e,ey,l⟩ | ⟨kvs,k,b,e,ey,eb,l⟩
 ·subst ey
  obtain⟨z,hd,vs,rel,dd⟩:=qG I.hok e;obtain⟨w',hw,rw'⟩:=RelO.some_of (v:=v) (o:=valueAt vs k) (by rw[l];exact rel.val k)
  exact wpAny_getItem_of (uX ry) dd.mapOf hw (h w' _ (I.tok _) rw')
 ·subst ey
  cases (show u=LJ b from ry)
  obtain⟨z,hd,xs,rel,dd⟩:=qE I.hok e;obtain⟨w',hw,rw'⟩:=RelO.some_of (v:=v) (o:=(atKey xs k).map (·.2)) (by rw[l];exact rel.val k)
  obtain⟨p,hp,hp2⟩:=PP.mp hw;refine wpAny_getItem_heap (NF hu) (lQ I.hok eb) dd hp ?_
  rw[hp2];exact h w' _ (I.tok _) rw'
theorem d_in {Q:La->Ld->Prop}(hu:A.units+1<cLine)(I:Inv X pins σ H s)(g:DGet H a y o)(ry:RelV y u)(h:∀s',Inv X pins σ H s'->Q (.bool o.isSome) s') :
  wpAny (model X.prog X.w) A (L0 .In u (.ref a)) Q E s:=by
 rcases g with⟨kvs,k,e,ey,l⟩ | ⟨kvs,k,b,e,ey,eb,l⟩
 ·subst ey
  obtain⟨z,hd,vs,rel,dd⟩:=qG I.hok e;refine wpAny_in_of (uX ry) hd dd.mapOf ?_
  rw[<-(rel.val k).Kk,<-l];exact h _ (I.tok _)
 ·subst ey
  cases (show u=LJ b from ry)
  obtain⟨z,hd,xs,rel,dd⟩:=qE I.hok e;refine wpAny_in_heap (NF hu) (lQ I.hok eb) hd dd ?_
  have q:=(rel.val k).Kk;rw[Rq]at q;rw[<-q,<-l];exact h _ (I.tok _)
theorem tj {h':Heap}{t':Nat}{ob:HO}(I:Inv X pins σ H s)(mu:JW (H a))(hs:Oo a s.heap h')(he:∃q,h'.get? a=some q)(new:ObjOk X.prog X.w (upd H a ob) h' a ob) :
  Inv X pins σ (upd H a ob) { s with heap:=h',toks:=t' }:=
 I.write (x:=a) (e:=a) mu (.inl rfl) (λb q hb z=>(hs.2 b hb).trans z) he new
theorem HD {P:LI}{w:Mj}{H':Hp}{h':Heap}{kvs:List (Key×V)}{vs:List (Key×La)}(z:kvs.length<=sizeLine)(hd:(a == NO)=false)(rel:KV kvs vs)(dd:h'.DictOf (cF P w) a vs) :
  ObjOk P w H' h' a (.dK kvs):=⟨z,hd,vs,rel,dd⟩
theorem ze {H':Hp}{Q:Unit->Ld->Prop}(hu:A.units+1<cLine)(I:Inv X pins σ H s)(g:DPut H a y v H')(ry:RelV y u)(rv:RelV v r)(h:∀s',Inv X pins σ H' s'->Q () s') :
  wpAny (model X.prog X.w) A (setItem (.ref a) u r) Q E s:=by
 rcases g with⟨kvs,k,e,ey,l,eH⟩ | ⟨kvs,k,b,e,ey,eb,l,eH⟩
 ·subst ey eH
  obtain⟨z,hd,vs,rel,dd⟩:=JR I.hok e
  have hz:vs.length<=sizeLine:=by rw[<-rel.length];exact z
  have hl:(dN kvs k v).length<=sizeLine:=by have:=gn kvs k v;omega
  refine wpAny_setItem_pairs (hsz:=hz) (uX ry) dd λh' dd' hs=>h _ ?_
  have he:∃q,h'.get? a=some q:=let ⟨q,_,_,hq,_⟩:=dd';⟨q,hq⟩
  exact tj I (by rw[e];exact Ni) hs he (HD hl hd (rel.put k rv) dd')
 ·subst ey eH
  cases (show u=LJ b from ry)
  obtain⟨z,hd,xs,rel,dd⟩:=BJ I.hok e
  have hz:xs.length<=sizeLine:=by rw[<-Pz rel];exact z
  have hl:(dN kvs k v).length<=sizeLine:=by have:=gn kvs k v;omega
  refine wpAny_setItem_heap (hsz:=hz) (NF hu) (lQ I.hok eb) dd λh' dd' hs=>h _ ?_
  obtain⟨q,es,ep,hq,h2,h3,h4,_,h5⟩:=dd';refine tj I (by rw[e];exact Ni) hs ⟨q,hq⟩ ⟨hl,hd,_,(rel.put k eb rv).keeps λc ys ec=> ?_,q,es,ep,hq,h2,h3,h4,h5⟩
  rw[aH (oh ec e (λz=>nomatch z))]
  exact ec
end
def EK (i:Expr):Prop:=∀ov iv,QQ i false ov iv=operate [ov,iv] (getItem ov iv)
theorem CT {prog:LI}{w:Mj}{A:LZ}{E:La->Ld->Prop}{s:Ld}{env:Env}{value slice:Expr}{pos:Pos}{T id:String}{Q:La->Ld->Prop}
  (hl:Ru (.type T) "__getitem__" =pure (some (.builtin id))) (hs:EK slice)
  (h:wpAny (model prog w) A (eval value env) (λo s₁=>wpAny (model prog w) A (eval slice env) (λi s₂=>s₂.TypeIs o T/\wpAny (model prog w) A (getItem o i) Q E s₂) E s₁) E s) :
  wpAny (model prog w) A (eval (.Subscript value slice pos) env) Q E s:=by
 refine Rv (M9 h (λo s₁ h₁=>M9 h₁ (λi s₂ h₂=> ?_) λ_ _ x=>x) λ_ _ x=>x)
 obtain⟨hT,h₂⟩:=h₂;unfold Rg;refine Lc ?_
 rw[getitemInPython_of_ne hT.not_modules];refine Lc (wpAny_specialOf hT hl ?_)
 have fin:wpAny (model prog w) A (QQ slice false o i) (λr s₃=>wpAny (model prog w) A (letTemporaryGo value o r >>= λ_=>pure r) Q E s₃) E s₂:=by
  rw[hs o i];exact wpAny_operating (M9 h₂ (λr s₃ h₃=>Lc (wpAny_letTemporaryGo (Lm h₃))) λ_ _ x=>x)
 first
  | exact Lm (Lc fin)
  | exact Lc (Lm (Lc fin))
  | exact Lc fin
theorem vi {X:Cx}{pins:List (Addr×Obj)}{σ:St}{H:Hp}{s:Ld}{a:Addr}{y:V}{o:Option V}(I:Inv X pins σ H s)(g:DGet H a y o):s.TypeIs (.ref a) "dict":=by
 rcases g with⟨kvs,k,e,_,_⟩ | ⟨kvs,k,b,e,_,_,_⟩
 ·obtain⟨_,_,vs,_,dd⟩:=qG I.hok e
  exact dd.typeIs
 ·obtain⟨_,_,xs,_,dd⟩:=qE I.hok e
  exact dd.typeIs
def Ij (td ty:TE):TE:=λσ H Q=>td σ H λx H1=>ty σ H1 λy H2=> ∃a v,x= .ref a/\DGet H2 a y (some v)/\Q v H2
def Io (td ty tv:TE):TS:=λD σ H=>tv σ H λv H1=>td σ H1 λx H2=>ty σ H2 λy H3=> ∃a H4,x= .ref a/\DPut H3 a y v H4/\D.nx σ H4
section
variable {X:Cx}{o i e value:Expr}{pos pos' tpos:Pos}{td ty tv:TE}
theorem DC (hu:X.A.units+1<cLine)(ho:PE X o td)(hi:PE X i ty)(hs:EK i):PE X (.Subscript o i pos) (Ij td ty):=by
 intro pins s σ H Q I h;refine CT PySem.F.slot_dict_getitem.lookup hs (bV (ho pins s σ H _ I h) λu s1 ⟨x,H1,I1,rx,q1⟩=>bV (hi pins s1 σ H1 _ I1 q1) λiv s2 hh_=> ?_)
 obtain⟨y,H2,I2,ry,a,v,ex,g,q2⟩:=hh_;subst ex;obtain rfl:u=LJ a:=rx;exact⟨vi I2 g,zf hu I2 g ry λw' s3 I3 rw'=>⟨v,H2,I3,rw',q2⟩⟩
theorem Du (hu:X.A.units+1<cLine)(ho:PE X o td)(hi:PE X i ty)(hv:PE X value tv)(hs:L5 value (some (.Subscript o i pos')) pos.line X.env=pure false) :
  PS X (.Assign [.Subscript o i pos'] value pos) (Io td ty tv):=by
 intro pins s σ H D I h;refine wpAny_Assign_Subscript (bV (hv pins s σ H _ I h) λr s1 ⟨v,H1,I1,rv,q1⟩=>bV (ho pins s1 σ H1 _ I1 q1) λu s2 ⟨x,H2,I2,rx,q2⟩=>bV (hi pins s2 σ H2 _ I2 q2) λiv s3 ⟨y,H3,I3,ry,a,H4,ex,g,q3⟩=> ?_) hs
 subst ex;obtain rfl:u=LJ a:=rx;exact ze hu I3 g ry rv λs4 I4=>⟨σ,H4,I4,q3⟩
end
theorem BK {P:LI}{w:Mj}{H:Hp}(h:Heap)(hb:NO<h.objs.size):ObjOk P w H (h.push { cls:=.type "dict",data:=.dict #[] }) h.objs.size (.dT []):=
 ⟨Nq _,beq_eq_false_iff_ne.mpr (NV (MD hb)),[],.nil,_,#[],0,Lz _ rfl,⟨rfl,rfl,rfl⟩,rfl,rfl,NA⟩
structure M1 (X:Cx)(o:Expr)(m:Str)(apos:Pos)(e:Expr)(cpos:Pos):Prop where
 base:LP o m X.env (eval o X.env)=eval o X.env
 few:((backTo cpos (Lx [e] X.env)).all (λx=> !x.1)&&(Pb cpos (NJ [] X.env)).all (λx=>x.1.isSome)
  &&decide (([e]:List Expr).length+([]:List Sk).length+(if ([]:List Sk).isEmpty then 0 else 1)<30))=true
 line:(apos.endLine == cpos.line)=true
 trees:backTo cpos (Lx [e] X.env)= [(false,eval e X.env)]
structure M2 (X:Cx)(o:Expr)(m:Str)(apos:Pos)(e f:Expr)(cpos:Pos):Prop where
 base:LP o m X.env (eval o X.env)=eval o X.env
 few:((backTo cpos (Lx [e,f] X.env)).all (λx=> !x.1)&&(Pb cpos (NJ [] X.env)).all (λx=>x.1.isSome)
  &&decide (([e,f]:List Expr).length+([]:List Sk).length+(if ([]:List Sk).isEmpty then 0 else 1)<30))=true
 line:(apos.endLine == cpos.line)=true
 trees:backTo cpos (Lx [e,f] X.env)= [(false,eval e X.env),(false,eval f X.env)]
def IsD (H:Hp)(a:Addr):Prop:=(∃kvs,Rd H a (.dK kvs))\/∃kvs,Rd H a (.dT kvs)
theorem Hk {X:Cx}{pins:List (Addr×Obj)}{σ:St}{H:Hp}{s:Ld}{a:Addr}(I:Inv X pins σ H s)(d:IsD H a) :
  s.TypeIs (.ref a) "dict"/\(∀b,LJ a= .ref b->∃ob,s.heap.get? b=some ob/\ob.dict=none)/\(a == NO)=false:=by
 rcases d with⟨kvs,e⟩ | ⟨kvs,e⟩
 ·obtain⟨_,hd,vs,_,dd⟩:=qG I.hok e
  refine⟨dd.typeIs,λb q=> ?_,hd⟩
  cases q;obtain⟨ob,_,_,h1,h2,_⟩:=dd;exact⟨ob,h1,h2.2.1⟩
 ·obtain⟨_,hd,xs,_,dd⟩:=qE I.hok e
  refine⟨dd.typeIs,λb q=> ?_,hd⟩
  cases q;obtain⟨ob,_,_,h1,h2,_⟩:=dd;exact⟨ob,h1,h2.2.1⟩
section
variable {X:Cx}{pins:List (Addr×Obj)}{σ:St}{H:Hp}{s:Ld}{a:Addr}{y d:V}{u r:La}{o:Option V}{A:LZ}{E:La->Ld->Prop}
theorem HF {Q:La->Ld->Prop}(hu:A.units+1<cLine)(I:Inv X pins σ H s)(g:DGet H a y o)(ry:RelV y u)(h:∀w' s',Inv X pins σ H s'->RelV (o.getD .non) w'->Q w' s') :
  wpAny (model X.prog X.w) A (call (.builtin "dict.get") [.ref a,u]) Q E s:=by
 rcases g with⟨kvs,k,e,ey,l⟩ | ⟨kvs,k,b,e,ey,eb,l⟩
 ·subst ey
  obtain⟨z,hd,vs,rel,dd⟩:=qG I.hok e;refine call_meetsIn Om dd.typeIs PN (Pw _ _) (meets_dict_get (cF X.prog X.w) a (uX ry) hd) ⟨_,dd.mapOf,h _ _ (I.tok _) ?_⟩
  rw[l];exact(rel.val k).getD rfl
 ·subst ey
  cases (show u=LJ b from ry)
  obtain⟨z,hd,xs,rel,dd⟩:=qE I.hok e;refine call_meetsIn Om dd.typeIs PN (Pw _ _) (meetsH_dict_get (Pr (cF X.prog X.w)) a b hd) ⟨NF hu,k,xs,lQ I.hok eb,dd,h _ _ (I.tok _) ?_⟩
  rw[l];exact(rel.val k).getD rfl
end
def FN (td ty:TE):TE:=λσ H Q=>td σ H λx H1=> ∃a,x= .ref a/\IsD H1 a/\ty σ H1 λy H2=> ∃o,DGet H2 a y o/\Q (o.getD .non) H2
section
variable {X:Cx}{o e f:Expr}{apos cpos:Pos}{td ty tx:TE}
theorem Aj (hu:X.A.units+1<cLine)(ho:PE X o td)(he:PE X e ty)(m:M1 X o "get" apos e cpos):PE X (.Call (.Attribute o "get" apos) [e] [] cpos) (FN td ty):=by
 intro pins s σ H Q I h;refine wpAny_Call_method m.base m.few m.line PySem.F.plainAttrs_dict Om PySem.F.type_dict_get (bV (ho pins s σ H _ I h) λu s1 hh_=> ?_)
 obtain⟨x,H1,I1,rx,a,ex,d,q1⟩:=hh_;subst ex;obtain rfl:u=LJ a:=rx;obtain⟨t1,t2,_⟩:=Hk I1 d;refine⟨t1,t2,?_⟩
 rw[m.trees];refine NC rfl (NR (N3 (bV (he pins s1 σ H1 _ I1 q1) λiv s2 ⟨y,H2,I2,ry,ov,g,q2⟩=>Og ?_)))
 exact HF hu I2 g ry λw' s3 I3 rw'=>⟨_,H2,I3,rw',q2⟩
end
end L2
namespace Tr
open PySem PySem.Spec PyProof.Rows L2
theorem DGet.KM {H:Hp}{a b:Addr}{kvs:List (List Key×V)}{k:List Key}(e:Rd H a (.dT kvs))(eb:H b=some (.tup (k.map kV))):DGet H a (.ref b) (jx kvs k):=.inr ⟨kvs,k,b,e,rfl,eb,rfl⟩
theorem HR {k:Nat}{A:LZ}(h:Room k A):A.units+1<cLine:=by have:=h.un;omega
theorem ox {K:K7}{O:Ow}{H:Hp}:∀{l:List T} {vs:List V} {k:List Key},oy l=some k->Reps K O H l vs->vs=k.map kV
 | [],vs,k,h,r=>by cases Reps.AC.mp r;cases h;rfl
 | t::l,vs,k,h,r=>by
  obtain⟨v,ws,rfl,p,q⟩:=Reps.me.mp r;unfold oy at h
  cases e1:E6 t with
  | none=>rw[e1]at h;cases h
  | some a=>
   cases e2:oy l with
   | none=>rw[e1,e2]at h;cases h
   | some b=>
    rw[e1,e2]at h;cases h;rw[ox e2 q,Lf]
    congr 1
    cases t with
    | int i=>cases e1;exact Rep.Da.mp p
    | str x=>cases e1;exact Rep.GM.mp p
    | _=>cases e1
theorem kQ {K:K7}{O:Ow}{H:Hp}{y:T}{v:V}{k:List Key}(h:keyOf y=some k)(r:Rep K O H y v):∃b,v= .ref b/\H b=some (.tup (k.map kV)):=by
 cases y with
 | tup l=>
  obtain⟨a,vs,e1,_,e3,e4⟩:=Rep.Do.mp r;rw[ox h e4]at e3
  exact⟨a,e1,e3⟩
 | _=>cases h
theorem k8 {K:K7}{O:Ow}{H:Hp}{k:List Key}:∀{ks ts:List T} {kvs:List (List Key×V)},ks.map keyOf=kvs.map (λp=>some p.1)->Reps K O H ts (kvs.map (·.2))->match lV ks ts k with
  | some t=> ∃v,jx kvs k=some v/\Rep K O H t v
  | none=>jx kvs k=none
 | [],ts,kvs,h,r=>by
  cases kvs with
  | nil=>unfold lV;exact zE
  | cons _ _=>cases h
 | k'::ks,ts,kvs,h,r=>by
  cases kvs with
  | nil=>cases h
  | cons p kvs=>
   rw[Lf,Lf]at h;injection h with h1 h2
   rw[Lf]at r
   cases ts with
   | nil=>have:=Reps.AC.mp r;cases this
   | cons t ts=>
    obtain⟨v,ws,e,q1,q2⟩:=Reps.me.mp r;injection e with e1 e2
    subst e1 e2;unfold lV
    by_cases hk:keyOf k'=some k
    ·rw[if_pos hk]
     rw[h1]at hk;injection hk with hk
     exact⟨_,kn hk,q1⟩
    ·rw[if_neg hk]
     have hk2:¬ p.1=k:=λz=>hk (by rw[h1,z])
     rw[ko hk2];exact k8 h2 q2
theorem rE {κ:Type}[DecidableEq κ]{k:κ}{p:κ×V}{r:List (κ×V)}{v:V}(h:¬ p.1=k):dN (p::r) k v=p::dN r k v:=by
 unfold dN;rw[Nt,decide_eq_false h,Q2]
 by_cases q:(r.any λkv=>decide (kv.1=k))=true
 ·rw[if_pos q,if_pos q,Lf,if_neg h]
 ·rw[if_neg q,if_neg q];rfl
theorem rF {κ:Type}[DecidableEq κ]{k:κ}{p:κ×V}{r:List (κ×V)}{v:V}(h:p.1=k)(hn:∀q∈r,q.1≠k):dN (p::r) k v=(p.1,v)::r:=by
 unfold dN;rw[Nt,decide_eq_true h,Bool.true_or,if_pos rfl,Lf,if_pos h]
 congr 1
 conv=>rhs;rw[<-List.map_id r]
 exact Nu λq hq=>if_neg (hn q hq)
theorem oR {K:K7}{O:Ow}{H:Hp}{kT vT:T}{k:List Key}{v:V}(hk:keyOf kT=some k)(hv:Rep K O H vT v):∀{ks ts:List T} {kvs:List (List Key×V)},ks.map keyOf=kvs.map (λp=>some p.1)->Reps K O H ts (kvs.map (·.2))->(kvs.map (·.1)).Nodup →
  (hV kT vT ks ts).1.map keyOf=(dN kvs k v).map (λp=>some p.1)/\Reps K O H (hV kT vT ks ts).2 ((dN kvs k v).map (·.2))
 | [],ts,kvs,h,r,_=>by
  cases kvs with
  | nil=>
   unfold hV;refine⟨?_,Reps.FS hv Reps.Gc⟩
   simp[dN,hk]
  | cons _ _=>cases h
 | k'::ks,ts,kvs,h,r,hn=>by
  cases kvs with
  | nil=>cases h
  | cons p kvs=>
   rw[Lf,Lf]at h;injection h with h1 h2
   rw[Lf]at r;rw[Lf]at hn;obtain⟨n1,n2⟩:=LF.mp hn
   cases ts with
   | nil=>have:=Reps.AC.mp r;cases this
   | cons t ts=>
    obtain⟨v',ws,e,q1,q2⟩:=Reps.me.mp r;injection e with e1 e2
    subst e1 e2;unfold hV
    by_cases hz:keyOf k'=keyOf kT
    ·rw[if_pos hz]
     have hp:p.1=k:=by rw[hz,hk]at h1;injection h1 with h1;exact h1.symm
     rw[rF hp λq hq z=>n1 (by rw[hp,<-z];exact List.mem_map_of_mem hq)]
     exact⟨by rw[Lf,Lf,h1,h2],Reps.FS hv q2⟩
    ·rw[if_neg hz]
     have hp:¬ p.1=k:=λz=>hz (by rw[h1,z,hk])
     obtain⟨a1,a2⟩:=oR hk hv h2 q2 n2;rw[rE hp];exact⟨by rw[Lf,Lf,h1,a1],Reps.FS q1 a2⟩
theorem EL {H:Hp}{kvs:List (List Key×V)}{xs:List (List Key×Addr×La)}(rel:KT H kvs xs):kvs.map (·.1)=xs.map (·.1):=by
 induction rel with
 | nil=>rfl
 | cons h t ih=>rw[Lf,Lf,ih,h.1]
theorem BQ {X:Cx}{pins:List (Addr×Obj)}{σ:L2.St}{H:Hp}{s:Ld}{a:Addr}{kvs:List (List Key×V)}(I:Inv X pins σ H s)(e:H a=some (.dT kvs)):(kvs.map (·.1)).Nodup/\kvs.length<=sizeLine:=by
 obtain⟨z,_,xs,rel,_,_,_,_,_,_,_,_,hn⟩:=BJ I.hok e;rw[EL rel];exact⟨hn,z⟩
section
variable {X:Cx}{a b:Expr}{fa fb:En->Rs T}{pos:Pos}
theorem IQ (hu:X.A.units+1<cLine)(ha:cg X a fa)(hb:cg X b fb)(hs:autoParam (EK b) aqg._auto_1):cg X (.Subscript a b pos) (o2 ti fa fb):=by
 refine PE.imp (DC hu ha hb hs) λσ H Q ⟨Z,O,E,hq⟩=> ?_
 obtain⟨Z1,O1,E1,h1⟩:=aZ E hq;refine⟨Z1,O1,E1,Post.mono h1 λt H1 s1 q v r=> ?_⟩
 obtain⟨t',r',s',E',q'⟩:=q v r;obtain⟨Z2,O2,E2,h2⟩:=aZ (f:=fb) E' q';refine⟨Z2,O2,E2,Post.mono h2 λt2 H2 s2 q2 v2 r2=> ?_⟩
 obtain⟨t2',r2',s2',E2',q2'⟩:=q2 v2 r2
 have r'':=r'.same s2';unfold ti at q2'
 split at q2'
 ·rename_i ks vs k hk
  split at q2'
  ·rename_i x hx
   obtain⟨a,kvs,e1,e2,e3,e4,e5⟩:=Rep.GE.mp r'';obtain⟨b,f1,f2⟩:=kQ hk r2'
   have g:=k8 (k:=k) e4 e5;rw[hx]at g;obtain⟨w,g1,g2⟩:=g;exact⟨a,w,e1,by rw[f1,<-g1];exact DGet.KM e3 f2,q2' H2 (Same.refl H2) w g2⟩
  ·exact q2'.elim
 ·exact q2'.elim
end
end Tr
namespace Tr
open PySem PySem.Spec PyProof.Rows L2
open PySem.SeqAt
theorem AH {A:LZ}{s:Ld}{x:T}{ux:La}(rx:ReV s x ux)(hu:A.units+60<cLine){l:List T}{us:List La}(hd:x.dep<=60\/deps l<=60)(r:ReVs s l us) :
  ∃e:La->Bool,(∀y∈us,EqAt A s y ux (e y))/\us.map e=l.map λt=>bh t x:=by
 classical
 have ex:∀y∈us,∃t∈l,ReV s t y:=λy hy=>by
  obtain⟨i,hi,rfl⟩:=Nr hy
  have hl:=r.length
  have e1:l[i]? =some l[i]:=by simp
  obtain⟨u,q1,q2⟩:=r.get e1
  have:us[i]? =some us[i]:=by simp
  rw[this]at q1;cases q1;exact⟨l[i],Mz _,q2⟩
 let e:La->Bool:=λy=>decide (∃t∈l,ReV s t y/\bh t x=true)
 have dep:∀t∈l,t.dep<=60\/x.dep<=60:=λt ht=>by
  rcases hd with h | h
  ·exact .inr h
  ·obtain⟨i,hi,rfl⟩:=Nr ht
   exact .inl (Me (i8 (i:=i) (by simp)) h)
 have uniq:∀y t t',ReV s t y->ReV s t' y->bh t x=bh t' x:=λy t t' z z'=>by
  rw[<-lh t,<-lh t',ReV.nf z z']
 have agree:∀y t,t∈l->ReV s t y->e y=bh t x:=λy t h z=>by
  show decide (∃t∈l,ReV s t y/\bh t x=true)=bh t x
  cases q:bh t x with
  | true=>exact decide_eq_true ⟨t,h,z,q⟩
  | false=>
   refine decide_eq_false ?_
   rintro ⟨t',h',z',q'⟩
   rw[<-uniq y t t' z z',q]at q';cases q'
 refine⟨e,λy hy=> ?_,?_⟩
 ·obtain⟨t,h,z⟩:=ex y hy
  rw[agree y t h z];exact(Eo 60 A s t x y ux (dep t h) hu z rx).1
 ·have go:∀(l':List T) (us':List La),(∀t∈l',t∈l)->ReVs s l' us'->us'.map e=l'.map λy=>bh y x:=by
   intro l'
   induction l' with
   | nil=>intro us' _ r';rw[ReVs.AC.mp r'];rfl
   | cons t l' ih=>
    intro us' sub r';obtain⟨u,ws,rfl,p,q⟩:=ReVs.me.mp r';rw[Lf,Lf,ih ws (λt ht=>sub t (K9 _ ht)) q,agree u t (sub t Lg) p]
  exact go l us (λ_ h=>h) r
theorem oN {x:T}:∀{l:List T} {n k:Nat},jw x l n=some k->n<=k/\(l.map λt=>bh t x)[k - n]? =some true/\∀m,m<k - n->(l.map λt=>bh t x)[m]? =some false
 | [],n,k,h=>by cases h
 | t::l,n,k,h=>by
  unfold jw at h
  cases q:bh t x with
  | true=>
   rw[q,if_pos rfl]at h;cases h;refine⟨Lo _,?_,λm hm=>by omega⟩
   rw[O7,Lf,q];rfl
  | false=>
   rw[q,if_neg (by decide)]at h
   obtain⟨h1,h2,h3⟩:=oN h
   have e:k - n=(k - (n+1))+1:=by omega
   refine⟨by omega,?_,λm hm=> ?_⟩
   ·rw[e,Lf,Ms];exact h2
   ·cases m with
    | zero=>rw[Lf,q];rfl
    | succ m=>rw[Lf,Ms];exact h3 m (by omega)
section
variable {X:Cx}{a b:Expr}{fa fb:En->Rs T}{pos apos cpos:Pos}
theorem zY (hu:X.A.units+61<cLine)(ha:cg X a fa)(hb:cg X b fb)(hn:autoParam (bK b=true) aqd._auto_1)
  (hbase:autoParam (LP a "index" X.env (eval a X.env)=eval a X.env) aqd._auto_1) (hline:autoParam ((apos.endLine == cpos.line)=true) aqd._auto_1):cg X (.Call (.Attribute a "index" apos) [b] [] cpos) (oL gk fa fb):=by
 have hs:Lx [b] X.env=(false,eval b X.env)::Lx [] X.env:=bH hn;intro pins s σ H Q I ⟨Z,O,E,hq⟩;refine PV hbase (by rw[hs];rfl) hline rfl (bV (ha pins s σ H _ I (aZ E hq)) λv s1 hh_=> ?_)
 obtain⟨x,H1,I1,r1,t,rt,s',E',q1⟩:=hh_
 cases t with
 | lst l=>
  obtain⟨c,vs,e1,e2,e3,e4⟩:=Rep.Fk.mp rt;subst e1;obtain rfl:v=LJ c:=r1;obtain⟨h1,h2⟩:=vD I1 (show RelV (.ref c) (.ref c)from rfl) (.inl ⟨rfl,vs,SqL.of e3⟩)
  refine⟨_,_,MW,PySem.F.slot_list_index,PySem.F.type_list_index,h1,h2,?_⟩
  rw[hs];refine NC rfl (NR (N3 (bV (hb pins s1 σ H1 _ I1 (aZ (f:=fb) E' q1)) λu s2 ⟨y,H2,I2,r2,t2,rt2,s'',E'',q2⟩=>Og ?_)))
  unfold gk at q2
  split at q2
  ·rename_i l' heq
   cases heq
   split at q2
   ·rename_i hd3
    obtain⟨hd,hnx,hny⟩:=hd3
    split at q2
    ·rename_i k hk
     have rv:=Rep.val I2 (show(T.lst l).nd=true by unfold T.nd;exact hny) (rt.same s'') (show RelV (.ref c) (.ref c)from rfl)
     unfold ReV at rv;obtain⟨c',us,ec,hl,rs⟩:=rv;cases ec;obtain⟨⟨cls,dd,data,sl⟩,ho,hc,n,hdd⟩:=id hl;simp only at hc hdd;subst hc hdd;obtain⟨e,he,ha⟩:=AH (A:=X.A.in1) (Rep.val I2 hnx rt2 r2) (by show X.A.units+1+60<cLine;omega) hd rs
     obtain⟨_,k1,k2⟩:=oN hk;rw[P9]at k1 k2;rw[<-ha]at k1 k2
     have hkl:k<us.length:=by have:=(Ll.mp k1).1;rwa [Lh]at this
     have hz:us.length<=sizeLine:=by
      have z:=(I2.Kj (s'' _ _ e3)).1
      have h3:=rs.length
      have h4:=e4.length;omega
     refine Oi F.slot_list_index ⟨_,ho,rfl⟩ F.entry_list_index (F.args_list_index_2 _ _) (list_indexAt c us.toArray n dd sl u e k (by simpa using hkl) (by rw[ON]at hz;omega) ?_ ?_) ⟨ho,λy hy=>he y (by simpa using hy),?_⟩
     ·have:=(Ll.mp k1).2
      rw[PK]at this
      simpa using this
     ·intro m hm hmk
      have:=(Ll.mp (k2 m hmk)).2
      rw[PK]at this
      simpa using this
     ·exact⟨.int _,H2,I2.tok _,⟨_,rfl⟩,q2 H2 (Same.refl H2) _ (Rep.Ke _)⟩
    ·exact q2.elim
   ·exact q2.elim
  ·rename_i hno
   exact(hno l rfl).elim
 | _=>exact q1.elim
theorem Gj (hu:X.A.units+1<cLine)(ha:cg X a fa)(hb:cg X b fb)(hn:autoParam (bK b=true) aqd._auto_1)
  (hbase:autoParam (LP a "get" X.env (eval a X.env)=eval a X.env) aqd._auto_1) (hline:autoParam ((apos.endLine == cpos.line)=true) aqd._auto_1):cg X (.Call (.Attribute a "get" apos) [b] [] cpos) (oD iz fa fb):=by
 have hs:Lx [b] X.env=(false,eval b X.env)::Lx [] X.env:=bH hn;refine PE.imp (Aj hu ha hb ⟨hbase,by rw[hs];rfl,hline,by rw[hs];rfl⟩) λσ H Q ⟨Z,O,E,hq⟩=> ?_
 obtain⟨Z1,O1,E1,h1⟩:=aZ E hq;refine⟨Z1,O1,E1,Post.mono h1 λt H1 s1 q v r=> ?_⟩
 obtain⟨t',r',s',E',q'⟩:=q v r
 cases t' with
 | dct ks vs=>
  obtain⟨c,kvs,e1,e2,e3,e4,e5⟩:=Rep.GE.mp r';refine⟨c,e1,.inr ⟨kvs,e3⟩,?_⟩
  obtain⟨Z2,O2,E2,h2⟩:=aZ (f:=fb) E' q';refine⟨Z2,O2,E2,Post.mono h2 λt2 H2 s2 q2 v2 r2=> ?_⟩
  obtain⟨t2',r2',s2',E2',q2'⟩:=q2 v2 r2;unfold iz at q2'
  split at q2'
  ·rename_i ks' vs' k heq hk
   cases heq;obtain⟨b,f1,f2⟩:=kQ hk r2'
   have g:=k8 (k:=k) e4 (e5.same s2');refine⟨jx kvs k,by rw[f1];exact DGet.KM (Rd.KF (P:=lp) (SameO.of s2') (λz=>z) e3) f2,?_⟩
   cases hx:lV ks vs k with
   | some z=>
    rw[hx]at g q2';obtain⟨w,g1,g2⟩:=g;rw[g1]
    exact q2' H2 (Same.refl H2) w g2
   | none=>
    rw[hx]at g q2';rw[g];exact q2' H2 (Same.refl H2) .non Rep.Kz
  ·exact q2'.elim
 | _=>exact q'.elim
theorem GB (hu:X.A.units+1<cLine):OpT X (L0 .In) BN:=by
 intro pins s σ H O x y vx vy ux uy Q I hf rx ry r1 r2 hp;unfold BN at hp
 split at hp
 ·rename_i ks vs k hk
  obtain⟨c,kvs,e1,e2,e3,e4,e5⟩:=Rep.GE.mp ry;obtain⟨b,f1,f2⟩:=kQ hk rx;subst e1 f1;obtain rfl:uy=LJ c:=r2
  have g:=k8 (k:=k) e4 e5
  have hsome:(lV ks vs k).isSome=(jx kvs k).isSome:=by
   cases hx:lV ks vs k with
   | some z=>rw[hx]at g;obtain⟨w,g1,_⟩:=g;rw[g1];rfl
   | none=>rw[hx]at g;rw[g];rfl
  refine d_in hu I (DGet.KM e3 f2) r1 λs' I'=>⟨.bl _,H,I',rfl,?_⟩
  rw[<-hsome];exact hp H (Same.refl H) _ (Rep.bl_ _)
 ·exact hp.elim
end
end Tr
namespace Tr
open PySem PySem.Spec PyProof.Rows L2
section
variable {X:Cx}{a b c:Expr}{fa fb fc:En->Rs T}{pos p2 p3 p4:Pos}{x:Str}
theorem F2 (i:Nat)(hu:X.A.units+1<cLine)(hb:cg X b fb)(hc:cg X c fc)(hN:autoParam (X.N[i]? =some x) aqd._auto_1)(hv:autoParam (mK X.env.scope x) aqe._auto_1)
  (hd:autoParam ((x == ("__debug__" : Str))=false) aqb._auto_1) (hcd:autoParam ((x == ("__classdict__" : Str))=false) aqb._auto_1)
  (hs:autoParam (L5 c (some (.Subscript (.Name x p2) b p3)) pos.line X.env=pure false) aqd._auto_1):mZ X (.Assign [.Subscript (.Name x p2) b p3] c pos) (yC i fb fc):=by
 intro pins s σ H D I ⟨Z,B,M,E,h⟩;refine Du hu (fP hN hv hd hcd) hb hc hs pins s σ H D I ?_
 unfold yC at h
 split at h
 ·rename_i ks vs hl
  obtain⟨v0,e1,d,kvs,rfl,hM,e3,e4,e5⟩:=E.env.own i _ hl;obtain⟨nd,nz⟩:=BQ I e3;refine⟨Z,OO B M,E.o,?_⟩
  cases q:fc Z with
  | bad=>rw[q]at h;exact h.elim
  | err c=>rw[q]at h;exact PostF.xa h
  | ok vT=>
   rw[q,aA]at h;intro H1 s1 v r;refine⟨.ref d,e1,Z,OO B M,(E.same s1).o,?_⟩
   have h1:=h.later (SameO.of s1) (P1:=M.u) λa z=> .inl z
   cases q2:fb Z with
   | bad=>rw[q2]at h1;exact h1.elim
   | err c=>rw[q2]at h1;exact PostF.xa h1
   | ok kT=>
    rw[q2,aA]at h1;intro H2 s2 y ry
    cases q3:keyOf kT with
    | none=>rw[q3]at h1;exact h1.elim
    | some k=>
     rw[q3]at h1
     have h2:=h1.later (SameO.of s2) (P1:=M.u) λa z=> .inl z
     have hlen:ks.length=kvs.length:=by have:=congrArg M4 e4;simpa using this
     by_cases hz:ks.length<1000
     ·simp only[if_pos hz]at h2
      obtain⟨kb,f1,f2⟩:=kQ q3 ry
      have e3':=s2 _ _ (s1 _ _ e3);obtain⟨g1,g2⟩:=oR q3 (r.same s2) e4 ((e5.same s1).same s2) nd;refine⟨d,upd H2 d (.dT (dN kvs k v)),rfl,by rw[f1];exact DPut.t e3' f2 (by rw[ON];omega),?_⟩
      have sm:SameO (M i) H2 (upd H2 d (.dT (dN kvs k v))):=λc u e nb=>by rw[aH (λz=>nb ((hM c).mpr z))];exact e
      obtain⟨g3,g4⟩:=((E.same s1).same s2).put (o':=.dct (hV kT vT ks vs).1 (hV kT vT ks vs).2) hl e1 sm ⟨d,_,rfl,hM,aT,g1,g2.move (P:=M i) (λa z=> .inl (.inr ⟨i,z⟩)) (λa z=> .inl z) sm⟩
      exact h2 σ _ M g4 g3 λc z=> .inl z
     ·simp only[if_neg hz]at h2
      exact h2.elim
 ·exact h.elim
end
end Tr
namespace PySem
open Sem (wp)
namespace F
theorem lk_list_keys:Ru (.type "list") "keys" =pure none:=by rw[So,Qo];kernel_rfl
theorem lk_list_getattr:Ru (.type "list") "__getattr__" =pure none:=by rw[So,Qo];kernel_rfl
end F
section
variable {prog:LI}{w:Mj}{A:LZ}{E:La->Ld->Prop}{h:Heap}{g:Array GenState}{d:Drawn}{t:Nat}{os:Pe}{a:Addr}{its:Array La}{n:Nat}
theorem mH {tk:Tok}{Q:Fin->Ld->Prop}(hx:h.get? a=some { cls:=.type "list",data:=.seq its n })(hh:A.handled=none)
  (hq:∀h' tk' e,Sd h h' e (.ref a) "keys"->E (.ref e) ⟨h',g,d,tk',os⟩) :
  wpAny (model prog w) A (Builtin.«object.__getattribute__» ⟨[.ref a,.str "keys" tk],[]⟩) Q E ⟨h,g,d,t,os⟩:=by
 have hT:(⟨h,g,d,t,os⟩:Ld).TypeIs (.ref a) "list":=⟨_,hx,rfl⟩
 have f4:=F.lk_list_keys
 repeat (any_goals (first | assumption | wp_step))
 exact wpAny_raiseAttrError hh (λh' tk e hx=>hq h' tk e hx) (attrMsg_fits (by decide+kernel) (by rw[ON];decide))
theorem oq {tk:Tok}{R:Si->Ld->Prop}(hx:h.get? a=some { cls:=.type "list",data:=.seq its n })(hh:A.handled=none)
  (hq:∀h' tk' e,Sd h h' e (.ref a) "keys"->R (.error (.ref e)) ⟨h',g,d,tk',os⟩) :
  codeAny (model prog w) A (.call (.builtin "list.__getattribute__") ⟨[.ref a,.str "keys" tk],[]⟩) R ⟨h,g,d,t,os⟩:=
 codeAny_call_builtin Nk.plain F.entry_list_ga (Nk.check _ _ _ _ _ _ _ _ (show(⟨h,g,d,t,os⟩:Ld).TypeIs (.ref a) "list" from⟨_,hx,rfl⟩) (F.args_list_getattribute_2 _ _) (mH hx hh hq))
theorem ou {Q:Option La->Ld->Prop}(hx:h.get? a=some { cls:=.type "list",data:=.seq its n })(hh:A.handled=none)
  (hq:∀h' tk',(∀b o,h.get? b=some o->h'.get? b=some o)->Q none ⟨h',g,d,tk',os⟩):wpAny (model prog w) A (getAttr? (.ref a) "keys") Q E ⟨h,g,d,t,os⟩:=by
 have hT:∀tk,(⟨h,g,d,tk,os⟩:Ld).TypeIs (.ref a) "list":=λ_=>⟨_,hx,rfl⟩
 have f1:=sub_AttributeError
 have f2:=Nk.lookup
 have f3:=Nk.bind (.ref a)
 have f5:=F.lk_list_getattr;unfold getAttr? getAttrBy? getAttrBy
 repeat (any_goals (first | assumption | exact hT _ | wp_step))
 refine oq hx hh λh' tk' e hx'=> ?_
 obtain⟨t',u',he⟩:=hx'.there
 repeat (any_goals (first | assumption | exact hT _ | wp_step))
 exact hq _ _ hx'.keeps
end
end PySem
namespace PySem.F
theorem entry_dict_update_loop:entryFor table "dict.update.loop" =some Builtin.«dict.update.loop»:=entryFor_of_tree (by kernel_rfl)
theorem plain_dict_update_loop:plainId "dict.update.loop" =true:=by decide+kernel
end PySem.F
namespace Tr
open PySem PySem.Spec PyProof.Rows L2
def iO (kvs:List (List Key×V)):List (List Key×V)->List (List Key×V)
 | [] =>kvs
 | p::ps=>iO (dN kvs p.1 p.2) ps
def PairsAt (H:Hp):List V->List (List Key×V)->Prop
 | [],ps=>ps= []
 | x::xs,ps=> ∃b kb p r,ps=p::r/\x= .ref b/\H b=some (.tup [.ref kb,p.2])/\H kb=some (.tup (p.1.map kV))/\PairsAt H xs r
theorem PairsAt.upd {H:Hp}{d:Addr}{kvs:List (List Key×V)}{o:HO}(hd:H d=some (.dT kvs)):∀{xs:List V} {ps:List (List Key×V)},PairsAt H xs ps->PairsAt (L2.upd H d o) xs ps
 | [],_,h=>h
 | x::xs,_,⟨b,kb,p,r,e1,e2,e3,e4,e5⟩=>⟨b,kb,p,r,e1,e2,by rw[aH (oh e3 hd (λz=>nomatch z))];exact e3,by rw[aH (oh e4 hd (λz=>nomatch z))];exact e4,e5.upd hd⟩
theorem qU {H:Hp}{d:Addr}{a b:HO}:upd (upd H d a) d b=upd H d b:=by
 funext c
 by_cases h:c=d
 ·rw[h,aT,aT]
 ·rw[aH h,aH h,aH h]
section
variable {X:Cx}{pins:List (Addr×Obj)}{σ:L2.St}{A:LZ}{res:La}{R:Si->Ld->Prop}{d l it:Addr}{xs:List V}
theorem zd (hh:A.handled=none)(hu:A.units+3<cLine):∀(k i:Nat) (s:Ld) (H:Hp) (kvs ps:List (List Key×V)),xs.length - i=k->i<=xs.length->H l=some (.lst xs)->H d=some (.dT kvs)->kvs.length+(xs.length - i)<=1000->Inv X pins σ H s->s.heap.IsListIter it l i->o8 X pins H it->PairsAt H (xs.drop i) ps →
  (∀s',Inv X pins σ (upd H d (.dT (iO kvs ps))) s'->R (.ok (.ret res)) s')->codeAny (model X.prog X.w) A (.builtin "dict.update.loop" ⟨[.ref d,.ref it,rawInt i,res],[]⟩) R s:=by
 intro k
 induction k with
 | zero=>
  intro i s H kvs ps hk hi hl hd hz I hit hf hp hR;refine Sq F.entry_dict_update_loop ?_
  rw[Qs F.plain_dict_update_loop _];obtain⟨z,its,n,r,hlen,e⟩:=I.Kj hl
  have hL:s.heap.IsList l its.toArray:=⟨_,e,rfl,n,rfl⟩
  show wpAny _ A.in1 (pyNext (.ref it) >>= _) _ _ s
  refine Lc (Qj hh hit hL (by simp;omega) λh' hm=> ?_)
  show wpAny _ _ (Builtin.Dict.addKeywords d [] >>= _) _ _ _
  refine Lc (Lm (Lm ?_))
  have hnil:xs.drop i= []:=Oe (by omega)
  rw[hnil]at hp;unfold PairsAt at hp;subst hp
  have e2:upd H d (.dT (iO kvs []))=H:=by
   funext b
   by_cases hb:b=d
   ·rw[hb,aT,hd];rfl
   ·rw[aH hb]
  rw[e2]at hR
  exact hR _ (I.Kp (fp:=[it]) (t':=s.toks) (λb hb=>by rw[Lr.mp hb];exact hf) λb o hb eb=>hm b o (λz=>hb (by rw[z];exact Lr.mpr rfl)) eb)
 | succ k ih=>
  intro i s H kvs ps hk hi hl hd hz I hit hf hp hR;refine Sq F.entry_dict_update_loop ?_
  rw[Qs F.plain_dict_update_loop _];obtain⟨z,its,n,r,hlen,e⟩:=I.Kj hl
  have hL:s.heap.IsList l its.toArray:=⟨_,e,rfl,n,rfl⟩
  have hlt:i<xs.length:=by omega
  have hlt':i<its.length:=by omega
  show wpAny _ A.in1 (pyNext (.ref it) >>= _) _ _ s
  refine Lc (PR hit hL (x:=its[i]) (by simp[hlt']) λh' hit' hm=> ?_)
  have I1:Inv X pins σ H { s with heap:=h' }:=I.Kp (fp:=[it]) (t':=s.toks) (λb hb=>by rw[Lr.mp hb];exact hf) λb o hb eb=>(hm.2 b (λz=>hb (by rw[z];exact Lr.mpr rfl))).trans eb
  have hdrop:xs.drop i=xs[i] ::xs.drop (i+1):=NS hlt;rw[hdrop]at hp;obtain⟨b,kb,p,r',rfl,ex,hb,hkb,hp'⟩:=hp
  have rx:RelV xs[i] its[i]:=by
   obtain⟨u,q1,q2⟩:=r.get (Lv hlt)
   rw[Lv hlt']at q1
   cases q1;exact q2
  rw[ex]at rx
  have eu:its[i] =LJ b:=rx;rw[eu];obtain⟨z2,its2,r2,ob,hob1,hob2,nb,hob3⟩:=(show ObjOk X.prog X.w H h' b (.tup [.ref kb,p.2])from I1.hok b _ hb)
  obtain⟨u1,us1,q1,rfl⟩:∃u1 us1,RelV (V.ref kb) u1/\its2=u1::us1:=by cases r2 with | cons a b=>exact⟨_,_,a,rfl⟩
  cases r2 with
  | cons ra rb=>
   obtain⟨u2,q2,rfl⟩:∃u2,RelV p.2 u2/\us1= [u2]:=by cases rb with | cons a b=>cases b;exact⟨_,a,rfl⟩
   obtain rfl:u1=LJ kb:=q1
   show wpAny _ A.in1 (holding [LJ b] _ >>= _) _ _ _
   refine Lc (OD ?_)
   refine Lc (wpAny_tryCatch ?_)
   unfold Builtin.Dict.pairItems;refine Lc (Ot (s:={ s with heap:=h' }) (T:="tuple") ⟨ob,hob1,hob2⟩ ?_)
   rw[if_pos (by decide)]
   refine Lc (Qy (s:={ s with heap:=h' }) hob1 hob3 (Lm ?_))
   show wpAny _ _ (holding [LJ kb,u2] (dictSet d (.ref kb) u2)) _ _ _
   refine OD ?_
   obtain⟨zz,hds,xs2,rel,dd⟩:=BJ I1.hok hd
   have hzl:xs2.length<=sizeLine:=by rw[<-Pz rel];exact zz
   have hkl:kvs.length<sizeLine:=by rw[ON];omega
   have hl2:(dN kvs p.1 p.2).length<=sizeLine:=by have:=gn kvs p.1 p.2;omega
   refine wpAny_dictSet_heap (hsz:=hzl) (NF (by show A.units+1<cLine;omega)) (lQ I1.hok hkb) dd λh2 dd2 hs2=> ?_
   obtain⟨q,es,ep,hq,h22,h3,h4,_,h5⟩:=dd2
   have I2:Inv X pins σ (upd H d (.dT (dN kvs p.1 p.2))) { s with heap:=h2,toks:=s.toks+(Pr (cF X.prog X.w)).draws p.1 }:=
    tj (s:={ s with heap:=h' }) I1 (by rw[hd];exact Ni) hs2 ⟨q,hq⟩ ⟨hl2,hds,_,(rel.put p.1 hkb q2).keeps λc ys ec=>by rw[aH (oh ec hd (λz=>nomatch z))];exact ec,q,es,ep,hq,h22,h3,h4,h5⟩
   have hld:l≠d:=oh hl hd (λz=>nomatch z)
   have hitd:it≠d:=λz=>by have:=hf.1;rw[z,hd]at this;cases this
   have hcast:(i:Int)+1=((i+1:Nat):Int):=by omega
   refine Lm ⟨plainId_quiet F.plain_dict_update_loop _,?_⟩
   rw[hcast];refine ih (i+1) _ (upd H d (.dT (dN kvs p.1 p.2))) (dN kvs p.1 p.2) r' (by omega) (by omega) (by rw[aH hld];exact hl) aT (by have:=gn kvs p.1 p.2;omega) I2 ?_ ⟨by rw[aH hitd];exact hf.1,hf.2⟩ (hp'.upd hd) λs' I'=> ?_
   ·obtain⟨oi,ho1,ho2,ho3⟩:=hit'
    exact⟨oi,(hs2.2 it hitd).trans ho1,ho2,ho3⟩
   ·rw[qU]at I'
    exact hR s' I'
end
theorem PairsAt.same {H H':Hp}(s:Same H H'):∀{xs:List V} {ps:List (List Key×V)},PairsAt H xs ps->PairsAt H' xs ps
 | [],_,h=>h
 | x::xs,_,⟨b,kb,p,r,e1,e2,e3,e4,e5⟩=>⟨b,kb,p,r,e1,e2,s _ _ e3,s _ _ e4,e5.same s⟩
section
variable {X:Cx}{pins:List (Addr×Obj)}{σ:L2.St}{A:LZ}{E:La->Ld->Prop}{H:Hp}{s:Ld}{l:Addr}{xs:List V}{ps:List (List Key×V)}
theorem BP {Q:La->Ld->Prop}(hh:A.handled=none)(hu:A.units+8<cLine)(I:Inv X pins σ H s)(hl:H l=some (.lst xs))(hz:xs.length<=1000)(hp:PairsAt H xs ps)
  (h:∀p s',Nw X.K H p->Inv X pins σ (upd H p (.dT (iO [] ps))) s'->Q (.ref p) s'):wpAny (model X.prog X.w) A (call (.type "dict") [.ref l]) Q E s:=by
 have hk:X.K.lookup s.heap.objs.size=none:=by
  cases q:X.K.lookup s.heap.objs.size with
  | none=>rfl
  | some o=>exact absurd (Lq (I.kIn _ o q)) (LQ _)
 have hn:H s.heap.objs.size=none:=I.hok.fresh (Lo _)
 have hlp:l≠s.heap.objs.size:=λz=>by rw[z,hn]at hl;cases hl
 refine callType_codes (Q₁:=λobj s₁=>obj= .ref s.heap.objs.size/\s₁= { s with heap:=s.heap.push { cls:=.type "dict",data:=.dict #[] } }) F.kt_called_dict (F.kt_typeCall_dict_1 _) F.entry_dict_init (kt_code_dict_new _ ⟨rfl,rfl⟩) ?_
 rintro obj s₁ ⟨rfl,rfl⟩
 have I1:Inv X pins σ (upd H s.heap.objs.size (.dT [])) { s with heap:=s.heap.push { cls:=.type "dict",data:=.dict #[] } }:=I.laid (a:=s.heap.objs.size) (o:=.dT []) (t':=s.toks) (λ_ _ q=>Lk _ q) (Lo _) (BK s.heap I.big)
 have hT:({ s with heap:=s.heap.push { cls:=.type "dict",data:=.dict #[] } }:Ld).TypeIs (.ref s.heap.objs.size) "dict":=⟨_,Lz _ rfl,rfl⟩
 have hl1:upd H s.heap.objs.size (.dT []) l=some (.lst xs):=by rw[aH hlp];exact hl
 obtain⟨z,its,n,r,hlen,e⟩:=I1.Kj hl1;refine⟨hT,F.args_dict_init_2 _ _,?_⟩
 unfold Builtin.«dict.__init__»;refine Lc ?_
 unfold Builtin.Dict.selfAndRest;refine Lc (wpAny_notOrdered_dict hT ?_)
 show wpAny _ _ (pure (s.heap.objs.size,[LJ l])) _ _ _
 refine Lm ?_
 show wpAny _ _ (Px "dict.__init__" s.heap.objs.size (.ref l) [] .none) _ _ _
 unfold Px;refine Lc (Ot (T:="list") ⟨_,e,rfl⟩ ?_)
 rw[if_pos (by decide)]
 refine Lc (ou e hh λh' tk' kp=> ?_)
 have I2:Inv X pins σ (upd H s.heap.objs.size (.dT [])) { s with heap:=h',toks:=tk' }:=I1.kept (t':=tk') kp
 rw[if_pos (by rfl)]
 refine Lc (Rw ?_)
 have eL:({ s with heap:=h',toks:=tk' }:Ld).heap.IsList l its.toArray:=⟨_,kp _ _ e,rfl,n,rfl⟩
 refine Lc (Pt eL ?_)
 have I3:Inv X pins σ (upd H s.heap.objs.size (.dT [])) { s with heap:=h'.push { cls:=.type "list_iterator",data:=.fields #[.ref l,.int 0 0] },toks:=tk' }:=I2.kept (t':=tk') λb u q=>Lk _ q
 have hpl:s.heap.objs.size<h'.objs.size:=Lq (kp _ _ (Lz _ rfl))
 have hni:upd H s.heap.objs.size (.dT []) h'.objs.size=none:=by
  rw[aH (O5 hpl)];exact I.hok.fresh (NZ hpl)
 have hp1:PairsAt (upd H s.heap.objs.size (.dT [])) xs ps:=hp.same (aX hn _);refine Lm ⟨plainId_quiet F.plain_dict_update_loop _,?_⟩
 refine zd (A:=A.in1) (X:=X) (pins:=pins) (σ:=σ) (l:=l) (xs:=xs) (it:=h'.objs.size) hh (by show A.units+1+3<cLine;omega) xs.length 0 _ (upd H s.heap.objs.size (.dT [])) [] ps (by omega) (Nq _) hl1 aT (by simp;omega) I3 ⟨_,Lz _ rfl,rfl,rfl⟩ (I2.Ky (Lo _) hni) hp1 λs' I'=> ?_
 rw[qU]at I';exact⟨rfl,h _ _ ⟨hn,hk⟩ I'⟩
end
theorem hu8 {k:Nat}{A:LZ}(h:Room k A):A.units+8<cLine:=by have:=h.un;omega
theorem v7 {kvs:List (List Key×V)}{k:List Key}{v:V}(h:(kvs.map (·.1)).Nodup):((dN kvs k v).map (·.1)).Nodup:=by
 unfold dN
 by_cases a:(kvs.any λkv=>decide (kv.1=k))=true
 ·rw[if_pos a,Qa]
  have:((λx=>x.1)∘λkv:List Key×V=>if kv.1=k then(kv.1,v)else kv)=λx=>x.1:=by
   funext x
   show(if x.1=k then(x.1,v)else x).1=x.1
   by_cases e:x.1=k
   ·rw[if_pos e]
   ·rw[if_neg e]
  rw[this];exact h
 ·rw[if_neg a,LY,Mg]
  refine⟨h,by simp,λx hx y hy=> ?_⟩
  simp only[Lf,P3,Lr]at hy;subst hy;intro z;subst z;obtain⟨p,hp,e⟩:=LM.mp hx;exact a (List.any_eq_true.mpr ⟨p,hp,decide_eq_true e⟩)
def Kc (K:K7)(O:Ow)(H:Hp):List (T×T)->List (List Key×V)->Prop
 | [],ps=>ps= []
 | a::l,ps=> ∃p r,ps=p::r/\keyOf a.1=some p.1/\Rep K O H a.2 p.2/\Kc K O H l r
theorem qF {K:K7}{O:Ow}{H:Hp}:∀{l:List (T×T)} {ps:List (List Key×V)} {ks ts:List T} {kvs:List (List Key×V)},Kc K O H l ps->ks.map keyOf=kvs.map (λp=>some p.1)->Reps K O H ts (kvs.map (·.2))->(kvs.map (·.1)).Nodup →
  (i7 l (ks,ts)).1.map keyOf=(iO kvs ps).map (λp=>some p.1)/\Reps K O H (i7 l (ks,ts)).2 ((iO kvs ps).map (·.2))
 | [],ps,ks,ts,kvs,h,h1,h2,hn=>by unfold Kc at h;subst h;exact⟨h1,h2⟩
 | (a,b)::l,ps,ks,ts,kvs,h,h1,h2,hn=>by
  obtain⟨p,r,rfl,e1,e2,e3⟩:=h;obtain⟨g1,g2⟩:=oR (vT:=b) e1 e2 h1 h2 hn
  show(i7 l (hV a b ks ts)).1.map keyOf=(iO (dN kvs p.1 p.2) r).map (λp=>some p.1)/\Reps K O H (i7 l (hV a b ks ts)).2 ((iO (dN kvs p.1 p.2) r).map (·.2))
  exact qF (l:=l) e3 g1 g2 (v7 hn)
theorem xm {K:K7}{O:Ow}{H:Hp}:∀{l:List T} {tps:List (T×T)} {xs:List V},HM l=some tps->Reps K O H l xs->∃ps,PairsAt H xs ps/\Kc K O H tps ps
 | [],tps,xs,h,r=>by cases Reps.AC.mp r;cases h;exact⟨[],rfl,rfl⟩
 | t::l,tps,xs,h,r=>by
  obtain⟨v,ws,rfl,p,q⟩:=Reps.me.mp r;unfold HM at h
  split at h
  ·rename_i heq;cases heq
  ·rename_i k v' l' heq
   cases heq
   split at h
   ·rename_i kk rr hk hr
    cases h;obtain⟨ps,g1,g2⟩:=xm hr q;obtain⟨b,vs,e1,e2,e3,e4⟩:=Rep.Do.mp p;obtain⟨u1,us1,rfl,f1,f2⟩:=Reps.me.mp e4;obtain⟨u2,us2,rfl,f3,f4⟩:=Reps.me.mp f2;cases Reps.AC.mp f4;obtain⟨kb,f5,f6⟩:=kQ hk f1;subst f5;exact⟨(kk,u2)::ps,⟨b,kb,(kk,u2),ps,rfl,e1,e3,f6,g1⟩,⟨(kk,u2),ps,rfl,hk,f3,g2⟩⟩
   ·cases h
  ·cases h
section
variable {X:Cx}{e:Expr}{f:En->Rs T}{x y:Str}{p pos p2 p3:Pos}
def FL (X:Cx)(f:En->Rs T):TE:=λσ H Q=>tP X f σ H λv H'=> ∃a xs ps,v= .ref a/\H' a=some (.lst xs)/\xs.length<=1000/\PairsAt H' xs ps/\∀q,Nw X.K H' q->Q (.ref q) (upd H' q (.dT (iO [] ps)))
theorem Ai (hu:X.A.units+8<cLine)(hc:X.calm=true)(hm:X.mg "dict" =none)(ha:cg X e f)(hg:Gl X "dict")(hs:bK e=true):PE X (.Call (.Name "dict" p) [e] [] pos) (FL X f):=by
 have h1:Lx [e] X.env=(false,eval e X.env)::Lx [] X.env:=bH hs;intro pins s σ H Q I hq;refine MI (j4 I hg hm (show Mf "dict" =some (.type "dict")by decide+kernel) ?_ (by decide) (by decide))
 refine M0 (bV (gg (te:=tP X f) ha lA h1 pos pins s σ H (λxs H'=> ∃v,xs= [v]/\∃a xs ps,v= .ref a/\H' a=some (.lst xs)/\xs.length<=1000/\PairsAt H' xs ps/\∀q,Nw X.K H' q->Q (.ref q) (upd H' q (.dT (iO [] ps)))) I ?_) λus s1 hh=> ?_) h1 rfl
 ·obtain⟨Z,O,E,h⟩:=hq
  exact⟨Z,O,E,Post.mono h λt H' _ g v r=>⟨v,rfl,g v r⟩⟩
 ·obtain⟨vs,H1,I1,r1,v,rfl,a,xs,ps,ev,e1,e2,e3,e4⟩:=hh
  subst ev;obtain⟨u,rfl,ru⟩:=r1.one;obtain rfl:u=LJ a:=ru;exact BP (I1.ok.hd hc) hu I1 e1 e2 e3 λq s' nw I'=>⟨.ref q,_,I',rfl,e4 q nw⟩
theorem C8 (i:Nat)(hu:X.A.units+8<cLine)(hc:X.calm=true)(hm:X.mg "dict" =none)(hN:X.N.Nodup)(ha:cg X e f)(hst:autoParam (bK e=true) aqd._auto_1)(hg:autoParam (Gl X "dict") aqd._auto_1)(hi:autoParam (X.N[i]? =some x) aqd._auto_1)(hx:autoParam (Loc X.env.scope x) aqh._auto_1)(hs:autoParam (L5 (.Call (.Name "dict" p) [e] [] p2) (some (.Name x p3)) pos.line X.env=pure false) aqd._auto_1)
  (hf:autoParam (X.fn x=true\/X.env.scope.names.lookup x=some .local) aqa._auto_1):mZ X (.Assign [.Name x p3] (.Call (.Name "dict" p) [e] [] p2) pos) (qg i f):=PS.imp (nK hN hi hx (Ai hu hc hm ha hg hst) hs hf) λD σ H hh_=>by
 obtain⟨Z,B,M,E,h⟩:=hh_;refine⟨Z,OO B M,E.o,?_⟩
 unfold qg at h
 cases q:f Z with
 | bad=>rw[q]at h;exact h.elim
 | err c=>rw[q]at h;exact PostF.xa h
 | ok t=>
  rw[q,aA]at h;intro H1 s1 v r
  have h1:=h.later (SameO.of s1) (P1:=M.u) λa z=> .inl z
  cases t with
  | lst l=>
   obtain⟨a,xs,rfl,e2,e3,e4⟩:=Rep.Fk.mp r;unfold x9 at h1
   split at h1
   ·rename_i l' heq
    cases heq
    split at h1
    ·rename_i tps hps
     by_cases hz:l.length<=1000
     ·rw[if_pos hz,aA]at h1
      obtain⟨ps,g1,g2⟩:=xm hps e4;refine⟨a,xs,ps,rfl,e3,by rw[<-e4.length];exact hz,g1,λnd nw=> ?_⟩
      by_cases hl:i<Z.length
      ·simp only[if_pos hl]at h1
       have hm:∀a,a=nd->Nw X.K H1 a:=λa z=>z▸nw
       obtain⟨k1,k2⟩:=qF (ks:=[]) (ts:=[]) (kvs:=[]) g2 rfl Reps.Gc NA;obtain⟨E2,sub⟩:=(E.same s1).new (m:=λa=>a=nd) (o:=.dct (i7 tps ([],[])).1 (i7 tps ([],[])).2) (v:=.ref nd) (H':=upd H1 nd (.dT (iO [] ps))) hl hm (aX nw.1 _) ⟨nd,_,rfl,λb=>N5,aT,k1,(k2.more (Ev.subO hm)).same (aX nw.1 _)⟩
       exact h1 _ _ _ (SameO.of (aX nw.1 _)) E2 sub
      ·simp only[if_neg hl]at h1;exact h1.elim
     ·rw[if_neg hz]at h1;exact h1.elim
    ·exact h1.elim
   ·rename_i hno
    exact(hno l rfl).elim
  | _=>exact h1.elim
end
end Tr
namespace Tr
theorem uS:∀l,fT l l=false
 | [] =>rfl
 | a::l=>by unfold fT;rw[if_pos rfl];exact uS l
theorem sG:∀a b c,fT a b=true->fT b c=true->fT a c=true
 | [],[],_,h,_=>absurd h (by simp[fT])
 | _::_,[],_,h,_=>absurd h (by simp[fT])
 | [],_::_,[],_,h=>absurd h (by simp[fT])
 | [],_::_,_::_,_,_=>rfl
 | _::_,_::_,[],_,h=>absurd h (by simp[fT])
 | x::a,y::b,z::c,h,g=>by
  unfold fT at h g ⊢
  by_cases e:x=y
  ·subst e
   rw[if_pos rfl]at h
   by_cases e2:x=z
   ·rw[if_pos e2]at g ⊢;exact sG a b c h g
   ·rw[if_neg e2]at g ⊢;exact g
  ·rw[if_neg e]at h
   by_cases e2:y=z
   ·subst e2;rw[if_neg e];exact h
   ·rw[if_neg e2]at g
    have h1:=of_decide_eq_true h
    have h2:=of_decide_eq_true g;rw[if_neg (by omega)]
    exact decide_eq_true (by omega)
theorem oo:∀a b,fT a b=false->fT b a=false->a=b
 | [],[],_,_=>rfl
 | [],_::_,h,_=>absurd h (by simp[fT])
 | _::_,[],_,h=>absurd h (by simp[fT])
 | x::a,y::b,h,g=>by
  unfold fT at h g
  by_cases e:x=y
  ·subst e
   rw[if_pos rfl]at h g;rw[oo a b h g]
  ·rw[if_neg e]at h
   rw[if_neg (λz=>e z.symm)]at g
   have h1:=of_decide_eq_false h
   have h2:=of_decide_eq_false g;omega
theorem AJ (a b c:List Int)(h:fT a c=true):fT a b=true\/fT b c=true:=by
 cases h1:fT a b with
 | true=>exact .inl rfl
 | false=>
  cases h2:fT b a with
  | true=>exact .inr (sG _ _ _ h2 h)
  | false=>rw[<-oo _ _ h1 h2];exact .inr h
end Tr
namespace Tr
open PySem PySem.Spec PyProof.Rows L2
variable (R:RK)
variable {R:RK}
def RK.kind (R:RK)(h:Heap):PyProof.Rows.KeyKind:={ α:=List Int,blt:=fT,irrefl:=uS,trans:=sG,negTrans:=AJ,total:=oo,keyOf:=R.key h,dflt:=[] }
def RK.row (R:RK)(h:Heap)(v:La):List Int:=(R.key h v).getD []
end Tr
namespace L2
open PySem PySem.Spec PyProof.Rows
theorem u7 {n b:Nat}:b∈ [n+4,n,n+1,n+2,n+3] ↔n<=b/\b<n+5:=by
 simp only[Lj,Mo,or_false];omega
end L2
namespace Tr
open PySem PySem.Spec PyProof.Rows L2
def Wk (K:K7)(O:Ow)(H1:Hp)(l:List T)(v:V):Prop:=∃(aa:Addr) (tt:Bool) (ws:List V),v= .ref aa/\¬ O aa/\Reps K O H1 l ws/\Ct K H1 aa tt ws/\(∀P Hc,SameO P H1 Hc->¬ P aa->Ct K Hc aa tt ws)/\¬ Nw K H1 aa
end Tr
namespace Tr
open PySem
def c0 (g:List T->Rs T)(_:En):Rs T:=match g []with
 | .ok t=> .ok t
 | _=> .bad
end Tr
namespace PySem
open Sem (wp)
open L2 (itAt)
structure PW (prog:LI)(w:Mj)(A:LZ)(I:Addr)(T:String)(fp wr:List Addr)(n:Nat)(R:Nat->La->La->Prop)(St:Nat->Option Addr->Heap->Prop):Prop where
 sub:∀b∈wr,b∈fp
 ty:∀i o (s:Ld),St i o s.heap->s.TypeIs (.ref I) T
 frame:∀i o h h',St i o h->(∀b∈fp,∀ob,h.get? b=some ob->h'.get? b=some ob)->St i o h'
 item:∀i o (s:Ld) (Q:Option La->Ld->Prop) (E:La->Ld->Prop),i<n->St i o s.heap->(∀t,o=some t->∃ob,s.heap.get? t=some ob) →
  (∀p h' tk x y,R i x y->s.heap.objs.size<=p->IsPair h' p x y->St (i+1) (some (o.getD p)) h'->(∀b ob,b∉wr->s.heap.get? b=some ob->h'.get? b=some ob)->Q (some (.ref p)) { s with heap:=h',toks:=tk })->wpAny (model prog w) A (pyNext (.ref I)) Q E s
 done:∀o (s:Ld) (Q:Option La->Ld->Prop) (E:La->Ld->Prop),St n o s.heap->(∀t,o=some t->∃ob,s.heap.get? t=some ob)->(∀h' tk,(∀b ob,b∉wr->s.heap.get? b=some ob->h'.get? b=some ob)->Q none { s with heap:=h',toks:=tk })->wpAny (model prog w) A (pyNext (.ref I)) Q E s
 self:∀i o (s:Ld) (Q:La->Ld->Prop) (E:La->Ld->Prop),St i o s.heap->Q (.ref I) s->wpAny (model prog w) A (pyIter (.ref I)) Q E s
end PySem
namespace Tr
open PySem
inductive Fx where
 | nx (Z:En) | rt (t:T) (Z:En)
def kY {α:Type}(f:Str):List Str->List α->Option α
 | n::ns,l::ls=>if n=f then some l else kY f ns ls
 | _,_=>none
def j7 (f:Str)(l':List T):List Str->List (List T)->List (List T)
 | n::ns,l::ls=>if n=f then l'::ls else l::j7 f l' ns ls
 | _,ls=>ls
def wC (c f:Str):T->Rs T
 | .ob c' ns ts=>if c'=c then(match kY f ns ts with | some t=> .ok t | none=> .bad)else .bad
 | _=> .bad
def qr (c m:Str)(g:List T->Rs T)(fo:En->Rs T)(fs:En->Rs (List T))(Z:En):Rs T:=do
 let o <-fo Z
 match o with
 | .ob c' ns ts=>if c'=c/\ns.contains m=false then fs Z >>= λl=>g (.ob c' ns ts::l)else .bad
 | _=> .bad
def xP (f:En->Rs T)(Z:En):Rs (T×En):=f Z >>= λt=> .ok (t,Z)
def yr (i:Nat)(c f:Str)(fa:En->Rs T)(Z:En):Rs (T×En):=match Z[i]? with
 | some (.ow (.ob c' ns ls))=>if c'=c then(match kY f ns ls with
  | some l=>fa Z >>= λt=>if l.length<sizeLine then .ok (.non,Z.set i (.ow (.ob c' ns (j7 f (l++ [t]) ns ls))))else .bad
  | none=> .bad)else .bad
 | _=> .bad
def yq (i:Nat)(c f:Str)(Z:En):Rs (T×En):=match Z[i]? with
 | some (.ow (.ob c' ns ls))=>if c'=c then(match kY f ns ls with
  | some l=>(match l.getLast? with
   | some t=> .ok (t,Z.set i (.ow (.ob c' ns (j7 f l.dropLast ns ls))))
   | none=> .bad)
  | none=> .bad)else .bad
 | _=> .bad
def zC (i:Nat)(Z:En):Rs (T×OT)->Rs (T×En)
 | .ok p=> .ok (p.1,Z.set i (.ow p.2))
 | .err c=> .err c
 | .bad=> .bad
def fq (i:Nat)(c m:Str)(g:List Sl->Rs (T×OT))(fs:En->Rs (List T))(Z:En):Rs (T×En):=match Z[i]? with
 | some (.ow (.ob c' ns ls))=>if c'=c/\ns.contains m=false then fs Z >>= λts=>zC i Z (g (.ow (.ob c' ns ls)::ts.map Sl.va))else .bad
 | _=> .bad
def m8 (i:Nat)(g:List Sl->Rs (T×OT))(fs:En->Rs (List T))(Z:En):Rs (T×En):=match Z[i]? with
 | some (.ow o)=>fs Z >>= λts=>zC i Z (g (.ow o::ts.map Sl.va))
 | _=> .bad
def eg (n:Nat)(sls:List Sl):En:=sls++LA (n - sls.length) Sl.em
def pE (j:Nat):Fx->Rs (T×OT)
 | .nx Z=>match Z[j]? with
  | some (.ow o)=> .ok (.non,o)
  | _=> .bad
 | .rt t Z=>match Z[j]? with
  | some (.ow o)=> .ok (t,o)
  | _=> .bad
def gH (n j m:Nat)(F:En->Rs Fx)(sls:List Sl):Rs (T×OT):=if sls.length=n then F (eg m sls) >>= pE j else .bad
def DO {α:Type}:Rs α->Rs α
 | .err _=> .bad
 | r=>r
def mN (Z:En):Rs Fx:=.ok (.nx Z)
def gP (F G:En->Rs Fx)(Z:En):Rs Fx:=match F Z with
 | .ok (.nx Z')=>DO (G Z')
 | r=>r
def zo (x:En->Rs (T×En))(Z:En):Rs Fx:=x Z >>= λp=> .ok (.nx p.2)
def kO (x:En->Rs (T×En))(Z:En):Rs Fx:=x Z >>= λp=> .ok (.rt p.1 p.2)
def DW (i:Nat)(x:En->Rs (T×En))(Z:En):Rs Fx:=x Z >>= λp=>if i<p.2.length then .ok (.nx (p.2.set i (.va p.1)))else .bad
def Cp (f:En->Rs Bool)(F G:En->Rs Fx)(Z:En):Rs Fx:=f Z >>= λk=>if k then F Z else G Z
def DU (c:Str)(_:En):Rs Fx:=.err c
def yP (i:Nat)(c f:Str)(fs:En->Rs (List T))(Z:En):Rs Fx:=match Z[i]? with
 | some (.ow (.ob c' ns ls))=>fs Z >>= λl=>if c'=c/\l.length<=sizeLine/\ns.length<1000 then
   .ok (.nx (Z.set i (.ow (if ns.contains f then .ob c' ns (j7 f l ns ls)else .ob c' (ns++ [f]) (ls++ [l])))))else .bad
 | _=> .bad
def uR (F:En->Rs Fx)(h:Str->Rs T)(Z:En):Rs Fx:=match F Z with
 | .err c=>(match h c with
  | .ok t=> .ok (.rt t Z)
  | _=> .bad)
 | r=>r
def Be (c:Str)(t:T)(d:Str):Rs T:=if d=c then .ok t else .bad
def vP (x:En->Rs (T×En))(Z:En):Rs Fl:=x Z >>= λp=> .ok (.nx p.2)
def qh (i:Nat)(c:Str)(g:List Sl->Rs (T×OT))(fs:En->Rs (List T))(Z:En):Rs Fl:=fs Z >>= λts=>DO (g (.ow (.ob c [] [])::ts.map Sl.va)) >>= λp=>match p.1 with
 | .non=>if i<Z.length then .ok (.nx (Z.set i (.ow p.2)))else .bad
 | _=> .bad
def w8 (x:En->Rs (T×En))(Z:En):Rs (Bool×En):=x Z >>= λp=>match p.1 with
 | .bl b=> .ok (b,p.2)
 | _=> .bad
def vz (g:T->T->Rs T)(x:En->Rs (T×En))(f:En->Rs T)(Z:En):Rs (T×En):=x Z >>= λp=>DO (f p.2 >>= g p.1) >>= λt=> .ok (t,p.2)
def l6 (x:En->Rs (Bool×En))(Z:En):Rs (Bool×En):=x Z >>= λp=> .ok (!p.1,p.2)
def nG (x:En->Rs (Bool×En))(F G:En->Rs Fl)(Z:En):Rs Fl:=x Z >>= λp=>if p.1 then F p.2 else G p.2
def yQ (f:En->Rs T)(g:T->En->Rs En)(Z:En):Rs Fx:=f Z >>= λt=>match g t Z with
 | .ok Z'=> .ok (.nx Z')
 | _=> .bad
def uj (i:Nat)(f:En->Rs T)(Z:En):Rs Fl:=match Z[i]? with
 | some (.ow (.lst l))=>f Z >>= λt=>(match t with
  | .lst m=>if l.length+m.length<=sizeLine then .ok (.nx (Z.set i (.ow (.lst (l++m)))))else .bad
  | _=> .bad)
 | _=> .bad
end Tr
namespace Tr
open PySem PySem.Spec PyProof.Rows L2
abbrev one (j:Nat)(m:Ow):Mn:=noM.set j m
abbrev BM (B m:Ow):Ow:=λa=>B a\/m a
theorem one_u {j:Nat}{m:Ow}{a:Addr}:(one j m).u a↔m a:=⟨λz=>(Mn.Kf z).elim id λ⟨_,w⟩=>w.elim,λz=>⟨j,by unfold one;rw[Mn.Kl];exact z⟩⟩
theorem one_oo {B:Ow}{j:Nat}{m:Ow}{a:Addr}:OO B (one j m) a↔BM B m a:=or_congr N5 one_u
section
variable {K:K7}{B:Ow}{M:Mn}{H H':Hp}{Z:En}{σ:L2.St}{i:Nat}{o o':OT}{v:V}{m:Ow}
theorem Ev.old (E:Ev K B M H Z σ){a:Addr}(w:Nw K H a):¬ OO B M a:=λz=>by
 obtain⟨o,e⟩:=(E.env.trk a z).some;rw[w.1]at e;cases e
theorem Ev.back (E:Ev K B M H Z σ)(hi:Z[i]? =some (.ow o))(hs:σ[i]? =some (some v))(s:SameO (M i) H H')(r:ORep K (OO B (M.set i m)) m H' o' v)(hm:∀a,m a->M i a\/Nw K H a) :
  Ev K B (M.set i m) H' (Z.set i (.ow o')) σ/\SameO M.u H H'/\∀a,(M.set i m).u a->M.u a\/Nw K H a:=by
 have hl:i<Z.length:=(Ll.mp hi).1
 have sub:∀a,(M.set i m).u a->M.u a\/Nw K H a:=λa z=>(Mn.Kf z).elim (λw=>(hm a w).imp_left λy=>⟨i,y⟩) .inl
 have subO:∀a,OO B (M.set i m) a->OO B M a\/Nw K H a:=λa z=>z.elim (λw=> .inl (.inl w)) λw=>(sub a w).elim (λy=> .inl (.inr y)) .inr
 have inO:∀a,M i a->OO B M a\/Nw K H a:=λa z=> .inl (.inr ⟨i,z⟩)
 refine⟨⟨⟨by rw[MH];exact E.env.len,λj t e=> ?_,λj o2 e=> ?_,λj a z=> .inr ⟨j,z⟩,λj k a z1 z2=> ?_,λa z=> ?_⟩,λa z hb=> ?_⟩,λb u e n=>s b u e λz=>n ⟨i,z⟩,sub⟩
 ·by_cases hj:i=j
  ·subst hj;rw[LH hl]at e;cases e
  ·rw[LC hj]at e
   obtain⟨w,e1,e2⟩:=E.env.val j t e;exact⟨w,e1,e2.move inO subO s⟩
 ·by_cases hj:i=j
  ·subst hj
   rw[LH hl]at e
   cases e;exact⟨v,hs,by rw[Mn.Kl];exact r⟩
  ·rw[LC hj]at e
   obtain⟨w,e1,e2⟩:=E.env.own j o2 e;refine⟨w,e1,?_⟩
   rw[Mn.Kq (λz=>hj z.symm)]
   exact e2.move inO subO s λa z y=>hj (E.env.dis i j a y z)
 ·unfold Mn.set at z1 z2
  by_cases hj:j=i
  ·by_cases hk:k=i
   ·exact hj.trans hk.symm
   ·rw[if_pos hj]at z1;rw[if_neg hk]at z2
    exact(hm a z1).elim (λw=>(hk (E.env.dis k i a z2 w)).elim) λw=>(E.old w (.inr ⟨k,z2⟩)).elim
  ·by_cases hk:k=i
   ·rw[if_neg hj]at z1;rw[if_pos hk]at z2
    exact(hm a z2).elim (λw=>(hj (E.env.dis j i a z1 w)).elim) λw=>(E.old w (.inr ⟨j,z1⟩)).elim
   ·rw[if_neg hj]at z1;rw[if_neg hk]at z2
    exact E.env.dis j k a z1 z2
 ·rcases z with z | ⟨j,z⟩
  ·exact(E.env.trk a (.inl z)).at λo e=>s _ _ e λw=>E.mine a ⟨i,w⟩ z
  ·unfold Mn.set at z
   by_cases hj:j=i
   ·rw[if_pos hj]at z;exact r.mtb a z
   ·rw[if_neg hj]at z
    exact(E.env.trk a (.inr ⟨j,z⟩)).at λo e=>s _ _ e λw=>hj (E.env.dis j i a z w)
 ·rcases Mn.Kf z with w | w
  ·exact(hm a w).elim (λy=>E.mine a ⟨i,y⟩ hb) λy=>E.old y (.inl hb)
  ·exact E.mine a w hb
end
section
variable {X:Cx}{a e:Expr}{es:List Expr}{fa:En->Rs T}{fs:En->Rs (List T)}{pos p2 apos cpos:Pos}{x c f:Str}
def PostX (X:Cx)(B P:Ow)(σ:L2.St)(H:Hp)(r:Rs (T×En))(Q:VK):Prop:=match r with
 | .ok p=> ∀v H' M',SameO P H H'->Ev X.K B M' H' p.2 σ->(∀a,M'.u a->P a\/Nw X.K H a)->Rep X.K (OO B M') H' p.1 v->Q v H'
 | .err c=>XA X lp H c
 | .bad=>False
def tX (X:Cx)(f:En->Rs (T×En)):TE:=λσ H Q=> ∃Z B M,Ev X.K B M H Z σ/\PostX X B M.u σ H (f Z) Q
abbrev wV (X:Cx)(e:Expr)(f:En->Rs (T×En)):Prop:=PE X e (tX X f)
theorem FI (h:cg X a fa):wV X a (xP fa):=PE.imp h λσ H Q hh_=>by
 obtain⟨Z,B,M,E,q⟩:=hh_;refine⟨Z,OO B M,E.o,?_⟩
 unfold xP at q
 cases z:fa Z with
 | bad=>rw[z]at q;exact q
 | err c=>rw[z]at q;exact q
 | ok t=>
  rw[z,aA]at q;exact λH' s v r=>q v H' M (SameO.of s) (E.same s) (λ_ w=> .inl w) r
theorem Bi {K:K7}{O:Ow}{H:Hp}:∀{fs:List (Str×V)} {ts:List T} {t:T},kY f (fs.map (·.1)) ts=some t->Reps K O H ts (fs.map (·.2))->∃v,fs.lookup f=some v/\Rep K O H t v
 | [],ts,t,h,_=>by cases h
 | (n,w)::fs,[],t,h,_=>by cases h
 | (n,w)::fs,u::ts,t,h,r=>by
  obtain⟨w',ws,e,p,q⟩:=Reps.me.mp r;cases e
  have h':(if n=f then some u else kY f (fs.map (·.1)) ts)=some t:=h
  rw[L8]
  by_cases z:n=f
  ·subst z
   rw[if_pos rfl]at h';cases h';exact⟨w,by rw[beq_self_eq_true],p⟩
  ·rw[if_neg z]at h'
   rw[beq_eq_false_iff_ne.mpr (NV z)];exact Bi h' q
theorem IP (hc:Cls X.K (bU X.K c))(hn:NoAttr X.K (bU X.K c) f)(ha:cg X a fa)(hb:autoParam (LP a f X.env (eval a X.env)=eval a X.env) aqd._auto_1):cg X (.Attribute a f pos) (o1 (wC c f) fa):=PE.imp (vX ha hb) λσ H Q hh_=>by
 obtain⟨Z,O,E,h⟩:=hh_;refine xb (aZ (k:=wC c f) E h) λv H' ⟨t,r,s,E',q⟩=> ?_
 cases t with
 | ob c' ns ts=>
  unfold wC at q
  dsimp only at q
  split at q
  ·rename_i hcc
   subst hcc;obtain⟨b,dx,fs,e1,e2,e3,e4,e5⟩:=Rep.Ko.mp r;subst e4
   split at q
   ·rename_i t ht
    obtain⟨w,l1,l2⟩:=Bi ht e5;exact⟨b,_,dx,fs,w,e1,e3,hc,hn,l1,q H' (Same.refl _) w l2⟩
   ·exact q.elim
  ·exact q.elim
 | _=>exact q.elim
theorem wB {K:K7}{O:Ow}{H:Hp}:∀{ns:List Str} {as:List Addr} {ls:List (List T)} {l:List T},kY f ns ls=some l->LsR K O H ls as->ns.length=as.length->as.Nodup →
  ∃b vs,(ns.zip (as.map V.ref)).lookup f=some (.ref b)/\b∈as/\H b=some (.lst vs)/\Reps K O H l vs/\∀(l':List T) (vs':List V),O b->Reps K O H l' vs'->LsR K O (upd H b (.lst vs')) (j7 f l' ns ls) as
 | [],as,ls,l,h,_,_,_=>by cases ls <;> cases h
 | n::ns,[],ls,l,h,_,hl,_=>by cases hl
 | n::ns,b::as,[],l,h,_,_,_=>by cases h
 | n::ns,b::as,u::ls,l,h,r,hl,nd=>by
  obtain⟨b',bs,vs,e1,e2,e3,e4⟩:=r;cases e1
  have nb:b∉as:=(LF.mp nd).1
  have h':(if n=f then some u else kY f ns ls)=some l:=h
  show ∃c ws,((n,V.ref b)::ns.zip (as.map V.ref)).lookup f=_/\_
  rw[L8]
  have keep:∀(c:Addr) (vs':List V),O c->∀{t:List T} {ws:List V},Reps K O H t ws->Reps K O (upd H c (.lst vs')) t ws:=λc vs' hc t ws q=>Reps.keep (P:=λa=>a=c) (λd o e n=>by rw[aH n];exact e) (λa z=>z▸hc) q
  by_cases z:n=f
  ·subst z
   rw[if_pos rfl]at h';cases h';refine⟨b,vs,by rw[beq_self_eq_true],Lg,e2,e3,λl' vs' ob rl=> ?_⟩
   show LsR K O _ (if n=n then l'::ls else _) _
   rw[if_pos rfl];refine⟨b,as,vs',rfl,aT,keep _ _ ob rl,?_⟩
   clear h hl nd e3 e2
   induction ls generalizing as with
   | nil=>exact e4
   | cons w ls ih=>
    obtain⟨c,cs,ws,f1,f2,f3,f4⟩:=e4;subst f1;exact⟨c,cs,ws,rfl,by rw[aH (λy=>nb (by rw[<-y];exact Lg))];exact f2,keep _ _ ob f3,ih cs f4 λy=>nb (K9 _ y)⟩
  ·rw[if_neg z]at h'
   rw[beq_eq_false_iff_ne.mpr (NV z)];obtain⟨d,ws,g1,g2,g3,g4,g5⟩:=wB h' e4 (by simpa using hl) (LF.mp nd).2
   refine⟨d,ws,g1,K9 _ g2,g3,g4,λl' vs' od rl=> ?_⟩
   show LsR K O _ (if n=f then l'::ls else u::j7 f l' ns ls) _
   rw[if_neg z];exact⟨b,as,vs,rfl,by rw[aH (λy=>nb (by rw[y];exact g2))];exact e2,keep _ _ od e3,g5 l' vs' od rl⟩
theorem Ev.putF {K:K7}{B:Ow}{M:Mn}{H:Hp}{Z:En}{σ:L2.St}{i:Nat}{ns:List Str}{ls:List (List T)}{l:List T}(E:Ev K B M H Z σ)(hi:Z[i]? =some (.ow (.ob c ns ls)))(hf:kY f ns ls=some l) :
  ∃p dx fs b vs,σ[i]? =some (some (.ref p))/\H p=some (.ins (bU K c) dx fs)/\fs.lookup f=some (.ref b)/\H b=some (.lst vs)/\Reps K (OO B M) H l vs/\∀(l':List T) (vs':List V),Reps K (OO B M) H l' vs' →
   Ev K B M (upd H b (.lst vs')) (Z.set i (.ow (.ob c ns (j7 f l' ns ls)))) σ/\SameO M.u H (upd H b (.lst vs')):=by
 obtain⟨v0,s0,p,dx,as,e1,e2,⟨n1,n2,n3,n4⟩,e4,e5,e6,e7,e8⟩:=E.env.own i _ hi;subst e1;obtain⟨b,vs,g1,g2,g3,g4,g5⟩:=wB hf e8 e6 n4
 have Mb:M i b:=(e2 b).mpr (.inr (.inr g2));refine⟨p,dx,_,b,vs,s0,e4,g1,g3,g4,λl' vs' rl=> ?_⟩
 have sm:SameO (M i) H (upd H b (.lst vs')):=λd u e nb=>by rw[aH (λz=>nb (by rw[z];exact Mb))];exact e
 refine E.put hi s0 sm ⟨p,dx,as,rfl,e2,⟨n1,n2,n3,n4⟩,?_,?_,e6,e7,g5 l' vs' (.inr ⟨i,Mb⟩) rl⟩
 ·rw[aH (oh e4 g3 (λz=>nomatch z))];exact e4
 ·rw[aH (oh e5 g3 (λz=>nomatch z))];exact e5
theorem HX (i:Nat){p3:Pos}(hc:Cls X.K (bU X.K c))(hn:NoAttr X.K (bU X.K c) f)(ha:cg X a fa)(hN:autoParam (X.N[i]? =some x) aqd._auto_1)(hv:autoParam (mK X.env.scope x) aqe._auto_1)(hs:autoParam (bK a=true) aqd._auto_1)
  (hb1:autoParam (LP (.Name x p2) f X.env (eval (.Name x p2) X.env)=eval (.Name x p2) X.env) aqd._auto_1)
  (hbase:autoParam (LP (.Attribute (.Name x p2) f p3) "append" X.env (eval (.Attribute (.Name x p2) f p3) X.env)=eval (.Attribute (.Name x p2) f p3) X.env) aqd._auto_1) (hline:autoParam ((apos.endLine == cpos.line)=true) aqd._auto_1)
  (hd:autoParam ((x == ("__debug__" : Str))=false) aqb._auto_1) (hcd:autoParam ((x == ("__classdict__" : Str))=false) aqb._auto_1):wV X (.Call (.Attribute (.Attribute (.Name x p2) f p3) "append" apos) [a] [] cpos) (yr i c f fa):=by
 have h1:Lx [a] X.env=(false,eval a X.env)::Lx [] X.env:=bH hs;refine PE.imp (Ak MW Pk Pl lL (vX (fP hN hv hd hcd) hb1) (gg ha lA h1) hbase (by rw[h1];rfl) hline h1 rfl) λσ H Q ⟨Z,B,M,E,h⟩=> ?_
 unfold yr at h
 split at h
 ·rename_i c' ns ls hl
  split at h
  ·rename_i hcc
   subst hcc
   split at h
   ·rename_i l hf
    obtain⟨p,dx,fs,b,vs,s0,e1,e2,e3,e4,k⟩:=E.putF hl hf;refine⟨.ref p,s0,p,_,dx,fs,.ref b,rfl,e1,hc,hn,e2,.inl ⟨rfl,vs,SqL.of e3⟩,Z,OO B M,E.o,?_⟩
    cases q:fa Z with
    | bad=>rw[q]at h;exact h.elim
    | err c=>rw[q]at h;exact h
    | ok t=>
     rw[q,aA]at h
     split at h
     ·rename_i hz
      intro H1 s1 v r;obtain⟨p',dx',fs',b',vs',s0',e1',e2',e3',e4',k'⟩:=(E.same s1).putF hl hf;cases s0.symm.trans s0'
      have z1:=(s1 _ _ e1).symm.trans e1';cases z1;cases e2.symm.trans e2'
      have z3:=(s1 _ _ e3).symm.trans e3';cases z3;obtain⟨g1,g2⟩:=k' (l++ [t]) (vs++ [v]) (e4'.append (Reps.FS r Reps.Gc));exact⟨b,vs,v,rfl,rfl,e3',by rw[<-e4.length];exact hz,h .non _ M (λc o e nb=>g2 c o (s1 _ _ e) nb) g1 (λc z=> .inl z) Rep.Kz⟩
     ·exact h.elim
   ·exact h.elim
  ·exact h.elim
 ·exact h.elim
theorem HV (i:Nat){p3:Pos}(hc:Cls X.K (bU X.K c))(hn:NoAttr X.K (bU X.K c) f)(hN:autoParam (X.N[i]? =some x) aqd._auto_1)(hv:autoParam (mK X.env.scope x) aqe._auto_1)
  (hb1:autoParam (LP (.Name x p2) f X.env (eval (.Name x p2) X.env)=eval (.Name x p2) X.env) aqd._auto_1)
  (hbase:autoParam (LP (.Attribute (.Name x p2) f p3) "pop" X.env (eval (.Attribute (.Name x p2) f p3) X.env)=eval (.Attribute (.Name x p2) f p3) X.env) aqd._auto_1) (hline:autoParam ((apos.endLine == cpos.line)=true) aqd._auto_1)
  (hd:autoParam ((x == ("__debug__" : Str))=false) aqb._auto_1) (hcd:autoParam ((x == ("__classdict__" : Str))=false) aqb._auto_1):wV X (.Call (.Attribute (.Attribute (.Name x p2) f p3) "pop" apos) [] [] cpos) (yq i c f):=by
 refine PE.imp (Gy MW PySem.F.slot_list_pop PySem.F.type_list_pop GS (vX (fP hN hv hd hcd) hb1) hbase hline) λσ H Q ⟨Z,B,M,E,h⟩=> ?_
 unfold yq at h
 split at h
 ·rename_i c' ns ls hl
  split at h
  ·rename_i hcc
   subst hcc
   split at h
   ·rename_i l hf
    split at h
    ·rename_i t ht
     obtain⟨p,dx,fs,b,vs,s0,e1,e2,e3,e4,k⟩:=E.putF hl hf
     have hlen:=e4.length
     have hne:l≠ []:=λz=>by rw[z]at ht;cases ht
     rw[List.getLast?_eq_getElem?]at ht
     obtain⟨w,w1,w2⟩:=e4.get ht;rw[hlen]at w1;obtain⟨g1,g2⟩:=k l.dropLast vs.dropLast (by rw[Qb,Qb,hlen];exact e4.take _)
     refine⟨.ref p,s0,p,_,dx,fs,.ref b,rfl,e1,hc,hn,e2,.inl ⟨rfl,vs,SqL.of e3⟩,b,vs,w,rfl,rfl,e3,w1,?_⟩
     refine h w _ M g2 g1 (λc z=> .inl z) (w2.keep (P:=λa=>a=b) (λd o e n=>by rw[aH n];exact e) λa z=> ?_)
     obtain⟨v0,s1,p',dx',as,f1,f2,f3,f4,f5,f6,f7,f8⟩:=E.env.own i _ hl;rw[f1]at s1;cases s0.symm.trans s1;cases e1.symm.trans f4;obtain⟨b2,vs2,y1,y2,_⟩:=wB hf f8 f6 f3.2.2.2;rw[e2]at y1;cases y1;exact .inr ⟨i,(f2 a).mpr (.inr (.inr (z▸y2)))⟩
    ·exact h.elim
   ·exact h.elim
  ·exact h.elim
 ·exact h.elim
end
theorem mS {m:Str}:∀{fs:List (Str×V)},(fs.map (·.1)).contains m=false->fs.lookup m=none
 | [],_=>rfl
 | (n,v)::fs,h=>by
  rw[Lf,N7,Qt]at h;rw[L8,h.1];exact mS h.2
section
variable {X:Cx}{o e:Expr}{es:List Expr}{fo:En->Rs T}{fs:En->Rs (List T)}{pos p2 apos:Pos}{x c m:Str}{k n j:Nat}{f:Addr}{fd:Mp}{ps:List Str}
theorem Dn {pl:Sem Bool}{g:List T->Rs T}(hc:Cls X.K (bU X.K c))(hm:vo X.K (bU X.K c) m f)(F:Cw X.prog X.w X.K X.mg X.base k f fd ps 1 g)(hr:Room k X.A)(hb:Binds X.K fd ps [])(hps:ps.length=1)(ho:cg X o fo)
  (ht:eval (.Call (.Attribute o m apos) [] [] pos) X.env=(do
   let ov <-eval o X.env
   standAt apos.atName
   let (f,first) <-holding [ov] (OP ov m pl)
   Rh pos f first (backTo pos (Lx [] X.env)) (Pb pos (NJ [] X.env))):=by rfl):cg X (.Call (.Attribute o m apos) [] [] pos) (qr c m g fo ak):=by
 intro pins s σ H Q I ⟨Z,O,E,hq⟩;refine On (pl:=pl) (bV (ho pins s σ H _ I (aZ E hq)) λu s1 ⟨v,H1,I1,rx,t,r,sm,E1,q⟩=> ?_) ht
 cases t with
 | ob c' ns ts=>
  dsimp only at q
  split at q
  ·rename_i hcc
   obtain⟨h1,h2⟩:=hcc;subst h1;obtain⟨p,dx,fs',rfl,n,e3,e4,e5⟩:=Rep.Ko.mp r;obtain rfl:u= .ref p:=rx;subst e4;refine j6 I1 e3 hc hm (mS h2) ?_
   exact QC (first:=[.ref p]) I1.kIn hm.kp (Ip (us:=[.ref p]) (vs:=[.ref p]) F hr hb hps I1 (.cons rfl .nil) (Reps.FS r Reps.Gc) E1.mtb rfl q)
  ·exact q.elim
 | _=>exact q.elim
end
def spE (K:K7)(n j:Nat)(g:List Sl->Rs (T×OT)):Sp:=λvs H Q _=> ∃sls B m v,Ev K B (one j m) H sls (vs.map some)/\sls.length=n/\vs[j]? =some v ∧
 match g sls with
 | .ok p=> ∀u H' m',SameO m H H'->ORep K (BM B m') m' H' p.2 v->(∀a,m' a->m a\/Nw K H a)->Rep K (BM B m') H' p.1 u->Q u H'
 | _=>False
def FnXE (P:LI)(w:Mj)(K:K7)(mg:Str->Option La)(base:Heap)(k:Nat)(f:Addr)(fd:Mp)(ps:List Str)(n j:Nat)(g:List Sl->Rs (T×OT)):Prop:=
 ∀(A:LZ) (outer:List Env) (s:Ld) (H:Hp) (args:Args) (us:List La) (vs:List V) (B m:Ow) (sls:List Sl) (c:Str) (R:Si->Ld->Prop),Room k A->Env0 P w K mg base A outer s H->Qk s fd args (ps.zip us)->Vals vs us →
  Ev K B (one j m) H sls (vs.map some)->sls.length=n->g sls= .err c->(∀ev s',RzC P w mg outer H s c ev s'->R (.error ev) s')->codeAny (model P w) A (.call (.ref f) args) R s
structure EN (P:LI)(w:Mj)(K:K7)(mg:Str->Option La)(base:Heap)(k:Nat)(f:Addr)(fd:Mp)(ps:List Str)(n j:Nat)(g:List Sl->Rs (T×OT)):Prop where
 h:o9 P w K mg base CX0 k f fd ps (spE K n j g)
 x:FnXE P w K mg base k f fd ps n j g
section
variable {K:K7}{B:Ow}{M:Mn}{H H':Hp}{Z:En}{σ:L2.St}{i:Nat}{o o':OT}{v v0:V}{m:Ow}{ts:List T}{vs:List V}
abbrev BC (B:Ow)(M:Mn)(i:Nat):Ow:=λa=>OO B M a/\¬ M i a
theorem wL {j:Nat}{a:Addr}:OO (BC B M i) (one j (M i)) a->OO B M a:=λz=>(one_oo.mp z).elim (λw=>w.1) λw=> .inr ⟨i,w⟩
theorem Ev.args {j:Nat}{sls:List Sl}{ws:List V}(E:Ev K B M H Z σ)(hi:Z[i]? =some (.ow o))(hs:σ[i]? =some (some v0))(hl:sls.length=ws.length)(hj:sls[j]? =some (.ow o))(hw:ws[j]? =some v0)
  (ho:∀(k:Nat) (o':OT),sls[k]? =some (Sl.ow o')->k=j) (hv:∀(k:Nat) (t:T),sls[k]? =some (Sl.va t)->∃w,ws[k]? =some w/\Rep K (OO B M) H t w):Ev K (BC B M i) (one j (M i)) H sls (ws.map some):=by
 obtain⟨v',s',r⟩:=E.env.own i o hi;rw[hs]at s';cases s';refine⟨⟨by rw[Lh];exact hl,λk t e=> ?_,λk o' e=> ?_,λk a z=> .inr ⟨k,z⟩,λk k' a z1 z2=> ?_,λa z=>E.env.trk a (wL z)⟩,λa z y=>y.2 (one_u.mp z)⟩
 ·obtain⟨w,e1,e2⟩:=hv k t e
  exact⟨w,by rw[LD,e1];rfl,e2.less λa z=>wL z⟩
 ·have hk:=ho k o' e
  subst hk;rw[hj]at e;cases e;refine⟨v0,by rw[LD,hw];rfl,?_⟩
  rw[show one k (M i) k=M i from Mn.Kl]
  exact r.move (P:=lp) (λ_ z=>z.elim) (λa z=> .inl (wL z)) (λb u q _=>q) λ_ _ z=>z
 ·unfold one Mn.set at z1 z2
  by_cases h1:k=j
  ·by_cases h2:k'=j
   ·exact h1.trans h2.symm
   ·rw[if_neg h2]at z2;exact z2.elim
  ·rw[if_neg h1]at z1;exact z1.elim
theorem Ev.ret {t:T}{u:V}(E:Ev K B M H Z σ)(hi:Z[i]? =some (.ow o))(hs:σ[i]? =some (some v0))(s:SameO (M i) H H')(r:ORep K (BM (BC B M i) m) m H' o' v0)(hm:∀a,m a->M i a\/Nw K H a)(rt:Rep K (BM (BC B M i) m) H' t u) :
  Ev K B (M.set i m) H' (Z.set i (.ow o')) σ/\SameO M.u H H'/\(∀a,(M.set i m).u a->M.u a\/Nw K H a)/\Rep K (OO B (M.set i m)) H' t u:=by
 have sub:∀a,OO B (M.set i m) a->BM (BC B M i) m a:=λa z=>by
  rcases z with z | ⟨k,z⟩
  ·exact .inl ⟨.inl z,λw=>E.mine a ⟨i,w⟩ z⟩
  ·unfold Mn.set at z
   by_cases hk:k=i
   ·rw[if_pos hk]at z;exact .inr z
   ·rw[if_neg hk]at z;exact .inl ⟨.inr ⟨k,z⟩,λw=>hk (E.env.dis k i a z w)⟩
 obtain⟨g1,g2,g3⟩:=E.back hi hs s (r.move (P:=lp) (λ_ z=>z.elim) (λa z=> .inl (sub a z)) (λb u q _=>q) λ_ _ z=>z) hm
 exact⟨g1,g2,g3,rt.less sub⟩
end
section
variable {X:Cx}{k n j:Nat}{f:Addr}{fd:Mp}{ps:List Str}{g:List Sl->Rs (T×OT)}{pins:List (Addr×Obj)}{σ:L2.St}{H:Hp}{s:Ld}{us:List La}{vs:List V}{sls:List Sl}{B m:Ow}{Q:VK}{v:V}
def Fp (X:Cx)(B m:Ow)(v:V)(H:Hp)(r:Rs (T×OT))(Q:VK):Prop:=match r with
 | .ok p=> ∀u H' m',SameO m H H'->ORep X.K (BM B m') m' H' p.2 v->(∀a,m' a->m a\/Nw X.K H a)->Rep X.K (BM B m') H' p.1 u->Q u H'
 | .err c=>XA X lp H c
 | .bad=>False
theorem zT (F:EN X.prog X.w X.K X.mg X.base k f fd ps n j g)(hr:Room k X.A)(hb:Binds X.K fd ps [])(hps:ps.length=n)(I:Inv X pins σ H s)(r:Vals vs us)(Ea:Ev X.K B (one j m) H sls (vs.map some))(hl:sls.length=n)(hv:vs[j]? =some v)
  (hq:Fp X B m v H (g sls) Q):wpAny (model X.prog X.w) X.A (call (.ref f) us) (EP X pins σ Q) X.xe s:=by
 cases q2:g sls with
 | bad=>rw[q2]at hq;exact hq.elim
 | ok p=>
  rw[q2]at hq;refine vQ (E:=E0) (dvs:=[]) (ds:=[]) F.h hr hb .nil xt I r ⟨sls,B,m,v,by simpa using Ea,hl,by simpa using hv,?_⟩
  rw[q2]
  exact hq
 | err c=>
  rw[q2]at hq
  have hlen:us.length=ps.length:=by rw[<-r.length,hps,<-hl,Ea.env.len,Lh]
  have hb':=hb s us I.kIn (by rw[LR];exact hlen)
  rw[LR]at hb';refine Qq (N0 (F.x X.A X.stack s H ⟨us,[]⟩ us vs B m sls c (λr s'=>match r with | .error ev=>X.xe ev s' | _=>False) hr I.KA hb' r Ea hl q2 λev s' w=> ?_) λr s' hq=> ?_)
  ·obtain⟨ea,T,C,H',rfl,hmc,ho,hbare,hun,hok,sm2,hea,heo,fl,hT,hTo⟩:=w
   have I2:Inv X pins σ H' s':=I.Kx ho hun hok hbare (λb z=>absurd z (by simp))
   exact hq pins _ _ ⟨ea,some T,C,σ,H',rfl,hmc,I2,λb o q _=>sm2 b o q,hea,λhex=>gy I hex heo,fl,(λt zt=>by cases zt;exact⟨hT,λhex=>gy I hex hTo⟩),λpp hpp=>⟨λzz=>(by have:=(I.pin pp hpp).1;rw[zz,heo]at this;cases this),λzz=>(by cases zz;have:=(I.pin pp hpp).1;rw[hTo]at this;cases this)⟩⟩
  ·cases r with
   | error ev=>exact hq
   | ok fl=>exact hq.elim
theorem vU {M:Mn}{Z:En}{i:Nat}{o:OT}{v0:V}{H0:Hp}{P0:Ow}(E:Ev X.K B M H Z σ)(hi:Z[i]? =some (.ow o))(hs:σ[i]? =some (some v0)){r:Rs (T×OT)}(h:PostX X B M.u σ H (zC i Z r) Q):Fp X (BC B M i) (M i) v0 H r Q:=by
 cases r with
 | bad=>exact h
 | err c=>exact h
 | ok p=>
  intro u H' m' s r hm rt;obtain⟨g1,g2,g3,g4⟩:=E.ret hi hs s r hm rt;exact h u H' _ g2 g1 g3 g4
theorem PostX.later {P:Ow}{H1:Hp}{r:Rs (T×En)}(h:PostX X B P σ H r Q)(s:Same H H1):PostX X B P σ H1 r Q:=by
 cases r with
 | bad=>exact h
 | err c=>exact XA.later h (SameO.of s) λ_ z=>z.elim
 | ok p=>exact λv H' M' s' E' o' r'=>h v H' M' (λb o e nb=>s' b o (s _ _ e) nb) E' (λa z=>(o' a z).imp_right (jj s)) r'
theorem sS {o:OT}{ts:List T}{k:Nat}{o':OT}(h:(Sl.ow o::ts.map Sl.va)[k]? =some (.ow o')):k=0:=by
 cases k with
 | zero=>rfl
 | succ k=>
  rw[Ms,LD]at h
  cases z:ts[k]? <;> rw[z]at h <;> cases h
theorem sR {K:K7}{O:Ow}{H:Hp}{o:OT}{v0:V}{ts:List T}{vs:List V}(r:Reps K O H ts vs){k:Nat}{t:T}(h:(Sl.ow o::ts.map Sl.va)[k]? =some (.va t)):∃w,(v0::vs)[k]? =some w/\Rep K O H t w:=by
 cases k with
 | zero=>cases h
 | succ k=>
  rw[Ms,LD]at h
  cases z:ts[k]? with
  | none=>rw[z]at h;cases h
  | some u=>
   rw[z]at h;cases h;exact r.get z
end
section
variable {X:Cx}{e:Expr}{es:List Expr}{fs:En->Rs (List T)}{pos p p2 apos:Pos}{x y c m:Str}{k n:Nat}{f:Addr}{fd:Mp}{ps:List Str}{g:List Sl->Rs (T×OT)}
theorem FJ {pl:Sem Bool}(i:Nat)(hc:Cls X.K (bU X.K c))(hm:vo X.K (bU X.K c) m f)(F:EN X.prog X.w X.K X.mg X.base k f fd ps n 0 g)(hr:Room k X.A)(hb:Binds X.K fd ps [])(hps:ps.length=n)(hl:∀Z ts,fs Z= .ok ts->ts.length+1=n)(ha:p6 X (e::es) fs)
  (hN:autoParam (X.N[i]? =some x) aqd._auto_1) (hv:autoParam (mK X.env.scope x) aqe._auto_1) (hd:autoParam ((x == ("__debug__" : Str))=false) aqb._auto_1) (hcd:autoParam ((x == ("__classdict__" : Str))=false) aqb._auto_1)
  (hst:autoParam (Lx (e::es) X.env=(false,eval e X.env)::Lx es X.env) aqd._auto_1) (hpl:autoParam ((backTo pos (Lx es X.env)).any (·.1)=false) aqd._auto_1)
  (ht:eval (.Call (.Attribute (.Name x p2) m apos) (e::es) [] pos) X.env=(do
   let ov <-eval (.Name x p2) X.env
   standAt apos.atName
   let (f,first) <-holding [ov] (OP ov m pl)
   Rh pos f first (backTo pos (Lx (e::es) X.env)) (Pb pos (NJ [] X.env))):=by rfl) :
  wV X (.Call (.Attribute (.Name x p2) m apos) (e::es) [] pos) (fq i c m g fs):=by
 intro pins s σ H Q I ⟨Z,B,M,E,h⟩;unfold fq at h
 split at h
 ·rename_i c' ns ls hi
  split at h
  ·rename_i hcc
   obtain⟨h1,h2⟩:=hcc;subst h1;obtain⟨v0,s0,q,dx,as,e1,e2,e3,e4,e5,e6,e7,e8⟩:=E.env.own i _ hi;subst e1;refine On (pl:=pl) (bV (fP (pos:=p2) hN hv hd hcd pins s σ H (λv H'=>v= .ref q/\H'=H) I ⟨_,s0,rfl,rfl⟩) λu s1 ⟨v,H1,I1,rx,ev,eH⟩=> ?_) ht
   subst ev eH;obtain rfl:u= .ref q:=rx;refine j6 I1 e4 hc hm (mS (by rw[mP (by rw[Lh];exact e6)];exact h2)) ?_
   refine ND (first:=[.ref q]) (h₀:=X.base) I.ok.mod.kin hm.kp (bV (ha pos pins s1 σ H1 (λvs H2=> ∃ts,fs Z= .ok ts/\Same H1 H2/\Reps X.K (OO B M) H2 ts vs) I1 ⟨Z,OO B M,E.o,?_⟩) λus s2 ⟨vs,H2,I2,r,ts,q1,sm,rs⟩=>⟨I2.kIn,?_⟩) hst hpl
   ·cases z:fs Z with
    | bad=>rw[z]at h;exact h.elim
    | err c=>rw[z]at h;exact h
    | ok ts=>exact λH' s' vs rs=>⟨ts,rfl,s',rs⟩
   ·rw[q1,aA]at h
    have E2:=E.same sm;refine zT (us:=.ref q::us) (vs:=.ref q::vs) (v:=.ref q) F hr hb hps I2 (.cons rfl r) (E2.args (o:=.ob c' ns ls) hi s0 (by rw[Li,Li,Lh,rs.length]) rfl rfl (λk o' z=>sS z) λk t z=>sR rs z) ?_ rfl (vU (H0:=H1) (P0:=lp) E2 hi s0 (h.later sm))
    rw[Li,Lh];exact hl Z ts q1
  ·exact h.elim
 ·exact h.elim
theorem CL {pl:Sem Bool}(i:Nat)(hc:Cls X.K (bU X.K c))(hm:vo X.K (bU X.K c) m f)(F:EN X.prog X.w X.K X.mg X.base k f fd ps 1 0 g)(hr:Room k X.A)(hb:Binds X.K fd ps [])(hps:ps.length=1)
  (hN:autoParam (X.N[i]? =some x) aqd._auto_1) (hv:autoParam (mK X.env.scope x) aqe._auto_1) (hd:autoParam ((x == ("__debug__" : Str))=false) aqb._auto_1) (hcd:autoParam ((x == ("__classdict__" : Str))=false) aqb._auto_1)
  (ht:eval (.Call (.Attribute (.Name x p2) m apos) [] [] pos) X.env=(do
   let ov <-eval (.Name x p2) X.env
   standAt apos.atName
   let (f,first) <-holding [ov] (OP ov m pl)
   Rh pos f first (backTo pos (Lx [] X.env)) (Pb pos (NJ [] X.env))):=by rfl) :
  wV X (.Call (.Attribute (.Name x p2) m apos) [] [] pos) (fq i c m g ak):=by
 intro pins s σ H Q I ⟨Z,B,M,E,h⟩;unfold fq at h
 split at h
 ·rename_i c' ns ls hi
  split at h
  ·rename_i hcc
   obtain⟨h1,h2⟩:=hcc;subst h1;obtain⟨v0,s0,q,dx,as,e1,e2,e3,e4,e5,e6,e7,e8⟩:=E.env.own i _ hi;subst e1;refine On (pl:=pl) (bV (fP (pos:=p2) hN hv hd hcd pins s σ H (λv H'=>v= .ref q/\H'=H) I ⟨_,s0,rfl,rfl⟩) λu s1 ⟨v,H1,I1,rx,ev,eH⟩=> ?_) ht
   subst ev eH;obtain rfl:u= .ref q:=rx;refine j6 I1 e4 hc hm (mS (by rw[mP (by rw[Lh];exact e6)];exact h2)) ?_
   exact QC (first:=[.ref q]) I1.kIn hm.kp (zT (us:=[.ref q]) (vs:=[.ref q]) (v:=.ref q) F hr hb hps I1 (.cons rfl .nil) (E.args (o:=.ob c' ns ls) hi s0 rfl rfl rfl (λk o' z=>sS (ts:=[]) z) λk t z=>sR (ts:=[]) Reps.Gc z) rfl rfl (vU (H0:=H1) (P0:=lp) E hi s0 h))
  ·exact h.elim
 ·exact h.elim
theorem HW (i:Nat)(F:EN X.prog X.w X.K X.mg X.base k f fd ps n 0 g)(hr:Room k X.A)(hm:X.mg y=some (.ref f))(hk:Nb X.K (.ref f)=true)(hb:Binds X.K fd ps [])(hps:ps.length=n)(hl:∀Z ts,fs Z= .ok ts->ts.length+1=n)(ha:p6 X es fs)
  (hN:autoParam (X.N[i]? =some x) aqd._auto_1) (hv:autoParam (mK X.env.scope x) aqe._auto_1) (hd:autoParam ((x == ("__debug__" : Str))=false) aqb._auto_1) (hcd:autoParam ((x == ("__classdict__" : Str))=false) aqb._auto_1)
  (hg:autoParam (Gl X y) aqd._auto_1) (hdb:autoParam ((y == ("__debug__" : Str))=false) aqb._auto_1) (he:autoParam (Lx (.Name x p2::es) X.env=(false,eval (.Name x p2) X.env)::Lx es X.env) aqd._auto_1) (hpl:autoParam ((backTo pos (Lx es X.env)).any (·.1)=false) aqd._auto_1) :
  wV X (.Call (.Name y p) (.Name x p2::es) [] pos) (m8 i g fs):=by
 intro pins s σ H Q I ⟨Z,B,M,E,h⟩;unfold m8 at h
 split at h
 ·rename_i o hi
  obtain⟨v0,s0,r0⟩:=E.env.own i _ hi;refine MI (g7 I hg hm ?_ hdb)
  refine ND (h₀:=X.base) I.ok.mod.kin hk (bV (gg (fP (pos:=p2) hN hv hd hcd) ha he pos pins s σ H (λws H2=> ∃ts vs,ws=v0::vs/\fs Z= .ok ts/\Same H H2/\Reps X.K (OO B M) H2 ts vs) I ⟨v0,s0,Z,OO B M,E.o,?_⟩) λus s2 ⟨ws,H2,I2,r,ts,vs,e1,q1,sm,rs⟩=>⟨I2.kIn,?_⟩) he hpl
  ·cases z:fs Z with
   | bad=>rw[z]at h;exact h.elim
   | err c=>rw[z]at h;exact h
   | ok ts=>exact λH' s' vs rs=>⟨ts,vs,rfl,rfl,s',rs⟩
  ·subst e1
   rw[q1,aA]at h
   have E2:=E.same sm;refine zT (v:=v0) F hr hb hps I2 r (E2.args (o:=o) hi s0 (by rw[Li,Li,Lh,rs.length]) rfl rfl (λk o' z=>sS z) λk t z=>sR rs z) ?_ rfl (vU (H0:=H) (P0:=lp) E2 hi s0 (h.later sm))
   rw[Li,Lh];exact hl Z ts q1
 ·exact h.elim
end
section
variable {X:Cx}{a b e c:Expr}{es:List Expr}{fb:En->Rs T}{x y:En->Rs (T×En)}{fs:En->Rs (List T)}{pos p2 p3 apos cpos:Pos}{cp:List Expr}
theorem ET {B:Ow}{M:Mn}{Z:En}{σ:L2.St}{H:Hp}(E:Ev X.K B M H Z σ)(he:∀c,x Z= .err c->XA X lp H c)(hb:x Z≠ .bad) :
  tX X x σ H λv H1=> ∃p M1,x Z= .ok p/\SameO M.u H H1/\Ev X.K B M1 H1 p.2 σ/\(∀a,M1.u a->M.u a\/Nw X.K H a)/\Rep X.K (OO B M1) H1 p.1 v:=by
 refine⟨Z,B,M,E,?_⟩
 cases z:x Z with
 | bad=>exact(hb z).elim
 | err c=>exact he c z
 | ok p=>exact λv H' M' s e o r=>⟨p,M',rfl,s,e,o,r⟩
def HK (X:Cx)(B P:Ow)(σ:L2.St)(H:Hp)(r:Rs (Bool×En))(Q:Bool->Hp->Prop):Prop:=match r with
 | .ok p=> ∀H' M',SameO P H H'->Ev X.K B M' H' p.2 σ->(∀a,M'.u a->P a\/Nw X.K H a)->Q p.1 H'
 | .err c=>XA X lp H c
 | .bad=>False
def tXB (X:Cx)(f:En->Rs (Bool×En)):TT:=λσ H Q=> ∃Z B M,Ev X.K B M H Z σ/\HK X B M.u σ H (f Z) Q
abbrev HS (X:Cx)(e:Expr)(f:En->Rs (Bool×En)):Prop:=PT X e (tXB X f)
theorem tS {op:Sn}{g:T->T->Rs T}{pins:List (Addr×Obj)}{s1:Ld}{B:Ow}{M:Mn}{σ:L2.St}{H H1:Hp}{p:T×En}{M1:Mn}{v:La}{vx:V}{Q:VK}(ho:OpT X (L0 op) g)(hb:cg X b fb)(I1:Inv X pins σ H1 s1)(r1:RelV vx v)(sm:SameO M.u H H1)(E1:Ev X.K B M1 H1 p.2 σ)
  (gr:∀a,M1.u a->M.u a\/Nw X.K H a) (rt:Rep X.K (OO B M1) H1 p.1 vx) (h:PostX X B M.u σ H (DO (fb p.2 >>= g p.1) >>= λt=> .ok (t,p.2)) Q) :
  wpAny (model X.prog X.w) X.A (eval b X.env) (λu s2=>wpAny (model X.prog X.w) X.A (L0 op v u) (EP X pins σ Q) X.xe s2) X.xe s1:=by
 cases z:fb p.2 with
 | bad=>rw[z]at h;exact h.elim
 | err c=>rw[z]at h;exact h.elim
 | ok t2=>
  rw[z,aA]at h;refine bV (hb pins s1 σ H1 (λu H2=>Same H1 H2/\Rep X.K (OO B M1) H2 t2 u) I1 ⟨p.2,OO B M1,E1.o,by rw[z];exact λH' s u r=>⟨s,r⟩⟩) λu s2 hh_=> ?_
  obtain⟨y,H2,I2,r2,s',rt2⟩:=hh_;refine ho pins s2 σ H2 (OO B M1) p.1 t2 vx y v u Q I2 (λp=>(E1.same s').o.fresh) (rt.same s') rt2 r1 r2 ?_
  cases z2:g p.1 t2 with
  | bad=>rw[z2]at h;exact h.elim
  | err c=>rw[z2]at h;exact h.elim
  | ok t3=>
   rw[z2]at h;exact λH' s3 v r=>h v H' M1 (λb o e nb=>s3 _ _ (s' _ _ (sm b o e nb))) ((E1.same s').same s3) gr r
theorem x_o2 {op:Sn}{g:T->T->Rs T}(ho:OpT X (L0 op) g)(ha:wV X a x)(hb:cg X b fb)(hm:autoParam (Nv op b=false) aqd._auto_1):wV X (.Compare a [op] [b] pos) (vz g x fb):=by
 intro pins s σ H Q I ⟨Z,B,M,E,h⟩;unfold vz at h;refine wpAny_Compare1 (bV (ha pins s σ H _ I (ET E (λc z=>by rw[z]at h;exact h) (λz=>by rw[z]at h;exact h))) λv s1 ⟨vx,H1,I1,r1,p,M1,hx,sm,E1,gr,rt⟩=> ?_) hm
 rw[hx,aA]at h;exact tS ho hb I1 r1 sm E1 gr rt h
theorem FH {op:Sn}{g:T->T->Rs T}(ho:OpT X (L0 op) g)(ha:wV X a x)(hb:cg X b fb)(hm:autoParam (Nv op b=false) aqd._auto_1):HS X (.Compare a [op] [b] pos) (w8 (vz g x fb)):=by
 intro pins s σ H Q I ⟨Z,B,M,E,h⟩
 have h':PostX X B M.u σ H (vz g x fb Z) λv H'=> ∃k,v= .bl k/\Q k H':=by
  unfold w8 at h
  cases z:vz g x fb Z with
  | bad=>rw[z]at h;exact h
  | err c=>rw[z]at h;exact h
  | ok p=>
   rw[z,aA]at h;obtain⟨t,Z'⟩:=p
   cases t with
   | bl k=>exact λv H' M' s e o r=>⟨k,Rep.FM.mp r,h H' M' s e o⟩
   | _=>exact h.elim
 unfold vz at h';refine Qn (bV (ha pins s σ H _ I (ET E (λc z=>by rw[z]at h';exact h') (λz=>by rw[z]at h';exact h'))) λv s1 ⟨vx,H1,I1,r1,p,M1,hx,sm,E1,gr,rt⟩=> ?_) hm
 rw[hx,aA]at h';refine bV (tS ho hb I1 r1 sm E1 gr rt h') λu s2 q2=>bV q2 λd s3 hh_=> ?_
 obtain⟨z,H3,I3,r3,k,ez,q3⟩:=hh_;subst ez;cases r3;exact MF ⟨H3,I3,q3⟩
theorem FF (h:wV X e x)(he:autoParam (∀whole,isTrue e X.env whole=(do let v <-whole;standAt e.pos;holding [v] (truthy v))) aqc._auto_1):HS X e (w8 x):=PT.imp (z5 h he) λσ H Q hh_=>by
 obtain⟨Z,B,M,E,q⟩:=hh_;refine⟨Z,B,M,E,?_⟩
 unfold w8 at q
 cases z:x Z with
 | bad=>rw[z]at q;exact q
 | err c=>rw[z]at q;exact q
 | ok p=>
  rw[z,aA]at q;obtain⟨t,Z'⟩:=p
  cases t with
  | bl k=>exact λv H' M' s e o r=>⟨k,Rep.FM.mp r,q H' M' s e o⟩
  | _=>exact q.elim
variable {f g:En->Rs (Bool×En)}
theorem FG (ha:HS X a f):HS X (.UnaryOp .Not a pos) (l6 f):=by
 intro pins s σ H Q I ⟨Z,B,M,E,h⟩;refine z6 ha pins s σ H Q I ⟨Z,B,M,E,?_⟩
 unfold l6 at h
 cases z:f Z with
 | bad=>rw[z]at h;exact h
 | err c=>rw[z]at h;exact h
 | ok p=>rw[z,aA]at h;exact λH' M' s' E' o'=>h H' M' s' E' o'
theorem F5 {A C:List Stmt}{F G:En->Rs Fl}(hc:HS X c f)(ha:kc X A F)(hb:kc X C G):mZ X (.If c A C pos) (nG f F G):=PS.imp (z9 hc ha hb) λD σ H hh_=>by
 obtain⟨Z,B,M,E,h⟩:=hh_;refine⟨Z,B,M,E,?_⟩
 unfold nG at h
 cases z:f Z with
 | bad=>rw[z]at h;exact h.elim
 | err c=>rw[z]at h;exact PostF.xa h
 | ok p=>
  rw[z,aA]at h;obtain⟨k,Z'⟩:=p;intro H' M' s' E' o'
  cases k with
  | true=>refine L2.iteT ?_;exact⟨Z',B,M',E',PostF.later (by simpa using h) s' o'⟩
  | false=>refine L2.iteF ?_;exact⟨Z',B,M',E',PostF.later (by simpa using h) s' o'⟩
theorem F8 (ha:wV X a x)(hs:autoParam (L5 a none pos.line X.env=pure false) aqd._auto_1):mZ X (.Expr a pos) (vP x):=PS.imp (kJ ha hs) λD σ H hh_=>by
 obtain⟨Z,B,M,E,h⟩:=hh_;refine⟨Z,B,M,E,?_⟩
 unfold vP at h
 cases z:x Z with
 | bad=>rw[z]at h;exact h.elim
 | err c=>rw[z]at h;exact PostF.xa h
 | ok p=>rw[z,aA]at h;exact λv H' M' s' E' o' r=>h σ H' M' s' E' o'
end
def PostM (X:Cx)(B P:Ow)(j:Nat)(σ:L2.St)(H:Hp)(r:Rs Fx)(D:mL):Prop:=match r with
 | .ok (.nx Z')=> ∀σ' H' M',SameO P H H'->Ev X.K B M' H' Z' σ'->(∀a,M'.u a->P a\/Nw X.K H a)->σ'[j]? =σ[j]?->D.nx σ' H'
 | .ok (.rt t Z')=> ∀v σ' H' M',SameO P H H'->Ev X.K B M' H' Z' σ'->(∀a,M'.u a->P a\/Nw X.K H a)->σ'[j]? =σ[j]?->Rep X.K (OO B M') H' t v->D.rt v H'
 | .err c=>XA X lp H c
 | .bad=>False
def tPM (X:Cx)(j:Nat)(F:En->Rs Fx):TS:=λD σ H=> ∃Z B M,Ev X.K B M H Z σ/\PostM X B M.u j σ H (F Z) D
abbrev Cd (X:Cx)(j:Nat)(s:Stmt)(F:En->Rs Fx):Prop:=PS X s (tPM X j F)
abbrev Cu (X:Cx)(j:Nat)(s:List Stmt)(F:En->Rs Fx):Prop:=PSs X s (tPM X j F)
section
variable {X:Cx}{j:Nat}{a c:Expr}{es:List Expr}{x:En->Rs (T×En)}{fs:En->Rs (List T)}{pos p2 p3:Pos}
theorem PostM.later {B P P1:Ow}{σ σ1:L2.St}{H H1:Hp}{r:Rs Fx}{D:mL}(h:PostM X B P j σ H (DO r) D)(s:SameO P H H1)(sub:∀a,P1 a->P a\/Nw X.K H a)(hj:σ1[j]? =σ[j]?):PostM X B P1 j σ1 H1 r D:=by
 have back:∀a,P1 a\/Nw X.K H1 a->P a\/Nw X.K H a:=λa z=>z.elim (sub a) (gh s)
 cases r with
 | bad=>exact h
 | err c=>exact h.elim
 | ok f=>
  cases f with
  | nx Z'=>exact λσ' H' M' s' E' o' k=>h σ' H' M' (s.trans s' sub) E' (λa z=>back a (o' a z)) (k.trans hj)
  | rt t Z'=>exact λv σ' H' M' s' E' o' k r=>h v σ' H' M' (s.trans s' sub) E' (λa z=>back a (o' a z)) (k.trans hj) r
theorem PostM.same {B P:Ow}{σ:L2.St}{H H1:Hp}{r:Rs Fx}{D:mL}(h:PostM X B P j σ H r D)(s:Same H H1):PostM X B P j σ H1 r D:=by
 cases r with
 | err c=>exact XA.later h (SameO.of s) λ_ z=>z.elim
 | bad=>exact h
 | ok f=>exact PostM.later (r:=.ok f) h (SameO.of s) (λa z=> .inl z) rfl
theorem Jn:Cu X j [] mN:=PSs.imp xk λD σ H ⟨Z,B,M,E,h⟩=>h σ H M (λ_ _ e _=>e) E (λa z=> .inl z) rfl
theorem Jm {st:Stmt}{F:En->Rs Fx}(h:Cd X j st F):Cu X j [st] F:=xj h
theorem GV {st:Stmt}{cp:List Stmt}{F G:En->Rs Fx}(h1:Cd X j st F)(h2:Cu X j cp G):Cu X j (st::cp) (gP F G):=PSs.imp (uo h1 h2) λD σ H hh_=>by
 obtain⟨Z,B,M,E,h⟩:=hh_;refine⟨Z,B,M,E,?_⟩
 unfold gP at h
 cases q:F Z with
 | bad=>rw[q]at h;exact h.elim
 | err c=>rw[q]at h;exact h
 | ok f=>
  rw[q]at h
  cases f with
  | nx Z'=>exact λσ' H' M' s' E' o' k=>⟨Z',B,M',E',PostM.later h s' o' k⟩
  | rt t Z'=>exact h
theorem m_ex (ha:wV X a x)(hs:autoParam (L5 a none pos.line X.env=pure false) aqd._auto_1):Cd X j (.Expr a pos) (zo x):=PS.imp (kJ ha hs) λD σ H hh_=>by
 obtain⟨Z,B,M,E,h⟩:=hh_;refine⟨Z,B,M,E,?_⟩
 unfold zo at h
 cases z:x Z with
 | bad=>rw[z]at h;exact h.elim
 | err c=>rw[z]at h;exact h
 | ok p=>rw[z,aA]at h;exact λv H' M' s' E' o' r=>h σ H' M' s' E' o' rfl
theorem Jl (ha:wV X a x):Cd X j (.Return (some a) pos) (kO x):=PS.imp (z8 ha) λD σ H hh_=>by
 obtain⟨Z,B,M,E,h⟩:=hh_;refine⟨Z,B,M,E,?_⟩
 unfold kO at h
 cases z:x Z with
 | bad=>rw[z]at h;exact h.elim
 | err c=>rw[z]at h;exact h
 | ok p=>rw[z,aA]at h;exact λv H' M' s' E' o' r=>h v σ H' M' s' E' o' rfl r
theorem m_as (i:Nat){n:Str}(hij:i≠j)(hN:X.N.Nodup)(ha:wV X a x)(hi:autoParam (X.N[i]? =some n) aqd._auto_1)(hx:autoParam (Loc X.env.scope n) aqh._auto_1)(hs:autoParam (L5 a (some (.Name n p3)) pos.line X.env=pure false) aqd._auto_1)
  (hf:autoParam (X.fn n=true\/X.env.scope.names.lookup n=some .local) aqa._auto_1):Cd X j (.Assign [.Name n p3] a pos) (DW i x):=PS.imp (nK hN hi hx ha hs hf) λD σ H hh_=>by
 obtain⟨Z,B,M,E,h⟩:=hh_;refine⟨Z,B,M,E,?_⟩
 unfold DW at h
 cases z:x Z with
 | bad=>rw[z]at h;exact h.elim
 | err c=>rw[z]at h;exact h
 | ok p=>
  rw[z,aA]at h;intro v H' M' s' E' o' r
  by_cases hl:i<p.2.length
  ·rw[if_pos hl]at h
   exact h _ H' M' s' ⟨E'.env.set hl r,E'.mine⟩ o' (LC hij)
  ·rw[if_neg hl]at h;exact h.elim
theorem m_if {f:En->Rs Bool}{A C:List Stmt}{F G:En->Rs Fx}(hc:vC X c f)(ha:Cu X j A F)(hb:Cu X j C G):Cd X j (.If c A C pos) (Cp f F G):=PS.imp (z9 hc ha hb) λD σ H hh_=>by
 obtain⟨Z,B,M,E,h⟩:=hh_;refine⟨Z,OO B M,E.o,?_⟩
 unfold Cp at h
 cases q:f Z with
 | bad=>rw[q]at h;exact h.elim
 | err c=>rw[q]at h;exact h
 | ok k=>
  rw[q,aA]at h;intro H' s
  have E':Ev X.K B M H' Z σ:=E.same s
  cases k with
  | true=>refine L2.iteT ?_;exact⟨Z,B,M,E',PostM.same (by simpa using h) s⟩
  | false=>refine L2.iteF ?_;exact⟨Z,B,M,E',PostM.same (by simpa using h) s⟩
theorem Ev.blank {K:K7}{B:Ow}{M:Mn}{H:Hp}{Z:En}{σ:L2.St}(E:Ev K B M H Z σ):Ev K (OO B M) noM H (LA σ.length .em) σ:=
 ⟨⟨by simp,λi t e=>(by rw[Mi]at e;split at e <;> cases e),λi o e=>(by rw[Mi]at e;split at e <;> cases e),λ_ _ z=>z.elim,λ_ _ _ z=>z.elim,λa z=>E.env.trk a (z.elim id λ⟨_,w⟩=>w.elim)⟩,λa ⟨_,z⟩=>z.elim⟩
theorem Jp {st:Stmt}{c:Str}(h:mZ X st (ui c)):Cd X j st (DU c):=PS.imp h λD σ H hh_=>by
 obtain⟨Z,B,M,E,q⟩:=hh_;refine⟨_,_,_,E.blank,?_⟩
 exact XA.later (P:=lp) q (λ_ _ e _=>e) λ_ ⟨_,z⟩=>z.elim
end
section
variable {K:K7}
theorem qi {f:Str}{b:Addr}:∀{ns:List Str} {as:List Addr},ns.length=as.length->ns.contains f=true->∃as1 d as2,as=as1++d::as2/\putF f (.ref b) (ns.zip (as.map V.ref))=ns.zip ((as1++b::as2).map V.ref) ∧
  ∀{O:Ow} {H:Hp} {ls:List (List T)} {l:List T} {vs:List V},H b=some (.lst vs)->Reps K O H l vs->LsR K O H ls as->LsR K O H (j7 f l ns ls) (as1++b::as2)
 | [],as,_,h=>by cases h
 | n::ns,[],hl,_=>by cases hl
 | n::ns,d::as,hl,h=>by
  by_cases z:n=f
  ·subst z
   refine⟨[],d,as,rfl,?_,λ{O H ls l vs} e1 e2 r=> ?_⟩
   ·show(if n=n then(n,V.ref b)::_ else _)=_
    rw[if_pos rfl];rfl
   ·cases ls with
    | nil=>cases (show d::as= []from r)
    | cons u ls=>
     obtain⟨b',bs,ws,f1,f2,f3,f4⟩:=r;cases f1
     show LsR K O H (if n=n then l::ls else _) _
     rw[if_pos rfl];exact⟨b,as,vs,rfl,e1,e2,f4⟩
  ·have h':ns.contains f=true:=by
    rw[N7,Sb]at h;rcases h with h | h
    ·exact absurd (eq_of_beq h).symm z
    ·exact h
   obtain⟨as1,d',as2,g1,g2,g3⟩:=qi (f:=f) (b:=b) (by simpa using hl) h'
   refine⟨d::as1,d',as2,by rw[g1];rfl,?_,λ{O H ls l vs} e1 e2 r=> ?_⟩
   ·show(if n=f then _ else(n,V.ref d)::putF f (.ref b) (ns.zip (as.map V.ref)))=_
    rw[if_neg z,g2];rfl
   ·cases ls with
    | nil=>cases (show d::as= []from r)
    | cons u ls=>
     obtain⟨b',bs,ws,f1,f2,f3,f4⟩:=r;cases f1
     show LsR K O H (if n=f then _ else u::j7 f l ns ls) _
     rw[if_neg z];exact⟨d,_,ws,rfl,f2,f3,g3 e1 e2 f4⟩
theorem xh {f:Str}{b:Addr}:∀{ns:List Str} {as:List Addr},ns.length=as.length->ns.contains f=false->putF f (.ref b) (ns.zip (as.map V.ref))=(ns++ [f]).zip ((as++ [b]).map V.ref)
 | [],[],_,_=>rfl
 | n::ns,[],hl,_=>by cases hl
 | n::ns,d::as,hl,h=>by
  rw[N7,Qt]at h
  show(if n=f then _ else(n,V.ref d)::putF f (.ref b) (ns.zip (as.map V.ref)))=_
  rw[if_neg (λz=>by rw[z,beq_self_eq_true]at h;exact Bool.noConfusion h.1),xh (by simpa using hl) h.2];rfl
theorem LsR.app {O:Ow}{H:Hp}{b:Addr}{l:List T}{vs:List V}(e1:H b=some (.lst vs))(e2:Reps K O H l vs):∀{ls:List (List T)} {as:List Addr},LsR K O H ls as->LsR K O H (ls++ [l]) (as++ [b])
 | [],as,r=>by cases (show as= []from r);exact⟨b,[],vs,rfl,e1,e2,rfl⟩
 | u::ls,as,⟨d,ds,ws,f1,f2,f3,f4⟩=>by subst f1;exact⟨d,ds++ [b],ws,rfl,f2,f3,LsR.app e1 e2 f4⟩
end
section
variable {X:Cx}{j:Nat}{es:List Expr}{fs:En->Rs (List T)}{pos p2 p3 p4:Pos}
theorem Jo (i:Nat){n c f:Str}(hc:Cls X.K (bU X.K c))(hn:NoAttr X.K (bU X.K c) f)(ha:p6 X es fs)(hN:autoParam (X.N[i]? =some n) aqd._auto_1)(hv:autoParam (mK X.env.scope n) aqe._auto_1)
  (hd:autoParam ((n == ("__debug__" : Str))=false) aqb._auto_1) (hcd:autoParam ((n == ("__classdict__" : Str))=false) aqb._auto_1) (hs:autoParam (L5 (.List es p4) (some (.Attribute (.Name n p2) f p3)) pos.line X.env=pure false) aqd._auto_1) :
  Cd X j (.Assign [.Attribute (.Name n p2) f p3] (.List es p4) pos) (yP i c f fs):=PS.imp (Gp (fP hN hv hd hcd) (xp ha) hs) λD σ H hh_=>by
 obtain⟨Z,B,M,E,h⟩:=hh_;unfold yP at h
 split at h
 ·rename_i c' ns ls hi
  refine⟨Z,OO B M,E.o,?_⟩
  cases z:fs Z with
  | bad=>rw[z]at h;exact h.elim
  | err c=>rw[z]at h;exact h
  | ok l=>
   rw[z,aA]at h;intro H1 s1 vs rs
   split at h
   ·rename_i hcc
    obtain⟨h1,h2,h3⟩:=hcc;subst h1;refine⟨by rw[<-rs.length];exact h2,λb hb=> ?_⟩
    have E1:=E.same s1;obtain⟨v0,s0,p,dx,as,e1,e2,⟨n1,n2,n3,n4⟩,e4,e5,e6,e7,e8⟩:=E1.env.own i _ hi;subst e1
    have nb:∀{d:Addr} {o:HO},H1 d=some o->d≠b:=λe z=>by rw[z,hb.1]at e;cases e
    have mb:∀a,M i a->a≠b:=λa w=>nb (E1.env.trk a (.inr ⟨i,w⟩)).some.choose_spec
    have pb:p≠b:=nb e4
    have hbas:b∉as:=λw=>mb b ((e2 b).mpr (.inr (.inr w))) rfl
    have sm1:Same H1 (upd H1 b (.lst vs)):=aX hb.1 _;refine⟨_,s0,p,_,dx,_,rfl,sm1 _ _ e4,hc,hn,by rw[List.length_zip,Lh,<-e6];simpa using h3,?_⟩
    have key:∀(ns':List Str) (as':List Addr) (ls':List (List T)),putF f (.ref b) (ns.zip (as.map V.ref))=ns'.zip (as'.map V.ref)->ns'.length=as'.length->ns'.Nodup->as'.Nodup->(∀a,a∈as'->a=b\/a∈as) →
      (∀{O:Ow} {H:Hp},H b=some (.lst vs)->Reps X.K O H l vs->LsR X.K O H ls as->LsR X.K O H ls' as')->PostM X B M.u j σ H (.ok (.nx (Z.set i (.ow (.ob c' ns' ls'))))) D->D.nx σ (upd (upd H1 b (.lst vs)) p (.ins (bU X.K c') dx (putF f (.ref b) (ns.zip (as.map V.ref))))):=λns' as' ls' k1 k2 k3 k4 k5 k6 k7=>by
     rw[k1]
     generalize hm:(λa=>a=p\/a=dx\/a∈as':Ow)=m
     have hsub:∀a,m a->M i a\/Nw X.K H1 a:=λa w=>by
      subst hm;rcases w with w | w | w
      ·exact .inl ((e2 a).mpr (.inl w))
      ·exact .inl ((e2 a).mpr (.inr (.inl w)))
      ·exact(k5 a w).elim (λy=> .inr (y▸hb)) λy=> .inl ((e2 a).mpr (.inr (.inr y)))
     have hO:∀a,OO B (M.set i m) a->OO B M a\/Nw X.K H1 a:=λa w=>w.elim (λy=> .inl (.inl y)) λy=>(Mn.Kf y).elim (λq=>(hsub a q).imp_left λt=> .inr ⟨i,t⟩) λq=> .inl (.inr q)
     have sm2:SameO (λa=>a=p) (upd H1 b (.lst vs)) (upd (upd H1 b (.lst vs)) p (.ins (bU X.K c') dx (ns'.zip (as'.map V.ref)))):=λd o e ne=>by rw[aH ne];exact e
     have smi:SameO (M i) H1 (upd (upd H1 b (.lst vs)) p (.ins (bU X.K c') dx (ns'.zip (as'.map V.ref)))):=λd o e ne=>sm2 d o (sm1 _ _ e) λw=>ne ((e2 d).mpr (.inl w))
     have nin:∀a∈as',a≠p:=λa ha w=>(k5 a ha).elim (λy=>pb (w▸y)) λy=>n1 (w▸y)
     have rp:∀{t:List T} {ws:List V},Reps X.K (OO B M) H1 t ws->Reps X.K (OO B (M.set i m)) (upd (upd H1 b (.lst vs)) p (.ins (bU X.K c') dx (ns'.zip (as'.map V.ref)))) t ws:=λr=>r.move (P:=M i) (λa w=> .inl (.inr ⟨i,w⟩)) hO smi
     have smp:SameO (λa=>a=p) H1 (upd (upd H1 b (.lst vs)) p (.ins (bU X.K c') dx (ns'.zip (as'.map V.ref)))):=λd o e ne=>sm2 d o (sm1 _ _ e) ne
     have fin:=k6 (O:=OO B (M.set i m)) (H:=upd (upd H1 b (.lst vs)) p (.ins (bU X.K c') dx (ns'.zip (as'.map V.ref)))) (by rw[aH (NV pb)];exact aT) (rp rs) (e8.move (P:=λa=>a=p) (λa w=> .inl (.inr ⟨i,(e2 a).mpr (.inl w)⟩)) hO smp λd hd w=>n1 (w▸hd))
     have ndx:dx∉as':=λw=>(k5 dx w).elim (nb e5) n2
     obtain⟨g1,g2,g3⟩:=E1.back (m:=m) (o':=.ob c' ns' ls') hi s0 smi ⟨p,dx,as',rfl,λd=>by subst hm;exact N5,⟨λw=>nin p w rfl,ndx,n3,k4⟩,aT,by rw[aH n3];exact sm1 _ _ e5,k2,k3,fin⟩ hsub
     exact k7 σ _ _ (λd o e ne=>g2 d o (s1 _ _ e) ne) g1 (λa w=>(g3 a w).imp_right (jj s1)) rfl
    cases hf:ns.contains f with
    | true=>
     rw[hf,if_pos rfl]at h;obtain⟨as1,d,as2,q1,q2,q3⟩:=qi (K:=X.K) (f:=f) (b:=b) e6 hf;subst q1;refine key ns (as1++b::as2) (j7 f l ns ls) q2 (by rw[e6];simp) e7 ?_ (λa w=> ?_) (λa1 a2 a3=>q3 a1 a2 a3) h
     ·rw[Mg]at n4 ⊢
      obtain⟨m1,m2,m3⟩:=n4
      have nb1:b∉as1:=λw=>hbas (LB _ w)
      have nb2:b∉as2:=λw=>hbas (Lu _ (K9 _ w))
      refine⟨m1,LF.mpr ⟨nb2,(LF.mp m2).2⟩,λu hu w hw=> ?_⟩
      rcases Lj.mp hw with hw | hw
      ·exact λy=>nb1 (by rw[<-hw,<-y];exact hu)
      ·exact m3 u hu w (K9 _ hw)
     ·rcases Lw.mp w with w | w
      ·exact .inr (LB _ w)
      ·rcases Lj.mp w with w | w
       ·exact .inl w
       ·exact .inr (Lu _ (K9 _ w))
    | false=>
     rw[hf,if_neg LK]at h;refine key (ns++ [f]) (as++ [b]) (ls++ [l]) (xh e6 hf) (by simp[e6]) ?_ ?_ (λa w=> ?_) (λa1 a2 a3=>LsR.app a1 a2 a3) h
     ·rw[Mg]
      refine⟨e7,by simp,λu hu w hw y=> ?_⟩
      rw[Lr.mp hw]at y
      have:ns.contains f=true:=by rw[List.contains_iff_mem,<-y];exact hu
      rw[hf]at this;cases this
     ·rw[Mg]
      exact⟨n4,by simp,λu hu w hw y=>hbas (by rw[<-Lr.mp hw,<-y];exact hu)⟩
     ·rcases Lw.mp w with w | w
      ·exact .inr w
      ·exact .inl (Lr.mp w)
   ·exact h.elim
 ·exact h.elim
end
theorem nh {K:K7}{B:Ow}{M:Mn}{H:Hp}{N:List Str}{sls:List Sl}{vs:List V}(E:Ev K B M H sls (vs.map some))(hl:sls.length<=N.length):Ev K B M H (eg N.length sls) (start N vs):=by
 have hlen:sls.length=vs.length:=by rw[E.env.len,Lh]
 have low:∀(i:Nat) (z:Sl),(eg N.length sls)[i]? =some z->z= .em\/(sls[i]? =some z/\(start N vs)[i]? =(vs.map some)[i]?):=λi z e=>by
  unfold eg at e;unfold L2.start
  by_cases hi:i<sls.length
  ·rw[LN hi]at e
   exact .inr ⟨e,LN (by rw[Lh,<-hlen];exact hi)⟩
  ·rw[L6 (by omega),Mi]at e
   split at e
   ·cases e;exact .inl rfl
   ·cases e
 refine⟨⟨by unfold eg L2.start;simp;omega,λi t e=> ?_,λi o e=> ?_,E.env.sub,E.env.dis,E.env.trk⟩,E.mine⟩
 ·rcases low i _ e with z | ⟨e1,e2⟩
  ·cases z
  ·rw[e2];exact E.env.val i t e1
 ·rcases low i _ e with z | ⟨e1,e2⟩
  ·cases z
  ·rw[e2];exact E.env.own i o e1
theorem DF {j:Nat}{f:Fx}{p:T×OT}(h:pE j f= .ok p):(∃Z,f= .nx Z/\p.1= .non/\Z[j]? =some (.ow p.2))\/∃Z,f= .rt p.1 Z/\Z[j]? =some (.ow p.2):=by
 cases f with
 | nx Z=>
  unfold pE at h
  dsimp only at h
  split at h
  ·rename_i o e;cases h;exact .inl ⟨Z,rfl,rfl,e⟩
  ·cases h
 | rt t Z=>
  unfold pE at h
  dsimp only at h
  split at h
  ·rename_i o e;cases h;exact .inr ⟨Z,rfl,e⟩
  ·cases h
section
variable {P:LI}{w:Mj}{K:K7}{mg:Str->Option La}{base:Heap}
theorem JK {x qual:Str}{st:Stmt}{f:Addr}{fd:Mp}{N ps:List Str}{k n j:Nat}{F:En->Rs Fx}(Fn:L2.Fun K x qual st f fd)(S:az N ps (aj st))(hn:ps.length=n)
  (hbody:∀(cdv:La) (A:LZ) (outer:List Env) (s:Ld) (H:Hp) (E:XK),Room k (A.deeper (envOfC qual (aj st) s.heap.objs.size f cdv)) →
   Cu (gb CX0 P w K mg base N qual (aj st) f cdv A outer s H E).nox j (bM st) F):o9 P w K mg base CX0 (k+1) f fd ps (spE K n j (gH n j N.length F)):=by
 have hpl:ps.length<=N.length:=by have:=congrArg M4 S.pre;rw[Mq]at this;omega
 refine Fn.ok S (λvs H Q E h=> ?_) (λcdv A outer s H vs Q E hr h=> ?_)
 ·obtain⟨sls,B,m,v,Ea,hl,_⟩:=h
  rw[<-Lh (as:=vs) (f:=some),<-Ea.env.len,hl,hn]
 ·obtain⟨sls,B,m,v,Ea,hl,hv,h⟩:=h
  refine⟨_,hbody cdv A outer s H E hr,eg N.length sls,B,one j m,nh Ea (by omega),?_⟩
  have hjs:(start N vs)[j]? =some (some v):=by
   unfold L2.start;rw[LN (by rw[Lh];exact(Ll.mp hv).1),LD,hv];rfl
  unfold gH at h;rw[if_pos hl]at h
  have fin:∀{p:T×OT} {Z':En} {σ':L2.St} {H':Hp} {M':Mn} {u:V},(∀u H' m',SameO m H H'->ORep K (BM B m') m' H' p.2 v->(∀a,m' a->m a\/Nw K H a)->Rep K (BM B m') H' p.1 u->Q u H')->Z'[j]? =some (.ow p.2) →
    SameO (one j m).u H H'->Ev K B M' H' Z' σ'->(∀a,M'.u a->(one j m).u a\/Nw K H a)->σ'[j]? =(start N vs)[j]?->Rep K (OO B M') H' p.1 u->Q u H':=λ{p Z' σ' H' M' u} h hj s' E' o' k r=>by
   obtain⟨v',e1,e2⟩:=E'.env.own j _ hj;rw[k,hjs]at e1;cases e1
   have sub:∀a,BM B (M' j) a->OO B M' a:=λa z=>z.imp_right λy=>⟨j,y⟩
   exact h u H' (M' j) (λb o e n=>s' b o e λz=>n (one_u.mp z)) (e2.move (P:=lp) (λ_ z=>z.elim) (λa z=> .inl (sub a z)) (λb u q _=>q) λ_ _ z=>z) (λa z=>(o' a ⟨j,z⟩).imp_left one_u.mp) (r.less sub)
  cases q:F (eg N.length sls)with
  | bad=>rw[q]at h;exact h.elim
  | err c=>rw[q]at h;exact h.elim
  | ok fl=>
   rw[q,aA]at h
   cases q2:pE j fl with
   | bad=>rw[q2]at h;exact h.elim
   | err c=>rw[q2]at h;exact h.elim
   | ok p=>
    rw[q2]at h;rcases DF q2 with⟨Z',rfl,e1,e2⟩ | ⟨Z',rfl,e2⟩
    ·exact λσ' H' M' s' E' o' k=>fin h e2 s' E' o' k (by rw[e1];exact Rep.Kz)
    ·exact λu σ' H' M' s' E' o' k r=>fin h e2 s' E' o' k r
theorem Ek {x qual:Str}{st:Stmt}{f:Addr}{fd:Mp}{N ps:List Str}{k:Nat}(Fn:L2.Fun K x qual st f fd)(S:az N ps (aj st)){A:LZ}{outer:List Env}{s:Ld}{H:Hp}{args:Args}{us:List La}{vs:List V}{c:Str}{R:Si->Ld->Prop}
  (hr:Room (k+1) A) (e0:Env0 P w K mg base A outer s H) (hb:Qk s fd args (ps.zip us)) (r:Vals vs us) (hlen:vs.length=ps.length) (hR:∀ev s',RzC P w mg outer H s c ev s'->R (.error ev) s')
  (hbody:∀cdv,Room k (A.deeper (envOfC qual (aj st) s.heap.objs.size f cdv))->∀xe,∃t,PSs ((gb CX0 P w K mg base N qual (aj st) f cdv A outer s H E0).FB xe) (bM st) t ∧
   (XA ((gb CX0 P w K mg base N qual (aj st) f cdv A outer s H E0).FB xe) lp H c->t { nx:=λ_ _=>False,rt:=λ_ _=>False,bk:=λ_ _=>False,ct:=λ_ _=>False } (start N vs) H)) :
  codeAny (model P w) A (.call (.ref f) args) R s:=by
 obtain⟨oc,od,kV,doc,pm,an,cdv,ct,osl,rfl,lk,hcd⟩:=Fn.ex
 have KX:K.In s.heap:=e0.mod.kin.keeps λb o e=>(e0.bs b o e).1
 have lim:s.heap.NoLimit:=e0.mod.nolimit.keeps λb o e=>(e0.bs b o e).1
 have hkind:∀y∈ps.zip us,(aj st).names.lookup y.1=some .local\/((aj st).names.lookup y.1=some .cell/\((Nm (s.heap.objs.size+1) (aj st).names []).lookup y.1).isSome=true):=λ⟨n,v⟩ hy=>by
  rcases S.par n (N4 hy).1 with q | q
  ·exact .inl q
  ·exact .inr ⟨q,NB _ _ _ (.inl q)⟩
 refine Os hr.depth (KX _ _ lk) rfl S.co S.gen rfl (O0 KX hcd) (hb _ _ _ _ ?_)
 refine NQ S.kind hkind λenv he s1 x=> ?_
 subst he;refine⟨lim.keeps x.toInCall.keep,RJ ?_⟩
 let xe:La->Ld->Prop:=λev s'=>wpAny (model P w) (A.deeper (envOfC qual (aj st) s.heap.objs.size f cdv)) (leaving (envOfC qual (aj st) s.heap.objs.size f cdv) ev) (λ_ s''=>R (.error ev) s'') (λe' s''=>R (.error e') s'') s'
 obtain⟨t,ht,hgo⟩:=hbody cdv (hr.deeper _) xe
 have I:Inv ((gb CX0 P w K mg base N qual (aj st) f cdv A outer s H E0).FB xe) [] (start N vs) H s1:=(lS S hr.hd e0 hlen r x).FB _;refine M9 (ht [] s1 (start N vs) H _ I (hgo ?_)) (λfl s' z=> ?_) λe s' hs=>hs
 rotate_left
 ·cases fl with
  | next=>obtain⟨_,_,_,z⟩:=z;exact z.elim
  | cont=>obtain⟨_,_,_,z⟩:=z;exact z.elim
  | brk=>obtain⟨_,_,_,z⟩:=z;exact z.elim
  | ret v=>obtain⟨_,_,_,_,_,z⟩:=z;exact z.elim
 intro pins ev s' w'
 show wpAny _ _ _ _ _ _
 obtain⟨e,T,C,σ',H',rfl,hm,I',sm,he,heo,fl,hT,_⟩:=w'
 have heo:=heo rfl
 have hT:∀t,T=some t->H' t=none/\s.heap.get? t=none:=λt z=>⟨(hT t z).1,(hT t z).2 rfl⟩
 refine AN (base:=base) (outer:=outer) (L:=s.heap.objs.size) I'.ok.frames I'.stack rfl fl λh' T' g=>hR _ _ ?_
 have hex:((gb CX0 P w K mg base N qual (aj st) f cdv A outer s H E0).FB xe).ex= []:=rfl
 have Tn:H' T'=none/\s.heap.get? T'=none:=by
  rcases g.new with z | z
  ·exact hT T' z
  ·exact⟨kM I' z,gy I' hex z⟩
 have out:∀b o,s.heap.get? b=some o->b≠s.heap.objs.size:=λb o q z=>by
  have:=Lq q;rw[z]at this;exact absurd this (LQ _)
 have mem:∀b,b∈oK ((envOfC qual (aj st) s.heap.objs.size f cdv)::outer)->b=s.heap.objs.size\/b∈oK outer:=λb z=>by
  have z':b∈s.heap.objs.size::oK outer:=z;exact Lj.mp z'
 have ne:∀b o,s.heap.get? b=some o->b≠e/\T≠some b:=λb o q=>⟨λz=>(by subst z;rw[show s.heap.get? b=none from heo]at q;cases q),λz=>(by rw[show s.heap.get? b=none from(hT b z).2]at q;cases q)⟩
 have keepH:∀b u,H' b≠none->s'.heap.get? b=some u->h'.get? b=some u:=λb u hb q=>by
  refine g.keep b u (λz=>hb (I'.Kh b z)) (λz=>hb (by rw[z];exact he)) (λz=>hb (hT b z).1) q
 refine⟨e,T',C,H',rfl,hm,I'.os,I'.bare,⟨λb o q n hb hx=> ?_,λb o q n hb hx=> ?_,λb o q n hx=>I'.base.free b o q n hx,λb o q hx=> ?_,I'.base.tups,I'.base.frzs,I'.base.tbls⟩,λa o q=> ?_,λb o q=>sm b o q λz=>z,he,heo,g.flt,Tn.1,Tn.2⟩
 ·exact g.keep b o (λz=>(mem b z).elim (out b o q) hb) (ne b o q).1 (ne b o q).2 (I'.base.keep b o q n hb hx)
 ·obtain⟨sl,q1⟩:=I'.base.slot b o q n hb hx
  obtain⟨sl',q2⟩:=g.slot b _ (K9 _ hb) q1;exact⟨sl',q2⟩
 ·obtain⟨o',q1⟩:=I'.base.there b o q hx
  by_cases z:b∈oK ((envOfC qual (aj st) s.heap.objs.size f cdv)::outer)
  ·obtain⟨sl,q2⟩:=g.slot b o' z q1
   exact⟨_,q2⟩
  ·exact⟨o',g.keep b o' z (ne b o q).1 (ne b o q).2 q1⟩
 ·refine(I'.hok a o q).stay (λb u hb z=>keepH b u ?_ z) (λ_ z=>z) λ_ _ z=>z
  rcases hb with rfl | hb
  ·rw[q];simp
  ·rw[hb];simp
theorem zF {n j m:Nat}{F:En->Rs Fx}{sls:List Sl}{c:Str}(h:gH n j m F sls= .err c):F (eg m sls)= .err c:=by
 unfold gH at h
 split at h
 ·cases z:F (eg m sls)with
  | bad=>rw[z]at h;cases h
  | err c'=>rw[z]at h;cases h;rfl
  | ok f=>
   rw[z,aA]at h;cases f <;> unfold pE at h <;> dsimp only at h <;> split at h <;> cases h
 ·cases h
theorem Bq {x qual:Str}{st:Stmt}{f:Addr}{fd:Mp}{N ps:List Str}{k n j:Nat}{F:En->Rs Fx}(Fn:L2.Fun K x qual st f fd)(S:az N ps (aj st))(hn:ps.length=n)
  (hbody:∀(cdv:La) (A:LZ) (outer:List Env) (s:Ld) (H:Hp) (E:XK),Room k (A.deeper (envOfC qual (aj st) s.heap.objs.size f cdv)) →
   ∀xe,Cu ((gb CX0 P w K mg base N qual (aj st) f cdv A outer s H E).FB xe) j (bM st) F):EN P w K mg base (k+1) f fd ps n j (gH n j N.length F):=
 ⟨JK Fn S hn λcdv A outer s H E hr=>hbody cdv A outer s H E hr _,λA outer s H args us vs B m sls c R hr e0 hb r Ea hl hg hR=>by
  have hpl:ps.length<=N.length:=by have:=congrArg M4 S.pre;rw[Mq]at this;omega
  refine Ek Fn S hr e0 hb r ?_ hR λcdv hr' xe=>⟨_,hbody cdv A outer s H E0 hr' xe,λxa=>⟨eg N.length sls,B,one j m,nh Ea (by omega),?_⟩⟩
  ·rw[<-Lh (as:=vs) (f:=some),<-Ea.env.len,hl,hn]
  ·rw[zF hg];exact xa⟩
end
section
variable {X:Cx}{pins:List (Addr×Obj)}{σ:L2.St}{H:Hp}{s:Ld}{Q:VK}{us:List La}{vs:List V}{ts:List T}{B O:Ow}{k n:Nat}{f:Addr}{fd:Mp}{ps:List Str}{g:List Sl->Rs (T×OT)}{c:Str}
theorem yD (M:Mk X.K (bU X.K c) f)(F:EN X.prog X.w X.K X.mg X.base k f fd ps n 0 g)(hr:Room (k+1) X.A)(hb:Binds X.K fd ps [])(hn:ts.length+1=n)(hps:ps.length=n)(I:Inv X pins σ H s)(r:Vals vs us)(rs:Reps X.K O H ts vs)(mt:∀a,O a->Mtb H a){o:OT}
  (hg:g (.ow (.ob c [] [])::ts.map Sl.va)= .ok (.non,o)) (h:∀p H' m,Same H H'->ORep X.K (BM O m) m H' o (.ref p)->(∀a,m a->Nw X.K H a)->Q (.ref p) H'):wpAny (model X.prog X.w) X.A (call (.ref (bU X.K c)) us) (EP X pins σ Q) X.xe s:=by
 have nk:∀q,s.heap.objs.size<=q->X.K.lookup q=none:=λq hq=>by
  cases z:X.K.lookup q with
  | none=>rfl
  | some o=>exact absurd (Lq (I.kIn _ o z)) (Nat.not_lt.mpr hq)
 generalize hp:s.heap.objs.size+1=p
 have np:Nw X.K H p:=⟨I.hok.fresh (by omega),nk p (by omega)⟩
 generalize hd:s.heap.objs.size=dx at hp
 have nd:Nw X.K H dx:=⟨I.hok.fresh (by omega),nk dx (by omega)⟩
 have ne:dx≠p:=by omega
 have sm0:Same H (upd (upd H dx (.own p)) p (.ins (bU X.K c) dx [])):=λb o e=>by
  rw[aH (λz=>by rw[z,np.1]at e;cases e),aH (λz=>by rw[z,nd.1]at e;cases e)];exact e
 have hm:∀a,(λa=>a=p\/a=dx:Ow) a->Nw X.K H a:=λa z=>z.elim (λy=>y▸np) λy=>y▸nd
 have subO:∀a,OO O (one 0 λa=>a=p\/a=dx) a->O a\/Nw X.K H a:=λa z=>(one_oo.mp z).imp_right (hm a)
 have hlen:=rs.length
 have Ea:Ev X.K O (one 0 λa=>a=p\/a=dx) (upd (upd H dx (.own p)) p (.ins (bU X.K c) dx [])) (.ow (.ob c [] [])::ts.map Sl.va) ((V.ref p::vs).map some):=by
  refine⟨⟨by simp[hlen],λi t e=> ?_,λi o' e=> ?_,λi a z=> .inr ⟨i,z⟩,λi k a z1 z2=> ?_,λa z=> ?_⟩,λa z y=> ?_⟩
  ·obtain⟨w,e1,e2⟩:=sR (v0:=V.ref p) rs e
   exact⟨w,by rw[LD,e1];rfl,(e2.more subO).same sm0⟩
  ·have hi:=sS e
   subst hi;cases e;refine⟨.ref p,rfl,p,dx,[],rfl,λb=> ?_,⟨by simp,by simp,ne,by simp⟩,aT,?_,rfl,by simp,rfl⟩
   ·rw[show one 0 (λa=>a=p\/a=dx) 0=_ from Mn.Kl];simp
   ·rw[aH ne];exact aT
  ·unfold one Mn.set at z1 z2
   by_cases h1:i=0
   ·by_cases h2:k=0
    ·rw[h1,h2]
    ·rw[if_neg h2]at z2;exact z2.elim
   ·rw[if_neg h1]at z1;exact z1.elim
  ·rcases one_oo.mp z with y | y | y
   ·exact(mt a y).same sm0
   ·rw[y];exact .inr (.inr ⟨_,aT,rfl⟩)
   ·rw[y];exact .inr (.inr ⟨_,by rw[aH ne];exact aT,rfl⟩)
  ·obtain⟨o,e⟩:=(mt a y).some
   rw[(hm a (one_u.mp z)).1]at e;cases e
 have hq:spE X.K n 0 g (.ref p::(vs++ [])) (upd (upd H dx (.own p)) p (.ins (bU X.K c) dx [])) (λv H2=>v= .non/\Q (.ref p) H2) E0:=by
  refine⟨_,O,_,.ref p,by rw[LR];exact Ea,by simp[hn],rfl,?_⟩
  rw[hg];intro u H' m' s' ro hm' rt;refine⟨Rep.IR.mp rt,h p H' m' (λb o e=>s' b o (sm0 _ _ e) λz=> ?_) ro λa z=> ?_⟩
  ·rw[(hm b z).1]at e;cases e
  ·rcases hm' a z with y | y
   ·exact hm a y
   ·exact jj sm0 y
 have I2:=Inv.made (C:=bU X.K c) I;rw[hd,hp]at I2
 have r2:Vals (V.ref p::(vs++ [])) (LJ p::(us++ [])):=.cons rfl (r.append .nil)
 have hl:(LJ p::us++ []).length=ps.length:=by rw[LR,Li,<-r.length,<-hlen,hps,hn]
 refine Qq (AI (f:=f) I.kIn M.makes M.init (beq_iff_eq.mp M.fn) ?_)
 rw[hd,hp]
 have hb2:=hb _ (LJ p::us) I2.kIn hl;rw[PL]at hb2;refine N0 (F.h.run _ X.stack _ _ ⟨LJ p::us,[]⟩ (LJ p::(us++ [])) _ _ E0 (hr.make (bU X.K c) us []) (I2.KA.make (bU X.K c) us []) hb2 r2 hq) λr s' hq'=> ?_
 cases r with
 | error e=>exact hq'.elim
 | ok fl=>
  cases fl with
  | ret u=>
   obtain⟨v,H',I3,rv,ev,q3⟩:=I2.after hq';subst ev
   exact⟨rv,⟨V.ref p,H',I3,rfl,q3⟩⟩
  | next=>exact M8 hq'
  | brk=>exact M8 hq'
  | cont=>exact M8 hq'
theorem C9 (i:Nat){e:Expr}{es:List Expr}{fs:En->Rs (List T)}{n0:Str}{p pos spos p3:Pos}(M:Mk X.K (bU X.K c) f)(F:EN X.prog X.w X.K X.mg X.base k f fd ps n 0 g)(hr:Room (k+1) X.A)(hm:X.mg c=some (.ref (bU X.K c)))(hb:Binds X.K fd ps [])(hps:ps.length=n)
  (hl:∀Z ts,fs Z= .ok ts->ts.length+1=n) (hN:X.N.Nodup) (ha:p6 X (e::es) fs) (hi:autoParam (X.N[i]? =some n0) aqd._auto_1) (hx:autoParam (Loc X.env.scope n0) aqh._auto_1)
  (hs:autoParam (L5 (.Call (.Name c p) (e::es) [] pos) (some (.Name n0 p3)) spos.line X.env=pure false) aqd._auto_1) (hf:autoParam (X.fn n0=true\/X.env.scope.names.lookup n0=some .local) aqa._auto_1)
  (hg:autoParam (Gl X c) aqd._auto_1) (hdb:autoParam ((c == ("__debug__" : Str))=false) aqb._auto_1) (he:autoParam (Lx (e::es) X.env=(false,eval e X.env)::Lx es X.env) aqd._auto_1) (hpl:autoParam ((backTo pos (Lx es X.env)).any (·.1)=false) aqd._auto_1) :
  mZ X (.Assign [.Name n0 p3] (.Call (.Name c p) (e::es) [] pos) spos) (qh i c g fs):=by
 let te:TE:=λσ H Q=> ∃Z B M',Ev X.K B M' H Z σ/\(∀c,fs Z= .err c->XA X lp H c)/\fs Z≠ .bad/\(∀ts,fs Z= .ok ts->∃o,g (.ow (.ob c [] [])::ts.map Sl.va)= .ok (.non,o)/\∀q H1 H' m,Same H H1->Same H1 H'->ORep X.K (BM (OO B M') m) m H' o (.ref q)->(∀a,m a->Nw X.K H1 a)->Q (.ref q) H')
 have pe:PE X (.Call (.Name c p) (e::es) [] pos) te:=by
  intro pins s σ H Q I ⟨Z,B,M',E,h1,h2,h3⟩;refine MI (g7 I hg hm ?_ hdb)
  refine ND (h₀:=X.base) I.ok.mod.kin M.kp (bV (ha pos pins s σ H (λvs H2=> ∃ts,fs Z= .ok ts/\Same H H2/\Reps X.K (OO B M') H2 ts vs) I ⟨Z,OO B M',E.o,?_⟩) λus s1 ⟨vs,H1,I1,r,ts,q1,sm,rs⟩=>⟨I1.kIn,?_⟩) he hpl
  ·cases z:fs Z with
   | bad=>exact(h2 z).elim
   | err c=>exact h1 c z
   | ok ts=>exact λH' s' vs rs=>⟨ts,rfl,s',rs⟩
  ·obtain⟨o,hgo,hq⟩:=h3 ts q1
   exact yD M F hr hb (hl Z ts q1) hps I1 r rs (E.same sm).env.trk hgo λq H' m s' ro hm'=>hq q H1 H' m sm s' ro hm'
 refine PS.imp (nK hN hi hx pe hs hf) λD σ H ⟨Z,B,M',E,h⟩=> ?_
 unfold qh at h;refine⟨Z,B,M',E,λc z=> ?_,λz=> ?_,λts z=> ?_⟩
 ·rw[z]at h;exact PostF.xa h
 ·rw[z]at h;exact h
 ·rw[z,aA]at h
  cases z2:g (.ow (.ob c [] [])::ts.map Sl.va)with
  | bad=>rw[z2]at h;exact h.elim
  | err c=>rw[z2]at h;exact h.elim
  | ok q=>
   rw[z2]at h
   replace h:PostF X B M'.u H (match q.1 with
    | .non=>if i<Z.length then .ok (.nx (Z.set i (.ow q.2)))else .bad
    | _=> .bad) D:=h
   obtain⟨t,o⟩:=q
   cases t with
   | non=>
    dsimp only at h
    refine⟨o,rfl,λq H1 H' m s1 s' ro hm'=> ?_⟩
    by_cases hl:i<Z.length
    ·rw[if_pos hl]at h
     obtain⟨E2,sub⟩:=(E.same s1).new (m:=m) (o:=o) (v:=.ref q) hl hm' s' (ro.move (P:=lp) (λ_ z=>z.elim) (λa z=> .inl (z.elim (λw=> .inl (.inl w)) λw=>(Mn.Kf w).elim .inr λy=> .inl (.inr y))) (λb u q _=>q) λ_ _ z=>z)
     exact h _ _ _ (SameO.of (s1.trans s')) E2 λa z=>(sub a z).imp_right (jj s1)
    ·rw[if_neg hl]at h;exact h.elim
   | _=>exact h.elim
end
section
variable {X:Cx}{j:Nat}
def Cb (X:Cx)(suite:List Stmt)(CE:Addr)(h:Str->Rs T):Prop:=
 ∀(c:Str) (C:Addr) (t:T),X.mg c=some (.ref C)->h c= .ok t->∃bm,OX X.K C bm/\(LJ C::bm).contains (.ref CE)=true/\∀(e:Addr) (oe:Obj),kc (Fg X e oe) suite (aM (cn t))
theorem GU {body suite:List Stmt}{b0:Stmt}{F:En->Rs Fx}{h:Str->Rs T}{ce:Str}{CE:Addr}{bmE:List La}{np hpos pos:Pos}(hst:X.stack=X.env::X.outer)(hfe:X.env.frame=some X.env.locals)(hcl:∀x c,X.env.cells.lookup x≠some c)(hex:X.ex= [])
  (hm:X.mg ce=some (.ref CE)) (OE:OX X.K CE bmE)
  (hb:∀pn xe,Cu { X with pn:=pn,xe:=xe } j body F) (hs:Cb X (b0::suite) CE h) (hg:autoParam (Gl X ce) aqd._auto_1) (hd:autoParam ((ce == ("__debug__" : Str))=false) aqb._auto_1) :
  Cd X j (.Try body [.ExceptHandler (some (.Name ce np)) none (b0::suite) hpos] [] [] pos) (uR F h):=by
 intro pins s σ H D I ⟨Z,B,M,E,hq⟩;refine wpAny_Try_except ?_
 unfold uR at hq
 cases q:F Z with
 | bad=>rw[q]at hq;exact hq.elim
 | ok fl=>
  rw[q]at hq;refine M9 (hb X.pn (λ_ _=>False) pins s σ H D (I.FB _) ⟨Z,B,M,E,by rw[q];cases fl <;> exact hq⟩) (λf s1 r=> ?_) (λe s1 z=>z.elim)
  cases f with
  | next=>obtain⟨σ7,H7,I7,q7⟩:=r;exact N9 ⟨σ7,H7,I7.FB _,q7⟩
  | ret u=>obtain⟨x7,σ7,H7,I7,r7,q7⟩:=r;exact⟨x7,σ7,H7,I7.FB _,r7,q7⟩
  | brk=>obtain⟨σ7,H7,I7,q7⟩:=r;exact⟨σ7,H7,I7.FB _,q7⟩
  | cont=>obtain⟨σ7,H7,I7,q7⟩:=r;exact⟨σ7,H7,I7.FB _,q7⟩
 | err c=>
  rw[q]at hq
  cases q2:h c with
  | bad=>simp only[q2]at hq;exact hq.elim
  | err c'=>simp only[q2]at hq;exact hq.elim
  | ok t=>
   simp only[q2]at hq
   have hq':∀v H',Same H H'->Rep X.K (OO B M) H' t v->D.rt v H':=λv H' s' r=>hq v σ H' M (SameO.of s') (E.same s') (λa z=> .inl z) rfl r
   refine M9 (hb (X.pn++pins) _ [] s σ H { nx:=λ_ _=>False,rt:=λ_ _=>False,bk:=λ_ _=>False,ct:=λ_ _=>False } ((Tr.Inv.KP pins I).FB _) ⟨Z,B,M,E,?_⟩) (λfl s' z=> ?_) λ_ _ z=>z
   rotate_left
   ·cases fl with
    | next=>obtain⟨_,_,_,z⟩:=z;exact z.elim
    | cont=>obtain⟨_,_,_,z⟩:=z;exact z.elim
    | brk=>obtain⟨_,_,_,z⟩:=z;exact z.elim
    | ret v=>obtain⟨_,_,_,_,_,z⟩:=z;exact z.elim
   rw[q];intro pins1 ev s1 w;obtain⟨e,T,C,σ1,H1,rfl,hmc,I1,smn,he,heo,fl,hT,hpp⟩:=w
   have sm:Same H H1:=λb o z=>smn b o z λy=>y
   have I1:Inv X pins σ1 H1 s1:=Tr.Inv.KZ (X:=X) I1
   have hpp:∀p∈X.pn++pins,p.1≠e/\T≠some p.1:=λp hp=>hpp p (LB _ hp)
   have heo:=heo hex
   have hT:∀t,T=some t->H1 t=none/\X.s₀.heap.get? t=none:=λt z=>⟨(hT t z).1,(hT t z).2 hex⟩
   show wpAny _ _ _ _ _ _
   have hfr:X.A.frames=some (X.env::X.outer):=by rw[<-hst];exact I1.ok.frames
   have hstk:s1.heap.FunFrames X.base (X.env::X.outer):=by rw[<-hst];exact I1.stack
   refine Jj hfr hstk hfe fl λh' T' g=> ?_
   have I2:=Inv.gone I1 hst hfe hcl hex g he heo hT hpp
   have Tn:H1 T'=none/\X.s₀.heap.get? T'=none/\∀p∈X.pn++pins,p.1≠T':=by
    rcases g.new with z | z
    ·exact⟨(hT T' z).1,(hT T' z).2,λp hp y=>(hpp p hp).2 (by rw[z,y])⟩
    ·exact⟨kM I1 z,gy I1 hex z,λp hp y=>by have:=(I1.pin p hp).1;rw[y,z]at this;cases this⟩
   obtain⟨bm,OC,hin,run⟩:=hs c C t hmc q2;obtain⟨hTe,oe,ev,hoe,hoc,hod,h1,oT,ts,hoT,hdT,h3⟩:=g.flt
   have nfr:∀b o vs,h'.get? b=some o->o.data= .fields vs->b∉(X.env::X.outer).filterMap (·.frame):=λb o vs hb hd z=>by
    have:=I2.stack;rw[hst]at this;obtain⟨_,o',ho',hnf⟩:=this.mem z;rw[show h'.get? b=some o' from ho']at hb
    cases hb;exact hnf vs hd
   have hel:e≠X.env.locals:=λz=>nfr e oe ev hoe hod (by rw[MB,hfe];exact z▸Lg)
   have hef:e∉X.fs:=λz=>nfr e oe ev hoe hod (by rw[MB,hfe];exact K9 _ z)
   have hcell:∀v,oe.data≠ .cell v:=λv z=>by rw[hod]at z;cases z
   have I3:Inv (Fg X e oe) pins σ1 H1 { s1 with heap:=h' }:=xV I2 hoe he hel hef hcell
   refine wpAny_handleBy_cons (codeAny_handlers_test (g7 (X:=Fg X e oe) I3 hg hm ?_ hd)) (by intro z;cases z)
   obtain⟨nm,qq,N,bs,hdct,sn,sub,ab,col,dd,k0,k1,k2,k3,k5,mN,hC,_⟩:=OC.at_ h' I3.kIn;obtain⟨nm',qq',N',bs',hdct',sn',sub',ab',col',dd',k0',k1',k2',k3',k5',mN',hD,_,_,TD⟩:=OE.at_ h' I3.kIn;refine yO hC hD hoe hoc (TD.tail.hasType (by decide)) hin (codeAny_handlers_suite ?_)
   refine wpAny_setFlight_none hoe hod h1 hoT hdT (ML.mp h3).1 ?_
   generalize hU:h'.update T' (Q3 (·.setIfInBounds 3 LW))=h2
   have kp:∀b,b≠T'->h2.get? b=h'.get? b:=λb hb=>by rw[<-hU];exact Od _ _ (NV hb)
   have hT2:h2.get? T'=some (Q3 (·.setIfInBounds 3 LW) oT):=by rw[<-hU];exact P6 _ hoT (P7 (N6 hdT _))
   have hoe2:h2.get? e=some oe:=(kp e (NV hTe)).trans hoe
   have g2:EM ((X.env::X.outer).filterMap (·.frame)) C e (some T') h' h2 T':=⟨⟨hTe,oe,ev,hoe2,hoc,hod,h1,_,_,hT2,N6 hdT _,by simp[(ML.mp h3).1]⟩,.inl rfl,λb o _ _ n3 q=>(kp b λz=>n3 (by rw[z])).trans q,λb o m q=>⟨o.slots,(kp b λz=>nfr T' oT ts hoT hdT (z▸m)).trans q⟩⟩
   have I4:Inv X pins σ1 H1 { s1 with heap:=h2 }:=Inv.gone (s:={ s1 with heap:=h' }) I2 hst hfe hcl hex g2 he heo (λt z=>by cases z;exact⟨Tn.1,Tn.2.1⟩) λp hp=>⟨(hpp p hp).1,λz=>Tn.2.2 p hp (LX z).symm⟩
   have I5:Inv (Fg X e oe) pins σ1 H1 { s1 with heap:=h2 }:=xV I4 hoe2 he hel hef hcell
   have Eb:=(E.same sm).blank;obtain⟨Zb,hρb⟩:∃Zb:En,Zb=LA σ1.length Sl.em:=⟨_,rfl⟩
   have E1:Ev X.K (OO B M) noM H1 Zb σ1:=by
    subst hρb;exact⟨⟨by simp,λi t e=>(by rw[Mi]at e;split at e <;> cases e),λi o e=>(by rw[Mi]at e;split at e <;> cases e),λ_ _ z=>z.elim,λ_ _ _ z=>z.elim,Eb.env.trk⟩,λa ⟨_,z⟩=>z.elim⟩
   refine M9 (run e oe pins _ σ1 H1 { nx:=λ_ _=>False,rt:=λv H'=>Same H1 H'/\Rep X.K (OO B M) H' t v } I5 ⟨Zb,OO B M,noM,E1,λv H' s' r=>⟨λb o z=>s' b o z λ⟨_,y⟩=>y,r⟩⟩) (λf s4 r=> ?_) λ_ _ z=>z.elim
   cases f with
   | next=>obtain⟨_,_,_,z⟩:=r;exact z.elim
   | brk=>obtain⟨_,_,_,z⟩:=r;exact z.elim
   | cont=>obtain⟨_,_,_,z⟩:=r;exact z.elim
   | ret u=>
    obtain⟨v,σ',H',I7,rv,s',rt⟩:=r;exact⟨v,_,H',Eh I.ok I7,rv,hq' v H' (λb o y=>s' b o (sm b o y)) rt⟩
end
structure QE (X:Cx)(e:Expr)(f:En->Rs T):Prop where
 h:cg X e f
structure QA (X:Cx)(e:List Expr)(f:En->Rs (List T)):Prop where
 h:p6 X e f
structure QT (X:Cx)(e:Expr)(f:En->Rs Bool):Prop where
 h:vC X e f
structure QW (X:Cx)(e:Expr)(f:En->Rs Bool):Prop where
 h:Fq X e f
structure QS (X:Cx)(e:Stmt)(f:En->Rs Fl):Prop where
 h:mZ X e f
structure wR (X:Cx)(e:List Stmt)(f:En->Rs Fl):Prop where
 h:kc X e f
structure QG (X:Cx)(e:Expr)(f:T->En->Rs En):Prop where
 h:Fs X e f
structure Kb (X:Cx)(e:List Expr)(f:List T->En->Rs En):Prop where
 h:Cf X e f
structure QI (X:Cx)(t e:Expr)(f:En->Rs (List T)):Prop where
 h:EJ X t e f
structure QO (X:Cx)(e:Option Expr)(f:En->Rs (Option Int)):Prop where
 h:JV X e f
structure QIf (X:Cx)(e:List Expr)(f:En->Rs Bool):Prop where
 h:Cv X e (Cm X f)
theorem ag {X:Cx}(i:Nat){x:Str}{pos:Pos}(hN:autoParam ((Cx.N X)[i]? =some x) aqd._auto_1)(hv:autoParam (mK (NI (Cx.env X)) x) aqe._auto_1)(hd:autoParam ((x == Lp "__debug__")=false) aqb._auto_1)(hcd:autoParam ((x == Lp "__classdict__")=false) aqb._auto_1):QE X (Ma x pos) (vr i):=
 ⟨ID (i:=i) (hN:=hN) (hv:=hv) (hd:=hd) (hcd:=hcd)⟩
theorem ao {X:Cx}{i:Int}{j:Nat}{pos:Pos}:QE X (PB (Const.int i) j pos) (cn (T.int i)):=
 ⟨IM ⟩
theorem gd {X:Cx}{i:Bool}{j:Nat}{pos:Pos}:QE X (PB (Const.bool i) j pos) (cn (T.bl i)):=
 ⟨q_bl ⟩
theorem c6 {X:Cx}{j:Nat}{pos:Pos}:QE X (PB Const.none j pos) (cn T.non):=
 ⟨II ⟩
theorem CI {X:Cx}{x:Str}{i:Int}{u:La}{pos:Pos}(hm:Cx.mg X x=some u)(r:L2.RelV (V.int i) u)(hg:autoParam (Gl X x) aqd._auto_1)(hd:autoParam ((x == Lp "__debug__")=false) aqb._auto_1):QE X (Ma x pos) (cn (T.int i)):=
 ⟨Gi (hm:=hm) (r:=r) (hg:=hg) (hd:=hd)⟩
theorem ai {X:Cx}:QA X [] ak:=
 ⟨Gh ⟩
theorem ah {X:Cx}{e:Expr}{es:List Expr}{f:En->Rs T}{g:En->Rs (List T)}(he:QE X e f)(hr:QA X es g)(hn:autoParam (bK e=true) aqd._auto_1):QA X (e::es) (af f g):=
 ⟨qa_c (he:=he.h) (hr:=hr.h) (hn:=hn)⟩
theorem bw {X:Cx}{es:List Expr}{x1:Nat}{pos:Pos}{f:En->Rs (List T)}(h:QA X es f):QE X (Expr.Tuple es x1 pos) (bB f):=
 ⟨IE (h:=h.h)⟩
theorem gV {X:Cx}{es:List Expr}{pos:Pos}{f:En->Rs (List T)}(h:QA X es f):QE X (Expr.List es pos) (eV f):=
 ⟨IK (h:=h.h)⟩
theorem ay {X:Cx}{a b:Expr}{fa fb:En->Rs T}{pos:Pos}{op:Operator}{g:T->T->Rs T}(ho:OpT X (MN op) g)(ha:QE X a fa)(hb:QE X b fb):QE X (Expr.BinOp a op b pos) (o2 g fa fb):=
 ⟨IT (ho:=ho) (ha:=ha.h) (hb:=hb.h)⟩
theorem fg {X:Cx}{a b:Expr}{fa fb:En->Rs T}{pos:Pos}{op:Sn}{g:T->T->Rs T}(ho:OpT X (L0 op) g)(ha:QE X a fa)(hb:QE X b fb)(hm:autoParam (Nv op b=false) aqd._auto_1):QE X (RI a [op] [b] pos) (o2 g fa fb):=
 ⟨IS (ho:=ho) (ha:=ha.h) (hb:=hb.h) (hm:=hm)⟩
theorem gq {X:Cx}{a:Expr}{fa:En->Rs T}{pos:Pos}(ha:QE X a fa):QE X (Qc UnaryOp.USub a pos) (o1 gz fa):=
 ⟨IJ (ha:=ha.h)⟩
theorem tN {X:Cx}{a b c:Expr}{fa fb fc:En->Rs T}{pos:Pos}{op op':Sn}{g g':T->T->Rs T}(ho:OpT X (L0 op) g)(ho':OpT X (L0 op') g')(ha:QE X a fa)(hb:QE X b fb)(hc:QE X c fc)(hm:autoParam (lastMarks [op,op'] [b,c] =false) aqf._auto_1):QE X (RI a [op,op'] [b,c] pos) (ch g g' fa fb fc):=
 ⟨Dp (ho:=ho) (ho':=ho') (ha:=ha.h) (hb:=hb.h) (hc:=hc.h) (hm:=hm)⟩
theorem dh {X:Cx}{e:Expr}{f:En->Rs T}(h:QE X e f)(he:autoParam (∀(whole:Sem La),PySem.isTrue e (Cx.env X) whole=(do let v <-whole;standAt (Expr.pos e);holding [v] (truthy v))) aqc._auto_1):QT X e (tb f):=
 ⟨FX (h:=h.h) (he:=he)⟩
theorem bR {X:Cx}{a b:Expr}{fa fb:En->Rs T}{pos:Pos}{op:Sn}{g:T->T->Rs T}(ho:OpT X (L0 op) g)(ha:QE X a fa)(hb:QE X b fb)(hm:autoParam (Nv op b=false) aqd._auto_1):QT X (RI a [op] [b] pos) (tb (o2 g fa fb)):=
 ⟨FZ (ho:=ho) (ha:=ha.h) (hb:=hb.h) (hm:=hm)⟩
theorem tL {X:Cx}{a:Expr}{pos:Pos}{f:En->Rs Bool}(ha:QT X a f):QW X (Nf Qp [a] pos) f:=
 ⟨C6 (ha:=ha.h)⟩
theorem ke {X:Cx}{a:Expr}{pos:Pos}{f:En->Rs Bool}(ha:QT X a f):QW X (Nf Q4 [a] pos) f:=
 ⟨FV (ha:=ha.h)⟩
theorem wX {X:Cx}{a b:Expr}{pos:Pos}{f g:En->Rs Bool}{cp:List Expr}(ha:QT X a f)(hb:QW X (Nf Qp (b::cp) pos) g):QW X (Nf Qp (a::b::cp) pos) (lZ f g):=
 ⟨FW (ha:=ha.h) (hb:=hb.h)⟩
theorem m4 {X:Cx}{a b:Expr}{pos:Pos}{f g:En->Rs Bool}{cp:List Expr}(ha:QT X a f)(hb:QW X (Nf Q4 (b::cp) pos) g):QW X (Nf Q4 (a::b::cp) pos) (ph f g):=
 ⟨Iy (ha:=ha.h) (hb:=hb.h)⟩
theorem m5 {X:Cx}{f:En->Rs Bool}{e:Expr}(h:QW X e f):QT X e f:=
 ⟨qt_w (h:=h.h)⟩
theorem dC {X:Cx}{a:Expr}{pos:Pos}{f:En->Rs Bool}(ha:QT X a f):QT X (Qc UnaryOp.Not a pos) (du f):=
 ⟨FY (ha:=ha.h)⟩
theorem dF {X:Cx}{a:Expr}{fa:En->Rs T}{pos:Pos}{op:BoolOp}(h:QE X a fa):QE X (Nf op [a] pos) fa:=
 ⟨IG (h:=h.h)⟩
theorem dt {X:Cx}{a b:Expr}{fa fb:En->Rs T}{pos:Pos}{cp:List Expr}(ha:QE X a fa)(hb:QE X (Nf Qp (b::cp) pos) fb):QE X (Nf Qp (a::b::cp) pos) (cD fa fb):=
 ⟨IU (ha:=ha.h) (hb:=hb.h)⟩
theorem ES {X:Cx}{a b:Expr}{fa fb:En->Rs T}{pos:Pos}{cp:List Expr}(ha:QE X a fa)(hb:QE X (Nf Q4 (b::cp) pos) fb):QE X (Nf Q4 (a::b::cp) pos) (Co fa fb):=
 ⟨q_or (ha:=ha.h) (hb:=hb.h)⟩
theorem FA {X:Cx}{a:Expr}{fa:En->Rs T}{pos:Pos}(ha:QE X a fa):QE X (Qc UnaryOp.Not a pos) (o1 DN fa):=
 ⟨IH (ha:=ha.h)⟩
theorem zx {X:Cx}{a b c:Expr}{fa fb:En->Rs T}{pos:Pos}{f:En->Rs Bool}(hc:QT X c f)(ha:QE X a fa)(hb:QE X b fb):QE X (Expr.IfExp c a b pos) (Fd f fa fb):=
 ⟨q_if (hc:=hc.h) (ha:=ha.h) (hb:=hb.h)⟩
theorem aB {X:Cx}{a b:Expr}{fa fb:En->Rs T}{pos:Pos}(ha:QE X a fa)(hb:QE X b fb)(hs:autoParam (ym b) aqg._auto_1):QE X (NT a b pos) (o2 aQ fa fb):=
 ⟨q_ix (ha:=ha.h) (hb:=hb.h) (hs:=hs)⟩
theorem kg {X:Cx}:QO X none pN:=
 ⟨Dg ⟩
theorem kf {X:Cx}{a:Expr}{fa:En->Rs T}(ha:QE X a fa):QO X (some a) (pS fa):=
 ⟨Df (ha:=ha.h)⟩
theorem kj {X:Cx}{a:Expr}{fa:En->Rs T}{pos:Pos}{lo hi:Option Expr}{p2:Pos}{fl fu:En->Rs (Option Int)}(ha:QE X a fa)(hl:QO X lo fl)(hu:QO X hi fu):QE X (NT a (Expr.Slice lo hi none p2) pos) (sl fa fl fu):=
 ⟨Dm (ha:=ha.h) (hl:=hl.h) (hu:=hu.h)⟩
theorem Fz {X:Cx}{a:Expr}{fa:En->Rs T}{pos:Pos}{j:Nat}{p1 p2 p3:Pos}(ha:QE X a fa):QE X (NT a (Expr.Slice none none (some (Qc UnaryOp.USub (PB (Const.int 1) j p1) p2)) p3) pos) (o1 C2 fa):=
 ⟨IF (ha:=ha.h)⟩
theorem cj {X:Cx}{e:Expr}{es:List Expr}{fs:En->Rs (List T)}{pos p:Pos}{x:Str}{id:String}{g:List T->Rs T}(hc:CallT X (Value.builtin id) g)(hm:Cx.mg X x=none)(hv:Mf x=some (Value.builtin id))(ha:QA X (e::es) fs)(hn:autoParam (bF (e::es)=true) aqd._auto_1)(hg:autoParam (Gl X x) aqd._auto_1)(h1:autoParam (x≠Lp "__name__") aqb._auto_1)(h2:autoParam ((x == Lp "__debug__")=false) aqb._auto_1):QE X (Nl (Ma x p) (e::es) [] pos) (cl g fs):=
 ⟨q_cB (hc:=hc) (hm:=hm) (hv:=hv) (ha:=ha.h) (hn:=hn) (hg:=hg) (h1:=h1) (h2:=h2)⟩
theorem tO {X:Cx}{e:Expr}{es:List Expr}{fs:En->Rs (List T)}{pos p:Pos}{x:Str}{Ty:String}{g:List T->Rs T}(hc:CallT X (OF Ty) g)(hm:Cx.mg X x=none)(hv:Mf x=some (OF Ty))(ha:QA X (e::es) fs)(hn:autoParam (bF (e::es)=true) aqd._auto_1)(hg:autoParam (Gl X x) aqd._auto_1)(h1:autoParam (x≠Lp "__name__") aqb._auto_1)(h2:autoParam ((x == Lp "__debug__")=false) aqb._auto_1):QE X (Nl (Ma x p) (e::es) [] pos) (cl g fs):=
 ⟨q_cT (hc:=hc) (hm:=hm) (hv:=hv) (ha:=ha.h) (hn:=hn) (hg:=hg) (h1:=h1) (h2:=h2)⟩
theorem zq_c {X:Cx}{e:Expr}{es:List Expr}{fs:En->Rs (List T)}{pos p:Pos}{x:Str}{n k:Nat}{f:Addr}{fd:Mp}{ps:List Str}{g:List T->Rs T}(F:Cw (Cx.prog X) (Cx.w X) (Cx.K X) (Cx.mg X) (Cx.base X) k f fd ps n g)(hr:Room k (Cx.A X))(hm:Cx.mg X x=some (LJ f))(hk:W.keepIn (Cx.K X) (LJ f)=true)(hb:L2.Binds (Cx.K X) fd ps [])(hl:∀(Z:En) (ts:List T),fs Z=Rs.ok ts->M4 ts=n)(ha:QA X (e::es) fs)(hps:autoParam (M4 ps=n) aqd._auto_1)(hn:autoParam (bF (e::es)=true) aqd._auto_1)(hg:autoParam (Gl X x) aqd._auto_1)(h2:autoParam ((x == Lp "__debug__")=false) aqb._auto_1):QE X (Nl (Ma x p) (e::es) [] pos) (cl g fs):=
 ⟨q_c (F:=F) (hr:=hr) (hm:=hm) (hk:=hk) (hb:=hb) (hl:=hl) (ha:=ha.h) (hps:=hps) (hn:=hn) (hg:=hg) (h2:=h2)⟩
theorem zw {X:Cx}{a:Expr}{fa:En->Rs T}{pos p p2:Pos}{tn:Str}{Ty:String}(hm:Cx.mg X (Lp "isinstance")=none)(hmt:Cx.mg X tn=none)(hv:Mf tn=some (OF Ty))(ha:QE X a fa)(hn:autoParam (bK a=true) aqd._auto_1)(hg:autoParam (Gl X (Lp "isinstance")) aqd._auto_1)(hgt:autoParam (Gl X tn) aqd._auto_1)(h1:autoParam (tn≠Lp "__name__") aqb._auto_1)(h2:autoParam ((tn == Lp "__debug__")=false) aqb._auto_1):QE X (Nl (Ma (Lp "isinstance") p) [a,Ma tn p2] [] pos) (o1 (Ef Ty) fa):=
 ⟨q_is (hm:=hm) (hmt:=hmt) (hv:=hv) (ha:=ha.h) (hn:=hn) (hg:=hg) (hgt:=hgt) (h1:=h1) (h2:=h2)⟩
theorem au {X:Cx}{pos:Pos}{x:Str}(i:Nat)(hN:MY (Cx.N X))(hi:autoParam ((Cx.N X)[i]? =some x) aqd._auto_1)(hx:autoParam (L2.Loc (NI (Cx.env X)) x) aqh._auto_1)(hf:autoParam (Cx.fn X x=true\/MQ x (QL (NI (Cx.env X)))=some NameKind.local) aqa._auto_1):QG X (Ma x pos) (gN i):=
 ⟨Dk (i:=i) (hN:=hN) (hi:=hi) (hx:=hx) (hf:=hf)⟩
theorem iC {X:Cx}:Kb X [] vB:=
 ⟨Dj ⟩
theorem cH {X:Cx}{e:Expr}{es:List Expr}{g:T->En->Rs En}{gs:List T->En->Rs En}(h1:QG X e g)(h2:Kb X es gs)(hs:autoParam (List.map (λx=>Prod.snd x) (L9 (e::es) (Cx.env X))=assign e (Cx.env X)::List.map (λx=>Prod.snd x) (L9 es (Cx.env X))) aqd._auto_1):Kb X (e::es) (kW g gs):=
 ⟨zX (h1:=h1.h) (h2:=h2.h) (hs:=hs)⟩
theorem ki {X:Cx}{es:List Expr}{pos:Pos}{k n:Nat}{gs:List T->En->Rs En}(hc:Cx.calm X=true)(h:Kb X es gs)(hn:autoParam (M4 (L9 es (Cx.env X))=n) aqd._auto_1)(hst:autoParam (List.findIdx? (λx=>Prod.fst x) (L9 es (Cx.env X))=none) aqd._auto_1):QG X (Expr.Tuple es k pos) (gT n gs):=
 ⟨Gg (hc:=hc) (h:=h.h) (hn:=hn) (hst:=hst)⟩
theorem cZ {X:Cx}{a:Expr}{fs:En->Rs (List T)}{pos p:Pos}{tg:Expr}(hm:Cx.mg X (Lp "range")=none)(ha:QA X [a] fs)(hg:autoParam (Gl X (Lp "range")) aqd._auto_1)(hs:autoParam (Lx [a] (Cx.env X)= [(false,eval a (Cx.env X))]) aqd._auto_1):QI X tg (Nl (Ma (Lp "range") p) [a] [] pos) (iR fs):=
 ⟨yE (hm:=hm) (ha:=ha.h) (hg:=hg) (hs:=hs)⟩
theorem dw {X:Cx}:QIf X [] bT:=
 ⟨Dh ⟩
theorem kl {X:Cx}{pos:Pos}{elt tg iter:Expr}{ifs:List Expr}{scope:Ov}{N':List Str}{src:List (Option Nat)}{fi:En->Rs (List T)}{tgt:T->En->Rs En}{fc:En->Rs Bool}{fe:En->Rs T}(hc:Cx.calm X=true)(S:LcScope X scope N' src)(hi:QI X tg iter fi)(block:∀(cl:List (Str×Addr)) (C:Addr) (s₀:Ld) (H₀:Hp) (fp:List Addr),QG (cJ X scope cl N' C s₀ H₀ fp) tg tgt/\QIf (cJ X scope cl N' C s₀ H₀ fp) ifs fc/\QE (cJ X scope cl N' C s₀ H₀ fp) elt fe)(hs:autoParam (∀(x:La),Mt iter (Cx.env X) x=pure x) aqc._auto_1):QE X (Q5 elt [{ target:=tg,iter:=iter,ifs:=ifs,is_async:=0 }] scope pos) (jr fi src tgt fc fe):=
 ⟨q_lc (hc:=hc) (S:=S) (hi:=hi.h) (block:=λa1 a2 a3 a4 a5=>⟨(block a1 a2 a3 a4 a5).1.h,(block a1 a2 a3 a4 a5).2.1.h,(block a1 a2 a3 a4 a5).2.2.h⟩) (hs:=hs)⟩
theorem cf {X:Cx}:wR X [] sN:=
 ⟨F4 ⟩
theorem aq {X:Cx}{st:Stmt}{cp:List Stmt}{F G:En->Rs Fl}(h1:QS X st F)(h2:wR X cp G):wR X (st::cp) (aC F G):=
 ⟨De (h1:=h1.h) (h2:=h2.h)⟩
theorem ax {X:Cx}{st:Stmt}{F:En->Rs Fl}(h:QS X st F):wR X [st] F:=
 ⟨F3 (h:=h.h)⟩
theorem aD {X:Cx}{a:Expr}{fa:En->Rs T}{pos:Pos}(ha:QE X a fa):QS X (Stmt.Return (some a) pos) (aM fa):=
 ⟨F0 (ha:=ha.h)⟩
theorem cX {X:Cx}{c:Expr}{pos:Pos}{f:En->Rs Bool}{A B:List Stmt}{F G:En->Rs Fl}(hc:QT X c f)(ha:wR X A F)(hb:wR X B G):QS X (Stmt.If c A B pos) (gf f F G):=
 ⟨IB (hc:=hc.h) (ha:=ha.h) (hb:=hb.h)⟩
theorem Fw {X:Cx}{pos:Pos}{elt tg iter:Expr}{ifs:List Expr}{scope:Ov}{spos py:Pos}{N':List Str}{src:List (Option Nat)}{fi:En->Rs (List T)}{tgt:T->En->Rs En}{fc:En->Rs Bool}{fe:En->Rs T}(i:Nat){y:Str}(hc:Cx.calm X=true)(S:LcScope X scope N' src)(hi:QI X tg iter fi)(block:∀(cl:List (Str×Addr)) (C:Addr) (s₀:Ld) (H₀:Hp) (fp:List Addr),QG (cJ X scope cl N' C s₀ H₀ fp) tg tgt/\QIf (cJ X scope cl N' C s₀ H₀ fp) ifs fc/\QE (cJ X scope cl N' C s₀ H₀ fp) elt fe)(hN:MY (Cx.N X))(hiy:autoParam ((Cx.N X)[i]? =some y) aqd._auto_1)(hy:autoParam (L2.Loc (NI (Cx.env X)) y) aqh._auto_1)(hsw:autoParam (L5 (Q5 elt [{ target:=tg,iter:=iter,ifs:=ifs,is_async:=0 }] scope pos) (some (Ma y py)) (N8 spos) (Cx.env X)=pure true) aqd._auto_1)(hf:autoParam (Cx.fn X y=true\/MQ y (QL (NI (Cx.env X)))=some NameKind.local) aqa._auto_1)(hs:autoParam (∀(x:La),Mt iter (Cx.env X) x=pure x) aqc._auto_1):QS X (PC [Ma y py] (Q5 elt [{ target:=tg,iter:=iter,ifs:=ifs,is_async:=0 }] scope pos) spos) (cE (jr fi src tgt fc fe) (gN i)):=
 ⟨IA (i:=i) (hc:=hc) (S:=S) (hi:=hi.h) (block:=λa1 a2 a3 a4 a5=>⟨(block a1 a2 a3 a4 a5).1.h,(block a1 a2 a3 a4 a5).2.1.h,(block a1 a2 a3 a4 a5).2.2.h⟩) (hN:=hN) (hiy:=hiy) (hy:=hy) (hsw:=hsw) (hf:=hf) (hs:=hs)⟩
theorem aI {X:Cx}{a:Expr}{fa:En->Rs T}{pos:Pos}{tg:Expr}{g:T->En->Rs En}(ha:QE X a fa)(hg:QG X tg g)(hs:autoParam (OA [tg] a (N8 pos) (Cx.env X)=pure false) aqd._auto_1)(hw:autoParam (OB [tg] a (Cx.env X)=pure none) aqd._auto_1)(h1:autoParam (List.map (λx=>Prod.snd x) (L9 [tg] (Cx.env X))= [assign tg (Cx.env X)]) aqd._auto_1):QS X (PC [tg] a pos) (cE fa g):=
 ⟨Gb (ha:=ha.h) (hg:=hg.h) (hs:=hs) (hw:=hw) (h1:=h1)⟩
theorem cY {X:Cx}{a:Expr}{fa:En->Rs T}{pos:Pos}(ha:QE X a fa)(hs:autoParam (L5 a none (N8 pos) (Cx.env X)=pure false) aqd._auto_1):QS X (Stmt.Expr a pos) (tJ fa):=
 ⟨Dd (ha:=ha.h) (hs:=hs)⟩
theorem eF {X:Cx}{pos:Pos}{tg iter:Expr}{body:List Stmt}{fi:En->Rs (List T)}{g:T->En->Rs En}{F:En->Rs Fl}(hc:Cx.calm X=true)(hi:QI X tg iter fi)(hg:QG (Cx.nox X) tg g)(hb:wR (Cx.nox X) body F)(hs:autoParam (∀(x:La),Mt iter (Cx.env X) x=pure x) aqc._auto_1):QS X (Stmt.For tg iter body [] pos) (jy fi g F):=
 ⟨F6 (hc:=hc) (hi:=hi.h) (hg:=hg.h) (hb:=hb.h) (hs:=hs)⟩
theorem yo {X:Cx}{pos:Pos}{c:Expr}{body:List Stmt}{fc:En->Rs Bool}{F:En->Rs Fl}(n:Nat)(hc:QT (Cx.nox X) c fc)(hb:wR (Cx.nox X) body F):QS X (Stmt.While c body [] pos) (bN fc F n):=
 ⟨zV (n:=n) (hc:=hc.h) (hb:=hb.h)⟩
theorem gc {X:Cx}{a:Expr}{fa:En->Rs T}{tg:Expr}(ha:QE X a fa):QI X tg a (iS fa):=
 ⟨Gf (ha:=ha.h)⟩
theorem kh {X:Cx}{a:Expr}{fs:En->Rs (List T)}{p pos:Pos}{elts:List Expr}{kk:Nat}{tpos:Pos}(hm:Cx.mg X (Lp "enumerate")=none)(ha:QA X [a] fs)(hg:autoParam (Gl X (Lp "enumerate")) aqd._auto_1)(hs:autoParam (Lx [a] (Cx.env X)= [(false,eval a (Cx.env X))]) aqd._auto_1):QI X (Expr.Tuple elts kk tpos) (Nl (Ma (Lp "enumerate") p) [a] [] pos) (iE fs):=
 ⟨Di (hm:=hm) (ha:=ha.h) (hg:=hg) (hs:=hs)⟩
theorem iB {X:Cx}{es:List Expr}{pos p2 p3:Pos}{x:Str}(i:Nat){f:En->Rs (List T)}(hN:MY (Cx.N X))(ha:QA X es f)(hi:autoParam ((Cx.N X)[i]? =some x) aqd._auto_1)(hx:autoParam (L2.Loc (NI (Cx.env X)) x) aqh._auto_1)(hs:autoParam (L5 (Expr.List es p2) (some (Ma x p3)) (N8 pos) (Cx.env X)=pure false) aqd._auto_1)(hf:autoParam (Cx.fn X x=true\/MQ x (QL (NI (Cx.env X)))=some NameKind.local) aqa._auto_1):QS X (PC [Ma x p3] (Expr.List es p2) pos) (iM i f):=
 ⟨C7 (i:=i) (hN:=hN) (ha:=ha.h) (hi:=hi) (hx:=hx) (hs:=hs) (hf:=hf)⟩
theorem mO {X:Cx}{a:Expr}{fa:En->Rs T}{pos p2:Pos}{x:Str}(i:Nat){apos cpos:Pos}(ha:QE X a fa)(hN:autoParam ((Cx.N X)[i]? =some x) aqd._auto_1)(hv:autoParam (mK (NI (Cx.env X)) x) aqe._auto_1)(hn:autoParam (bK a=true) aqd._auto_1)(hbase:autoParam (LP (Ma x p2) (Lp "append") (Cx.env X) (eval (Ma x p2) (Cx.env X))=eval (Ma x p2) (Cx.env X)) aqd._auto_1)(hline:autoParam ((QN apos == N8 cpos)=true) aqd._auto_1)(hd:autoParam ((x == Lp "__debug__")=false) aqb._auto_1)(hcd:autoParam ((x == Lp "__classdict__")=false) aqb._auto_1)(hsw:autoParam (L5 (Nl (NU (Ma x p2) (Lp "append") apos) [a] [] cpos) none (N8 pos) (Cx.env X)=pure false) aqd._auto_1):QS X (Stmt.Expr (Nl (NU (Ma x p2) (Lp "append") apos) [a] [] cpos) pos) (ly i fa):=
 ⟨Gd (i:=i) (ha:=ha.h) (hN:=hN) (hv:=hv) (hn:=hn) (hbase:=hbase) (hline:=hline) (hd:=hd) (hcd:=hcd) (hsw:=hsw)⟩
theorem qQ {X:Cx}{a:Expr}{fa:En->Rs T}{pos p2:Pos}{x:Str}(i:Nat){apos cpos:Pos}(ha:QE X a fa)(hN:autoParam ((Cx.N X)[i]? =some x) aqd._auto_1)(hv:autoParam (mK (NI (Cx.env X)) x) aqe._auto_1)(hn:autoParam (bK a=true) aqd._auto_1)(hbase:autoParam (LP (Ma x p2) (Lp "extend") (Cx.env X) (eval (Ma x p2) (Cx.env X))=eval (Ma x p2) (Cx.env X)) aqd._auto_1)(hline:autoParam ((QN apos == N8 cpos)=true) aqd._auto_1)(hd:autoParam ((x == Lp "__debug__")=false) aqb._auto_1)(hcd:autoParam ((x == Lp "__classdict__")=false) aqb._auto_1)(hsw:autoParam (L5 (Nl (NU (Ma x p2) (Lp "extend") apos) [a] [] cpos) none (N8 pos) (Cx.env X)=pure false) aqd._auto_1):QS X (Stmt.Expr (Nl (NU (Ma x p2) (Lp "extend") apos) [a] [] cpos) pos) (nH i fa):=
 ⟨F7 (i:=i) (ha:=ha.h) (hN:=hN) (hv:=hv) (hn:=hn) (hbase:=hbase) (hline:=hline) (hd:=hd) (hcd:=hcd) (hsw:=hsw)⟩
theorem jg {X:Cx}(i:Nat){st:Stmt}{F:En->Rs Fl}(h:QS X st F):QS X st (pC i F):=
 ⟨F9 (i:=i) (h:=h.h)⟩
theorem fJ {X:Cx}(i:Nat){e:Expr}{f:En->Rs T}(h:QE X e f):QE X e (ln i f):=
 ⟨q_ln (i:=i) (h:=h.h)⟩
theorem Fv {X:Cx}(i:Nat){e:Expr}{f:En->Rs Bool}(h:QT X e f):QT X e (GW i f):=
 ⟨Iz (i:=i) (h:=h.h)⟩
theorem Fy {X:Cx}{pos:Pos}:QS X (Stmt.Continue pos) EV:=
 ⟨IC ⟩
theorem fE {X:Cx}{c:Str}{msg:Str}{C:Addr}{bm:List La}{np p1 cpos pos:Pos}{j:Nat}(O:OX X.K C bm)(hm:X.mg c=some (.ref C))(hc:autoParam (X.calm=true) aqd._auto_1)(hg:autoParam (Gl X c) aqd._auto_1)(hd:autoParam ((c == ("__debug__" : Str))=false) aqb._auto_1) :
  QS X (.Raise (some (.Call (.Name c np) [.Constant (.str msg) j p1] [] cpos)) none pos) (ui c):=⟨zW O.own hc hm hg hd⟩
theorem qS {P:LI}{w:Mj}{K:K7}{mg:Str->Option La}{base:Heap}{x qual:Str}{st:Stmt}{f:Addr}{fd:Mp}{N ps:List Str}{k n:Nat}{F:En->Rs Fl}(Fn:L2.Fun K x qual st f fd)(S:az N ps (aj st))(hn:ps.length=n)
  (hbody:∀(cdv:La) (A:LZ) (outer:List Env) (s:Ld) (H:Hp) (E:XK),Room k (A.deeper (envOfC qual (aj st) s.heap.objs.size f cdv)) →
   ∀xe,wR ((gb CX0 P w K mg base N qual (aj st) f cdv A outer s H E).FB xe) (bM st) F):Cw P w K mg base (k+1) f fd ps n (val n N.length F):=Hs Fn S hn λcdv A outer s H E hr xe=>(hbody cdv A outer s H E hr xe).h
theorem zA {X:Cx}{a b:Expr}{fa fb:En->Rs T}{pos:Pos}(hu:O8 (Cx.A X)+1<cLine)(ha:QE X a fa)(hb:QE X b fb)(hs:autoParam (EK b) aqg._auto_1):QE X (NT a b pos) (o2 ti fa fb):=
 ⟨IQ (hu:=hu) (ha:=ha.h) (hb:=hb.h) (hs:=hs)⟩
theorem wZ {X:Cx}{a b:Expr}{fa fb:En->Rs T}{apos cpos:Pos}(hu:O8 (Cx.A X)+1<cLine)(ha:QE X a fa)(hb:QE X b fb)(hn:autoParam (bK b=true) aqd._auto_1)(hbase:autoParam (LP a (Lp "get") (Cx.env X) (eval a (Cx.env X))=eval a (Cx.env X)) aqd._auto_1)(hline:autoParam ((QN apos == N8 cpos)=true) aqd._auto_1):QE X (Nl (NU a (Lp "get") apos) [b] [] cpos) (oD iz fa fb):=
 ⟨Gj (hu:=hu) (ha:=ha.h) (hb:=hb.h) (hn:=hn) (hbase:=hbase) (hline:=hline)⟩
theorem yp {X:Cx}{a b:Expr}{fa fb:En->Rs T}{apos cpos:Pos}(hu:O8 (Cx.A X)+61<cLine)(ha:QE X a fa)(hb:QE X b fb)(hn:autoParam (bK b=true) aqd._auto_1)(hbase:autoParam (LP a (Lp "index") (Cx.env X) (eval a (Cx.env X))=eval a (Cx.env X)) aqd._auto_1)(hline:autoParam ((QN apos == N8 cpos)=true) aqd._auto_1):QE X (Nl (NU a (Lp "index") apos) [b] [] cpos) (oL gk fa fb):=
 ⟨zY (hu:=hu) (ha:=ha.h) (hb:=hb.h) (hn:=hn) (hbase:=hbase) (hline:=hline)⟩
theorem zu {X:Cx}{e:Expr}{f:En->Rs T}{x:Str}{p pos p2 p3:Pos}(i:Nat)(hu:O8 (Cx.A X)+8<cLine)(hc:Cx.calm X=true)(hm:Cx.mg X (Lp "dict")=none)(hN:MY (Cx.N X))(ha:QE X e f)(hst:autoParam (bK e=true) aqd._auto_1)(hg:autoParam (Gl X (Lp "dict")) aqd._auto_1)(hi:autoParam ((Cx.N X)[i]? =some x) aqd._auto_1)(hx:autoParam (L2.Loc (NI (Cx.env X)) x) aqh._auto_1)(hs:autoParam (L5 (Nl (Ma (Lp "dict") p) [e] [] p2) (some (Ma x p3)) (N8 pos) (Cx.env X)=pure false) aqd._auto_1)(hf:autoParam (Cx.fn X x=true\/MQ x (QL (NI (Cx.env X)))=some NameKind.local) aqa._auto_1):QS X (PC [Ma x p3] (Nl (Ma (Lp "dict") p) [e] [] p2) pos) (qg i f):=
 ⟨C8 (i:=i) (hu:=hu) (hc:=hc) (hm:=hm) (hN:=hN) (ha:=ha.h) (hst:=hst) (hg:=hg) (hi:=hi) (hx:=hx) (hs:=hs) (hf:=hf)⟩
theorem CF {X:Cx}{b c:Expr}{fb fc:En->Rs T}{pos p2 p3:Pos}{x:Str}(i:Nat)(hu:O8 (Cx.A X)+1<cLine)(hb:QE X b fb)(hc:QE X c fc)(hN:autoParam ((Cx.N X)[i]? =some x) aqd._auto_1)(hv:autoParam (mK (NI (Cx.env X)) x) aqe._auto_1)(hd:autoParam ((x == Lp "__debug__")=false) aqb._auto_1)(hcd:autoParam ((x == Lp "__classdict__")=false) aqb._auto_1)(hs:autoParam (L5 c (some (NT (Ma x p2) b p3)) (N8 pos) (Cx.env X)=pure false) aqd._auto_1):QS X (PC [NT (Ma x p2) b p3] c pos) (yC i fb fc):=
 ⟨F2 (i:=i) (hu:=hu) (hb:=hb.h) (hc:=hc.h) (hN:=hN) (hv:=hv) (hd:=hd) (hcd:=hcd) (hs:=hs)⟩
end Tr
namespace Tr
open PySem PySem.Spec PyProof.Rows L2 PySem.W
theorem Bo (h:Heap):(u5 h).In h:=by
 have key:∀(l:List Nat) (a:Addr) (o:Obj),(l.filterMap λa=>(h.get? a).map λo=>(a,o)).lookup a=some o->h.get? a=some o:=by
  intro l
  induction l with
  | nil=>intro a o e;cases e
  | cons b r ih=>
   intro a o e
   cases hb:h.get? b with
   | none=>rw[List.filterMap_cons_none (by rw[hb];rfl)]at e;exact ih a o e
   | some ob=>
    rw[List.filterMap_cons_some (b:=(b,ob)) (by rw[hb];rfl),L8]at e
    cases q:a == b with
    | true=>rw[q]at e;cases e;rw[eq_of_beq q];exact hb
    | false=>rw[q]at e;exact ih a o e
 exact λa o e=>key _ a o e
theorem Fe {K:Frag}{n:Str}{st:Stmt}(e:obF K n=exF n st):∃f fd,nsIn K LV n=some (some (.ref f))/\L2.Fun K n n st f fd:=by
 unfold obF at e
 split at e
 ·rename_i f hf
  split at e
  ·rename_i oc od d sl hl
   cases d;unfold exF at e;simp only[Of,Py]at e;obtain⟨h1,h2,h3,h4,h5,h6,h7,h8,h9,h10,h11⟩:=e;subst h1 h2 h3 h4 h5 h6 h7 h8 h9;exact⟨f,_,hf,Bk hl h10 h11⟩
  ·cases e
 ·cases e
theorem nY {K:Frag}{N:Addr}{n:Str}(e:Jg K N n=true):nsIn K N n=some none:=by
 unfold Jg at e
 split at e
 ·assumption
 ·cases e
theorem GO {K:Frag}{n:Str}{i:Int}(e:J8 K n=some i):∃t,nsIn K LV n=some (some (.int i t)):=by
 unfold J8 at e
 split at e
 ·rename_i i' t h;cases e;exact⟨t,h⟩
 ·cases e
theorem ng:∀{l:List La},w9 l=true->l=tK:=by
 intro l e;unfold w9 at e
 split at e
 ·simp only[K8,beq_iff_eq]at e
  obtain⟨⟨⟨h1,h2⟩,h3⟩,h4⟩:=e;subst h1 h2 h3 h4;rfl
 ·cases e
theorem gx {K:Frag}{D:Option Addr}{n:Str}{C:Addr}(e:DM K D n=some C):nsIn K LV n=some (some (.ref C)) ∧
  ∃nm q N bs bm hd sn su ab co dd k0 k1 k2 k3 k5,under D bm=true/\K.lookup C=some (NW nm q C N bs bm hd sn su ab co dd k0 k1 k2 k3 k5 "ValueError.__new__")/\∀h:Heap,K.In h->∃mN,h.Ns N mN/\∀n∈calmNames,mN n=none:=by
 unfold DM at e
 split at e
 ·rename_i C' hC
  split at e
  ·rename_i t dd c k0 k1 k2 k3 b k5 hl
   split at e
   ·rename_i E m ob oe es ep oz hm hN
    split at e
    ·rename_i hq
     cases e;simp only[K8,beq_iff_eq,Rr]at hq;obtain⟨⟨⟨⟨⟨⟨h1,h2⟩,h3⟩,h4⟩,h5⟩,h6⟩,h7⟩:=hq
     have z:=LG.mp h5;refine⟨hC,c.name,c.qualname,c.ns,c.bases,m,c.hasDict,c.slotNames,c.subclasses,c.abstract,c.collection,dd,k0,k1,k2,k3,k5,h7,?_,Ji hN h4 (nY (z _ (.head _))) (nY (z _ (.tail _ (.head _)))) (nY (z _ (.tail _ (.tail _ (.head _))))) (nY (z _ (.tail _ (.tail _ (.tail _ (.head _))))))⟩
     rw[hl];cases c;simp only at hm h3;subst h1 h2 hm h3 h6
     rfl
    ·cases e
   ·cases e
  ·cases e
 ·cases e
theorem ox0 {K:Frag}{C:Addr}{n:Str}(e:DM K none n=some C):OX K C tK:=by
 obtain⟨_,_,_,_,_,_,_,_,_,_,_,_,_,_,_,_,_,hu,hl,hn⟩:=gx e;cases ng hu;exact DE hl hn
theorem HN {K:Frag}{C D:Addr}{n m:Str}(e:DM K (some D) n=some C)(d:DM K none m=some D):OX K C (.ref D::tK):=by
 obtain⟨_,_,_,_,_,bm,_,_,_,_,_,_,_,_,_,_,_,hu,hl,hn⟩:=gx e;obtain⟨_,_,_,_,_,_,_,_,_,_,_,_,_,_,_,_,_,hu',hl',hn'⟩:=gx d;cases ng hu';unfold under at hu;simp only at hu
 split at hu
 ·rw[K8]at hu
  cases eq_of_beq hu.1;cases ng hu.2;exact An hl hn hl' hn'
 ·cases hu
theorem fH {α:Type}{o:Option α}{r:List (Option α)}{l:List α}(e:wO (o::r)=some l):∃a l',o=some a/\l=a::l'/\wO r=some l':=by
 cases o with
 | none=>cases e
 | some a=>
  unfold wO at e
  split at e
  ·rename_i l' h;cases e;exact⟨a,l',rfl,rfl,h⟩
  ·cases e
theorem B7 {α:Type}{l:List α}(e:wO ([]:List (Option α))=some l):l= []:=by cases e;rfl
theorem ql:∀{l:List Addr},r8 l=true->l.Nodup
 | [],_=> .nil
 | a::r,h=>by
  unfold r8 at h;rw[K8]at h;refine LF.mpr ⟨λhm=> ?_,ql h.2⟩
  have:=LG.mp h.1 a hm
  simp at this
theorem GN {K:Frag}{m:Str}{es:List Str}(e:J6 K (m::es)=true):∃D l,DM K none m=some D/\wO (es.map (DM K (some D)))=some l/\(l++ [D]).Nodup:=by
 rw[J6]at e
 split at e
 ·rename_i D hD
  split at e
  ·rename_i l hl;exact⟨D,l,hD,hl,ql e⟩
  ·cases e
 ·cases e
section
variable {S:Cj}{top:Nat->Stmt}{K:Frag}{h:Heap}{mg:Str->Option La}
theorem lM {α β:Type}{f g:α->β}:∀{l:List α} (j:Nat) {a:α},l.map f=l.map g->l[j]? =some a->f a=g a
 | [],_,_,_,q=>by cases q
 | b::l,0,a,e,q=>by cases q;exact(Q6.inj e).1
 | b::l,j+1,a,e,q=>lM (l:=l) j (Q6.inj e).2 q
theorem cz (j:Nat){n:Str}{i:Nat}{ps:List Str}(X:K.In h)(G:h.Ns LV mg)(e:uE S K=tU S top)(q:S.tab[j]? =some (n,i))
  (hb:∀(kV doc pm:La) (an:Option Addr) (cdv ct:La) (us:List La),us.length=ps.length->RZ (fnOf n n (fD (top i)) (bM (top i)) (aj (top i)) .none kV doc pm an cdv ct) ⟨us,[]⟩=pure (ps.zip us)) :
  ∃f fd,Fn K mg n (top i) ps f fd:=by
 obtain⟨f,fd,h1,h2⟩:=Fe (lM j (congrArg (·.1) e) q)
 exact⟨f,fd,h2,h2.binds hb,mg_of X G h1⟩
theorem Jz (j:Nat){n:Str}{i:Nat}{x:Str}{fa:Addr}(X:K.In h)(G:h.Ns LV mg)(e:uE S K=tU S top)(q:S.tab[j]? =some (n,i))(hfa:mg n=some (.ref fa))
  (hb:∀(kV doc pm:La) (an:Option Addr) (cdv ct u:La),RZ (fnOf n n (fD (top i)) (bM (top i)) (aj (top i)) .none kV doc pm an cdv ct) ⟨[u],[]⟩=pure [(x,u)]) :
  ∃fd,Fn K mg n (top i) [x] fa fd/\∀(s:Ld) (u:La),Qk s fd ⟨[u],[]⟩ [(x,u)]:=by
 obtain⟨f,fd,h1,h2⟩:=Fe (lM j (congrArg (·.1) e) q)
 have z:=hfa.symm.trans (mg_of X G h1);cases z
 have hh:=h2;obtain⟨oc,od,kV,doc,pm,an,cdv,ct,osl,rfl,lk,hcd⟩:=hh.ex;exact⟨_,⟨h2,.all λus hl=>match us,hl with | [u],_=>hb kV doc pm an cdv ct u,mg_of X G h1⟩,λs u=> .of_eq (hb kV doc pm an cdv ct u)⟩
theorem g8 (j:Nat){n:Str}(X:K.In h)(G:h.Ns LV mg)(e:uE S K=tU S top)(q:S.zs[j]? =some n):mg n=none:=
 mg_none_of X G (nY (LG.mp (congrArg (·.2.1) e:S.zs.all (Jg K LV)=true) n (Mu q)))
theorem qv (j:Nat){n:Str}{i:Int}(X:K.In h)(G:h.Ns LV mg)(e:uE S K=tU S top)(q:S.cs[j]? =some (n,i)):∃t,mg n=some (.int i t):=by
 obtain⟨t,ht⟩:=GO (lM (f:=λc=>J8 K c.1) (g:=λc=>some c.2) j (congrArg (·.2.2.1) e) q)
 exact⟨t,mg_of X G ht⟩
theorem JD (e:uE S K=tU S top):J6 K S.es=true:=congrArg (·.2.2.2) e
end
theorem left_of {p q:LI}{loose:List Str}{Xt:Ld->Bool}{α:Type}{Yf:Ld->α}{Ya:Mj->α}{N:Nat}{g0:Bool}
  (e:opening p=plainProg p.main.scope.names) (hN:Nat.ble 600 N=true) (f:∀s,fenceModules? p s=some s)
  (h:∀(w:Mj) (os:Pe),(topFrom Ra p w N ⟨boot_heap w.params,⟨[]⟩,boot_drawn,boot_toks,os⟩).map (λs=>(openSeen q loose (Qi p.main.body) Xt g0 s,Yf s))=some (openGood q loose,Ya w)) :
  LeftO p q loose Xt Yf Ya N g0:=λw=>by
 obtain⟨⟨h0,gs,d,k,os⟩,e1,e2⟩:=PP.mp (boot_open e hN f w);simp only[Py]at e2;obtain⟨rfl,rfl,rfl,rfl⟩:=e2;unfold openEnds;rw[e1];exact h w os
structure Cl (P:LI)(w:Mj)(K:Frag)(mg:Str->Option La)(base:Heap)(k:Nat)(x:Str)(n:Nat)(m:List T->Rs T):Prop where
 ex:∃f fd ps,mg x=some (.ref f)/\keepIn K (.ref f)=true/\Binds K fd ps []/\ps.length=n/\Cw P w K mg base k f fd ps n m
abbrev fZ (K:Frag)(mg:Str->Option La)(x:Str)(st:Stmt)(ps:List Str):Prop:=∃f fd,Fn K mg x st ps f fd
section
variable {P:LI}{w:Mj}{K:Frag}{mg:Str->Option La}{base:Heap}{x:Str}{st:Stmt}{N ps:List Str}{k n:Nat}{F:En->Rs Fl}
theorem bu (H:fZ K mg x st ps)(S:az N ps (aj st))(hn:ps.length=n)
  (hbody:∀(f:Addr) (cdv:La) (A:LZ) (outer:List Env) (s:Ld) (H:Hp) (E:XK),Room k (A.deeper (envOfC x (aj st) s.heap.objs.size f cdv)) →
   ∀xe,wR ((gb CX0 P w K mg base N x (aj st) f cdv A outer s H E).FB xe) (bM st) F):Cl P w K mg base (k+1) x n (val n N.length F):=by
 obtain⟨f,fd,h⟩:=H;exact⟨f,fd,ps,h.mg,h.fn.kp,h.bd,hn,qS h.fn S hn (hbody f)⟩
end
section
variable {X:Cx}{e:Expr}{es:List Expr}{fs:En->Rs (List T)}{pos p:Pos}{x:Str}{n k k':Nat}{g:List T->Rs T}
theorem aN (c:Cl X.prog X.w X.K X.mg X.base k x n g)(hr:Room k' X.A)(ha:QA X (e::es) fs)(hk:autoParam (k<=k') aqb._auto_1)(hl:∀(Z:En) (ts:List T),fs Z= .ok ts->ts.length=n:=by repeat first | exact yk | refine yj ?_)
  (hn:autoParam (bF (e::es)=true) aqd._auto_1) (hg:autoParam (Gl X x) aqd._auto_1) (h2:autoParam ((x == Lp "__debug__")=false) aqb._auto_1):QE X (.Call (.Name x p) (e::es) [] pos) (cl g fs):=by
 obtain⟨f,fd,ps,h1,h3,h4,h5,h6⟩:=c.ex;exact zq_c h6 (hr.mono hk) h1 h3 h4 hl ha h5 hn hg h2
theorem tM {i:Int}(h:∃t,X.mg x=some (.int i t))(hg:autoParam (Gl X x) aqd._auto_1)(hd:autoParam ((x == Lp "__debug__")=false) aqb._auto_1):QE X (.Name x pos) (cn (.int i)):=by
 obtain⟨t,h⟩:=h;exact CI h ⟨_,rfl⟩ hg hd
end
theorem DS {K:Frag}{C:Addr}{m q:Str}{st:Stmt}(e:Jh K C m q=JN m q st):∃f fd,vo K C m f/\L2.Fun K m q st f fd:=by
 unfold Jh at e
 split at e
 ·rename_i f hf
  split at e
  ·rename_i oc od d sl hl
   cases d;unfold JN at e;simp only[Of,Py]at e;obtain⟨h1,h2,h3,h4,h5,h6,h7,h8,h9,h10,h11,h12⟩:=e;subst h1 h2 h3 h4 h5 h6 h7 h8 h9;exact⟨f,_,⟨hf,h12,h11⟩,Bk hl h10 h11⟩
  ·cases e
 ·cases e
theorem DP {K:Frag}{C:Addr}{f:Str}(e:GP K C f=true):NoAttr K C f:=by
 unfold GP at e
 split at e
 ·assumption
 ·cases e
theorem C0 {K:Frag}{C:Addr}(e:FP K C=true):findIn K (.ref C) "__setattr__" =some (some (.builtin "object.__setattr__")):=by
 unfold FP at e
 split at e
 ·rename_i b h;rw[h,eq_of_beq e]
 ·cases e
structure p9 (K:Frag)(mg:Str->Option La)(c:Str):Prop where
 cl:Cls K (bU K c)
 mg:mg c=some (.ref (bU K c))
 mks:makesIn K (bU K c)=true
 kp:keepIn K (.ref (bU K c))=true
abbrev p7 (K:Frag)(c m q:Str)(st:Stmt)(ps:List Str):Prop:=∃f fd,vo K (bU K c) m f/\L2.Fun K m q st f fd/\Binds K fd ps []
section
variable {K:Frag}{h:Heap}{mg:Str->Option La}{top:Nat->Stmt}{A:ER}
theorem JF (X:K.In h)(G:h.Ns LV mg)(e:J7 K A=J9 top A):p9 K mg A.c/\(∀f∈A.as,NoAttr K (bU K A.c) f)/\A.ms.map (λ(m:Str×Str×Nat)=>Jh K (bU K A.c) m.1 m.2.1)=A.ms.map (λ(m:Str×Str×Nat)=>JN m.1 m.2.1 (cV (top A.i) m.2.2)):=by
 unfold J7 at e
 split at e
 ·rename_i C hC
  unfold J9 at e;simp only[Of,Py]at e;obtain⟨e1,e2⟩:=e
  have hc:bU K A.c=C:=by unfold bU;rw[hC]
  unfold Fi at e1;simp only[K8]at e1;obtain⟨⟨⟨⟨⟨⟨h1,h2⟩,h3⟩,h4⟩,h5⟩,h6⟩,h7⟩:=e1;rw[hc];exact⟨⟨by rw[hc];exact⟨h1,h2,h3,C0 h4⟩,by rw[hc];exact mg_of X G hC,by rw[hc];exact h5,by rw[hc];exact h6⟩,λf hf=>DP (LG.mp h7 f hf),e2⟩
 ·cases e
theorem j5 (j:Nat){m q:Str}{i:Nat}{ps:List Str}(e:A.ms.map (λ(m:Str×Str×Nat)=>Jh K (bU K A.c) m.1 m.2.1)=A.ms.map (λ(m:Str×Str×Nat)=>JN m.1 m.2.1 (cV (top A.i) m.2.2)))(z:A.ms[j]? =some (m,q,i))
  (hb:∀(kV doc pm:La) (an:Option Addr) (cdv ct:La) (us:List La),us.length=ps.length->RZ (fnOf m q (fD (cV (top A.i) i)) (bM (cV (top A.i) i)) (aj (cV (top A.i) i)) .none kV doc pm an cdv ct) ⟨us,[]⟩=pure (ps.zip us)) :
  p7 K A.c m q (cV (top A.i) i) ps:=by
 obtain⟨f,fd,h1,h2⟩:=DS (lM j e z);exact⟨f,fd,h1,h2,h2.binds hb⟩
end
def hookC (S:vt)(top:Nat->Stmt):Hook:=
 ⟨_,λs=>Aw S (u5 s.heap),λ_=>zG S top,λ_ h=> ∃K:Frag,K.In h/\Aw S K=zG S top,λ_ s e=>⟨_,Bo s.heap,e⟩,λ_ _ _ ⟨K,a,b⟩ k=>⟨K,a.keeps k,b⟩⟩
theorem walk_c {l:OpenLaw}{n k:Nat}{q:LI}{loose:List Str}{XP:(Str->Option La)->Heap->Prop}{d:DefRec}{S:vt}{top:Nat->Stmt}{CX:Cy}{sp:Frag->Sp}{x:Str}
  (hn:l.most=some n) (hn2:n<=sizeLine) (hdf:d.params.defaults= []) (hr:Room k callerA)
  (F:∀(w:Mj) (K:Frag) (mg:Str->Option La) (fa:Addr) (h:Heap),K.In h->Aw S K=zG S top->h.Ns LV mg->mg d.name=some (.ref fa) →
   ∃fd:Mp,(∀(s:Ld) (u:La),Qk s fd ⟨[u],[]⟩ [(x,u)])/\∀base:Heap,K.In base->base.Ns LV mg->o9 l.prog w K mg base CX k fa fd [x] (sp K))
  (hsp:∀(K:Frag) (H:Hp) (a:Addr) (ns:List Int),ns.length<=n->HL H->SqL K H a (ns.map V.int)->sp K [.ref a] H (λv _=>v= .bl true) λ_ _ _=>False)
  (hCX:∀(H:Hp) (s:Ld) (e:La) (s':Ld),CX [] H s (λ_ _ _=>False) e s'->False) :
  WalkO q loose XP (hookC S top).says l.row.toRowW d [] (λf vs=>PySem.call f vs):=by
 refine Att.attach_call hn hdf λw s₀ s₁ mg mb fa o pm cd doc a vs ns G Y ho hd hcd hmg hobj hints hlen hg=> ?_
 obtain⟨K,KX,e⟩:=Y;obtain⟨fd,hb,hF⟩:=F w K mg fa _ KX e G.T.g hmg;exact AS KX G.T.g G.T.b G.T.builtins G.T.nolimit hg hobj hints (Me hlen hn2) hr hF hb (λH hO hS=>hsp K H a ns hlen hO hS) λH e s'=>hCX H s₁ e s'
structure Ml (P:LI)(w:Mj)(K:Frag)(mg:Str->Option La)(base:Heap)(k:Nat)(c m:Str)(g:List T->Rs T):Prop where
 ex:∃f fd ps,vo K (bU K c) m f/\Binds K fd ps []/\ps.length=1/\Cw P w K mg base k f fd ps 1 g
structure Mm (P:LI)(w:Mj)(K:Frag)(mg:Str->Option La)(base:Heap)(k:Nat)(c m:Str)(n:Nat)(g:List Sl->Rs (T×OT)):Prop where
 ex:∃f fd ps,vo K (bU K c) m f/\Binds K fd ps []/\ps.length=n/\EN P w K mg base k f fd ps n 0 g
structure Ce (P:LI)(w:Mj)(K:Frag)(mg:Str->Option La)(base:Heap)(k:Nat)(x:Str)(n j:Nat)(g:List Sl->Rs (T×OT)):Prop where
 ex:∃f fd ps,mg x=some (.ref f)/\keepIn K (.ref f)=true/\Binds K fd ps []/\ps.length=n/\EN P w K mg base k f fd ps n j g
structure QX (X:Cx)(e:Expr)(f:En->Rs (T×En)):Prop where
 h:wV X e f
structure JU (X:Cx)(e:Expr)(f:En->Rs (Bool×En)):Prop where
 h:HS X e f
structure QM (X:Cx)(j:Nat)(e:Stmt)(f:En->Rs Fx):Prop where
 h:Cd X j e f
structure EI (X:Cx)(j:Nat)(e:List Stmt)(f:En->Rs Fx):Prop where
 h:Cu X j e f
section
variable {P:LI}{w:Mj}{K:Frag}{mg:Str->Option La}{base:Heap}{x c m q:Str}{st:Stmt}{N ps:List Str}{k n j:Nat}
theorem E5 {F:En->Rs Fl}(H:p7 K c m q st ps)(S:az N ps (aj st))(hn:ps.length=1)
  (hbody:∀(f:Addr) (cdv:La) (A:LZ) (outer:List Env) (s:Ld) (H:Hp) (E:XK),Room k (A.deeper (envOfC q (aj st) s.heap.objs.size f cdv)) →
   ∀xe,wR ((gb CX0 P w K mg base N q (aj st) f cdv A outer s H E).FB xe) (bM st) F):Ml P w K mg base (k+1) c m (val 1 N.length F):=by
 obtain⟨f,fd,h1,h2,h3⟩:=H;exact⟨f,fd,ps,h1,h3,hn,qS h2 S hn (hbody f)⟩
theorem uO {F:En->Rs Fx}(H:p7 K c m q st ps)(S:az N ps (aj st))(hn:ps.length=n)
  (hbody:∀(f:Addr) (cdv:La) (A:LZ) (outer:List Env) (s:Ld) (H:Hp) (E:XK),Room k (A.deeper (envOfC q (aj st) s.heap.objs.size f cdv)) →
   ∀xe,EI ((gb CX0 P w K mg base N q (aj st) f cdv A outer s H E).FB xe) 0 (bM st) F):Mm P w K mg base (k+1) c m n (gH n 0 N.length F):=by
 obtain⟨f,fd,h1,h2,h3⟩:=H;exact⟨f,fd,ps,h1,h3,hn,Bq h2 S hn λcdv A outer s H E hr xe=>(hbody f cdv A outer s H E hr xe).h⟩
theorem Fj {F:En->Rs Fx}(H:fZ K mg x st ps)(S:az N ps (aj st))(hn:ps.length=n)
  (hbody:∀(f:Addr) (cdv:La) (A:LZ) (outer:List Env) (s:Ld) (H:Hp) (E:XK),Room k (A.deeper (envOfC x (aj st) s.heap.objs.size f cdv)) →
   ∀xe,EI ((gb CX0 P w K mg base N x (aj st) f cdv A outer s H E).FB xe) j (bM st) F):Ce P w K mg base (k+1) x n j (gH n j N.length F):=by
 obtain⟨f,fd,h⟩:=H;exact⟨f,fd,ps,h.mg,h.fn.kp,h.bd,hn,Bq h.fn S hn λcdv A outer s H E hr xe=>(hbody f cdv A outer s H E hr xe).h⟩
end
section
variable {X:Cx}{a b e c o:Expr}{es cp:List Expr}{fa fb fo:En->Rs T}{fs:En->Rs (List T)}{pos p p2 p3 p4 apos cpos spos:Pos}{x y n cn' f m:Str}{k k' l j:Nat}{g:List T->Rs T}{ge:List Sl->Rs (T×OT)}{ex ey:En->Rs (T×En)}{tx ty:En->Rs (Bool×En)}
theorem eE (h:QE X a fa):QX X a (xP fa):=⟨FI h.h⟩
theorem zy (C:p9 X.K X.mg m)(hn:NoAttr X.K (bU X.K m) f)(ha:QE X a fa)(hb:autoParam (LP a f X.env (eval a X.env)=eval a X.env) aqd._auto_1):QE X (.Attribute a f pos) (o1 (wC m f) fa):=⟨IP C.cl hn ha.h hb⟩
theorem dO {pl:Sem Bool}(C:p9 X.K X.mg n)(M:Ml X.prog X.w X.K X.mg X.base k n m g)(hr:Room k' X.A)(ho:QE X o fo)(hk:autoParam (k<=k') aqb._auto_1)
  (ht:eval (.Call (.Attribute o m apos) [] [] pos) X.env=(do
   let ov <-eval o X.env
   standAt apos.atName
   let (f,first) <-holding [ov] (OP ov m pl)
   Rh pos f first (backTo pos (Lx [] X.env)) (Pb pos (NJ [] X.env))):=by rfl):QE X (.Call (.Attribute o m apos) [] [] pos) (qr n m g fo ak):=by
 obtain⟨f,fd,ps,h1,h2,h3,h4⟩:=M.ex;exact⟨Dn (pl:=pl) C.cl h1 h4 (hr.mono hk) h2 h3 ho.h ht⟩
theorem Fu (i:Nat)(C:p9 X.K X.mg m)(hn:NoAttr X.K (bU X.K m) f)(ha:QE X a fa)(hN:autoParam (X.N[i]? =some x) aqd._auto_1)(hv:autoParam (mK X.env.scope x) aqe._auto_1)(hs:autoParam (bK a=true) aqd._auto_1)
  (hb1:autoParam (LP (.Name x p2) f X.env (eval (.Name x p2) X.env)=eval (.Name x p2) X.env) aqd._auto_1)
  (hbase:autoParam (LP (.Attribute (.Name x p2) f p3) "append" X.env (eval (.Attribute (.Name x p2) f p3) X.env)=eval (.Attribute (.Name x p2) f p3) X.env) aqd._auto_1) (hline:autoParam ((apos.endLine == cpos.line)=true) aqd._auto_1)
  (hd:autoParam ((x == ("__debug__" : Str))=false) aqb._auto_1) (hcd:autoParam ((x == ("__classdict__" : Str))=false) aqb._auto_1):QX X (.Call (.Attribute (.Attribute (.Name x p2) f p3) "append" apos) [a] [] cpos) (yr i m f fa):=⟨HX i C.cl hn ha.h hN hv hs hb1 hbase hline hd hcd⟩
theorem Ft (i:Nat)(C:p9 X.K X.mg m)(hn:NoAttr X.K (bU X.K m) f)(hN:autoParam (X.N[i]? =some x) aqd._auto_1)(hv:autoParam (mK X.env.scope x) aqe._auto_1)
  (hb1:autoParam (LP (.Name x p2) f X.env (eval (.Name x p2) X.env)=eval (.Name x p2) X.env) aqd._auto_1)
  (hbase:autoParam (LP (.Attribute (.Name x p2) f p3) "pop" X.env (eval (.Attribute (.Name x p2) f p3) X.env)=eval (.Attribute (.Name x p2) f p3) X.env) aqd._auto_1) (hline:autoParam ((apos.endLine == cpos.line)=true) aqd._auto_1)
  (hd:autoParam ((x == ("__debug__" : Str))=false) aqb._auto_1) (hcd:autoParam ((x == ("__classdict__" : Str))=false) aqb._auto_1):QX X (.Call (.Attribute (.Attribute (.Name x p2) f p3) "pop" apos) [] [] cpos) (yq i m f):=⟨HV i C.cl hn hN hv hb1 hbase hline hd hcd⟩
theorem GX {fs:En->Rs (List T)}{l:Nat}(h:∀(Z:En) (ts:List T),fs Z= .ok ts->ts.length=l)(Z:En)(ts:List T)(z:fs Z= .ok ts):ts.length+1=l+1:=congrArg (· +1) (h Z ts z)
theorem mM {pl:Sem Bool}(i:Nat)(C:p9 X.K X.mg n)(M:Mm X.prog X.w X.K X.mg X.base k n m (l+1) ge)(hr:Room k' X.A)(ha:QA X (e::es) fs)(hk:autoParam (k<=k') aqb._auto_1)(hl:∀(Z:En) (ts:List T),fs Z= .ok ts->ts.length=l:=by repeat first | exact yk | refine yj ?_)
  (hN:autoParam (X.N[i]? =some x) aqd._auto_1) (hv:autoParam (mK X.env.scope x) aqe._auto_1) (hd:autoParam ((x == ("__debug__" : Str))=false) aqb._auto_1) (hcd:autoParam ((x == ("__classdict__" : Str))=false) aqb._auto_1)
  (hns:autoParam (bF (e::es)=true) aqd._auto_1)
  (ht:eval (.Call (.Attribute (.Name x p2) m apos) (e::es) [] pos) X.env=(do
   let ov <-eval (.Name x p2) X.env
   standAt apos.atName
   let (f,first) <-holding [ov] (OP ov m pl)
   Rh pos f first (backTo pos (Lx (e::es) X.env)) (Pb pos (NJ [] X.env))):=by rfl):QX X (.Call (.Attribute (.Name x p2) m apos) (e::es) [] pos) (fq i n m ge fs):=by
 obtain⟨f,fd,ps,h1,h2,h3,h4⟩:=M.ex
 have hn2:bK e=true/\bF es=true:=Mv.mp hns;exact⟨FJ (pl:=pl) i C.cl h1 h4 (hr.mono hk) h2 h3 (GX hl) ha.h hN hv hd hcd (bH hn2.1) (eM hn2.2) ht⟩
theorem zq {pl:Sem Bool}(i:Nat)(C:p9 X.K X.mg n)(M:Mm X.prog X.w X.K X.mg X.base k n m 1 ge)(hr:Room k' X.A)(hk:autoParam (k<=k') aqb._auto_1)
  (hN:autoParam (X.N[i]? =some x) aqd._auto_1) (hv:autoParam (mK X.env.scope x) aqe._auto_1) (hd:autoParam ((x == ("__debug__" : Str))=false) aqb._auto_1) (hcd:autoParam ((x == ("__classdict__" : Str))=false) aqb._auto_1)
  (ht:eval (.Call (.Attribute (.Name x p2) m apos) [] [] pos) X.env=(do
   let ov <-eval (.Name x p2) X.env
   standAt apos.atName
   let (f,first) <-holding [ov] (OP ov m pl)
   Rh pos f first (backTo pos (Lx [] X.env)) (Pb pos (NJ [] X.env))):=by rfl):QX X (.Call (.Attribute (.Name x p2) m apos) [] [] pos) (fq i n m ge ak):=by
 obtain⟨f,fd,ps,h1,h2,h3,h4⟩:=M.ex;exact⟨CL (pl:=pl) i C.cl h1 h4 (hr.mono hk) h2 h3 hN hv hd hcd ht⟩
theorem zr (i:Nat)(M:Ce X.prog X.w X.K X.mg X.base k y (l+1) 0 ge)(hr:Room k' X.A)(ha:QA X es fs)(hk:autoParam (k<=k') aqb._auto_1)(hl:∀(Z:En) (ts:List T),fs Z= .ok ts->ts.length=l:=by repeat first | exact yk | refine yj ?_)
  (hN:autoParam (X.N[i]? =some x) aqd._auto_1) (hv:autoParam (mK X.env.scope x) aqe._auto_1) (hd:autoParam ((x == ("__debug__" : Str))=false) aqb._auto_1) (hcd:autoParam ((x == ("__classdict__" : Str))=false) aqb._auto_1)
  (hg:autoParam (Gl X y) aqd._auto_1) (hdb:autoParam ((y == ("__debug__" : Str))=false) aqb._auto_1) (hns:autoParam (bF es=true) aqd._auto_1):QX X (.Call (.Name y p) (.Name x p2::es) [] pos) (m8 i ge fs):=by
 obtain⟨f,fd,ps,h1,h0,h2,h3,h4⟩:=M.ex;exact⟨HW i h4 (hr.mono hk) h1 h0 h2 h3 (GX hl) ha.h hN hv hd hcd hg hdb rfl (eM hns)⟩
theorem HU {op:Sn}{r:T->T->Rs T}(ho:OpT X (L0 op) r)(ha:QX X a ex)(hb:QE X b fb)(hm:autoParam (Nv op b=false) aqd._auto_1):QX X (.Compare a [op] [b] pos) (vz r ex fb):=⟨x_o2 ho ha.h hb.h hm⟩
theorem CD {op:Sn}{r:T->T->Rs T}(ho:OpT X (L0 op) r)(ha:QX X a ex)(hb:QE X b fb)(hm:autoParam (Nv op b=false) aqd._auto_1):JU X (.Compare a [op] [b] pos) (w8 (vz r ex fb)):=⟨FH ho ha.h hb.h hm⟩
theorem Cz (h:QX X e ex)(he:autoParam (∀whole,isTrue e X.env whole=(do let v <-whole;standAt e.pos;holding [v] (truthy v))) aqc._auto_1):JU X e (w8 ex):=⟨FF h.h he⟩
theorem CC (ha:JU X a tx):JU X (.UnaryOp .Not a pos) (l6 tx):=⟨FG ha.h⟩
theorem wY {A C:List Stmt}{F G:En->Rs Fl}(hc:JU X c tx)(ha:wR X A F)(hb:wR X C G):QS X (.If c A C pos) (nG tx F G):=⟨F5 hc.h ha.h hb.h⟩
theorem CG (ha:QX X a ex)(hs:autoParam (L5 a none pos.line X.env=pure false) aqd._auto_1):QS X (.Expr a pos) (vP ex):=⟨F8 ha.h hs⟩
theorem zv (i:Nat)(hN:X.N.Nodup)(C:p9 X.K X.mg m)(M:Mm X.prog X.w X.K X.mg X.base k m "__init__" (l+1) ge)(hr:Room k' X.A)(ha:QA X (e::es) fs)(hk:autoParam (k+1<=k') aqb._auto_1)(hl:∀(Z:En) (ts:List T),fs Z= .ok ts->ts.length=l:=by repeat first | exact yk | refine yj ?_)
  (hi:autoParam (X.N[i]? =some n) aqd._auto_1) (hx:autoParam (Loc X.env.scope n) aqh._auto_1) (hs:autoParam (L5 (.Call (.Name m p) (e::es) [] pos) (some (.Name n p3)) spos.line X.env=pure false) aqd._auto_1) (hf:autoParam (X.fn n=true\/X.env.scope.names.lookup n=some .local) aqa._auto_1)
  (hg:autoParam (Gl X m) aqd._auto_1) (hdb:autoParam ((m == ("__debug__" : Str))=false) aqb._auto_1) (hns:autoParam (bF (e::es)=true) aqd._auto_1):QS X (.Assign [.Name n p3] (.Call (.Name m p) (e::es) [] pos) spos) (qh i m ge fs):=by
 obtain⟨f,fd,ps,h1,h2,h3,h4⟩:=M.ex
 have hn2:bK e=true/\bF es=true:=Mv.mp hns;exact⟨C9 i ⟨C.mks,h1.at_,h1.fn,C.kp⟩ h4 (hr.mono hk) C.mg h2 h3 (GX hl) hN ha.h hi hx hs hf hg hdb (bH hn2.1) (eM hn2.2)⟩
theorem m6:EI X j [] mN:=⟨Jn⟩
theorem ef {s:Stmt}{F:En->Rs Fx}(h:QM X j s F):EI X j [s] F:=⟨Jm h.h⟩
theorem di {s:Stmt}{ss:List Stmt}{F G:En->Rs Fx}(h1:QM X j s F)(h2:EI X j ss G):EI X j (s::ss) (gP F G):=⟨GV h1.h h2.h⟩
theorem tR (ha:QX X a ex)(hs:autoParam (L5 a none pos.line X.env=pure false) aqd._auto_1):QM X j (.Expr a pos) (zo ex):=⟨m_ex ha.h hs⟩
theorem jT (ha:QX X a ex):QM X j (.Return (some a) pos) (kO ex):=⟨Jl ha.h⟩
theorem w4 (i:Nat)(hN:X.N.Nodup)(ha:QX X a ex)(hij:autoParam (i≠j) aqb._auto_1)(hi:autoParam (X.N[i]? =some n) aqd._auto_1)(hx:autoParam (Loc X.env.scope n) aqh._auto_1)(hs:autoParam (L5 a (some (.Name n p3)) pos.line X.env=pure false) aqd._auto_1)
  (hf:autoParam (X.fn n=true\/X.env.scope.names.lookup n=some .local) aqa._auto_1):QM X j (.Assign [.Name n p3] a pos) (DW i ex):=⟨m_as i hij hN ha.h hi hx hs hf⟩
theorem tQ {t:En->Rs Bool}{A C:List Stmt}{F G:En->Rs Fx}(hc:QT X c t)(ha:EI X j A F)(hb:EI X j C G):QM X j (.If c A C pos) (Cp t F G):=⟨m_if hc.h ha.h hb.h⟩
theorem zB {s:Stmt}{d:Str}(h:QS X s (ui d)):QM X j s (DU d):=⟨Jp h.h⟩
theorem FC (i:Nat)(C:p9 X.K X.mg m)(hn:NoAttr X.K (bU X.K m) f)(ha:QA X es fs)(hN:autoParam (X.N[i]? =some n) aqd._auto_1)(hv:autoParam (mK X.env.scope n) aqe._auto_1)
  (hd:autoParam ((n == ("__debug__" : Str))=false) aqb._auto_1) (hcd:autoParam ((n == ("__classdict__" : Str))=false) aqb._auto_1) (hs:autoParam (L5 (.List es p4) (some (.Attribute (.Name n p2) f p3)) pos.line X.env=pure false) aqd._auto_1) :
  QM X j (.Assign [.Attribute (.Name n p2) f p3] (.List es p4) pos) (yP i m f fs):=⟨Jo i C.cl hn ha.h hN hv hd hcd hs⟩
theorem yy {suite:List Stmt}{c:Str}{C:Addr}{bm:List La}{t:T}(hm:X.mg c=some (.ref C))(O:OX X.K C bm)(h:∀e oe,wR (Fg X e oe) suite (aM (cn t))):Cb X suite C (Be c t):=λd D u hd hu=>by
 unfold Be at hu
 split at hu
 ·rename_i z
  cases hu;subst z;cases hm.symm.trans hd;exact⟨bm,O,by simp,λe oe=>(h e oe).h⟩
 ·cases hu
theorem CJ {body suite:List Stmt}{b0:Stmt}{F:En->Rs Fx}{ce:Str}{CE:Addr}{bmE:List La}{t:T}{np hpos:Pos}(hm:X.mg ce=some (.ref CE))(OE:OX X.K CE bmE)
  (hb:∀pn xe,EI { X with pn:=pn,xe:=xe } j body F) (hs:∀e oe,wR (Fg X e oe) (b0::suite) (aM (Tr.cn t))) (hst:autoParam (X.stack=X.env::X.outer) aqd._auto_1) (hfe:autoParam (X.env.frame=some X.env.locals) aqd._auto_1) (hcl:∀x c,X.env.cells.lookup x≠some c) (hex:autoParam (X.ex= []) aqd._auto_1)
  (hg:autoParam (Gl X ce) aqd._auto_1) (hd:autoParam ((ce == ("__debug__" : Str))=false) aqb._auto_1) :
  QM X j (.Try body [.ExceptHandler (some (.Name ce np)) none (b0::suite) hpos] [] [] pos) (uR F (Be ce t)):=⟨GU hst hfe hcl hex hm OE (λpn xe=>(hb pn xe).h) (yy hm OE hs) hg hd⟩
end
end Tr
namespace Tr
open PySem PySem.Spec PyProof.Rows L2
def zJ (X:Cx)(j:Nat)(g:T->En->Rs En):TG:=λv σ H Q=> ∃Z O M t,EnvM X.K O M H Z σ/\Rep X.K O H t v/\match g t Z with
 | .ok Z'=> ∀σ',EnvM X.K O M H Z' σ'->σ'[j]? =σ[j]?->Q σ' H
 | _=>False
def tZ (X:Cx)(j:Nat)(g:List T->En->Rs En):Cr:=λvs σ H Q=> ∃Z O M ts,EnvM X.K O M H Z σ/\Reps X.K O H ts vs/\match g ts Z with
 | .ok Z'=> ∀σ',EnvM X.K O M H Z' σ'->σ'[j]? =σ[j]?->Q σ' H
 | _=>False
section
variable {X:Cx}{j:Nat}{e a:Expr}{es:List Expr}{pos:Pos}{x:Str}{fa:En->Rs T}
theorem Ej (i:Nat)(hN:X.N.Nodup)(hij:i≠j)(hi:X.N[i]? =some x)(hx:Loc X.env.scope x)(hf:X.fn x=true\/X.env.scope.names.lookup x=some .local):PG X (.Name x pos) (zJ X j (gN i)):=
 PG.imp (xo hN hi hx hf) λv σ H Q hh_=>by
  obtain⟨Z,O,M,t,E,r,h⟩:=hh_;unfold gN at h
  split at h
  ·rename_i Z' e
   split at e
   ·rename_i hl
    cases e;exact h _ (E.set hl r) (LC hij)
   ·cases e
  ·exact h.elim
theorem Ei:PGs X [] (tZ X j vB):=PGs.imp xn λvs σ H Q hh_=>by
 obtain⟨Z,O,M,ts,E,r,h⟩:=hh_;unfold vB at h
 cases ts with
 | nil=>exact⟨Reps.AC.mp r,h σ E rfl⟩
 | cons _ _=>exact h.elim
theorem Bg {g:T->En->Rs En}{gs:List T->En->Rs En}(h1:PG X e (zJ X j g))(h2:PGs X es (tZ X j gs))
  (hs:(L9 (e::es) X.env).map (·.2)=assign e X.env::(L9 es X.env).map (·.2)):PGs X (e::es) (tZ X j (kW g gs)):=
 PGs.imp (uu h1 h2 hs) λvs σ H Q hh_=>by
  obtain⟨Z,O,M,ts,E,r,h⟩:=hh_
  cases ts with
  | nil=>exact h.elim
  | cons t ts=>
   obtain⟨v,ws,rfl,p,q⟩:=Reps.me.mp r;refine⟨v,ws,rfl,Z,O,M,t,E,p,?_⟩
   unfold kW at h
   cases e1:g t Z with
   | bad=>simp[e1]at h
   | err c=>simp[e1]at h
   | ok Z1=>
    intro σ1 E1 k1;refine⟨Z1,O,M,ts,E1,q,?_⟩
    simp only[e1,aA]at h
    cases e2:gs ts Z1 with
    | bad=>simp[e2]at h
    | err c=>simp[e2]at h
    | ok Z2=>
     simp only[e2]at h;exact λσ2 E2 k2=>h σ2 E2 (k2.trans k1)
theorem Hq {k n:Nat}{gs:List T->En->Rs En}(hc:X.calm=true)(h:PGs X es (tZ X j gs))(hn:(L9 es X.env).length=n)(hst:(L9 es X.env).findIdx? (·.1)=none):PG X (.Tuple es k pos) (zJ X j (gT n gs)):=
 PG.imp (Ad hc h hn hst) λv σ H Q hh_=>by
  obtain⟨Z,O,M,t,E,r,h⟩:=hh_;unfold gT at h
  cases t with
  | tup l=>
   obtain⟨a,vs,rfl,n',q,z⟩:=Rep.Do.mp r
   by_cases hl:l.length=n
   ·simp only[if_pos hl]at h
    exact⟨a,vs,rfl,SqT.of q,by rw[<-z.length];exact hl,Z,O,M,l,E,z,h⟩
   ·simp only[if_neg hl]at h
  | _=>exact h.elim
theorem Jq {tg:Expr}{g:T->En->Rs En}(ha:cg X a fa)(hg:PG X tg (zJ X j g))(hs:OA [tg] a pos.line X.env=pure false)(hw:OB [tg] a X.env=pure none)
  (h1:(L9 [tg] X.env).map (·.2)= [assign tg X.env]):Cd X j (.Assign [tg] a pos) (yQ fa g):=PS.imp (Aa ha hg hs hw h1) λD σ H hh_=>by
 obtain⟨Z,B,M,E,h⟩:=hh_;refine⟨Z,OO B M,E.o,?_⟩
 unfold yQ at h
 cases q:fa Z with
 | bad=>rw[q]at h;exact h.elim
 | err c=>rw[q]at h;exact h
 | ok t=>
  rw[q,aA]at h;intro H' s v r;refine⟨Z,OO B M,M,t,E.env.same s,r,?_⟩
  cases q2:g t Z with
  | bad=>rw[q2]at h;exact h.elim
  | err c=>rw[q2]at h;exact h.elim
  | ok Z'=>
   rw[q2]at h;exact λσ' E' k=>h σ' H' M (SameO.of s) ⟨E',E.mine⟩ (λa z=> .inl z) k
end
structure QJ (X:Cx)(j:Nat)(e:Expr)(g:T->En->Rs En):Prop where
 h:PG X e (zJ X j g)
structure Ka (X:Cx)(j:Nat)(e:List Expr)(g:List T->En->Rs En):Prop where
 h:PGs X e (tZ X j g)
section
variable {X:Cx}{j:Nat}{e a:Expr}{es:List Expr}{pos:Pos}{x:Str}{fa:En->Rs T}
theorem qR (i:Nat)(hN:X.N.Nodup)(hij:autoParam (i≠j) aqb._auto_1)(hi:autoParam (X.N[i]? =some x) aqd._auto_1)(hx:autoParam (Loc X.env.scope x) aqh._auto_1)(hf:autoParam (X.fn x=true\/X.env.scope.names.lookup x=some .local) aqa._auto_1):QJ X j (.Name x pos) (gN i):=⟨Ej i hN hij hi hx hf⟩
theorem CK:Ka X j [] vB:=⟨Ei⟩
theorem m7 {g:T->En->Rs En}{gs:List T->En->Rs En}(h1:QJ X j e g)(h2:Ka X j es gs)(hs:autoParam ((L9 (e::es) X.env).map (·.2)=assign e X.env::(L9 es X.env).map (·.2)) aqd._auto_1):Ka X j (e::es) (kW g gs):=⟨Bg h1.h h2.h hs⟩
theorem FE {k n:Nat}{gs:List T->En->Rs En}(hc:X.calm=true)(h:Ka X j es gs)(hn:autoParam ((L9 es X.env).length=n) aqd._auto_1)(hst:autoParam ((L9 es X.env).findIdx? (·.1)=none) aqd._auto_1):QJ X j (.Tuple es k pos) (gT n gs):=⟨Hq hc h.h hn hst⟩
theorem FD {tg:Expr}{g:T->En->Rs En}(ha:QE X a fa)(hg:QJ X j tg g)(hs:autoParam (OA [tg] a pos.line X.env=pure false) aqd._auto_1)(hw:autoParam (OB [tg] a X.env=pure none) aqd._auto_1)
  (h1:autoParam ((L9 [tg] X.env).map (·.2)= [assign tg X.env]) aqd._auto_1):QM X j (.Assign [tg] a pos) (yQ fa g):=⟨Jq ha.h hg.h hs hw h1⟩
end
section
variable {X:Cx}{a:Expr}{pos p p2 p3:Pos}{x:Str}{fa:En->Rs T}
def Iw (K:K7):R2:=λx y H Q=> ∃c d vs ws,x= .ref c/\y= .ref d/\H c=some (.lst vs)/\H d=some (.lst ws)/\vs.length+ws.length<=sizeLine/\∀p,Nw K H p->Q (.ref p) (upd H p (.lst (vs++ws)))
theorem DJ:pj X (MN .Add) (Iw X.K):=by
 intro pins s σ H vx vy ux uy Q I r1 r2 ⟨c,d,vs,ws,e1,e2,h1,h2,hz,q⟩
 have hk:X.K.lookup s.heap.objs.size=none:=by
  cases z:X.K.lookup s.heap.objs.size with
  | none=>rfl
  | some o=>exact absurd (Lq (I.kIn _ o z)) (LQ _)
 subst e1;subst e2;cases r1;cases r2;obtain⟨_,is1,_,s1,l1,g1⟩:=I.Kj h1;obtain⟨_,is2,_,s2,l2,g2⟩:=I.Kj h2;refine RP g1 g2 ?_ (by rw[Ln,Ln];omega)
 rw[show is1.toArray++is2.toArray=(is1++is2).toArray by simp]
 exact⟨.ref _,_,I.KD (t':=s.toks) (s1.append s2) (by rw[Lb];omega),rfl,q _ ⟨I.fresh,hk⟩⟩
theorem Ga (i:Nat)(hN:X.N.Nodup)(ha:cg X a fa)(hi:X.N[i]? =some x)(hx:Loc X.env.scope x)(hv:mK X.env.scope x)(hd:(x == ("__debug__" : Str))=false)(hcd:(x == ("__classdict__" : Str))=false)
  (hs:L5 (.BinOp (.Name x p) .Add a p2) (some (.Name x p3)) pos.line X.env=pure false)
  (hf:X.fn x=true\/X.env.scope.names.lookup x=some .local):mZ X (.Assign [.Name x p3] (.BinOp (.Name x p) .Add a p2) pos) (uj i fa):=by
 refine PS.imp (nK hN hi hx (IY DJ (fP hi hv hd hcd) ha) hs hf) λD σ H ⟨Z,B,M,E,h⟩=> ?_
 unfold uj at h
 split at h
 ·rename_i l hl
  obtain⟨v0,s0,c,vs,e1,e2,e3,e4⟩:=E.env.own i _ hl;subst e1;refine⟨_,s0,?_⟩
  refine⟨Z,OO B M,E.o,?_⟩
  cases q:fa Z with
  | bad=>rw[q]at h;exact h.elim
  | err c=>rw[q]at h;exact PostF.xa h
  | ok t=>
   rw[q,aA]at h
   split at h
   ·rename_i m
    split at h
    ·rename_i hlen
     intro H1 s1 v r;obtain⟨d,ws,rfl,nO,hc,rm⟩:=Rep.Fk.mp r
     have E1:=E.same s1
     have h3:H1 c=some (.lst vs):=s1 _ _ e3;refine⟨c,d,vs,ws,rfl,rfl,h3,hc,by rw[<-e4.length,<-rm.length];exact hlen,λp hp=> ?_⟩
     have hm:∀a,a=p->Nw X.K H1 a:=λa z=>z▸hp
     have hil:i<Z.length:=(Ll.mp hl).1
     have r4:Reps X.K (OO B M) H1 (l++m) (vs++ws):=(e4.same s1).append rm;obtain⟨E2,sub⟩:=E1.new (m:=λa=>a=p) (o:=.lst (l++m)) (v:=.ref p) (H':=upd H1 p (.lst (vs++ws))) hil hm (aX hp.1 _) ⟨p,_,rfl,λb=>N5,aT,(r4.more (Ev.subO hm)).same (aX hp.1 _)⟩
     exact h _ _ _ (SameO.of (s1.trans (aX hp.1 _))) E2 λa z=>(sub a z).imp_right (jj s1)
    ·exact h.elim
   ·exact h.elim
 ·exact h.elim
theorem CH (i:Nat)(hN:X.N.Nodup)(ha:QE X a fa)(hi:autoParam (X.N[i]? =some x) aqd._auto_1)(hx:autoParam (Loc X.env.scope x) aqh._auto_1)(hv:autoParam (mK X.env.scope x) aqe._auto_1)(hd:autoParam ((x == ("__debug__" : Str))=false) aqb._auto_1)(hcd:autoParam ((x == ("__classdict__" : Str))=false) aqb._auto_1)
  (hs:autoParam (L5 (.BinOp (.Name x p) .Add a p2) (some (.Name x p3)) pos.line X.env=pure false) aqd._auto_1)
  (hf:autoParam (X.fn x=true\/X.env.scope.names.lookup x=some .local) aqa._auto_1):QS X (.Assign [.Name x p3] (.BinOp (.Name x p) .Add a p2) pos) (uj i fa):=⟨Ga i hN ha.h hi hx hv hd hcd hs hf⟩
end
theorem ff {N P:List Str}{sc:Ov}(h1:autoParam (sc.kind= .function) aqd._auto_1)(h2:autoParam (sc.isCoroutine=false) aqd._auto_1)(h3:autoParam (sc.isGenerator=false) aqd._auto_1)(h4:autoParam (N.Nodup) aqi._auto_1)(h5:autoParam (N.take P.length=P) aqd._auto_1)
  (h6:autoParam (∀x∈P,sc.names.lookup x=some .local\/sc.names.lookup x=some .cell) aqi._auto_1) (h7:autoParam (∀y∈sc.names,y.2≠ .free) aqi._auto_1):az N P sc:=⟨h1,h2,h3,h4,h5,h6,h7⟩
end Tr
namespace G
open PySem PySem.Spec PyProof.Rows L2 Tr
structure Bl (mg:Str->Option La):Prop where
 b_all:mg "all" =none
 b_bool:mg "bool" =none
 b_dict:mg "dict" =none
 b_enumerate:mg "enumerate" =none
 b_int:mg "int" =none
 b_isinstance:mg "isinstance" =none
 b_len:mg "len" =none
 b_range:mg "range" =none
 b_tuple:mg "tuple" =none
structure Cs (mg:Str->Option La):Prop where
 MOST_CLOCKS:∃t,mg "MOST_CLOCKS" =some (.int 4 t)
 MOST_LETTERS:∃t,mg "MOST_LETTERS" =some (.int 8 t)
 MOST_READINGS:∃t,mg "MOST_READINGS" =some (.int 4 t)
 LAST_READING:∃t,mg "LAST_READING" =some (.int 99 t)
 SLOWEST:∃t,mg "SLOWEST" =some (.int 9 t)
 LONGEST:∃t,mg "LONGEST" =some (.int 999 t)
structure dZ (K:K7)(mg:Str->Option La):Prop where
 k:p9 K mg "Desk"
 a_kept:NoAttr K (bU K "Desk") "kept"
theorem tD:Mf "bool" =some (.type "bool"):=by decide+kernel
theorem i9:Mf "int" =some (.type "int"):=by decide+kernel
theorem eK:Mf "tuple" =some (.type "tuple"):=by decide+kernel
structure Xs (K:K7)(mg:Str->Option La)(C_NoRecord C_NoEvent C_NoNumber C_NoWorld C_Barred C_Nothing C_ClockError:Addr):Prop where
 m_NoRecord:mg "NoRecord" =some (.ref C_NoRecord)
 m_NoEvent:mg "NoEvent" =some (.ref C_NoEvent)
 m_NoNumber:mg "NoNumber" =some (.ref C_NoNumber)
 m_NoWorld:mg "NoWorld" =some (.ref C_NoWorld)
 m_Barred:mg "Barred" =some (.ref C_Barred)
 m_Nothing:mg "Nothing" =some (.ref C_Nothing)
 m_ClockError:mg "ClockError" =some (.ref C_ClockError)
 o_NoRecord:OX K C_NoRecord (.ref C_ClockError::tK)
 o_NoEvent:OX K C_NoEvent (.ref C_ClockError::tK)
 o_NoNumber:OX K C_NoNumber (.ref C_ClockError::tK)
 o_NoWorld:OX K C_NoWorld (.ref C_ClockError::tK)
 o_Barred:OX K C_Barred (.ref C_ClockError::tK)
 o_Nothing:OX K C_Nothing (.ref C_ClockError::tK)
 o_ClockError:OX K C_ClockError tK
 d:[C_NoRecord,C_NoEvent,C_NoNumber,C_NoWorld,C_Barred,C_Nothing,C_ClockError].Nodup
end G
namespace G
open PySem Tr
def qO:En->Rs Fl:=
 (aM (cD (o1 (Ef "tuple") (vr 0)) (ch GY GY (vr 1) (cl bL (af (vr 0) ak)) (vr 2))))
def aP:List T->Rs T:=val 3 3 qO
def wW:En->Rs Fl:=
 (aM (cD (o1 (Ef "int") (vr 0)) (o1 DN (o1 (Ef "bool") (vr 0)))))
def gZ:List T->Rs T:=val 1 1 wW
def jb:En->Rs Fl:=
 (aM (cD (cl gZ (af (vr 0) ak)) (ch GY GY (vr 1) (vr 0) (vr 2))))
def aU:List T->Rs T:=val 3 3 jb
def l5:En->Rs Fl:=
 (aM (cD (cl aU (af (vr 0) (af (cn (.int 1)) (af (cn (.int 9)) ak)))) (cl aU (af (vr 1) (af (vr 0) (af (cn (.int 9)) ak))))))
def fF:List T->Rs T:=val 2 2 l5
def yn:En->Rs Fl:=
 (aM (cl p0 (af (jr (iR (af (o2 f9 (cl bL (af (vr 0) ak)) (cn (.int 1))) ak)) [none,some 0] (gN 0) bT (o2 zp (o2 aQ (vr 1) (vr 0)) (o2 aQ (vr 1) (o2 aL (vr 0) (cn (.int 1)))))) ak)))
def jq:List T->Rs T:=val 1 1 yn
def d7:En->Rs Fl:=
 (aC (gf (du (tb (cl aP (af (vr 0) (af (cn (.int 1)) (af (cn (.int 4)) ak)))))) (aM (cn (.bl false))) sN) (aM (cD (cl p0 (af (jr (iS (vr 0)) [none] (gN 0) bT (cl aU (af (vr 0) (af (cn (.int 0)) (af (cn (.int 99)) ak))))) ak)) (cl jq (af (vr 0) ak)))))
def bP:List T->Rs T:=val 1 1 d7
def ie:En->Rs Fl:=
 (aM (cD (cl aP (af (vr 0) (af (cn (.int 3)) (af (cn (.int 3)) ak)))) (cD (cl fF (af (o2 aQ (vr 0) (cn (.int 0))) (af (o2 aQ (vr 0) (cn (.int 1))) ak))) (cl bP (af (o2 aQ (vr 0) (cn (.int 2))) ak)))))
def c9:List T->Rs T:=val 1 1 ie
def ig:En->Rs Fl:=
 (aM (cD (cl aP (af (vr 0) (af (cn (.int 1)) (af (cn (.int 4)) ak)))) (cl p0 (af (jr (iS (vr 0)) [none] (gN 0) bT (cl c9 (af (vr 0) ak))) ak))))
def dk:List T->Rs T:=val 1 1 ig
def ia:En->Rs Fl:=
 (aC (gf (ph (du (tb (cl aP (af (vr 1) (af (cn (.int 2)) (af (cn (.int 2)) ak)))))) (du (tb (cl aU (af (o2 aQ (vr 1) (cn (.int 0))) (af (cn (.int 0)) (af (o2 f9 (cl bL (af (vr 0) ak)) (cn (.int 1))) ak))))))) (aM (cn (.bl false))) sN) (aM (cl aU (af (o2 aQ (vr 1) (cn (.int 1))) (af (cn (.int 0)) (af (o2 f9 (cl bL (af (o2 aQ (o2 aQ (vr 0) (o2 aQ (vr 1) (cn (.int 0)))) (cn (.int 2))) ak)) (cn (.int 1))) ak))))))
def cA:List T->Rs T:=val 2 2 ia
def ib:En->Rs Fl:=
 (aM (cD (cl aU (af (vr 0) (af (cn (.int 0)) (af (cn (.int 999)) ak)))) (Co (o2 lR (vr 1) (cn .non)) (cl aU (af (vr 1) (af (vr 0) (af (cn (.int 999)) ak)))))))
def dG:List T->Rs T:=val 2 2 ib
def dM:En->Rs Fl:=
 (aC (gf (ph (du (tb (cl aP (af (vr 1) (af (cn (.int 4)) (af (cn (.int 4)) ak)))))) (du (tb (cl dG (af (o2 aQ (vr 1) (cn (.int 2))) (af (o2 aQ (vr 1) (cn (.int 3))) ak)))))) (aM (cn (.bl false))) sN) (aM (cD (cl cA (af (vr 0) (af (o2 aQ (vr 1) (cn (.int 0))) ak))) (cD (cl cA (af (vr 0) (af (o2 aQ (vr 1) (cn (.int 1))) ak))) (o2 pY (o2 aQ (vr 1) (cn (.int 0))) (o2 aQ (vr 1) (cn (.int 1))))))))
def bW:List T->Rs T:=val 2 2 dM
def gF:En->Rs Fl:=
 (aM (cD (cl aP (af (vr 1) (af (cn (.int 0)) (af (cn (.int 8)) ak)))) (cl p0 (af (jr (iS (vr 1)) [none,some 0] (gN 0) bT (cl bW (af (vr 1) (af (vr 0) ak)))) ak))))
def cS:List T->Rs T:=val 2 2 gF
def gp:En->Rs Fl:=
 (aM (cD (cl aP (af (vr 0) (af (cn (.int 2)) (af (cn (.int 2)) ak)))) (cD (cl dk (af (o2 aQ (vr 0) (cn (.int 0))) ak)) (cl cS (af (o2 aQ (vr 0) (cn (.int 0))) (af (o2 aQ (vr 0) (cn (.int 1))) ak))))))
def c8:List T->Rs T:=val 1 1 gp
def dA:En->Rs Fl:=
 (gf (du (tb (cl c8 (af (vr 0) ak)))) (ui "NoRecord") sN)
def aS:List T->Rs T:=val 1 1 dA
def pd:En->Rs Fl:=
 (aC (tJ (cl aS (af (vr 0) ak))) (aC (iM 1 ak) (aC (jy (iE (af (o2 aQ (vr 0) (cn (.int 0))) ak)) (gT 2 (kW (gN 2) (kW (gN 3) vB))) (nH 1 (jr (iR (af (cl bL (af (o2 aQ (vr 3) (cn (.int 2))) ak)) ak)) [none,some 2] (gN 0) bT (bB (af (vr 1) (af (vr 0) ak)))))) (pC 1 (aM (vr 1))))))
def de:List T->Rs T:=val 1 4 pd
def jc:En->Rs Fl:=
 (aC (cE (oD iz (vr 0) (o2 aQ (vr 1) (cn (.int 1)))) (gN 3)) (aM (Co (o2 lR (vr 3) (cn .non)) (o2 zp (o2 aL (o2 aQ (vr 2) (cn (.int 0))) (o2 aQ (vr 1) (cn (.int 2)))) (o2 aQ (vr 3) (cn (.int 0)))))))
def da:List T->Rs T:=val 3 4 jc
def ja:En->Rs Fl:=
 (aC (qg 2 (jr (iS (vr 1)) [none] (gN 0) bT (bB (af (vr 0) (af (bB (af (cn (.int 0)) (af (eV ak) ak))) ak))))) (aC (cE (cn (.bl true)) (gN 3)) (aC (bN (tb (vr 3)) (aC (cE (cn (.bl false)) (gN 3)) (jy (iE (af (vr 0) ak)) (gT 2 (kW (gN 4) (kW (gN 5) vB))) (aC (cE (ln 2 (oD iz (vr 2) (o2 aQ (vr 5) (cn (.int 0))))) (gN 6)) (aC (gf (ph (tb (o2 lR (vr 6) (cn .non))) (du (GW 2 (tb (cl da (af (vr 2) (af (vr 5) (af (vr 6) ak)))))))) EV sN) (aC (cE (o2 aL (o2 aQ (vr 6) (cn (.int 1))) (eV (af (vr 4) ak))) (gN 7)) (aC (cE (jr (iS (vr 7)) [none,some 0] (gN 0) bT (o2 aQ (o2 aQ (vr 1) (vr 0)) (cn (.int 0)))) (gN 8)) (aC (gf (tb (o2 HQ (o2 aQ (vr 5) (cn (.int 1))) (vr 8))) (aM (bB (af (cn .non) (af (sl (vr 7) (pS (oL gk (vr 8) (o2 aQ (vr 5) (cn (.int 1))))) pN) ak)))) sN) (aC (yC 2 (o2 aQ (vr 5) (cn (.int 1))) (bB (af (o2 aL (o2 aQ (vr 6) (cn (.int 0))) (o2 aQ (vr 5) (cn (.int 2)))) (af (vr 7) ak)))) (cE (cn (.bl true)) (gN 3)))))))))) FU) (pC 2 (aM (bB (af (vr 2) (af (cn .non) ak))))))))
def fR:List T->Rs T:=val 2 9 ja
def eC:En->Rs Fl:=
 (aC (cE (cl de (af (vr 0) ak)) (gN 2)) (aC (cE (o2 aQ (cl fR (af (vr 1) (af (vr 2) ak))) (cn (.int 0))) (gN 3)) (aC (gf (tb (o2 lR (vr 3) (cn .non))) (aM (cn .non)) sN) (aM (cl jU (af (jr (iS (vr 2)) [none,some 3] (gN 0) bT (o2 aQ (o2 ti (vr 1) (vr 0)) (cn (.int 0)))) ak))))))
def dj:List T->Rs T:=val 2 4 eC
def d6:En->Rs Fl:=
 (aC (cE (o2 aQ (vr 1) (cn (.int 2))) (gN 2)) (aC (iM 3 ak) (aC (jy (iR (af (o2 f9 (cl bL (af (vr 2) ak)) (cn (.int 1))) ak)) (gN 4) (aC (cE (bB (af (vr 0) (af (vr 4) ak))) (gN 5)) (aC (cE (bB (af (vr 0) (af (o2 aL (vr 4) (cn (.int 1))) ak))) (gN 6)) (aC (cE (o2 f9 (o2 aQ (vr 2) (o2 aL (vr 4) (cn (.int 1)))) (o2 aQ (vr 2) (vr 4))) (gN 7)) (aC (ly 3 (bB (af (vr 5) (af (vr 6) (af (o2 bS (vr 7) (o2 aQ (vr 1) (cn (.int 1)))) ak))))) (ly 3 (bB (af (vr 6) (af (vr 5) (af (o2 bS (o1 gz (vr 7)) (o2 aQ (vr 1) (cn (.int 0)))) ak)))))))))) (pC 3 (aM (vr 3))))))
def cq:List T->Rs T:=val 2 8 d6
def dH:En->Rs Fl:=
 (aC (iM 1 (af (bB (af (o2 aQ (vr 0) (cn (.int 1))) (af (o2 aQ (vr 0) (cn (.int 0))) (af (o1 gz (o2 aQ (vr 0) (cn (.int 2)))) ak)))) ak)) (aC (gf (tb (o2 iw (o2 aQ (vr 0) (cn (.int 3))) (cn .non))) (ly 1 (bB (af (o2 aQ (vr 0) (cn (.int 0))) (af (o2 aQ (vr 0) (cn (.int 1))) (af (o2 aQ (vr 0) (cn (.int 3))) ak))))) sN) (pC 1 (aM (vr 1)))))
def bY:List T->Rs T:=val 1 2 dH
def pf:En->Rs Fl:=
 (aC (tJ (cl aS (af (vr 0) ak))) (aC (iM 1 ak) (aC (jy (iE (af (o2 aQ (vr 0) (cn (.int 0))) ak)) (gT 2 (kW (gN 2) (kW (gN 3) vB))) (nH 1 (cl cq (af (vr 2) (af (vr 3) ak))))) (aC (jy (iS (o2 aQ (vr 0) (cn (.int 1)))) (gN 4) (nH 1 (cl bY (af (vr 4) ak)))) (pC 1 (aM (vr 1)))))))
def fS:List T->Rs T:=val 1 5 pf
def EO:En->Rs Fl:=
 (aM (cl dj (af (vr 0) (af (cl fS (af (vr 0) ak)) ak))))
def jo:List T->Rs T:=val 1 1 EO
def vp:En->Rs Fl:=
 (aM (o2 iw (cl jo (af (vr 0) ak)) (cn .non)))
def aY:List T->Rs T:=val 1 1 vp
def hY:En->Rs Fl:=
 (gf (du (tb (cl aY (af (vr 0) ak)))) (ui "NoWorld") sN)
def cO:List T->Rs T:=val 1 1 hY
def fm:En->Rs Fx:=
 (gP (zo (xP (cl cO (af (vr 1) ak)))) (yP 0 "Desk" "kept" (af (vr 1) ak)))
def dD:List Sl->Rs (T×OT):=gH 2 0 2 fm
def vq:En->Rs Fl:=
 (aM (o2 f9 (cl bL (af (o1 (wC "Desk" "kept") (vr 0)) ak)) (cn (.int 1))))
def cv:List T->Rs T:=val 1 1 vq
def je:En->Rs Fx:=
 (gP (Cp (tb (o2 ve (ln 0 (qr "Desk" "many" cv (vr 0) ak)) (cn (.int 0)))) (DU "Nothing") mN) (zo (yq 0 "Desk" "kept")))
def eQ:List Sl->Rs (T×OT):=gH 1 0 1 je
def jd:En->Rs Fl:=
 (aC (gf (tb (o2 ve (vr 0) (eV ak))) (aM (o2 bS (cn (.int 7)) (vr 1))) sN) (aM (o2 aL (o2 aQ (vr 0) (o2 kN (vr 1) (cl bL (af (vr 0) ak)))) (o2 bS (cn (.int 6553)) (o2 kX (vr 1) (cl bL (af (vr 0) ak)))))))
def eO:List T->Rs T:=val 2 2 jd
def ik:En->Rs Fl:=
 (aC (cE (o2 kN (o2 aL (o2 bS (o2 kN (cl eO (af (vr 0) (af (vr 1) ak))) (cn (.int 2147483563))) (cn (.int 69069))) (o2 bS (cn (.int 104723)) (o2 aL (vr 1) (cn (.int 1))))) (cn (.int 2147483563))) (gN 3)) (aC (cE (o2 kN (o2 aL (o2 bS (vr 3) (vr 3)) (o2 kX (vr 3) (cn (.int 3)))) (cn (.int 2147483399))) (gN 3)) (aM (o2 kN (o2 kX (o2 kN (o2 aL (o2 bS (vr 3) (vr 3)) (o2 kX (vr 3) (cn (.int 7)))) (cn (.int 2147483647))) (cn (.int 11))) (vr 2)))))
def aw:List T->Rs T:=val 3 4 ik
def jS:En->Rs Fl:=
 (aC (cE (eV ak) (gN 1)) (aC (jy (iE (af (vr 0) ak)) (gT 2 (kW (gN 2) (kW (gN 3) vB))) (cE (o2 aL (vr 1) (jr (iR (af (cl bL (af (o2 aQ (vr 3) (cn (.int 2))) ak)) ak)) [none,some 2] (gN 0) bT (bB (af (vr 1) (af (vr 0) ak))))) (gN 1))) (aM (vr 1))))
def dy:List T->Rs T:=val 1 4 jS
def dB:En->Rs Fl:=
 (aC (cE (cl dy (af (vr 2) ak)) (gN 3)) (aC (gf (tb (o2 zp (cl bL (af (vr 3) ak)) (cn (.int 2)))) (aM (cn .non)) sN) (aC (cE (cl aw (af (vr 0) (af (vr 1) (af (cl bL (af (vr 3) ak)) ak)))) (gN 4)) (aC (cE (o2 kN (o2 aL (o2 aL (vr 4) (cn (.int 1))) (cl aw (af (vr 0) (af (o2 aL (vr 1) (cn (.int 1))) (af (o2 f9 (cl bL (af (vr 3) ak)) (cn (.int 1))) ak))))) (cl bL (af (vr 3) ak))) (gN 5)) (aC (cE (cl aw (af (vr 0) (af (o2 aL (vr 1) (cn (.int 2))) (af (cn (.int 8)) ak)))) (gN 6)) (aC (cE (Fd (tb (o2 ve (cl aw (af (vr 0) (af (o2 aL (vr 1) (cn (.int 3))) (af (cn (.int 3)) ak)))) (cn (.int 0)))) (cn .non) (o2 aL (vr 6) (cl aw (af (vr 0) (af (o2 aL (vr 1) (cn (.int 4))) (af (cn (.int 9)) ak)))))) (gN 7)) (aM (bB (af (o2 aQ (vr 3) (vr 4)) (af (o2 aQ (vr 3) (vr 5)) (af (vr 6) (af (vr 7) ak))))))))))))
def bz:List T->Rs T:=val 3 8 dB
def p8:En->Rs Fl:=
 (aM (o2 aQ (o1 (wC "Desk" "kept") (vr 0)) (o1 gz (cn (.int 1)))))
def aJ:List T->Rs T:=val 1 1 p8
def il:En->Rs Fl:=
 (aC (cE (o2 aL (cn (.int 1)) (cl aw (af (vr 0) (af (vr 1) (af (cn (.int 3)) ak))))) (gN 2)) (aC (cE (bB (af (cl aw (af (vr 0) (af (o2 aL (vr 1) (cn (.int 2))) (af (cn (.int 6)) ak)))) ak)) (gN 3)) (aC (jy (iR (af (cl aw (af (vr 0) (af (o2 aL (vr 1) (cn (.int 1))) (af (cn (.int 3)) ak)))) ak)) (gN 4) (cE (o2 aL (vr 3) (bB (af (o2 aL (o2 aL (o2 aQ (vr 3) (o1 gz (cn (.int 1)))) (cn (.int 1))) (cl aw (af (vr 0) (af (o2 aL (o2 aL (vr 1) (cn (.int 3))) (vr 4)) (af (cn (.int 5)) ak))))) ak))) (gN 3))) (aM (bB (af (vr 2) (af (o2 aL (vr 2) (cl aw (af (vr 0) (af (o2 aL (vr 1) (cn (.int 6))) (af (cn (.int 3)) ak))))) (af (vr 3) ak))))))))
def cu:List T->Rs T:=val 2 5 il
def gG:En->Rs Fl:=
 (aC (cE (cl jU (af (jr (iR (af (o2 aL (cn (.int 1)) (cl aw (af (vr 0) (af (vr 1) (af (cn (.int 3)) ak))))) ak)) [none,some 0,some 1] (gN 0) bT (cl cu (af (vr 1) (af (o2 aL (o2 aL (vr 2) (cn (.int 1))) (o2 bS (cn (.int 8)) (vr 0))) ak)))) ak)) (gN 3)) (aC (cE (eV ak) (gN 4)) (aC (jy (iR (af (cl aw (af (vr 0) (af (o2 aL (vr 1) (cn (.int 30))) (af (o2 aL (vr 2) (cn (.int 1))) ak)))) ak)) (gN 5) (aC (cE (cl bz (af (vr 0) (af (o2 aL (o2 aL (vr 1) (cn (.int 31))) (o2 bS (cn (.int 6)) (vr 5))) (af (vr 3) ak)))) (gN 6)) (cE (o2 aL (vr 4) (o2 bS (eV (af (vr 6) ak)) (cl sM (af (o2 iw (vr 6) (cn .non)) ak)))) (gN 4)))) (aM (bB (af (vr 3) (af (cl jU (af (vr 4) ak)) ak)))))))
def eJ:List T->Rs T:=val 3 7 gG
def gD:En->Rs Fl:=
 (gf (du (tb (cl aU (af (vr 1) (af (cn (.int 0)) (af (o2 f9 (vr 0) (cn (.int 1))) ak)))))) (ui "NoNumber") sN)
def eG:List T->Rs T:=val 2 2 gD
def eY:En->Rs Fl:=
 (aC (tJ (cl aS (af (vr 0) ak))) (aM (vr 0)))
def cL:List T->Rs T:=val 1 1 eY
def hW:En->Rs Fl:=
 (aC (cE (o2 aQ (vr 0) (cn (.int 0))) (gN 3)) (aM (cl cL (af (bB (af (o2 aL (o2 aL (sl (vr 3) pN (pS (vr 1))) (bB (af (vr 2) ak))) (sl (vr 3) (pS (o2 aL (vr 1) (cn (.int 1)))) pN)) (af (o2 aQ (vr 0) (cn (.int 1))) ak))) ak))))
def fz:List T->Rs T:=val 3 4 hW
def fW:En->Rs Fl:=
 (aC (tJ (cl aS (af (vr 0) ak))) (aC (tJ (cl eG (af (cl bL (af (o2 aQ (vr 0) (cn (.int 0))) ak)) (af (vr 1) ak)))) (aC (cE (o2 aQ (o2 aQ (vr 0) (cn (.int 0))) (vr 1)) (gN 3)) (aM (cl fz (af (vr 0) (af (vr 1) (af (bB (af (o2 aQ (vr 3) (cn (.int 0))) (af (o2 aQ (vr 3) (cn (.int 1))) (af (o2 aL (o2 aQ (vr 3) (cn (.int 2))) (bB (af (vr 2) ak))) ak)))) ak))))))))
def bp:List T->Rs T:=val 3 4 fW
def e9:En->Rs Fx:=
 (gP (Cp (du (tb (cl aY (af (vr 1) ak)))) (DU "Barred") mN) (zo (yr 0 "Desk" "kept" (vr 1))))
def df:List Sl->Rs (T×OT):=gH 2 0 2 e9
def jf:En->Rs Fx:=
 (gP (zo (fq 0 "Desk" "keep" df (af (cl bp (af (ln 0 (qr "Desk" "record" aJ (vr 0) ak)) (af (vr 1) (af (vr 2) ak)))) ak))) (kO (xP (bB (af (vr 1) (af (o2 f9 (cl bL (af (o2 aQ (o2 aQ (o2 aQ (ln 0 (qr "Desk" "record" aJ (vr 0) ak)) (cn (.int 0))) (vr 1)) (cn (.int 2))) ak)) (cn (.int 1))) ak))))))
def gj:List Sl->Rs (T×OT):=gH 3 0 3 jf
def hZ:En->Rs Fl:=
 (gf (du (tb (cl cA (af (o2 aQ (vr 0) (cn (.int 0))) (af (vr 1) ak))))) (ui "NoEvent") sN)
def dR:List T->Rs T:=val 2 2 hZ
def gE:En->Rs Fl:=
 (aC (tJ (cl aS (af (vr 0) ak))) (aC (tJ (cl dR (af (vr 0) (af (vr 1) ak)))) (tJ (cl dR (af (vr 0) (af (vr 2) ak))))))
def eI:List T->Rs T:=val 3 3 gE
def zl:En->Rs Fl:=
 (aM (Fd (tb (o2 BN (vr 1) (vr 0))) (o2 aQ (o2 ti (vr 0) (vr 1)) (cn (.int 0))) (cn .non)))
def lN:List T->Rs T:=val 2 2 zl
def tH:En->Rs Fl:=
 (aM (o2 aQ (cl fR (af (cl fS (af (vr 0) ak)) (af (eV (af (vr 1) ak)) ak))) (cn (.int 0))))
def fA:List T->Rs T:=val 2 2 tH
def fY:En->Rs Fl:=
 (aC (tJ (cl eI (af (vr 0) (af (vr 1) (af (vr 2) ak))))) (aC (tJ (cl cO (af (vr 0) ak))) (aM (cl lN (af (cl fA (af (vr 0) (af (vr 1) ak))) (af (vr 2) ak))))))
def bq:List T->Rs T:=val 3 3 fY
def fj:En->Rs Fl:=
 (aC (cE (cl bq (af (vr 0) (af (vr 2) (af (vr 1) ak)))) (gN 3)) (aM (Fd (tb (o2 lR (vr 3) (cn .non))) (cn .non) (o1 gz (vr 3)))))
def br:List T->Rs T:=val 3 4 fj
def fX:En->Rs Fl:=
 (aC (cE (cl br (af (vr 0) (af (vr 1) (af (vr 2) ak)))) (gN 3)) (aM (cD (o2 iw (vr 3) (cn .non)) (o2 gtT (vr 3) (cn (.int 0))))))
def dQ:List T->Rs T:=val 3 4 fX
def ij:En->Rs Fx:=
 (gP (yQ (o2 aQ (o2 aQ (vr 1) (cn (.int 0))) (vr 2)) (gT 3 (kW (gN 5) (kW (gN 6) (kW (gN 7) vB))))) (gP (DW 8 (xP (bB (af (cl bq (af (vr 1) (af (o2 aQ (vr 4) (cn (.int 0))) (af (o2 aQ (vr 4) (cn (.int 1))) ak)))) (af (cl br (af (vr 1) (af (o2 aQ (vr 4) (cn (.int 0))) (af (o2 aQ (vr 4) (cn (.int 1))) ak)))) ak))))) (gP (DW 9 (fq 0 "Desk" "read" gj (af (vr 2) (af (o2 aL (o2 aQ (vr 7) (o1 gz (cn (.int 1)))) (vr 3)) ak)))) (gP (DW 10 (xP (ln 0 (qr "Desk" "record" aJ (vr 0) ak)))) (gP (Cp (ph (tb (o2 pY (vr 9) (bB (af (vr 2) (af (cl bL (af (vr 7) ak)) ak))))) (tb (o2 r6 (vr 9) (cl de (af (vr 10) ak))))) (kO (xP (cn (.bl false)))) mN) (gP (Cp (tb (o2 pY (bB (af (cl bq (af (vr 10) (af (o2 aQ (vr 4) (cn (.int 0))) (af (o2 aQ (vr 4) (cn (.int 1))) ak)))) (af (cl br (af (vr 10) (af (o2 aQ (vr 4) (cn (.int 0))) (af (o2 aQ (vr 4) (cn (.int 1))) ak)))) ak))) (vr 8))) (kO (xP (cn (.bl false)))) mN) (gP (DW 11 (xP (bB (af (vr 2) (af (o2 f9 (cl bL (af (vr 7) ak)) (cn (.int 1))) ak))))) (gP (Cp (du (tb (cl dQ (af (vr 10) (af (vr 11) (af (vr 9) ak)))))) (kO (xP (cn (.bl false)))) mN) (kO (xP (cD (o2 GY (o2 bS (vr 5) (vr 3)) (cl br (af (vr 10) (af (vr 11) (af (vr 9) ak))))) (o2 GY (cl bq (af (vr 10) (af (vr 11) (af (vr 9) ak)))) (o2 bS (vr 6) (vr 3))))))))))))))
def dm:List Sl->Rs (T×OT):=gH 5 0 12 ij
def gC:En->Rs Fl:=
 (aC (tJ (cl aS (af (vr 0) ak))) (aM (cl cL (af (bB (af (o2 aQ (vr 0) (cn (.int 0))) (af (o2 aL (o2 aQ (vr 0) (cn (.int 1))) (bB (af (vr 1) ak))) ak))) ak))))
def bc:List T->Rs T:=val 2 2 gC
def eZ:En->Rs Fx:=
 (gP (zo (fq 0 "Desk" "keep" df (af (cl bc (af (ln 0 (qr "Desk" "record" aJ (vr 0) ak)) (af (vr 1) ak))) ak))) (kO (xP (o2 f9 (cl bL (af (o2 aQ (ln 0 (qr "Desk" "record" aJ (vr 0) ak)) (cn (.int 1))) ak)) (cn (.int 1))))))
def eR:List Sl->Rs (T×OT):=gH 2 0 2 eZ
def tI:En->Rs Fx:=
 (uR (kO (vz ve (fq 0 "Desk" "take" eR (af (vr 1) ak)) (o2 f9 (cl bL (af (o2 aQ (ln 0 (qr "Desk" "record" aJ (vr 0) ak)) (cn (.int 1))) ak)) (cn (.int 1))))) (Be "Barred" (.bl false)))
def cP:List Sl->Rs (T×OT):=gH 2 0 2 tI
def Ci:En->Rs Fl:=
 (aC (cE (bB (af (o2 aQ (cl eJ (af (vr 0) (af (cn (.int 0)) (af (cn (.int 0)) ak)))) (cn (.int 0))) (af (bB ak) ak))) (gN 1)) (aC (qh 2 "Desk" dD (af (vr 1) ak)) (aC (iM 3 (af (vr 1) ak)) (aC (jy (iR (af (cn (.int 5)) ak)) (gN 4) (aC (cE (o2 aL (cn (.int 80)) (o2 bS (cn (.int 10)) (vr 4))) (gN 5)) (aC (cE (ln 3 (o2 aQ (vr 3) (o1 gz (cn (.int 1))))) (gN 6)) (aC (cE (cl aw (af (vr 0) (af (vr 5) (af (cl bL (af (o2 aQ (vr 6) (cn (.int 0))) ak)) ak)))) (gN 7)) (aC (cE (o2 aQ (o2 aQ (vr 6) (cn (.int 0))) (vr 7)) (gT 3 (kW (gN 8) (kW (gN 9) (kW (gN 10) vB))))) (aC (cE (cl bz (af (vr 0) (af (o2 aL (vr 5) (cn (.int 3))) (af (o2 aQ (vr 6) (cn (.int 0))) ak)))) (gN 11)) (aC (gf (lZ (tb (o2 ve (cl aw (af (vr 0) (af (o2 aL (vr 5) (cn (.int 1))) (af (cn (.int 2)) ak)))) (cn (.int 0)))) (tb (o2 zp (cl bL (af (vr 10) ak)) (cn (.int 4))))) (aC (cE (cl de (af (vr 6) ak)) (gN 12)) (aC (cE (eV (af (o2 aQ (vr 12) (cl aw (af (vr 0) (af (o2 aL (vr 5) (cn (.int 2))) (af (cl bL (af (vr 12) ak)) ak))))) (af (o2 aQ (vr 12) (cl aw (af (vr 0) (af (o2 aL (vr 5) (cn (.int 9))) (af (cl bL (af (vr 12) ak)) ak))))) ak))) (gN 13)) (aC (cE (o2 aL (cn (.int 1)) (cl aw (af (vr 0) (af (o2 aL (vr 5) (cn (.int 8))) (af (cn (.int 9)) ak))))) (gN 14)) (aC (ly 3 (cl bp (af (vr 6) (af (vr 7) (af (o2 aL (o2 aQ (vr 10) (o1 gz (cn (.int 1)))) (vr 14)) ak))))) (nG (l6 (w8 (m8 2 dm (af (vr 6) (af (vr 7) (af (vr 14) (af (vr 13) ak))))))) (aM (cn (.bl false))) sN))))) (gf (lZ (tb (o2 iw (vr 11) (cn .non))) (tb (o2 zp (cl bL (af (o2 aQ (vr 6) (cn (.int 1))) ak)) (cn (.int 8))))) (aC (cE (cl bc (af (vr 6) (af (vr 11) ak))) (gN 15)) (aC (nG (w8 (vz pY (m8 2 cP (af (vr 11) ak)) (cl aY (af (vr 15) ak)))) (aM (cn (.bl false))) sN) (uj 3 (o2 bS (eV (af (vr 15) ak)) (cl sM (af (cl aY (af (vr 15) ak)) ak)))))) sN)) (gf (ph (tb (o2 pY (ln 2 (qr "Desk" "record" aJ (vr 2) ak)) (ln 3 (o2 aQ (vr 3) (o1 gz (cn (.int 1))))))) (tb (o2 pY (ln 2 (qr "Desk" "many" cv (vr 2) ak)) (o2 f9 (ln 3 (cl bL (af (vr 3) ak))) (cn (.int 1)))))) (aM (cn (.bl false))) sN)))))))) (aC (pC 3 (jy (iS (o1 C2 (sl (vr 3) pN (pS (o1 gz (cn (.int 1))))))) (gN 6) (aC (vP (fq 2 "Desk" "undo" eQ ak)) (gf (tb (o2 pY (ln 2 (qr "Desk" "record" aJ (vr 2) ak)) (vr 6))) (aM (cn (.bl false))) sN)))) (aM (o2 ve (ln 2 (qr "Desk" "many" cv (vr 2) ak)) (cn (.int 0)))))))))
def m_law:List T->Rs T:=val 1 16 Ci
end G
namespace G
open PySem PySem.Spec PyProof.Rows L2 Tr
section
variable (P:LI)(w:Mj){K:K7}{mg:Str->Option La}(base:Heap)
abbrev nr:Stmt:=top 18
abbrev wa:List Str:=["thing","least","most"]
theorem vO:az wa ["thing","least","most"] (aj nr):=ff
theorem v5 (F:fZ K mg "is_long" nr ["thing","least","most"])(B:Bl mg):Cl P w K mg base 1 "is_long" 3 aP:=
 bu F vO rfl λf c A o s H E hr x=>(ax (aD (dt (zw B.b_isinstance B.b_tuple eK (ag 0)) (dF (tN qj qj (ag 1) (cj bQ B.b_len MA (ah (ag 0) ai)) (ag 2))))))
abbrev l8:Stmt:=top 16
abbrev uI:List Str:=["thing"]
theorem ue:az uI ["thing"] (aj l8):=ff
theorem uA (F:fZ K mg "is_whole" l8 ["thing"])(B:Bl mg):Cl P w K mg base 1 "is_whole" 1 gZ:=
 bu F ue rfl λf c A o s H E hr x=>(ax (aD (dt (zw B.b_isinstance B.b_int i9 (ag 0)) (dF (FA (zw B.b_isinstance B.b_bool tD (ag 0)))))))
abbrev kr:Stmt:=top 17
abbrev r9:List Str:=["thing","least","most"]
theorem qY:az r9 ["thing","least","most"] (aj kr):=ff
theorem rL (F:fZ K mg "is_within" kr ["thing","least","most"])(aaR:Cl P w K mg base 1 "is_whole" 1 gZ):Cl P w K mg base 2 "is_within" 3 aU:=
 bu F qY rfl λf c A o s H E hr x=>(ax (aD (dt (aN aaR hr (ah (ag 0) ai)) (dF (tN qj qj (ag 1) (ag 0) (ag 2))))))
abbrev nq:Stmt:=top 21
abbrev v9:List Str:=["slow","fast"]
theorem vN:az v9 ["slow","fast"] (aj nq):=ff
theorem v3 (F:fZ K mg "is_pace" nq ["slow","fast"])(aa2:Cl P w K mg base 2 "is_within" 3 aU)(C:Cs mg):Cl P w K mg base 3 "is_pace" 2 fF:=
 bu F vN rfl λf c A o s H E hr x=>(ax (aD (dt (aN aa2 hr (ah (ag 0) (ah ao (ah (tM C.SLOWEST) ai)))) (dF (aN aa2 hr (ah (ag 1) (ah (ag 0) (ah (tM C.SLOWEST) ai))))))))
abbrev ni:Stmt:=top 19
abbrev uH:List Str:=["numbers"]
theorem zR:az uH ["numbers"] (aj ni):=ff
theorem Av (F:fZ K mg "rises" ni ["numbers"])(B:Bl mg):Cl P w K mg base 1 "rises" 1 jq:=
 bu F zR rfl λf c A o s H E hr x=>(ax (aD (cj (tp rfl) B.b_all boot_all (ah (kl (N':=["k","numbers"]) (src:=[none,some 0]) rfl (LcScope.by (N:=uH) (names:=(aj ni).names) rfl rfl rfl (by decide+kernel)) (cZ B.b_range (ah (ay eh (cj bQ B.b_len MA (ah (ag 0) ai)) ao) ai)) (λ_ _ _ _ _=>⟨(au 0 (show MY (["k","numbers"]:List Str)by decide+kernel)),dw,(fg uw (aB (ag 1) (ag 0)) (aB (ag 1) (ay aK (ag 0) ao)))⟩)) ai))))
abbrev fh:Stmt:=top 20
abbrev ix:List Str:=["thing"]
theorem mx:az ix ["thing"] (aj fh):=ff
theorem mC (F:fZ K mg "are_readings" fh ["thing"])(aa3:Cl P w K mg base 1 "is_long" 3 aP)(aaY:Cl P w K mg base 1 "rises" 1 jq)(aa2:Cl P w K mg base 2 "is_within" 3 aU)(B:Bl mg)(C:Cs mg):Cl P w K mg base 3 "are_readings" 1 bP:=
 bu F mx rfl λf c A o s H E hr x=>(aq (cX (dC (dh (aN aa3 hr (ah (ag 0) (ah ao (ah (tM C.MOST_READINGS) ai)))))) (ax (aD gd)) cf) (ax (aD (dt (cj (tp rfl) B.b_all boot_all (ah (kl (N':=["part"]) (src:=[none]) rfl (LcScope.by (N:=ix) (names:=(aj fh).names) rfl rfl rfl (by decide+kernel)) (gc (ag 0)) (λ_ _ _ _ _=>⟨(au 0 (show MY (["part"]:List Str)by decide+kernel)),dw,(aN aa2 hr (ah (ag 0) (ah ao (ah (tM C.LAST_READING) ai))))⟩)) ai)) (dF (aN aaY hr (ah (ag 0) ai)))))))
abbrev mf:Stmt:=top 22
abbrev uL:List Str:=["thing"]
theorem uh:az uL ["thing"] (aj mf):=ff
theorem uD (F:fZ K mg "is_clock" mf ["thing"])(aa3:Cl P w K mg base 1 "is_long" 3 aP)(aaV:Cl P w K mg base 3 "is_pace" 2 fF)(aas:Cl P w K mg base 3 "are_readings" 1 bP):Cl P w K mg base 4 "is_clock" 1 c9:=
 bu F uh rfl λf c A o s H E hr x=>(ax (aD (dt (aN aa3 hr (ah (ag 0) (ah ao (ah ao ai)))) (dt (aN aaV hr (ah (aB (ag 0) ao) (ah (aB (ag 0) ao) ai))) (dF (aN aas hr (ah (aB (ag 0) ao) ai)))))))
abbrev gu:Stmt:=top 23
abbrev jL:List Str:=["thing"]
theorem pA:az jL ["thing"] (aj gu):=ff
theorem pJ (F:fZ K mg "are_clocks" gu ["thing"])(aa3:Cl P w K mg base 1 "is_long" 3 aP)(aaS:Cl P w K mg base 4 "is_clock" 1 c9)(B:Bl mg)(C:Cs mg):Cl P w K mg base 5 "are_clocks" 1 dk:=
 bu F pA rfl λf c A o s H E hr x=>(ax (aD (dt (aN aa3 hr (ah (ag 0) (ah ao (ah (tM C.MOST_CLOCKS) ai)))) (dF (cj (tp rfl) B.b_all boot_all (ah (kl (N':=["part"]) (src:=[none]) rfl (LcScope.by (N:=jL) (names:=(aj gu).names) rfl rfl rfl (by decide+kernel)) (gc (ag 0)) (λ_ _ _ _ _=>⟨(au 0 (show MY (["part"]:List Str)by decide+kernel)),dw,(aN aaS hr (ah (ag 0) ai))⟩)) ai))))))
abbrev l9:Stmt:=top 24
abbrev uJ:List Str:=["clocks","thing"]
theorem uf:az uJ ["clocks","thing"] (aj l9):=ff
theorem uB (F:fZ K mg "is_event" l9 ["clocks","thing"])(aa2:Cl P w K mg base 2 "is_within" 3 aU)(aa3:Cl P w K mg base 1 "is_long" 3 aP)(B:Bl mg):Cl P w K mg base 3 "is_event" 2 cA:=
 bu F uf rfl λf c A o s H E hr x=>(aq (cX (m5 (m4 (dC (dh (aN aa3 hr (ah (ag 1) (ah ao (ah ao ai)))))) (ke (dC (dh (aN aa2 hr (ah (aB (ag 1) ao) (ah ao (ah (ay eh (cj bQ B.b_len MA (ah (ag 0) ai)) ao) ai))))))))) (ax (aD gd)) cf) (ax (aD (aN aa2 hr (ah (aB (ag 1) ao) (ah ao (ah (ay eh (cj bQ B.b_len MA (ah (aB (aB (ag 0) (aB (ag 1) ao)) ao) ai)) ao) ai)))))))
abbrev md:Stmt:=top 25
abbrev uK:List Str:=["least","most"]
theorem ug:az uK ["least","most"] (aj md):=ff
theorem uC (F:fZ K mg "is_delay" md ["least","most"])(aa2:Cl P w K mg base 2 "is_within" 3 aU)(C:Cs mg):Cl P w K mg base 3 "is_delay" 2 dG:=
 bu F ug rfl λf c A o s H E hr x=>(ax (aD (dt (aN aa2 hr (ah (ag 0) (ah ao (ah (tM C.LONGEST) ai)))) (dF (ES (fg uz (ag 1) c6) (dF (aN aa2 hr (ah (ag 1) (ah (ag 0) (ah (tM C.LONGEST) ai))))))))))
abbrev kx:Stmt:=top 26
abbrev se:List Str:=["clocks","thing"]
theorem q0:az se ["clocks","thing"] (aj kx):=ff
theorem rN (F:fZ K mg "is_letter" kx ["clocks","thing"])(aai:Cl P w K mg base 3 "is_event" 2 cA)(aa3:Cl P w K mg base 1 "is_long" 3 aP)(aaT:Cl P w K mg base 3 "is_delay" 2 dG):Cl P w K mg base 4 "is_letter" 2 bW:=
 bu F q0 rfl λf c A o s H E hr x=>(aq (cX (m5 (m4 (dC (dh (aN aa3 hr (ah (ag 1) (ah ao (ah ao ai)))))) (ke (dC (dh (aN aaT hr (ah (aB (ag 1) ao) (ah (aB (ag 1) ao) ai)))))))) (ax (aD gd)) cf) (ax (aD (dt (aN aai hr (ah (ag 0) (ah (aB (ag 1) ao) ai))) (dt (aN aai hr (ah (ag 0) (ah (aB (ag 1) ao) ai))) (dF (fg (nN (lT hr)) (aB (ag 1) ao) (aB (ag 1) ao))))))))
abbrev fL:Stmt:=top 27
abbrev iQ:List Str:=["clocks","thing"]
theorem nE:az iQ ["clocks","thing"] (aj fL):=ff
theorem nT (F:fZ K mg "are_letters" fL ["clocks","thing"])(aa3:Cl P w K mg base 1 "is_long" 3 aP)(aaN:Cl P w K mg base 4 "is_letter" 2 bW)(B:Bl mg)(C:Cs mg):Cl P w K mg base 5 "are_letters" 2 cS:=
 bu F nE rfl λf c A o s H E hr x=>(ax (aD (dt (aN aa3 hr (ah (ag 1) (ah ao (ah (tM C.MOST_LETTERS) ai)))) (dF (cj (tp rfl) B.b_all boot_all (ah (kl (N':=["part","clocks"]) (src:=[none,some 0]) rfl (LcScope.by (N:=iQ) (names:=(aj fL).names) rfl rfl rfl (by decide+kernel)) (gc (ag 1)) (λ_ _ _ _ _=>⟨(au 0 (show MY (["part","clocks"]:List Str)by decide+kernel)),dw,(aN aaN hr (ah (ag 1) (ah (ag 0) ai)))⟩)) ai))))))
abbrev ku:Stmt:=top 28
abbrev sd:List Str:=["thing"]
theorem qZ:az sd ["thing"] (aj ku):=ff
theorem rM (F:fZ K mg "is_record" ku ["thing"])(aa3:Cl P w K mg base 1 "is_long" 3 aP)(aaD:Cl P w K mg base 5 "are_clocks" 1 dk)(aax:Cl P w K mg base 5 "are_letters" 2 cS):Cl P w K mg base 6 "is_record" 1 c8:=
 bu F qZ rfl λf c A o s H E hr x=>(ax (aD (dt (aN aa3 hr (ah (ag 0) (ah ao (ah ao ai)))) (dt (aN aaD hr (ah (aB (ag 0) ao) ai)) (dF (aN aax hr (ah (aB (ag 0) ao) (ah (aB (ag 0) ao) ai))))))))
abbrev iG:Stmt:=top 29
abbrev n6:List Str:=["thing"]
theorem nA:az n6 ["thing"] (aj iG):=ff
theorem nQ (F:fZ K mg "need_record" iG ["thing"])(aaO:Cl P w K mg base 6 "is_record" 1 c8){C_NoRecord C_NoEvent C_NoNumber C_NoWorld C_Barred C_Nothing C_ClockError:Addr}(S:Xs K mg C_NoRecord C_NoEvent C_NoNumber C_NoWorld C_Barred C_Nothing C_ClockError):Cl P w K mg base 7 "need_record" 1 aS:=
 bu F nA rfl λf c A o s H E hr x=>(ax (cX (dC (dh (aN aaO hr (ah (ag 0) ai)))) (ax (fE S.o_NoRecord S.m_NoRecord)) cf))
abbrev lr:Stmt:=top 32
abbrev qm:List Str:=["record","told","number","clock"]
theorem aaK:az qm ["record"] (aj lr):=ff
theorem yH (F:fZ K mg "events" lr ["record"])(aa1:Cl P w K mg base 7 "need_record" 1 aS)(B:Bl mg):Cl P w K mg base 8 "events" 1 de:=
 bu F aaK rfl λf c A o s H E hr x=>(by(apply aq;exact(cY (aN aa1 hr (ah (ag 0) ai)));apply aq;exact(iB 1 aaK.nd ai);apply aq;exact(eF rfl (kh B.b_enumerate (ah (aB (ag 0) ao) ai)) (ki rfl (cH (au 2 aaK.nd) (cH (au 3 aaK.nd) iC))) (ax (qQ 1 (kl (N':=["k","number"]) (src:=[none,some 2]) rfl (LcScope.by (N:=qm) (names:=(aj lr).names) rfl rfl rfl (by decide+kernel)) (cZ B.b_range (ah (cj bQ B.b_len MA (ah (aB (ag 3) ao) ai)) ai)) (λ_ _ _ _ _=>⟨(au 0 (show MY (["k","number"]:List Str)by decide+kernel)),dw,(bw (ah (ag 1) (ah (ag 0) ai)))⟩)))));exact ax (jg 1 (aD (ag 1)))))
abbrev kz:Stmt:=top 44
abbrev sf:List Str:=["best","bound","ahead","known"]
theorem aaW:az sf ["best","bound","ahead"] (aj kz):=ff
theorem rO (F:fZ K mg "is_better" kz ["best","bound","ahead"]):Cl P w K mg base 1 "is_better" 3 da:=
 bu F aaW rfl λf c A o s H E hr x=>(aq (aI (wZ (HR hr) (ag 0) (aB (ag 1) ao)) (au 3 aaW.nd)) (ax (aD (ES (fg uz (ag 3) c6) (dF (fg uw (ay aK (aB (ag 2) ao) (aB (ag 1) ao)) (aB (ag 3) ao)))))))
abbrev jh:Stmt:=top 43
abbrev lH:List Str:=["limits","starts","best","moved","number","bound","ahead","walk","passed"]
theorem aaa:az lH ["limits","starts"] (aj jh):=ff
theorem yG (F:fZ K mg "settle" jh ["limits","starts"])(aaP:Cl P w K mg base 1 "is_better" 3 da)(B:Bl mg):Cl P w K mg base 2 "settle" 2 fR:=
 bu F aaa rfl λf c A o s H E hr x=>(by(apply aq;exact(zu 2 (hu8 hr) rfl B.b_dict aaa.nd (kl (N':=["event"]) (src:=[none]) rfl (LcScope.by (N:=lH) (names:=(aj jh).names) rfl rfl rfl (by decide+kernel)) (gc (ag 1)) (λ_ _ _ _ _=>⟨(au 0 (show MY (["event"]:List Str)by decide+kernel)),dw,(bw (ah (ag 0) (ah (bw (ah ao (ah (gV ai) ai))) ai)))⟩)));apply aq;exact(aI gd (au 3 aaa.nd));apply aq;exact(yo FU (dh (ag 3)) (aq (aI gd (au 3 aaa.nd)) (ax (eF rfl (kh B.b_enumerate (ah (ag 0) ai)) (ki rfl (cH (au 4 aaa.nd) (cH (au 5 aaa.nd) iC))) (by(apply aq;exact(aI (fJ 2 (wZ (HR hr) (ag 2) (aB (ag 5) ao))) (au 6 aaa.nd));apply aq;exact(cX (m5 (m4 (bR uz (ag 6) c6) (ke (dC (Fv 2 (dh (aN aaP hr (ah (ag 2) (ah (ag 5) (ah (ag 6) ai)))))))))) (ax Fy) cf);apply aq;exact(aI (ay aK (aB (ag 6) ao) (gV (ah (ag 4) ai))) (au 7 aaa.nd));apply aq;exact(Fw 8 (N':=["step","limits"]) (src:=[none,some 0]) rfl (LcScope.by (N:=lH) (names:=(aj jh).names) rfl rfl rfl (by decide+kernel)) (gc (ag 7)) (λ_ _ _ _ _=>⟨(au 0 (show MY (["step","limits"]:List Str)by decide+kernel)),dw,(aB (aB (ag 1) (ag 0)) ao)⟩) aaa.nd);apply aq;exact(cX (bR (Ja (Ho hr)) (aB (ag 5) ao) (ag 8)) (ax (aD (bw (ah c6 (ah (kj (ag 7) (kf (yp (Ho hr) (ag 8) (aB (ag 5) ao))) kg) ai))))) cf);apply aq;exact(CF 2 (HR hr) (aB (ag 5) ao) (bw (ah (ay aK (aB (ag 6) ao) (aB (ag 5) ao)) (ah (ag 7) ai))));exact ax (aI gd (au 3 aaa.nd))))))));exact ax (jg 2 (aD (bw (ah (ag 2) (ah c6 ai)))))))
abbrev dP:Stmt:=top 46
abbrev gi:List Str:=["record","limits","places","best"]
theorem aan:az gi ["record","limits"] (aj dP):=ff
theorem kL (F:fZ K mg "greatest_world" dP ["record","limits"])(aaj:Cl P w K mg base 8 "events" 1 de)(aat:Cl P w K mg base 2 "settle" 2 fR)(B:Bl mg):Cl P w K mg base 9 "greatest_world" 2 dj:=
 bu F aan rfl λf c A o s H E hr x=>(by(apply aq;exact(aI (aN aaj hr (ah (ag 0) ai)) (au 2 aan.nd));apply aq;exact(aI (aB (aN aat hr (ah (ag 1) (ah (ag 2) ai))) ao) (au 3 aan.nd));apply aq;exact(cX (bR uz (ag 3) c6) (ax (aD c6)) cf);exact ax (aD (tO oU B.b_tuple eK (ah (kl (N':=["event","best"]) (src:=[none,some 3]) rfl (LcScope.by (N:=gi) (names:=(aj dP).names) rfl rfl rfl (by decide+kernel)) (gc (ag 2)) (λ_ _ _ _ _=>⟨(au 0 (show MY (["event","best"]:List Str)by decide+kernel)),dw,(aB (zA (HR hr) (ag 1) (ag 0)) ao)⟩)) ai)))))
abbrev fK:Stmt:=top 39
abbrev jZ:List Str:=["number","clock","readings","told","k","first","second","steps"]
theorem aa4:az jZ ["number","clock"] (aj fK):=ff
theorem jY (F:fZ K mg "bounds_of_clock" fK ["number","clock"])(B:Bl mg):Cl P w K mg base 1 "bounds_of_clock" 2 cq:=
 bu F aa4 rfl λf c A o s H E hr x=>(by(apply aq;exact(aI (aB (ag 1) ao) (au 2 aa4.nd));apply aq;exact(iB 3 aa4.nd ai);apply aq;exact(eF rfl (cZ B.b_range (ah (ay eh (cj bQ B.b_len MA (ah (ag 2) ai)) ao) ai)) (au 4 aa4.nd) (by(apply aq;exact(aI (bw (ah (ag 0) (ah (ag 4) ai))) (au 5 aa4.nd));apply aq;exact(aI (bw (ah (ag 0) (ah (ay aK (ag 4) ao) ai))) (au 6 aa4.nd));apply aq;exact(aI (ay eh (aB (ag 2) (ay aK (ag 4) ao)) (aB (ag 2) (ag 4))) (au 7 aa4.nd));apply aq;exact(mO 3 (bw (ah (ag 5) (ah (ag 6) (ah (ay cN (ag 7) (aB (ag 1) ao)) ai)))));exact ax (mO 3 (bw (ah (ag 6) (ah (ag 5) (ah (ay cN (gq (ag 7)) (aB (ag 1) ao)) ai))))))));exact ax (jg 3 (aD (ag 3)))))
abbrev ft:Stmt:=top 40
abbrev jA:List Str:=["letter","told"]
theorem aar:az jA ["letter"] (aj ft):=ff
theorem jz (F:fZ K mg "bounds_of_letter" ft ["letter"]):Cl P w K mg base 1 "bounds_of_letter" 1 bY:=
 bu F aar rfl λf c A o s H E hr x=>(by(apply aq;exact(iB 1 aar.nd (ah (bw (ah (aB (ag 0) ao) (ah (aB (ag 0) ao) (ah (gq (aB (ag 0) ao)) ai)))) ai));apply aq;exact(cX (bR iP (aB (ag 0) ao) c6) (ax (mO 1 (bw (ah (aB (ag 0) ao) (ah (aB (ag 0) ao) (ah (aB (ag 0) ao) ai)))))) cf);exact ax (jg 1 (aD (ag 1)))))
abbrev qe:Stmt:=top 41
abbrev yK:List Str:=["record","told","number","clock","letter"]
theorem aaw:az yK ["record"] (aj qe):=ff
theorem yI (F:fZ K mg "bounds" qe ["record"])(aa1:Cl P w K mg base 7 "need_record" 1 aS)(aao:Cl P w K mg base 1 "bounds_of_clock" 2 cq)(aam:Cl P w K mg base 1 "bounds_of_letter" 1 bY)(B:Bl mg):Cl P w K mg base 8 "bounds" 1 fS:=
 bu F aaw rfl λf c A o s H E hr x=>(by(apply aq;exact(cY (aN aa1 hr (ah (ag 0) ai)));apply aq;exact(iB 1 aaw.nd ai);apply aq;exact(eF rfl (kh B.b_enumerate (ah (aB (ag 0) ao) ai)) (ki rfl (cH (au 2 aaw.nd) (cH (au 3 aaw.nd) iC))) (ax (qQ 1 (aN aao hr (ah (ag 2) (ah (ag 3) ai))))));apply aq;exact(eF rfl (gc (aB (ag 0) ao)) (au 4 aaw.nd) (ax (qQ 1 (aN aam hr (ah (ag 4) ai)))));exact ax (jg 1 (aD (ag 1)))))
abbrev ua:Stmt:=top 47
abbrev AA:List Str:=["record"]
theorem zQ:az AA ["record"] (aj ua):=ff
theorem As (F:fZ K mg "world" ua ["record"])(aap:Cl P w K mg base 9 "greatest_world" 2 dj)(aau:Cl P w K mg base 8 "bounds" 1 fS):Cl P w K mg base 10 "world" 1 jo:=
 bu F zQ rfl λf c A o s H E hr x=>(ax (aD (aN aap hr (ah (ag 0) (ah (aN aau hr (ah (ag 0) ai)) ai)))))
abbrev kB:Stmt:=top 48
abbrev sh:List Str:=["record"]
theorem rg:az sh ["record"] (aj kB):=ff
theorem rQ (F:fZ K mg "has_world" kB ["record"])(aaZ:Cl P w K mg base 10 "world" 1 jo):Cl P w K mg base 11 "has_world" 1 aY:=
 bu F rg rfl λf c A o s H E hr x=>(ax (aD (fg iP (aN aaZ hr (ah (ag 0) ai)) c6)))
abbrev jF:Stmt:=top 49
abbrev pR:List Str:=["record"]
theorem pw:az pR ["record"] (aj jF):=ff
theorem pH (F:fZ K mg "need_world" jF ["record"])(aa7:Cl P w K mg base 11 "has_world" 1 aY){C_NoRecord C_NoEvent C_NoNumber C_NoWorld C_Barred C_Nothing C_ClockError:Addr}(S:Xs K mg C_NoRecord C_NoEvent C_NoNumber C_NoWorld C_Barred C_Nothing C_ClockError):Cl P w K mg base 12 "need_world" 1 cO:=
 bu F pw rfl λf c A o s H E hr x=>(ax (cX (dC (dh (aN aa7 hr (ah (ag 0) ai)))) (ax (fE S.o_NoWorld S.m_NoWorld)) cf))
abbrev gK:Stmt:=cV (top 51) 0
abbrev lJ:List Str:=["self","record"]
theorem lx:az lJ ["self","record"] (aj gK):=ff
theorem lD (F:p7 K "Desk" "__init__" "Desk.__init__" gK ["self","record"])(aag:Cl P w K mg base 12 "need_world" 1 cO)(K_Desk:dZ K mg):Mm P w K mg base 13 "Desk" "__init__" 2 dD:=
 uO F lx rfl λf c A o s H E hr x=>(di (tR (eE (aN aag hr (ah (ag 1) ai)))) (ef (FC 0 K_Desk.k K_Desk.a_kept (ah (ag 1) ai))))
abbrev kG:Stmt:=cV (top 51) 7
abbrev sy:List Str:=["self"]
theorem rn:az sy ["self"] (aj kG):=ff
theorem rX (F:p7 K "Desk" "many" "Desk.many" kG ["self"])(B:Bl mg)(K_Desk:dZ K mg):Ml P w K mg base 1 "Desk" "many" cv:=
 E5 F rn rfl λf c A o s H E hr x=>(ax (aD (ay eh (cj bQ B.b_len MA (ah (zy K_Desk.k K_Desk.a_kept (ag 0)) ai)) ao)))
abbrev kD:Stmt:=cV (top 51) 6
abbrev sj:List Str:=["self"]
theorem ri:az sj ["self"] (aj kD):=ff
theorem rS (F:p7 K "Desk" "undo" "Desk.undo" kD ["self"])(c_Desk_many:Ml P w K mg base 1 "Desk" "many" cv)(K_Desk:dZ K mg){C_NoRecord C_NoEvent C_NoNumber C_NoWorld C_Barred C_Nothing C_ClockError:Addr}(S:Xs K mg C_NoRecord C_NoEvent C_NoNumber C_NoWorld C_Barred C_Nothing C_ClockError):Mm P w K mg base 2 "Desk" "undo" 1 eQ:=
 uO F ri rfl λf c A o s H E hr x=>(di (tQ (bR (qk (lT hr)) (fJ 0 (dO K_Desk.k c_Desk_many hr (ag 0))) ao) (ef (zB (fE S.o_Nothing S.m_Nothing))) m6) (ef (tR (Ft 0 K_Desk.k K_Desk.a_kept))))
abbrev kC:Stmt:=top 61
abbrev si:List Str:=["_law_script","_law_k"]
theorem rh:az si ["_law_script","_law_k"] (aj kC):=ff
theorem rR (F:fZ K mg "_law_cell" kC ["_law_script","_law_k"])(B:Bl mg):Cl P w K mg base 1 "_law_cell" 2 eO:=
 bu F rh rfl λf c A o s H E hr x=>(aq (cX (bR (qk (lT hr)) (ag 0) (gV ai)) (ax (aD (ay cN ao (ag 1)))) cf) (ax (aD (ay aK (aB (ag 0) (ay jX (ag 1) (cj bQ B.b_len MA (ah (ag 0) ai)))) (ay cN ao (ay mQ (ag 1) (cj bQ B.b_len MA (ah (ag 0) ai))))))))
abbrev jJ:Stmt:=top 62
abbrev pW:List Str:=["_law_script","_law_k","_law_many","_law_cell_here"]
theorem aay:az pW ["_law_script","_law_k","_law_many"] (aj jJ):=ff
theorem pM (F:fZ K mg "_law_drawn" jJ ["_law_script","_law_k","_law_many"])(aaQ:Cl P w K mg base 1 "_law_cell" 2 eO):Cl P w K mg base 2 "_law_drawn" 3 aw:=
 bu F aay rfl λf c A o s H E hr x=>(by(apply aq;exact(aI (ay jX (ay aK (ay cN (ay jX (aN aaQ hr (ah (ag 0) (ah (ag 1) ai))) ao) ao) (ay cN ao (ay aK (ag 1) ao))) ao) (au 3 aay.nd));apply aq;exact(aI (ay jX (ay aK (ay cN (ag 3) (ag 3)) (ay mQ (ag 3) ao)) ao) (au 3 aay.nd));exact ax (aD (ay jX (ay mQ (ay jX (ay aK (ay cN (ag 3) (ag 3)) (ay mQ (ag 3) ao)) ao) ao) (ag 2)))))
abbrev fN:Stmt:=top 65
abbrev iV:List Str:=["_law_clocks","_law_found","_law_number","_law_clock_here"]
theorem aah:az iV ["_law_clocks"] (aj fN):=ff
theorem nW (F:fZ K mg "_law_events" fN ["_law_clocks"])(B:Bl mg):Cl P w K mg base 1 "_law_events" 1 dy:=
 bu F aah rfl λf c A o s H E hr x=>(by(apply aq;exact(aI (gV ai) (au 1 aah.nd));apply aq;exact(eF rfl (kh B.b_enumerate (ah (ag 0) ai)) (ki rfl (cH (au 2 aah.nd) (cH (au 3 aah.nd) iC))) (ax (aI (ay aK (ag 1) (kl (N':=["_law_place","_law_number"]) (src:=[none,some 2]) rfl (LcScope.by (N:=iV) (names:=(aj fN).names) rfl rfl rfl (by decide+kernel)) (cZ B.b_range (ah (cj bQ B.b_len MA (ah (aB (ag 3) ao) ai)) ai)) (λ_ _ _ _ _=>⟨(au 0 (show MY (["_law_place","_law_number"]:List Str)by decide+kernel)),dw,(bw (ah (ag 1) (ah (ag 0) ai)))⟩))) (au 1 aah.nd))));exact ax (aD (ag 1))))
abbrev iJ:Stmt:=top 64
abbrev oa:List Str:=["_law_script","_law_at","_law_clocks","_law_row","_law_place","_law_other","_law_least","_law_most"]
theorem aab:az oa ["_law_script","_law_at","_law_clocks"] (aj iJ):=ff
theorem nV (F:fZ K mg "_law_letter" iJ ["_law_script","_law_at","_law_clocks"])(aaz:Cl P w K mg base 1 "_law_events" 1 dy)(aa0:Cl P w K mg base 2 "_law_drawn" 3 aw)(B:Bl mg):Cl P w K mg base 3 "_law_letter" 3 bz:=
 bu F aab rfl λf c A o s H E hr x=>(by(apply aq;exact(aI (aN aaz hr (ah (ag 2) ai)) (au 3 aab.nd));apply aq;exact(cX (bR uw (cj bQ B.b_len MA (ah (ag 3) ai)) ao) (ax (aD c6)) cf);apply aq;exact(aI (aN aa0 hr (ah (ag 0) (ah (ag 1) (ah (cj bQ B.b_len MA (ah (ag 3) ai)) ai)))) (au 4 aab.nd));apply aq;exact(aI (ay jX (ay aK (ay aK (ag 4) ao) (aN aa0 hr (ah (ag 0) (ah (ay aK (ag 1) ao) (ah (ay eh (cj bQ B.b_len MA (ah (ag 3) ai)) ao) ai))))) (cj bQ B.b_len MA (ah (ag 3) ai))) (au 5 aab.nd));apply aq;exact(aI (aN aa0 hr (ah (ag 0) (ah (ay aK (ag 1) ao) (ah ao ai)))) (au 6 aab.nd));apply aq;exact(aI (zx (bR (qk (lT hr)) (aN aa0 hr (ah (ag 0) (ah (ay aK (ag 1) ao) (ah ao ai)))) ao) c6 (ay aK (ag 6) (aN aa0 hr (ah (ag 0) (ah (ay aK (ag 1) ao) (ah ao ai)))))) (au 7 aab.nd));exact ax (aD (bw (ah (aB (ag 3) (ag 4)) (ah (aB (ag 3) (ag 5)) (ah (ag 6) (ah (ag 7) ai))))))))
abbrev iK:Stmt:=cV (top 51) 1
abbrev og:List Str:=["self"]
theorem nF:az og ["self"] (aj iK):=ff
theorem nX (F:p7 K "Desk" "record" "Desk.record" iK ["self"])(K_Desk:dZ K mg):Ml P w K mg base 1 "Desk" "record" aJ:=
 E5 F nF rfl λf c A o s H E hr x=>(ax (aD (aB (zy K_Desk.k K_Desk.a_kept (ag 0)) (gq ao))))
abbrev jK:Stmt:=top 63
abbrev pX:List Str:=["_law_script","_law_at","_law_slow","_law_readings","_law_k"]
theorem aak:az pX ["_law_script","_law_at"] (aj jK):=ff
theorem pO (F:fZ K mg "_law_clock" jK ["_law_script","_law_at"])(aa0:Cl P w K mg base 2 "_law_drawn" 3 aw)(B:Bl mg):Cl P w K mg base 3 "_law_clock" 2 cu:=
 bu F aak rfl λf c A o s H E hr x=>(by(apply aq;exact(aI (ay aK ao (aN aa0 hr (ah (ag 0) (ah (ag 1) (ah ao ai))))) (au 2 aak.nd));apply aq;exact(aI (bw (ah (aN aa0 hr (ah (ag 0) (ah (ay aK (ag 1) ao) (ah ao ai)))) ai)) (au 3 aak.nd));apply aq;exact(eF rfl (cZ B.b_range (ah (aN aa0 hr (ah (ag 0) (ah (ay aK (ag 1) ao) (ah ao ai)))) ai)) (au 4 aak.nd) (ax (aI (ay aK (ag 3) (bw (ah (ay aK (ay aK (aB (ag 3) (gq ao)) ao) (aN aa0 hr (ah (ag 0) (ah (ay aK (ay aK (ag 1) ao) (ag 4)) (ah ao ai))))) ai))) (au 3 aak.nd))));exact ax (aD (bw (ah (ag 2) (ah (ay aK (ag 2) (aN aa0 hr (ah (ag 0) (ah (ay aK (ag 1) ao) (ah ao ai))))) (ah (ag 3) ai)))))))
abbrev fM:Stmt:=top 66
abbrev iU:List Str:=["_law_script","_law_at","_law_most","_law_clocks","_law_letters","_law_k","_law_letter_here"]
theorem aac:az iU ["_law_script","_law_at","_law_most"] (aj fM):=ff
theorem nU (F:fZ K mg "_law_record" fM ["_law_script","_law_at","_law_most"])(aa0:Cl P w K mg base 2 "_law_drawn" 3 aw)(aae:Cl P w K mg base 3 "_law_letter" 3 bz)(aaE:Cl P w K mg base 3 "_law_clock" 2 cu)(B:Bl mg):Cl P w K mg base 4 "_law_record" 3 eJ:=
 bu F aac rfl λf c A o s H E hr x=>(by(apply aq;exact(aI (tO oU B.b_tuple eK (ah (kl (N':=["_law_k","_law_script","_law_at"]) (src:=[none,some 0,some 1]) rfl (LcScope.by (N:=iU) (names:=(aj fM).names) rfl rfl rfl (by decide+kernel)) (cZ B.b_range (ah (ay aK ao (aN aa0 hr (ah (ag 0) (ah (ag 1) (ah ao ai))))) ai)) (λ_ _ _ _ _=>⟨(au 0 (show MY (["_law_k","_law_script","_law_at"]:List Str)by decide+kernel)),dw,(aN aaE hr (ah (ag 1) (ah (ay aK (ay aK (ag 2) ao) (ay cN ao (ag 0))) ai)))⟩)) ai)) (au 3 aac.nd));apply aq;exact(aI (gV ai) (au 4 aac.nd));apply aq;exact(eF rfl (cZ B.b_range (ah (aN aa0 hr (ah (ag 0) (ah (ay aK (ag 1) ao) (ah (ay aK (ag 2) ao) ai)))) ai)) (au 5 aac.nd) (aq (aI (aN aae hr (ah (ag 0) (ah (ay aK (ay aK (ag 1) ao) (ay cN ao (ag 5))) (ah (ag 3) ai)))) (au 6 aac.nd)) (ax (aI (ay aK (ag 4) (ay cN (gV (ah (ag 6) ai)) (tO BU B.b_int i9 (ah (fg iP (ag 6) c6) ai)))) (au 4 aac.nd)))));exact ax (aD (bw (ah (ag 3) (ah (tO oU B.b_tuple eK (ah (ag 4) ai)) ai))))))
abbrev iH:Stmt:=top 31
abbrev n8:List Str:=["many","thing"]
theorem nB:az n8 ["many","thing"] (aj iH):=ff
theorem nR (F:fZ K mg "need_number" iH ["many","thing"])(aa2:Cl P w K mg base 2 "is_within" 3 aU){C_NoRecord C_NoEvent C_NoNumber C_NoWorld C_Barred C_Nothing C_ClockError:Addr}(S:Xs K mg C_NoRecord C_NoEvent C_NoNumber C_NoWorld C_Barred C_Nothing C_ClockError):Cl P w K mg base 3 "need_number" 2 eG:=
 bu F nB rfl λf c A o s H E hr x=>(ax (cX (dC (dh (aN aa2 hr (ah (ag 1) (ah ao (ah (ay eh (ag 0) ao) ai)))))) (ax (fE S.o_NoNumber S.m_NoNumber)) cf))
abbrev kA:Stmt:=top 34
abbrev sg:List Str:=["thing"]
theorem rf:az sg ["thing"] (aj kA):=ff
theorem rP (F:fZ K mg "if_record" kA ["thing"])(aa1:Cl P w K mg base 7 "need_record" 1 aS):Cl P w K mg base 8 "if_record" 1 cL:=
 bu F rf rfl λf c A o s H E hr x=>(aq (cY (aN aa1 hr (ah (ag 0) ai))) (ax (aD (ag 0))))
abbrev jD:Stmt:=top 36
abbrev pP:List Str:=["record","number","clock","clocks"]
theorem aaU:az pP ["record","number","clock"] (aj jD):=ff
theorem pF (F:fZ K mg "with_clock" jD ["record","number","clock"])(aal:Cl P w K mg base 8 "if_record" 1 cL):Cl P w K mg base 9 "with_clock" 3 fz:=
 bu F aaU rfl λf c A o s H E hr x=>(aq (aI (aB (ag 0) ao) (au 3 aaU.nd)) (ax (aD (aN aal hr (ah (bw (ah (ay aK (ay aK (kj (ag 3) kg (kf (ag 1))) (bw (ah (ag 2) ai))) (kj (ag 3) (kf (ay aK (ag 1) ao)) kg)) (ah (aB (ag 0) ao) ai))) ai)))))
abbrev iq:Stmt:=top 37
abbrev mE:List Str:=["record","clock","reading","old"]
theorem aaL:az mE ["record","clock","reading"] (aj iq):=ff
theorem my (F:fZ K mg "with_reading" iq ["record","clock","reading"])(aa1:Cl P w K mg base 7 "need_record" 1 aS)(aaA:Cl P w K mg base 3 "need_number" 2 eG)(aaF:Cl P w K mg base 9 "with_clock" 3 fz)(B:Bl mg):Cl P w K mg base 10 "with_reading" 3 bp:=
 bu F aaL rfl λf c A o s H E hr x=>(by(apply aq;exact(cY (aN aa1 hr (ah (ag 0) ai)));apply aq;exact(cY (aN aaA hr (ah (cj bQ B.b_len MA (ah (aB (ag 0) ao) ai)) (ah (ag 1) ai))));apply aq;exact(aI (aB (aB (ag 0) ao) (ag 1)) (au 3 aaL.nd));exact ax (aD (aN aaF hr (ah (ag 0) (ah (ag 1) (ah (bw (ah (aB (ag 3) ao) (ah (aB (ag 3) ao) (ah (ay aK (aB (ag 3) ao) (bw (ah (ag 2) ai))) ai)))) ai)))))))
abbrev kH:Stmt:=cV (top 51) 2
abbrev sA:List Str:=["self","record"]
theorem rq:az sA ["self","record"] (aj kH):=ff
theorem rY (F:p7 K "Desk" "keep" "Desk.keep" kH ["self","record"])(aa7:Cl P w K mg base 11 "has_world" 1 aY)(K_Desk:dZ K mg){C_NoRecord C_NoEvent C_NoNumber C_NoWorld C_Barred C_Nothing C_ClockError:Addr}(S:Xs K mg C_NoRecord C_NoEvent C_NoNumber C_NoWorld C_Barred C_Nothing C_ClockError):Mm P w K mg base 12 "Desk" "keep" 2 df:=
 uO F rq rfl λf c A o s H E hr x=>(di (tQ (dC (dh (aN aa7 hr (ah (ag 1) ai)))) (ef (zB (fE S.o_Barred S.m_Barred))) m6) (ef (tR (Fu 0 K_Desk.k K_Desk.a_kept (ag 1)))))
abbrev kF:Stmt:=cV (top 51) 4
abbrev sr:List Str:=["self","clock","reading"]
theorem rk:az sr ["self","clock","reading"] (aj kF):=ff
theorem rW (F:p7 K "Desk" "read" "Desk.read" kF ["self","clock","reading"])(c_Desk_keep:Mm P w K mg base 12 "Desk" "keep" 2 df)(aad:Cl P w K mg base 10 "with_reading" 3 bp)(c_Desk_record:Ml P w K mg base 1 "Desk" "record" aJ)(B:Bl mg)(K_Desk:dZ K mg):Mm P w K mg base 13 "Desk" "read" 3 gj:=
 uO F rk rfl λf c A o s H E hr x=>(di (tR (mM 0 K_Desk.k c_Desk_keep hr (ah (aN aad hr (ah (fJ 0 (dO K_Desk.k c_Desk_record hr (ag 0))) (ah (ag 1) (ah (ag 2) ai)))) ai))) (ef (jT (eE (bw (ah (ag 1) (ah (ay eh (cj bQ B.b_len MA (ah (aB (aB (aB (fJ 0 (dO K_Desk.k c_Desk_record hr (ag 0))) ao) (ag 1)) ao) ai)) ao) ai)))))))
abbrev jG:Stmt:=top 30
abbrev pT:List Str:=["record","thing"]
theorem pz:az pT ["record","thing"] (aj jG):=ff
theorem pI (F:fZ K mg "need_event" jG ["record","thing"])(aai:Cl P w K mg base 3 "is_event" 2 cA){C_NoRecord C_NoEvent C_NoNumber C_NoWorld C_Barred C_Nothing C_ClockError:Addr}(S:Xs K mg C_NoRecord C_NoEvent C_NoNumber C_NoWorld C_Barred C_Nothing C_ClockError):Cl P w K mg base 4 "need_event" 2 dR:=
 bu F pz rfl λf c A o s H E hr x=>(ax (cX (dC (dh (aN aai hr (ah (aB (ag 0) ao) (ah (ag 1) ai))))) (ax (fE S.o_NoEvent S.m_NoEvent)) cf))
abbrev iI:Stmt:=top 53
abbrev n9:List Str:=["record","one","other"]
theorem nC:az n9 ["record","one","other"] (aj iI):=ff
theorem nS (F:fZ K mg "need_events" iI ["record","one","other"])(aa1:Cl P w K mg base 7 "need_record" 1 aS)(aaq:Cl P w K mg base 4 "need_event" 2 dR):Cl P w K mg base 8 "need_events" 3 eI:=
 bu F nC rfl λf c A o s H E hr x=>(by(apply aq;exact(cY (aN aa1 hr (ah (ag 0) ai)));apply aq;exact(cY (aN aaq hr (ah (ag 0) (ah (ag 1) ai))));exact ax (cY (aN aaq hr (ah (ag 0) (ah (ag 2) ai))))))
abbrev nj:Stmt:=top 55
abbrev v8:List Str:=["walks","other"]
theorem vM:az v8 ["walks","other"] (aj nj):=ff
theorem vZ (F:fZ K mg "most_of" nj ["walks","other"]):Cl P w K mg base 1 "most_of" 2 lN:=
 bu F vM rfl λf c A o s H E hr x=>(ax (aD (zx (bR (GB (HR hr)) (ag 1) (ag 0)) (aB (zA (HR hr) (ag 0) (ag 1)) ao) c6)))
abbrev jE:Stmt:=top 54
abbrev pQ:List Str:=["record","one"]
theorem pv:az pQ ["record","one"] (aj jE):=ff
theorem pG (F:fZ K mg "walks_from" jE ["record","one"])(aat:Cl P w K mg base 2 "settle" 2 fR)(aau:Cl P w K mg base 8 "bounds" 1 fS):Cl P w K mg base 9 "walks_from" 2 fA:=
 bu F pv rfl λf c A o s H E hr x=>(ax (aD (aB (aN aat hr (ah (aN aau hr (ah (ag 0) ai)) (ah (gV (ah (ag 1) ai)) ai))) ao)))
abbrev iu:Stmt:=top 56
abbrev mG:List Str:=["record","one","other"]
theorem mw:az mG ["record","one","other"] (aj iu):=ff
theorem mB (F:fZ K mg "most_between" iu ["record","one","other"])(aaB:Cl P w K mg base 8 "need_events" 3 eI)(aag:Cl P w K mg base 12 "need_world" 1 cO)(aaX:Cl P w K mg base 1 "most_of" 2 lN)(aaG:Cl P w K mg base 9 "walks_from" 2 fA):Cl P w K mg base 13 "most_between" 3 bq:=
 bu F mw rfl λf c A o s H E hr x=>(by(apply aq;exact(cY (aN aaB hr (ah (ag 0) (ah (ag 1) (ah (ag 2) ai)))));apply aq;exact(cY (aN aag hr (ah (ag 0) ai)));exact ax (aD (aN aaX hr (ah (aN aaG hr (ah (ag 0) (ah (ag 1) ai))) (ah (ag 2) ai))))))
abbrev gJ:Stmt:=top 57
abbrev lI:List Str:=["record","one","other","most"]
theorem aaH:az lI ["record","one","other"] (aj gJ):=ff
theorem lC (F:fZ K mg "least_between" gJ ["record","one","other"])(aa6:Cl P w K mg base 13 "most_between" 3 bq):Cl P w K mg base 14 "least_between" 3 br:=
 bu F aaH rfl λf c A o s H E hr x=>(aq (aI (aN aa6 hr (ah (ag 0) (ah (ag 2) (ah (ag 1) ai)))) (au 3 aaH.nd)) (ax (aD (zx (bR uz (ag 3) c6) c6 (gq (ag 3))))))
abbrev ir:Stmt:=top 59
abbrev mF:List Str:=["record","one","other","least"]
theorem aaM:az mF ["record","one","other"] (aj ir):=ff
theorem mz (F:fZ K mg "surely_ahead" ir ["record","one","other"])(aa5:Cl P w K mg base 14 "least_between" 3 br):Cl P w K mg base 15 "surely_ahead" 3 dQ:=
 bu F aaM rfl λf c A o s H E hr x=>(aq (aI (aN aa5 hr (ah (ag 0) (ah (ag 1) (ah (ag 2) ai)))) (au 3 aaM.nd)) (ax (aD (dt (fg iP (ag 3) c6) (dF (fg Jb (ag 3) ao))))))
abbrev jI:Stmt:=top 68
abbrev pV:List Str:=["_law_desk","_law_record_here","_law_clock_here","_law_steps","_law_two","_law_slow","_law_fast","_law_readings","_law_told","_law_event","_law_now","_law_ahead"]
theorem aa8:az pV ["_law_desk","_law_record_here","_law_clock_here","_law_steps","_law_two"] (aj jI):=ff
theorem pL (F:fZ K mg "_law_reads" jI ["_law_desk","_law_record_here","_law_clock_here","_law_steps","_law_two"])(c_Desk_read:Mm P w K mg base 13 "Desk" "read" 3 gj)(c_Desk_record:Ml P w K mg base 1 "Desk" "record" aJ)(aa6:Cl P w K mg base 13 "most_between" 3 bq)(aa5:Cl P w K mg base 14 "least_between" 3 br)(aav:Cl P w K mg base 15 "surely_ahead" 3 dQ)(aaj:Cl P w K mg base 8 "events" 1 de)(B:Bl mg)(K_Desk:dZ K mg):Ce P w K mg base 16 "_law_reads" 5 0 dm:=
 Fj F aa8 rfl λf c A o s H E hr x=>(di (FD (aB (aB (ag 1) ao) (ag 2)) (FE rfl (m7 (qR 5 aa8.nd) (m7 (qR 6 aa8.nd) (m7 (qR 7 aa8.nd) CK))))) (di (w4 8 aa8.nd (eE (bw (ah (aN aa6 hr (ah (ag 1) (ah (aB (ag 4) ao) (ah (aB (ag 4) ao) ai)))) (ah (aN aa5 hr (ah (ag 1) (ah (aB (ag 4) ao) (ah (aB (ag 4) ao) ai)))) ai))))) (di (w4 9 aa8.nd (mM 0 K_Desk.k c_Desk_read hr (ah (ag 2) (ah (ay aK (aB (ag 7) (gq ao)) (ag 3)) ai)))) (di (w4 10 aa8.nd (eE (fJ 0 (dO K_Desk.k c_Desk_record hr (ag 0))))) (di (tQ (m5 (m4 (bR (nN (lT hr)) (ag 9) (bw (ah (ag 2) (ah (cj bQ B.b_len MA (ah (ag 7) ai)) ai)))) (ke (bR (Ao (Ho hr)) (ag 9) (aN aaj hr (ah (ag 10) ai)))))) (ef (jT (eE gd))) m6) (di (tQ (bR (nN (lT hr)) (bw (ah (aN aa6 hr (ah (ag 10) (ah (aB (ag 4) ao) (ah (aB (ag 4) ao) ai)))) (ah (aN aa5 hr (ah (ag 10) (ah (aB (ag 4) ao) (ah (aB (ag 4) ao) ai)))) ai))) (ag 8)) (ef (jT (eE gd))) m6) (di (w4 11 aa8.nd (eE (bw (ah (ag 2) (ah (ay eh (cj bQ B.b_len MA (ah (ag 7) ai)) ao) ai))))) (di (tQ (dC (dh (aN aav hr (ah (ag 10) (ah (ag 11) (ah (ag 9) ai)))))) (ef (jT (eE gd))) m6) (ef (jT (eE (dt (fg qj (ay cN (ag 5) (ag 3)) (aN aa5 hr (ah (ag 10) (ah (ag 11) (ah (ag 9) ai))))) (dF (fg qj (aN aa6 hr (ah (ag 10) (ah (ag 11) (ah (ag 9) ai)))) (ay cN (ag 6) (ag 3))))))))))))))))
abbrev iF:Stmt:=top 35
abbrev n5:List Str:=["record","letter"]
theorem ny:az n5 ["record","letter"] (aj iF):=ff
theorem nP (F:fZ K mg "with_letter" iF ["record","letter"])(aa1:Cl P w K mg base 7 "need_record" 1 aS)(aal:Cl P w K mg base 8 "if_record" 1 cL):Cl P w K mg base 9 "with_letter" 2 bc:=
 bu F ny rfl λf c A o s H E hr x=>(aq (cY (aN aa1 hr (ah (ag 0) ai))) (ax (aD (aN aal hr (ah (bw (ah (aB (ag 0) ao) (ah (ay aK (aB (ag 0) ao) (bw (ah (ag 1) ai))) ai))) ai)))))
abbrev kE:Stmt:=cV (top 51) 3
abbrev sk:List Str:=["self","letter"]
theorem rj:az sk ["self","letter"] (aj kE):=ff
theorem rV (F:p7 K "Desk" "take" "Desk.take" kE ["self","letter"])(c_Desk_keep:Mm P w K mg base 12 "Desk" "keep" 2 df)(aaf:Cl P w K mg base 9 "with_letter" 2 bc)(c_Desk_record:Ml P w K mg base 1 "Desk" "record" aJ)(B:Bl mg)(K_Desk:dZ K mg):Mm P w K mg base 13 "Desk" "take" 2 eR:=
 uO F rj rfl λf c A o s H E hr x=>(di (tR (mM 0 K_Desk.k c_Desk_keep hr (ah (aN aaf hr (ah (fJ 0 (dO K_Desk.k c_Desk_record hr (ag 0))) (ah (ag 1) ai))) ai))) (ef (jT (eE (ay eh (cj bQ B.b_len MA (ah (aB (fJ 0 (dO K_Desk.k c_Desk_record hr (ag 0))) ao) ai)) ao)))))
abbrev jH:Stmt:=top 67
abbrev pU:List Str:=["_law_desk","_law_letter_here"]
theorem pB:az pU ["_law_desk","_law_letter_here"] (aj jH):=ff
theorem pK (F:fZ K mg "_law_takes" jH ["_law_desk","_law_letter_here"])(c_Desk_take:Mm P w K mg base 13 "Desk" "take" 2 eR)(c_Desk_record:Ml P w K mg base 1 "Desk" "record" aJ)(B:Bl mg)(K_Desk:dZ K mg){C_NoRecord C_NoEvent C_NoNumber C_NoWorld C_Barred C_Nothing C_ClockError:Addr}(S:Xs K mg C_NoRecord C_NoEvent C_NoNumber C_NoWorld C_Barred C_Nothing C_ClockError):Ce P w K mg base 14 "_law_takes" 2 0 cP:=
 Fj F pB rfl λf c A o s H E hr x=>(ef (CJ S.m_Barred S.o_Barred (λ_ _=>(ef (jT (HU (qk (lT hr)) (mM 0 K_Desk.k c_Desk_take hr (ah (ag 1) ai)) (ay eh (cj bQ B.b_len MA (ah (aB (fJ 0 (dO K_Desk.k c_Desk_record hr (ag 0))) ao) ai)) ao))))) (λ_ _=>(ax (aD gd))) (hcl:=λ_ _ z=>by cases z)))
abbrev zN:Stmt:=top 69
abbrev GQ:List Str:=["_law_script","_law_first","_law_desk","_law_rows","_law_k","_law_here","_law_record_here","_law_clock_here","_law_slow","_law_fast","_law_readings","_law_letter_here","_law_row","_law_two","_law_steps","_law_more"]
theorem aa9:az GQ ["_law_script"] (aj zN):=ff
theorem GL {f:Addr}{fd:Mp}(ab0:Fn K mg "law" zN ["_law_script"] f fd)(c_Desk___init__:Mm P w K mg base 13 "Desk" "__init__" 2 dD)(c_Desk_undo:Mm P w K mg base 2 "Desk" "undo" 1 eQ)(c_Desk_many:Ml P w K mg base 1 "Desk" "many" cv)(aa0:Cl P w K mg base 2 "_law_drawn" 3 aw)(aae:Cl P w K mg base 3 "_law_letter" 3 bz)(c_Desk_record:Ml P w K mg base 1 "Desk" "record" aJ)(aaC:Cl P w K mg base 4 "_law_record" 3 eJ)(aaj:Cl P w K mg base 8 "events" 1 de)(aad:Cl P w K mg base 10 "with_reading" 3 bp)(aaI:Ce P w K mg base 16 "_law_reads" 5 0 dm)(aaf:Cl P w K mg base 9 "with_letter" 2 bc)(aaJ:Ce P w K mg base 14 "_law_takes" 2 0 cP)(aa7:Cl P w K mg base 11 "has_world" 1 aY)(B:Bl mg)(K_Desk:dZ K mg):Cw P w K mg base 17 f fd ["_law_script"] 1 m_law:=
 qS ab0.fn aa9 rfl λc A o s H E hr x=>(by(apply aq;exact(aI (bw (ah (aB (aN aaC hr (ah (ag 0) (ah ao (ah ao ai)))) ao) (ah (bw ai) ai))) (au 1 aa9.nd));apply aq;exact(zv 2 aa9.nd K_Desk.k c_Desk___init__ hr (ah (ag 1) ai));apply aq;exact(iB 3 aa9.nd (ah (ag 1) ai));apply aq;exact(eF rfl (cZ B.b_range (ah ao ai)) (au 4 aa9.nd) (by(apply aq;exact(aI (ay aK ao (ay cN ao (ag 4))) (au 5 aa9.nd));apply aq;exact(aI (fJ 3 (aB (ag 3) (gq ao))) (au 6 aa9.nd));apply aq;exact(aI (aN aa0 hr (ah (ag 0) (ah (ag 5) (ah (cj bQ B.b_len MA (ah (aB (ag 6) ao) ai)) ai)))) (au 7 aa9.nd));apply aq;exact(aI (aB (aB (ag 6) ao) (ag 7)) (ki rfl (cH (au 8 aa9.nd) (cH (au 9 aa9.nd) (cH (au 10 aa9.nd) iC)))));apply aq;exact(aI (aN aae hr (ah (ag 0) (ah (ay aK (ag 5) ao) (ah (aB (ag 6) ao) ai)))) (au 11 aa9.nd));apply aq;exact(cX (m5 (wX (bR (qk (lT hr)) (aN aa0 hr (ah (ag 0) (ah (ay aK (ag 5) ao) (ah ao ai)))) ao) (tL (bR uw (cj bQ B.b_len MA (ah (ag 10) ai)) ao)))) (by(apply aq;exact(aI (aN aaj hr (ah (ag 6) ai)) (au 12 aa9.nd));apply aq;exact(aI (gV (ah (aB (ag 12) (aN aa0 hr (ah (ag 0) (ah (ay aK (ag 5) ao) (ah (cj bQ B.b_len MA (ah (ag 12) ai)) ai))))) (ah (aB (ag 12) (aN aa0 hr (ah (ag 0) (ah (ay aK (ag 5) ao) (ah (cj bQ B.b_len MA (ah (ag 12) ai)) ai))))) ai))) (au 13 aa9.nd));apply aq;exact(aI (ay aK ao (aN aa0 hr (ah (ag 0) (ah (ay aK (ag 5) ao) (ah ao ai))))) (au 14 aa9.nd));apply aq;exact(mO 3 (aN aad hr (ah (ag 6) (ah (ag 7) (ah (ay aK (aB (ag 10) (gq ao)) (ag 14)) ai)))));exact ax (wY (CC (Cz (zr 2 aaI hr (ah (ag 6) (ah (ag 7) (ah (ag 14) (ah (ag 13) ai))))))) (ax (aD gd)) cf))) (ax (cX (m5 (wX (bR iP (ag 11) c6) (tL (bR uw (cj bQ B.b_len MA (ah (aB (ag 6) ao) ai)) ao)))) (by(apply aq;exact(aI (aN aaf hr (ah (ag 6) (ah (ag 11) ai))) (au 15 aa9.nd));apply aq;exact(wY (CD (nN (lT hr)) (zr 2 aaJ hr (ah (ag 11) ai)) (aN aa7 hr (ah (ag 15) ai))) (ax (aD gd)) cf);exact ax (CH 3 aa9.nd (ay cN (gV (ah (ag 15) ai)) (tO BU B.b_int i9 (ah (aN aa7 hr (ah (ag 15) ai)) ai)))))) cf)));exact ax (cX (m5 (m4 (bR (nN (lT hr)) (fJ 2 (dO K_Desk.k c_Desk_record hr (ag 2))) (fJ 3 (aB (ag 3) (gq ao)))) (ke (bR (nN (lT hr)) (fJ 2 (dO K_Desk.k c_Desk_many hr (ag 2))) (ay eh (fJ 3 (cj bQ B.b_len MA (ah (ag 3) ai))) ao))))) (ax (aD gd)) cf))));apply aq;exact(jg 3 (eF rfl (gc (Fz (kj (ag 3) kg (kf (gq ao))))) (au 6 aa9.nd) (aq (CG (zq 2 K_Desk.k c_Desk_undo hr)) (ax (cX (bR (nN (lT hr)) (fJ 2 (dO K_Desk.k c_Desk_record hr (ag 2))) (ag 6)) (ax (aD gd)) cf)))));exact ax (aD (fg (qk (lT hr)) (fJ 2 (dO K_Desk.k c_Desk_many hr (ag 2))) ao))))
end
@[elab_as_elim] theorem ee {α:Type} {p:List α->Prop} (h:∀a0,p [a0]):∀us:List α,us.length=1->p us
 | [a0],_=>h a0
@[elab_as_elim] theorem dU {α:Type} {p:List α->Prop} (h:∀a0 a1,p [a0,a1]):∀us:List α,us.length=2->p us
 | [a0,a1],_=>h a0 a1
@[elab_as_elim] theorem gQ {α:Type} {p:List α->Prop} (h:∀a0 a1 a2,p [a0,a1,a2]):∀us:List α,us.length=3->p us
 | [a0,a1,a2],_=>h a0 a1 a2
@[elab_as_elim] theorem Jr {α:Type} {p:List α->Prop} (h:∀a0 a1 a2 a3 a4,p [a0,a1,a2,a3,a4]):∀us:List α,us.length=5->p us
 | [a0,a1,a2,a3,a4],_=>h a0 a1 a2 a3 a4
theorem all_ok {l:PySem.W.OpenLaw}{w:Mj}{K:K7}{h:Heap}{mg:Str->Option La}{fa:Addr}(X:K.In h)(e0:Aw asks K=zG asks top)(G:h.Ns LV mg)(hfa:mg "law" =some (.ref fa)) :
  ∃fd:Mp,(∀(s:Ld) (v:La),Qk s fd ⟨[v],[]⟩ [("_law_script",v)])/\∀base:Heap,K.In base->base.Ns LV mg->o9 l.prog w K mg base CX0 17 fa fd ["_law_script"] (spP K 1 m_law):=by
 have e:uE BZ K=tU BZ top:=congrArg (·.1) e0
 obtain⟨kc0,ka0,km0⟩:=JF (A:=⟨"Desk",51,["kept"],[("__init__","Desk.__init__",0),("many","Desk.many",7),("undo","Desk.undo",6),("record","Desk.record",1),("keep","Desk.keep",2),("read","Desk.read",4),("take","Desk.take",3)]⟩) X G (lM 0 (congrArg (·.2) e0) rfl)
 have K_Desk:dZ K mg:=⟨kc0,ka0 _ (by decide)⟩
 have B:Bl mg:=⟨g8 0 X G e rfl,g8 1 X G e rfl,g8 2 X G e rfl,g8 3 X G e rfl,g8 4 X G e rfl,g8 5 X G e rfl,g8 6 X G e rfl,g8 7 X G e rfl,g8 8 X G e rfl⟩
 have C:Cs mg:=⟨qv 0 X G e rfl,qv 1 X G e rfl,qv 2 X G e rfl,qv 3 X G e rfl,qv 4 X G e rfl,qv 5 X G e rfl⟩;obtain⟨C_ClockError,ls,xD,xl,nd⟩:=GN (JD e);obtain⟨C_NoRecord,ls0,x_NoRecord,rfl,xl0⟩:=fH xl;obtain⟨C_NoEvent,ls1,x_NoEvent,rfl,xl1⟩:=fH xl0;obtain⟨C_NoNumber,ls2,x_NoNumber,rfl,xl2⟩:=fH xl1;obtain⟨C_NoWorld,ls3,x_NoWorld,rfl,xl3⟩:=fH xl2;obtain⟨C_Barred,ls4,x_Barred,rfl,xl4⟩:=fH xl3;obtain⟨C_Nothing,ls5,x_Nothing,rfl,xl5⟩:=fH xl4
 cases B7 xl5
 have S:Xs K mg C_NoRecord C_NoEvent C_NoNumber C_NoWorld C_Barred C_Nothing C_ClockError:=⟨NK X G (gx x_NoRecord).1,NK X G (gx x_NoEvent).1,NK X G (gx x_NoNumber).1,NK X G (gx x_NoWorld).1,NK X G (gx x_Barred).1,NK X G (gx x_Nothing).1,NK X G (gx xD).1,HN x_NoRecord xD,HN x_NoEvent xD,HN x_NoNumber xD,HN x_NoWorld xD,HN x_Barred xD,HN x_Nothing xD,ox0 xD,nd⟩
 obtain⟨fd44,ab0,bnd⟩:=Jz (n:="law") (i:=69) (x:="_law_script") 44 X G e rfl hfa λ_ _ _ _ _ _ _=>rfl
 refine⟨fd44,bnd,λbase _ _=> ?_⟩
 have aa3:=v5 l.prog w base (cz 0 X G e rfl λ_ _ _ _ _ _ us hl=>gQ (λ_ _ _=>rfl) us hl) B
 have aaR:=uA l.prog w base (cz 1 X G e rfl λ_ _ _ _ _ _ us hl=>ee (λ_=>rfl) us hl) B
 have aa2:=rL l.prog w base (cz 2 X G e rfl λ_ _ _ _ _ _ us hl=>gQ (λ_ _ _=>rfl) us hl) aaR
 have aaV:=v3 l.prog w base (cz 3 X G e rfl λ_ _ _ _ _ _ us hl=>dU (λ_ _=>rfl) us hl) aa2 C
 have aaY:=Av l.prog w base (cz 4 X G e rfl λ_ _ _ _ _ _ us hl=>ee (λ_=>rfl) us hl) B
 have aas:=mC l.prog w base (cz 5 X G e rfl λ_ _ _ _ _ _ us hl=>ee (λ_=>rfl) us hl) aa3 aaY aa2 B C
 have aaS:=uD l.prog w base (cz 6 X G e rfl λ_ _ _ _ _ _ us hl=>ee (λ_=>rfl) us hl) aa3 aaV aas
 have aaD:=pJ l.prog w base (cz 7 X G e rfl λ_ _ _ _ _ _ us hl=>ee (λ_=>rfl) us hl) aa3 aaS B C
 have aai:=uB l.prog w base (cz 8 X G e rfl λ_ _ _ _ _ _ us hl=>dU (λ_ _=>rfl) us hl) aa2 aa3 B
 have aaT:=uC l.prog w base (cz 9 X G e rfl λ_ _ _ _ _ _ us hl=>dU (λ_ _=>rfl) us hl) aa2 C
 have aaN:=rN l.prog w base (cz 10 X G e rfl λ_ _ _ _ _ _ us hl=>dU (λ_ _=>rfl) us hl) aai aa3 aaT
 have aax:=nT l.prog w base (cz 11 X G e rfl λ_ _ _ _ _ _ us hl=>dU (λ_ _=>rfl) us hl) aa3 aaN B C
 have aaO:=rM l.prog w base (cz 12 X G e rfl λ_ _ _ _ _ _ us hl=>ee (λ_=>rfl) us hl) aa3 aaD aax
 have aa1:=nQ l.prog w base (cz 13 X G e rfl λ_ _ _ _ _ _ us hl=>ee (λ_=>rfl) us hl) aaO S
 have aaj:=yH l.prog w base (cz 14 X G e rfl λ_ _ _ _ _ _ us hl=>ee (λ_=>rfl) us hl) aa1 B
 have aaP:=rO l.prog w base (cz 15 X G e rfl λ_ _ _ _ _ _ us hl=>gQ (λ_ _ _=>rfl) us hl)
 have aat:=yG l.prog w base (cz 16 X G e rfl λ_ _ _ _ _ _ us hl=>dU (λ_ _=>rfl) us hl) aaP B
 have aap:=kL l.prog w base (cz 17 X G e rfl λ_ _ _ _ _ _ us hl=>dU (λ_ _=>rfl) us hl) aaj aat B
 have aao:=jY l.prog w base (cz 18 X G e rfl λ_ _ _ _ _ _ us hl=>dU (λ_ _=>rfl) us hl) B
 have aam:=jz l.prog w base (cz 19 X G e rfl λ_ _ _ _ _ _ us hl=>ee (λ_=>rfl) us hl)
 have aau:=yI l.prog w base (cz 20 X G e rfl λ_ _ _ _ _ _ us hl=>ee (λ_=>rfl) us hl) aa1 aao aam B
 have aaZ:=As l.prog w base (cz 21 X G e rfl λ_ _ _ _ _ _ us hl=>ee (λ_=>rfl) us hl) aap aau
 have aa7:=rQ l.prog w base (cz 22 X G e rfl λ_ _ _ _ _ _ us hl=>ee (λ_=>rfl) us hl) aaZ
 have aag:=pH l.prog w base (cz 23 X G e rfl λ_ _ _ _ _ _ us hl=>ee (λ_=>rfl) us hl) aa7 S
 have c_Desk___init__:=lD l.prog w base (j5 0 km0 rfl λ_ _ _ _ _ _ us hl=>dU (λ_ _=>rfl) us hl) aag K_Desk
 have c_Desk_many:=rX l.prog w base (j5 1 km0 rfl λ_ _ _ _ _ _ us hl=>ee (λ_=>rfl) us hl) B K_Desk
 have c_Desk_undo:=rS l.prog w base (j5 2 km0 rfl λ_ _ _ _ _ _ us hl=>ee (λ_=>rfl) us hl) c_Desk_many K_Desk S
 have aaQ:=rR l.prog w base (cz 24 X G e rfl λ_ _ _ _ _ _ us hl=>dU (λ_ _=>rfl) us hl) B
 have aa0:=pM l.prog w base (cz 25 X G e rfl λ_ _ _ _ _ _ us hl=>gQ (λ_ _ _=>rfl) us hl) aaQ
 have aaz:=nW l.prog w base (cz 26 X G e rfl λ_ _ _ _ _ _ us hl=>ee (λ_=>rfl) us hl) B
 have aae:=nV l.prog w base (cz 27 X G e rfl λ_ _ _ _ _ _ us hl=>gQ (λ_ _ _=>rfl) us hl) aaz aa0 B
 have c_Desk_record:=nX l.prog w base (j5 3 km0 rfl λ_ _ _ _ _ _ us hl=>ee (λ_=>rfl) us hl) K_Desk
 have aaE:=pO l.prog w base (cz 28 X G e rfl λ_ _ _ _ _ _ us hl=>dU (λ_ _=>rfl) us hl) aa0 B
 have aaC:=nU l.prog w base (cz 29 X G e rfl λ_ _ _ _ _ _ us hl=>gQ (λ_ _ _=>rfl) us hl) aa0 aae aaE B
 have aaA:=nR l.prog w base (cz 30 X G e rfl λ_ _ _ _ _ _ us hl=>dU (λ_ _=>rfl) us hl) aa2 S
 have aal:=rP l.prog w base (cz 31 X G e rfl λ_ _ _ _ _ _ us hl=>ee (λ_=>rfl) us hl) aa1
 have aaF:=pF l.prog w base (cz 32 X G e rfl λ_ _ _ _ _ _ us hl=>gQ (λ_ _ _=>rfl) us hl) aal
 have aad:=my l.prog w base (cz 33 X G e rfl λ_ _ _ _ _ _ us hl=>gQ (λ_ _ _=>rfl) us hl) aa1 aaA aaF B
 have c_Desk_keep:=rY l.prog w base (j5 4 km0 rfl λ_ _ _ _ _ _ us hl=>dU (λ_ _=>rfl) us hl) aa7 K_Desk S
 have c_Desk_read:=rW l.prog w base (j5 5 km0 rfl λ_ _ _ _ _ _ us hl=>gQ (λ_ _ _=>rfl) us hl) c_Desk_keep aad c_Desk_record B K_Desk
 have aaq:=pI l.prog w base (cz 34 X G e rfl λ_ _ _ _ _ _ us hl=>dU (λ_ _=>rfl) us hl) aai S
 have aaB:=nS l.prog w base (cz 35 X G e rfl λ_ _ _ _ _ _ us hl=>gQ (λ_ _ _=>rfl) us hl) aa1 aaq
 have aaX:=vZ l.prog w base (cz 36 X G e rfl λ_ _ _ _ _ _ us hl=>dU (λ_ _=>rfl) us hl)
 have aaG:=pG l.prog w base (cz 37 X G e rfl λ_ _ _ _ _ _ us hl=>dU (λ_ _=>rfl) us hl) aat aau
 have aa6:=mB l.prog w base (cz 38 X G e rfl λ_ _ _ _ _ _ us hl=>gQ (λ_ _ _=>rfl) us hl) aaB aag aaX aaG
 have aa5:=lC l.prog w base (cz 39 X G e rfl λ_ _ _ _ _ _ us hl=>gQ (λ_ _ _=>rfl) us hl) aa6
 have aav:=mz l.prog w base (cz 40 X G e rfl λ_ _ _ _ _ _ us hl=>gQ (λ_ _ _=>rfl) us hl) aa5
 have aaI:=pL l.prog w base (cz 41 X G e rfl λ_ _ _ _ _ _ us hl=>Jr (λ_ _ _ _ _=>rfl) us hl) c_Desk_read c_Desk_record aa6 aa5 aav aaj B K_Desk
 have aaf:=nP l.prog w base (cz 42 X G e rfl λ_ _ _ _ _ _ us hl=>dU (λ_ _=>rfl) us hl) aa1 aal
 have c_Desk_take:=rV l.prog w base (j5 6 km0 rfl λ_ _ _ _ _ _ us hl=>dU (λ_ _=>rfl) us hl) c_Desk_keep aaf c_Desk_record B K_Desk
 have aaJ:=pK l.prog w base (cz 43 X G e rfl λ_ _ _ _ _ _ us hl=>dU (λ_ _=>rfl) us hl) c_Desk_take c_Desk_record B K_Desk S
 exact(GL l.prog w base ab0 c_Desk___init__ c_Desk_undo c_Desk_many aa0 aae c_Desk_record aaC aaj aad aaI aaf aaJ aa7 B K_Desk).h
end G
namespace Tr
open PySem
abbrev RR (cs ls:List T):T:=.tup [.tup cs,.tup ls]
mutual
def T.pl:T->Bool
 | .scr _=>false
 | .dct _ _=>false
 | .ob _ _ _=>false
 | .tup l=>plS l
 | .lst l=>plS l
 | _=>true
def plS:List T->Bool
 | [] =>true
 | t::l=>t.pl&&plS l
end
theorem fy:∀{l:List T} {t:T},plS l=true->t∈l->t.pl=true
 | [],_,_,h=>by cases h
 | u::l,t,h,m=>by
  unfold plS at h;rw[K8]at h;rcases Lj.mp m with rfl | m
  ·exact h.1
  ·exact fy h.2 m
mutual
theorem T.Km:∀(t:T),t.pl=true->t.nd=true
 | .non,_=>rfl
 | .bl _,_=>rfl
 | .int _,_=>rfl
 | .str _,_=>rfl
 | .scr _,h=>by cases h
 | .dct _ _,h=>by cases h
 | .ob _ _ _,h=>by cases h
 | .tup l,h=>by unfold T.pl at h;unfold T.nd;exact plS_nds l h
 | .lst l,h=>by unfold T.pl at h;unfold T.nd;exact plS_nds l h
theorem plS_nds:∀(l:List T),plS l=true->nds l=true
 | [],_=>rfl
 | t::l,h=>by
  unfold plS at h;rw[K8]at h;unfold nds;rw[T.Km t h.1,plS_nds l h.2];rfl
end
theorem wj {fe:En->Rs T}{h:T->T}:∀(ts:List T) (Z:En),0<Z.length->(∀t∈ts,fe (Z.set 0 (.va t))= .ok (h t))->dW (gN 0) bT fe ts Z= .ok (ts.map h)
 | [],_,_,_=>rfl
 | t::r,Z,hl,hf=>by
  unfold dW
  have e1:gN 0 t Z= .ok (Z.set 0 (.va t)):=by unfold gN;rw[if_pos hl]
  have ih:=wj r (Z.set 0 (.va t)) (by rw[MH];exact hl) (λu hu=>by rw[List.set_set];exact hf u (K9 _ hu))
  simp only[e1,aA,bT,if_true,hf t Lg,ih,Lf]
theorem qH (p:T->Bool):∀l:List T,oZ (l.map λt=>T.bl (p t))=some (l.map p)
 | [] =>rfl
 | t::l=>by rw[Lf,oZ,qH p l];rfl
theorem all_map (p:T->Bool)(l:List T):p0 [.lst (l.map λt=>T.bl (p t))] = .ok (.bl (l.all p)):=by
 simp only[p0,qH,List.all_map]
 rfl
theorem ka {α:Type}{l:List α}{k:Nat}{t:α}(h:l[k]? =some t):L2.atI l (k:Int)=some t:=by
 have hk:k<l.length:=(Ll.mp h).1
 unfold L2.atI L2.ixN;rw[if_pos (by omega),if_pos (by omega),ME]
 exact h
theorem aE {n k:Nat}(h:n<=k)(hk:autoParam (k<=1000) aqb._auto_1):n<=sizeLine:=by unfold sizeLine;omega
section
variable {f fa fb fc:En->Rs T}{fs:En->Rs (List T)}{b c:En->Rs Bool}{F G:En->Rs Fl}{Z Z' Z1 Z2:En}{t u r:T}{ts l m:List T}
theorem uV {i:Nat}(h:Z[i]? =some (.va t)):vr i Z= .ok t:=by unfold vr;rw[h]
theorem aG {g:T->T->Rs T}{x:Rs T}(ha:fa Z= .ok t)(hb:fb Z= .ok u)(hg:g t u=x):o2 g fa fb Z=x:=by unfold o2;rw[ha,hb];exact hg
theorem A2 {g:T->Rs T}{x:Rs T}(ha:fa Z= .ok t)(hg:g t=x):o1 g fa Z=x:=by unfold o1;rw[ha];exact hg
theorem Jx {g:T->T->Rs T}{x:Rs T}{ks vs:List T}(ha:fa Z= .ok (.dct ks vs))(hb:fb Z= .ok u)(hg:g (.dct ks vs) u=x):oD g fa fb Z=x:=by unfold oD;rw[ha];show(fb Z >>= g (.dct ks vs))=_;rw[hb];exact hg
theorem k_oL {g:T->T->Rs T}{x:Rs T}{ks:List T}(ha:fa Z= .ok (.lst ks))(hb:fb Z= .ok u)(hg:g (.lst ks) u=x):oL g fa fb Z=x:=by unfold oL;rw[ha];show(fb Z >>= g (.lst ks))=_;rw[hb];exact hg
theorem ar (h:f Z= .ok t)(hs:fs Z= .ok ts):af f fs Z= .ok (t::ts):=by unfold af;rw[h,hs];rfl
theorem aW {g:List T->Rs T}{x:Rs T}(h:fs Z= .ok ts)(hg:g ts=x):cl g fs Z=x:=by unfold cl;rw[h];exact hg
theorem cW {k:Bool}(h:f Z= .ok (.bl k)):tb f Z= .ok k:=by unfold tb;rw[h];rfl
theorem kS {k:Bool}(h:b Z= .ok k):du b Z= .ok (!k):=by unfold du;rw[h];rfl
theorem Jw (h:b Z= .ok true):ph b c Z= .ok true:=by unfold ph;rw[h];rfl
theorem A1 {x:Rs Bool}(h:b Z= .ok false)(h2:c Z=x):ph b c Z=x:=by unfold ph;rw[h];exact h2
theorem Bb (h:b Z= .ok false):lZ b c Z= .ok false:=by unfold lZ;rw[h];rfl
theorem Ba {x:Rs Bool}(h:b Z= .ok true)(h2:c Z=x):lZ b c Z=x:=by unfold lZ;rw[h];exact h2
theorem JG {p q:Bool}(h:b Z= .ok p)(h2:p=true->c Z= .ok q):lZ b c Z= .ok (p&&q):=by
 cases p with
 | false=>exact Bb h
 | true=>exact Ba h (h2 rfl)
theorem A9 (h:fa Z= .ok (.bl true)):cD fa fb Z=fb Z:=by unfold cD;rw[h];rfl
theorem G9 (h:fa Z= .ok (.bl true)):Co fa fb Z= .ok (.bl true):=by unfold Co;rw[h];rfl
theorem Ha (h:fa Z= .ok (.bl false)):Co fa fb Z=fb Z:=by unfold Co;rw[h];rfl
theorem xQ {p:Bool}(h:b Z= .ok p):Fd b fa fb Z=if p then fa Z else fb Z:=by unfold Fd;rw[h];rfl
theorem cC {g:T->En->Rs En}(h:f Z= .ok t)(hg:g t Z= .ok Z'):cE f g Z= .ok (.nx Z'):=by unfold cE;rw[h];show(match g t Z with | .ok Z'=>Rs.ok (Fl.nx Z') | _=> .bad)=_;rw[hg]
theorem aF (h:F Z= .ok (.nx Z')):aC F G Z=G Z':=by unfold aC;rw[h];rfl
theorem oE (h:F Z= .ok (.rt t)):aC F G Z= .ok (.rt t):=by unfold aC;rw[h];rfl
theorem A0 (h:F Z= .ok (.ct Z')):aC F G Z= .ok (.ct Z'):=by unfold aC;rw[h];rfl
theorem G6 {c:Str}(h:F Z= .err c):aC F G Z= .err c:=by unfold aC;rw[h];rfl
theorem iY (h:b Z= .ok true):gf b F G Z=F Z:=by unfold gf;rw[h];rfl
theorem fw (h:b Z= .ok false):gf b F G Z=G Z:=by unfold gf;rw[h];rfl
theorem cU (h:f Z= .ok t):aM f Z= .ok (.rt t):=by unfold aM;rw[h];rfl
theorem G7 {c:Str}(h:f Z= .err c):aM f Z= .err c:=by unfold aM;rw[h];rfl
theorem oF (h:f Z= .ok t):tJ f Z= .ok (.nx Z):=by unfold tJ;rw[h];rfl
theorem JC {c:Str}(h:f Z= .err c):tJ f Z= .err c:=by unfold tJ;rw[h];rfl
theorem jP {fi:En->Rs (List T)}{g:T->En->Rs En}{x:Fl}(h:fi Z= .ok ts)(h2:bO g F ts Z= .ok x):jy fi g F Z= .ok x:=by unfold jy;rw[h];show(match bO g F ts Z with | .ok f=>Rs.ok f | _=> .bad)=_;rw[h2]
theorem gA {g:T->En->Rs En}(h:g t Z= .ok Z1)(h2:F Z1= .ok (.nx Z2)):bO g F (t::ts) Z=bO g F ts Z2:=by rw[bO,h];show(F Z1 >>= _)=_;rw[h2];rfl
theorem Ed {g:T->En->Rs En}(h:g t Z= .ok Z1)(h2:F Z1= .ok (.ct Z2)):bO g F (t::ts) Z=bO g F ts Z2:=by rw[bO,h];show(F Z1 >>= _)=_;rw[h2];rfl
theorem D9 {g:T->En->Rs En}(h:g t Z= .ok Z1)(h2:F Z1= .ok (.rt r)):bO g F (t::ts) Z= .ok (.rt r):=by rw[bO,h];show(F Z1 >>= _)=_;rw[h2];rfl
theorem AZ {n:Nat}(h:c Z= .ok false):bN c F (n+1) Z= .ok (.nx Z):=by unfold bN;rw[h]
theorem uU {n:Nat}(h:c Z= .ok true)(h2:F Z= .ok (.nx Z')):bN c F (n+1) Z=bN c F n Z':=by rw[bN,h];simp only[h2]
theorem AY {n:Nat}(h:c Z= .ok true)(h2:F Z= .ok (.rt t)):bN c F (n+1) Z= .ok (.rt t):=by rw[bN,h];simp only[h2]
theorem cm {n m:Nat}(hl:ts.length=n)(h:F (aO m ts)= .ok (.rt t)):val n m F ts= .ok t:=by unfold val;rw[if_pos hl];unfold bD;rw[h];rfl
theorem wq {n m:Nat}{c:Str}(hl:ts.length=n)(h:F (aO m ts)= .err c):val n m F ts= .err c:=by unfold val;rw[if_pos hl];unfold bD;rw[h];rfl
theorem oB {n m:Nat}(hl:ts.length=n)(h:F (aO m ts)= .ok (.nx Z)):val n m F ts= .ok .non:=by unfold val;rw[if_pos hl];unfold bD;rw[h];rfl
theorem yX {fi:En->Rs (List T)}{src:List (Option Nat)}{fe:En->Rs T}{h:T->T}(hi:fi Z= .ok ts)(hs:ts.length<=sizeLine)(hn:0<src.length)(hf:∀t∈ts,fe ((dz src Z).set 0 (.va t))= .ok (h t)) :
  jr fi src (gN 0) bT fe Z= .ok (.lst (ts.map h)):=by
 have e:=wj (fe:=fe) (h:=h) ts (dz src Z) (by unfold dz;rw[Lh];exact hn) hf
 unfold jr;rw[hi,aA,if_pos hs,e]
theorem cy (h:fs Z= .ok ts)(hl:ts.length<=sizeLine):bB fs Z= .ok (.tup ts):=by unfold bB;rw[h];show jN ts=_;unfold jN;rw[if_pos hl]
theorem mm (h:fs Z= .ok ts)(hl:ts.length<=sizeLine):eV fs Z= .ok (.lst ts):=by unfold eV;rw[h];show jO ts=_;unfold jO;rw[if_pos hl]
theorem wt {f:En->Rs (List T)}{i:Nat}(h:f Z= .ok l)(hi:i<Z.length)(hl:l.length<=1000):iM i f Z= .ok (.nx (Z.set i (.ow (.lst l)))):=by
 unfold iM;rw[h,aA,if_pos ⟨hi,aE hl (by omega)⟩]
theorem A3 {i:Nat}(hi:i<Z.length):iM i ak Z= .ok (.nx (Z.set i (.ow (.lst [])))):=wt rfl hi (Nq _)
theorem xS {i:Nat}(h:f Z= .ok t)(hi:Z[i]? =some (.ow (.lst l)))(hl:l.length<=1000):ly i f Z= .ok (.nx (Z.set i (.ow (.lst (l++ [t]))))):=by
 unfold ly;rw[hi];simp only[h,aA];rw[if_pos (by unfold sizeLine;omega)]
theorem A8 {i:Nat}(h:f Z= .ok (.lst m))(hi:Z[i]? =some (.ow (.lst l)))(hl:l.length+m.length<=1000):nH i f Z= .ok (.nx (Z.set i (.ow (.lst (l++m))))):=by
 unfold nH;rw[hi];simp only[h,aA,Ht];rw[if_pos (by unfold sizeLine;omega)]
theorem xR (h:f Z= .ok (.lst l)):iS f Z= .ok l:=by unfold iS;rw[h];rfl
theorem JB (h:fs Z= .ok [.lst l]):iE fs Z= .ok (cR 0 l):=by unfold iE;rw[h];rfl
theorem JA {n:Nat}(e:l[n]? =some t):aQ (.tup l) (.int (n:Int))= .ok t:=by show(match L2.atI l _ with | some t=>Rs.ok t | none=> .bad)=_;rw[ka e]
theorem Hh {n:Nat}(e:l[n]? =some t):aQ (.lst l) (.int (n:Int))= .ok t:=by show(match L2.atI l _ with | some t=>Rs.ok t | none=> .bad)=_;rw[ka e]
theorem kU {n:Nat}(h:fa Z= .ok (.tup l))(h2:fb Z= .ok (.int (n:Int)))(e:l[n]? =some t):o2 aQ fa fb Z= .ok t:=aG h h2 (JA e)
theorem A6 {n:Nat}(h:fa Z= .ok (.lst l))(h2:fb Z= .ok (.int (n:Int)))(e:l[n]? =some t):o2 aQ fa fb Z= .ok t:=aG h h2 (Hh e)
theorem Ju {fe:En->Rs T}{fl fu:En->Rs (Option Int)}{lo hi:Option Int}(h:fe Z= .ok (.tup l))(h1:fl Z= .ok lo)(h2:fu Z= .ok hi):sl fe fl fu Z= .ok (.tup (lb l lo hi)):=by
 unfold sl;rw[h,h1,h2];rfl
theorem E7 {fe:En->Rs T}{fl fu:En->Rs (Option Int)}{lo hi:Option Int}(h:fe Z= .ok (.lst l))(h1:fl Z= .ok lo)(h2:fu Z= .ok hi):sl fe fl fu Z= .ok (.lst (lb l lo hi)):=by
 unfold sl;rw[h,h1,h2];rfl
theorem DZ {i:Int}(h:f Z= .ok (.int i)):pS f Z= .ok (some i):=by unfold pS;rw[h];rfl
theorem BR (l:List T)(n:Nat):lb l none (some (n:Int))=l.take n:=by
 unfold lb;rw[HT.sIx_none,HT.sIx_nat,List.drop_zero,P9,List.take_eq_take_iff];omega
theorem vj (l:List T)(n:Nat):lb l (some (n:Int)) none=l.drop n:=by
 unfold lb;rw[HT.sIx_none,HT.sIx_nat]
 by_cases h:n<=l.length
 ·rw[Nat.min_eq_left h]
  exact List.take_of_length_le (by rw[Nx];omega)
 ·rw[Nat.min_eq_right (by omega),Oe (Lo _),Oe (by omega),List.take_nil]
theorem A4 {i:Nat}{o:OT}(hi:Z[i]? =some (.ow o))(h:f (disown i Z)= .ok t)(hk:t.nk o.isD=true):ln i f Z= .ok t:=by
 unfold ln;rw[hi];simp only[h,aA,hk,if_true]
theorem Jy {i:Nat}{k:Bool}(h:b (disown i Z)= .ok k):GW i b Z= .ok k:=h
theorem Fb {i:Nat}{x:Rs Fl}(h:F (disown i Z)=x):pC i F Z=x:=h
end
theorem mk2 (a b:T):jN [a,b] = .ok (.tup [a,b]):=by unfold jN;rw[if_pos (aE (k:=1000) (by simp only[Li,My];omega))]
theorem kI (n:Nat):(rng 0 n).length=n:=by unfold rng;rw[Lh,NM];omega
section
variable {Z Z':En}{f fa fo:En->Rs T}{fs:En->Rs (List T)}{t u:T}{ts l:List T}{x:En->Rs (T×En)}{c m n a:Str}{ns:List Str}{ls:List (List T)}{i j:Nat}{F G:En->Rs Fx}{o:OT}{g:List Sl->Rs (T×OT)}{d:Str}
theorem E8 {gm:List T->Rs T}{r:Rs T}(h:fo Z= .ok (.ob c ns ts))(hm:ns.contains m=false)(hs:fs Z= .ok l)(hg:gm (.ob c ns ts::l)=r):qr c m gm fo fs Z=r:=by
 unfold qr;rw[h];show(if _ then _ else _)=_;rw[if_pos ⟨rfl,hm⟩,hs];exact hg
theorem E9 (h:fa Z= .ok (.ob c ns ts))(hg:kY a ns ts=some t):o1 (wC c a) fa Z= .ok t:=A2 h (by show(if _ then _ else _)=_;rw[if_pos rfl,hg])
theorem wm (h:f Z= .ok t):xP f Z= .ok (t,Z):=by unfold xP;rw[h];rfl
theorem G5 (hi:Z[i]? =some (.ow (.ob c ns ls)))(hf:kY a ns ls=some l)(h:fa Z= .ok t)(hl:l.length<=1000):yr i c a fa Z= .ok (.non,Z.set i (.ow (.ob c ns (j7 a (l++ [t]) ns ls)))):=by
 unfold yr;rw[hi];show(if _ then _ else _)=_;rw[if_pos rfl,hf];show(fa Z >>= _)=_;rw[h];show(if _ then _ else _)=_;rw[if_pos (by unfold sizeLine;omega)]
theorem G3 (hi:Z[i]? =some (.ow (.ob c ns ls)))(hf:kY a ns ls=some (l++ [t])):yq i c a Z= .ok (t,Z.set i (.ow (.ob c ns (j7 a l ns ls)))):=by
 unfold yq;rw[hi];show(if _ then _ else _)=_;rw[if_pos rfl,hf];simp
theorem AW {r:Rs (T×OT)}(h:r= .ok (t,o)):zC i Z r= .ok (t,Z.set i (.ow o)):=by rw[h];rfl
theorem kR (hi:Z[i]? =some (.ow (.ob c ns ls)))(hm:ns.contains m=false)(hs:fs Z= .ok ts)(h:g (.ow (.ob c ns ls)::ts.map Sl.va)= .ok (t,o)):fq i c m g fs Z= .ok (t,Z.set i (.ow o)):=by
 unfold fq;rw[hi];show(if _ then _ else _)=_;rw[if_pos ⟨rfl,hm⟩,hs];exact AW h
theorem uT (hi:Z[i]? =some (.ow (.ob c ns ls)))(hm:ns.contains m=false)(hs:fs Z= .ok ts)(h:g (.ow (.ob c ns ls)::ts.map Sl.va)= .err d):fq i c m g fs Z= .err d:=by
 unfold fq;rw[hi];show(if _ then _ else _)=_;rw[if_pos ⟨rfl,hm⟩,hs];show zC i Z _=_;rw[h];rfl
theorem wo (hi:Z[i]? =some (.ow o))(hs:fs Z= .ok ts){o':OT}(h:g (.ow o::ts.map Sl.va)= .ok (t,o')):m8 i g fs Z= .ok (t,Z.set i (.ow o')):=by
 unfold m8;rw[hi];show(fs Z >>= _)=_;rw[hs];exact AW h
theorem ej {k:Fx}(h:F Z= .ok (.nx Z'))(h2:G Z'= .ok k):gP F G Z= .ok k:=by unfold gP;rw[h];show DO (G Z')=_;rw[h2];rfl
theorem xN (h:F Z= .err d):gP F G Z= .err d:=by unfold gP;rw[h]
theorem uW (h:x Z= .ok (t,Z')):zo x Z= .ok (.nx Z'):=by unfold zo;rw[h];rfl
theorem Hf (h:x Z= .err d):zo x Z= .err d:=by unfold zo;rw[h];rfl
theorem sJ (h:x Z= .ok (t,Z')):kO x Z= .ok (.rt t Z'):=by unfold kO;rw[h];rfl
theorem D8 (h:x Z= .err d):kO x Z= .err d:=by unfold kO;rw[h];rfl
theorem xO (h:x Z= .ok (t,Z'))(hl:i<Z'.length):DW i x Z= .ok (.nx (Z'.set i (.va t))):=by unfold DW;rw[h];show(if _ then _ else _)=_;rw[if_pos hl]
theorem qu {b:En->Rs Bool}{k:Bool}(h:b Z= .ok k):Cp b F G Z=if k then F Z else G Z:=by unfold Cp;rw[h];rfl
theorem He (hi:Z[i]? =some (.ow (.ob c ns ls)))(hs:fs Z= .ok l)(hl:l.length<=1000)(hn:ns.length<1000):yP i c a fs Z= .ok (.nx (Z.set i (.ow (if ns.contains a then .ob c ns (j7 a l ns ls)else .ob c (ns++ [a]) (ls++ [l]))))):=by
 unfold yP;rw[hi];show(fs Z >>= _)=_;rw[hs];show(if _ then _ else _)=_;rw[if_pos ⟨rfl,by unfold sizeLine;omega,hn⟩]
theorem Hd {h:Str->Rs T}{k:Fx}(e:F Z= .ok k):uR F h Z= .ok k:=by unfold uR;rw[e]
theorem D7 {h:Str->Rs T}(e:F Z= .err d)(e2:h d= .ok t):uR F h Z= .ok (.rt t Z):=by unfold uR;rw[e];simp only[e2]
theorem oC {sls:List Sl}{N M:Nat}(hl:sls.length=N)(h:F (eg M sls)= .ok (.rt t Z))(hj:Z[j]? =some (.ow o)):gH N j M F sls= .ok (t,o):=by unfold gH;rw[if_pos hl,h];show pE j (.rt t Z)=_;unfold pE;simp only[hj]
theorem sI {sls:List Sl}{N M:Nat}(hl:sls.length=N)(h:F (eg M sls)= .ok (.nx Z))(hj:Z[j]? =some (.ow o)):gH N j M F sls= .ok (.non,o):=by unfold gH;rw[if_pos hl,h];show pE j (.nx Z)=_;unfold pE;simp only[hj]
theorem xM {sls:List Sl}{N M:Nat}(hl:sls.length=N)(h:F (eg M sls)= .err d):gH N j M F sls= .err d:=by unfold gH;rw[if_pos hl,h];rfl
theorem JE (h:x Z= .ok (t,Z')):vP x Z= .ok (.nx Z'):=by unfold vP;rw[h];rfl
theorem Hb (hs:fs Z= .ok ts)(h:g (.ow (.ob c [] [])::ts.map Sl.va)= .ok (.non,o))(hl:i<Z.length):qh i c g fs Z= .ok (.nx (Z.set i (.ow o))):=by
 unfold qh;rw[hs];show(DO (g _) >>= _)=_;rw[h];show(if _ then _ else _)=_;rw[if_pos hl]
theorem AX {r:T->T->Rs T}{v:T}(h:x Z= .ok (t,Z'))(h2:f Z'= .ok u)(hr:r t u= .ok v):vz r x f Z= .ok (v,Z'):=by unfold vz;rw[h];show(DO (f Z' >>= _) >>= _)=_;rw[h2];show(DO (r t u) >>= _)=_;rw[hr];rfl
theorem AV {b:Bool}(h:x Z= .ok (.bl b,Z')):w8 x Z= .ok (b,Z'):=by unfold w8;rw[h];rfl
theorem A7 {y:En->Rs (Bool×En)}{A B:En->Rs Fl}{b:Bool}(h:y Z= .ok (b,Z')):nG y A B Z=if b then A Z' else B Z':=by unfold nG;rw[h];rfl
end
end Tr
namespace Gr
variable {ν:Type}[DecidableEq ν]
abbrev bJ (ν:Type):=List (ν×ν×Int)
inductive Wk (L:bJ ν):ν->ν->Int->Prop
 | nil (a:ν):Wk L a a 0
 | step {a b c:ν} {m s:Int}:(a,b,m)∈L->Wk L b c s->Wk L a c (m+s)
theorem Wk.one {L:bJ ν}{a b:ν}{m:Int}(h:(a,b,m)∈L):Wk L a b m:=by
 have:=Wk.step h (Wk.nil (L:=L) b)
 rwa [Int.add_zero]at this
theorem Wk.app {L:bJ ν}{a b c:ν}{s t:Int}(h:Wk L a b s)(k:Wk L b c t):Wk L a c (s+t):=by
 induction h with
 | nil a=>rwa [Int.zero_add]
 | step e _ ih=>rw[Int.add_assoc];exact .step e (ih k)
theorem Wk.mono {L M:bJ ν}(h:∀x∈L,x∈M){a b:ν}{s:Int}(w:Wk L a b s):Wk M a b s:=by
 induction w with
 | nil a=>exact .nil a
 | step e _ ih=>exact .step (h _ e) ih
def Holds (L:bJ ν)(t:ν->Int):Prop:=∀a b m,(a,b,m)∈L->t b - t a<=m
theorem Holds.walk {L:bJ ν}{t:ν->Int}(h:Holds L t){a b:ν}{s:Int}(w:Wk L a b s):t b - t a<=s:=by
 induction w with
 | nil a=>omega
 | step e _ ih=>have:=h _ _ _ e;omega
def eX (L:bJ ν):Prop:=∀a s,Wk L a a s->0<=s
theorem Holds.Kt {L:bJ ν}{t:ν->Int}(h:Holds L t):eX L:=λa s w=>by have:=h.walk w;omega
def Ch (L:bJ ν):ν->List Nat->ν->Prop
 | a,[],b=>a=b
 | a,k::r,b=> ∃c m,L[k]? =some (a,c,m)/\Ch L c r b
def most (L:bJ ν)(k:Nat):Int:=match L[k]? with
 | some x=>x.2.2
 | none=>0
def d9 (L:bJ ν):List Nat->Int
 | [] =>0
 | k::r=>most L k+d9 L r
theorem lg (L:bJ ν):∀(p q:List Nat),d9 L (p++q)=d9 L p+d9 L q
 | [],q=>by simp[d9]
 | k::p,q=>by rw[PL,d9,d9,lg L p q];omega
theorem Ch.wk {L:bJ ν}:∀{ks:List Nat} {a b:ν},Ch L a ks b->Wk L a b (d9 L ks)
 | [],a,b,h=>by cases h;exact .nil a
 | k::r,a,b,⟨c,m,e,h⟩=>by
  have:d9 L (k::r)=m+d9 L r:=by rw[d9,most,e]
  rw[this];exact .step (Mu e) h.wk
theorem Ch.app {L:bJ ν}:∀{p q:List Nat} {a b c:ν},Ch L a p b->Ch L b q c->Ch L a (p++q) c
 | [],q,a,b,c,h,k=>by cases h;exact k
 | x::p,q,a,b,c,⟨d,m,e,h⟩,k=>⟨d,m,e,Ch.app h k⟩
theorem Ch.lt {L:bJ ν}:∀{ks:List Nat} {a b:ν},Ch L a ks b->∀k∈ks,k<L.length
 | [],_,_,_,k,hk=>by simp at hk
 | x::r,a,b,⟨c,m,e,h⟩,k,hk=>by
  rcases Lj.mp hk with rfl | hk
  ·exact(Ll.mp e).1
  ·exact h.lt k hk
theorem Ch.snoc {L:bJ ν}{p:List Nat}{k:Nat}{a b c:ν}{m:Int}(h:Ch L a p b)(e:L[k]? =some (b,c,m)):Ch L a (p++ [k]) c:=h.app ⟨c,m,e,rfl⟩
def src (L:bJ ν)(k:Nat):Option ν:=(L[k]?).map (·.1)
abbrev bZ (ν:Type):=ν->Option (Int×List Nat)
def put (b:bZ ν)(v:ν)(x:Int×List Nat):bZ ν:=λu=>if u=v then some x else b u
theorem c7 {b:bZ ν}{v:ν}{x:Int×List Nat}:put b v x v=some x:=by unfold put;rw[if_pos rfl]
theorem jV {b:bZ ν}{u v:ν}{x:Int×List Nat}(h:u≠v):put b v x u=b u:=by unfold put;rw[if_neg h]
def d8 (L:bJ ν)(ks:List Nat):List ν:=ks.filterMap (src L)
def dY (b:bZ ν)(v:ν)(d:Int):Bool:=match b v with
 | none=>true
 | some x=>decide (d<x.1)
def gM (L:bJ ν)(b:bZ ν)(k:Nat)(x:ν×ν×Int):Sum (Option (bZ ν)) (List Nat):=match b x.1 with
 | none=> .inl none
 | some (d,w)=>if dY b x.2.1 (d+x.2.2)=true then
   if x.2.1∈d8 L (w++ [k])then .inr ((w++ [k]).drop ((d8 L (w++ [k])).idxOf x.2.1))else .inl (some (put b x.2.1 (d+x.2.2,w++ [k])))
  else .inl none
def ip (L:bJ ν):Nat->bJ ν->bZ ν->Bool->Sum (bZ ν×Bool) (List Nat)
 | _,[],b,mv=> .inl (b,mv)
 | k,x::r,b,mv=>match gM L b k x with
  | .inr q=> .inr q
  | .inl none=>ip L (k+1) r b mv
  | .inl (some b')=>ip L (k+1) r b' true
def settle (L:bJ ν):Nat->bZ ν->Option (Sum (bZ ν) (List Nat))
 | 0,_=>none
 | n+1,b=>match ip L 0 L b false with
  | .inr q=>some (.inr q)
  | .inl (b',true)=>settle L n b'
  | .inl (b',false)=>some (.inl b')
theorem rH (L:bJ ν)(p q:List Nat):d8 L (p++q)=d8 L p++d8 L q:=by unfold d8;rw[List.filterMap_append]
theorem rG {L:bJ ν}{k:Nat}{x:ν×ν×Int}(e:L[k]? =some x):d8 L [k] = [x.1]:=by unfold d8 src;simp[e]
theorem Ch.Kg {L:bJ ν}{k:Nat}{r:List Nat}{a b:ν}(h:Ch L a (k::r) b):d8 L (k::r)=a::d8 L r:=by
 obtain⟨c,m,e,_⟩:=h;rw[show k::r= [k] ++r from rfl,rH,rG e];rfl
theorem Ch.cut {L:bJ ν}{v:ν}:∀{ks:List Nat} {a b:ν},Ch L a ks b->v∈d8 L ks->Ch L a (ks.take ((d8 L ks).idxOf v)) v/\Ch L v (ks.drop ((d8 L ks).idxOf v)) b/\(d8 L ks).idxOf v<ks.length
 | [],a,b,_,hv=>by simp[d8]at hv
 | k::r,a,b,h,hv=>by
  rw[h.Kg]at hv ⊢
  have h0:=h;obtain⟨c,m,e,h⟩:=h
  by_cases z:a=v
  ·subst z
   rw[List.idxOf_cons_self];exact⟨rfl,h0,by simp⟩
  ·have hv':v∈d8 L r:=by
    rcases Lj.mp hv with q | q
    ·exact absurd q.symm z
    ·exact q
   obtain⟨h1,h2,h3⟩:=h.cut hv'
   have ei:(a::d8 L r).idxOf v=(d8 L r).idxOf v+1:=by
    rw[Sf]
    have:(a == v)=false:=by rw[beq_eq_false_iff_ne];exact z
    rw[this];rfl
   rw[ei];exact⟨⟨c,m,e,h1⟩,h2,by simpa using h3⟩
structure Kept (L:bJ ν)(S:List ν)(b:bZ ν):Prop where
 walk:∀v d w,b v=some (d,w)->∃s∈S,Ch L s w v/\d9 L w=d/\v∉d8 L w/\(d8 L w).Nodup/\∀p q u,w=p++q->Ch L s p u->∃d' w',b u=some (d',w')/\d'<=d9 L p
 start:∀s∈S,∃d w,b s=some (d,w)/\d<=0
theorem Kept.put {L:bJ ν}{S:List ν}{b:bZ ν}(K:Kept L S b){k:Nat}{a c:ν}{m d:Int}{w:List Nat}(e:L[k]? =some (a,c,m))(ha:b a=some (d,w))(hb:dY b c (d+m)=true)(hn:c∉d8 L (w++ [k])) :
  Kept L S (put b c (d+m,w++ [k])):=by
 have low:∀u d' w',b u=some (d',w')->∃d'' w'',Gr.put b c (d+m,w++ [k]) u=some (d'',w'')/\d''<=d':=λu d' w' h=>by
  by_cases z:u=c
  ·subst z
   refine⟨_,_,c7,?_⟩
   unfold dY at hb;rw[h]at hb
   have:=of_decide_eq_true hb;omega
  ·exact⟨d',w',by rw[jV z];exact h,Ng _⟩
 obtain⟨s,hs,h1,h2,h3,h4,h5⟩:=K.walk a d w ha
 have hch:Ch L s (w++ [k]) c:=h1.snoc e
 have hcost:d9 L (w++ [k])=d+m:=by rw[lg,h2,d9,d9,most,e];simp
 refine⟨λv d' w' h=> ?_,λs' hs'=> ?_⟩
 ·by_cases z:v=c
  ·subst z
   rw[c7]at h;cases h;refine⟨s,hs,hch,hcost,hn,?_,λp q u hpq hp=> ?_⟩
   ·rw[rH,rG e]
    exact Mg.mpr ⟨h4,by simp,λx hx y hy=>by simp at hy;subst hy;exact λz=>h3 (z▸hx)⟩
   ·by_cases hq:q= []
    ·subst hq
     rw[LR]at hpq;subst hpq
     have:u=v:=by
      clear low hb hn h5
      have aux:∀{ks:List Nat} {x y z:ν},Ch L x ks y->Ch L x ks z->y=z:=by
       intro ks
       induction ks with
       | nil=>intro x y z h1 h2;cases h1;cases h2;rfl
       | cons k r ih=>
        rintro x y z ⟨c1,m1,e1,r1⟩ ⟨c2,m2,e2,r2⟩
        rw[e1]at e2;cases e2;exact ih r1 r2
      exact aux hp hch
     subst this;exact⟨_,_,c7,by rw[hcost];exact Ng _⟩
    ·have hw:∃q',w=p++q':=by
      refine⟨q.dropLast,?_⟩
      have:=congrArg List.dropLast hpq;rw[List.dropLast_concat,List.dropLast_append_of_ne_nil hq]at this;exact this
     obtain⟨q',hw⟩:=hw;obtain⟨d1,w1,e1,l1⟩:=h5 p q' u hw hp;obtain⟨d2,w2,e2,l2⟩:=low u d1 w1 e1;exact⟨d2,w2,e2,by omega⟩
  ·rw[jV z]at h
   obtain⟨s',hs',g1,g2,g3,g4,g5⟩:=K.walk v d' w' h;refine⟨s',hs',g1,g2,g3,g4,λp q u hpq hp=> ?_⟩
   obtain⟨d1,w1,e1,l1⟩:=g5 p q u hpq hp;obtain⟨d2,w2,e2,l2⟩:=low u d1 w1 e1;exact⟨d2,w2,e2,by omega⟩
 ·obtain⟨d1,w1,e1,l1⟩:=K.start s' hs'
  obtain⟨d2,w2,e2,l2⟩:=low s' d1 w1 e1;exact⟨d2,w2,e2,by omega⟩
def Bar (L:bJ ν)(q:List Nat):Prop:=q≠ []/\(∃a,Ch L a q a)/\d9 L q<0/\(d8 L q).Nodup
theorem Ch.Ks {L:bJ ν}:∀{ks:List Nat} {a b:ν} (i:Nat),Ch L a ks b->d8 L (ks.drop i)=(d8 L ks).drop i
 | [],_,_,i,_=>by simp[d8]
 | k::r,a,b,0,_=>rfl
 | k::r,a,b,i+1,h=>by
  have:=h;obtain⟨c,m,e,h'⟩:=this;rw[h.Kg,QP,QP,h'.Ks i]
theorem Kept.round {L:bJ ν}{S:List ν}{b:bZ ν}(K:Kept L S b){k:Nat}{a c:ν}{m d:Int}{w:List Nat}(e:L[k]? =some (a,c,m))(ha:b a=some (d,w))(hb:dY b c (d+m)=true)(hn:c∈d8 L (w++ [k])) :
  Bar L ((w++ [k]).drop ((d8 L (w++ [k])).idxOf c)):=by
 obtain⟨s,hs,h1,h2,h3,h4,h5⟩:=K.walk a d w ha
 have hch:Ch L s (w++ [k]) c:=h1.snoc e
 have hcost:d9 L (w++ [k])=d+m:=by rw[lg,h2,d9,d9,most,e];simp
 obtain⟨c1,c2,c3⟩:=hch.cut hn
 generalize hi:(d8 L (w++ [k])).idxOf c=i at c1 c2 c3
 refine⟨λz=> ?_,⟨c,c2⟩,?_,?_⟩
 ·have:=congrArg M4 z
  rw[Nx]at this
  simp at this c3
  omega
 ·have hsum:d9 L ((w++ [k]).take i)+d9 L ((w++ [k]).drop i)=d+m:=by rw[<-lg,Qd,hcost]
  have hiw:i<=w.length:=by simp at c3;omega
  have ht:(w++ [k]).take i=w.take i:=by rw[List.take_append_of_le_length hiw]
  rw[ht]at c1 hsum;obtain⟨d1,w1,e1,l1⟩:=h5 (w.take i) (w.drop i) c (Qd i w).symm c1;unfold dY at hb;rw[e1]at hb
  have:=of_decide_eq_true hb;simp only at this;omega
 ·rw[hch.Ks,rH,rG e]
  refine(List.drop_sublist _ _).nodup (Mg.mpr ⟨h4,by simp,λx hx y hy=> ?_⟩)
  rw[Lr.mp hy];exact λz=>h3 (by have z:x=a:=z;rw[<-z];exact hx)
def size (L:bJ ν):Nat:=(L.map λx=>x.2.2.natAbs).sum
theorem jC {f:Nat->Nat}:∀{ks rs:List Nat},ks.Nodup->(∀k∈ks,k∈rs)->(ks.map f).sum<=(rs.map f).sum
 | [],rs,_,_=>by simp
 | k::ks,rs,hn,hs=>by
  have hk:k∈rs:=hs k Lg;rw[LF]at hn
  have hp:=List.perm_cons_erase hk
  have e:(rs.map f).sum=f k+((rs.erase k).map f).sum:=by
   have:=(hp.map f).sum_nat
   rwa [Lf,MX]at this
  rw[e,Lf,MX]
  have:=jC (f:=f) hn.2 (rs:=rs.erase k) λj hj=>by
   have h1:=hs j (K9 _ hj);exact(Qu (λ(z:j=k)=>hn.1 (z▸hj))).mpr h1
  omega
theorem vI (L:bJ ν):size L=((L7 L.length).map λk=>(most L k).natAbs).sum:=by
 unfold size
 congr 1
 apply List.ext_getElem
 ·simp
 ·intro i h1 h2
  simp only[PK,List.getElem_range];unfold most;rw[Lv (by simpa using h1)]
theorem yc (L:bJ ν):∀(ks:List Nat),(d9 L ks).natAbs<=(ks.map λk=>(most L k).natAbs).sum
 | [] =>by simp[d9]
 | k::r=>by
  have:=yc L r;rw[d9,Lf,MX];omega
theorem Ch.nodup {L:bJ ν}:∀{ks:List Nat} {a b:ν},Ch L a ks b->(d8 L ks).Nodup->ks.Nodup
 | [],_,_,_,_=>NA
 | k::r,a,b,h,hn=>by
  have h0:=h;rw[h.Kg,LF]at hn;obtain⟨c,m,e,h⟩:=h;rw[LF];refine⟨λhk=>hn.1 ?_,h.nodup hn.2⟩
  unfold d8 src;exact O6.mpr ⟨k,hk,by rw[e];rfl⟩
theorem Ch.small {L:bJ ν}{ks:List Nat}{a b:ν}(h:Ch L a ks b)(hn:(d8 L ks).Nodup):(d9 L ks).natAbs<=size L:=by
 rw[vI];exact Me (yc L ks) (jC (h.nodup hn) λk hk=>L4.mpr (h.lt k hk))
def val (M:Nat)(b:bZ ν)(v:ν):Nat:=match b v with
 | none=>2*M+1
 | some x=>(x.1+M).toNat
def left (M:Nat)(b:bZ ν)(L:bJ ν):Nat:=(L.map λx=>val M b x.2.1).sum
theorem xG {M:Nat}{b b':bZ ν}:∀{L:bJ ν},(∀x∈L,val M b' x.2.1<=val M b x.2.1)->left M b' L<=left M b L
 | [],_=>by simp[left]
 | x::L,h=>by
  have h1:=h x Lg
  have h2:=xG (L:=L) λy hy=>h y (K9 _ hy)
  unfold left at h2 ⊢;rw[Lf,MX,Lf,MX];omega
theorem xF {M:Nat}{b b':bZ ν}{x:ν×ν×Int}:∀{L:bJ ν},x∈L->(∀x∈L,val M b' x.2.1<=val M b x.2.1)->val M b' x.2.1<val M b x.2.1->left M b' L<left M b L
 | [],hx,_,_=>by simp at hx
 | y::L,hx,h,hl=>by
  have h1:=h y Lg
  have h2:=xG (L:=L) λy hy=>h y (K9 _ hy)
  unfold left at h2 ⊢;rw[Lf,MX,Lf,MX];rcases Lj.mp hx with rfl | hx
  ·omega
  ·have h3:=xF (L:=L) hx (λy hy=>h y (K9 _ hy)) hl
   unfold left at h3;omega
theorem AL {L:bJ ν}{S:List ν}{b:bZ ν}(K:Kept L S b){k:Nat}{a c:ν}{m d:Int}{w:List Nat}(e:L[k]? =some (a,c,m))(ha:b a=some (d,w))(hb:dY b c (d+m)=true)(hn:c∉d8 L (w++ [k])) :
  left (size L) (put b c (d+m,w++ [k])) L<left (size L) b L:=by
 have K':=K.put e ha hb hn;obtain⟨s,hs,h1,h2,h3,h4,h5⟩:=K'.walk c (d+m) (w++ [k]) c7
 have sm:=h1.small h4;rw[h2]at sm
 have lt:val (size L) (put b c (d+m,w++ [k])) c<val (size L) b c:=by
  unfold val dY at*;rw[c7]
  cases z:b c with
  | none=>simp only;omega
  | some y=>
   rw[z]at hb
   have hb:=of_decide_eq_true hb;simp only;omega
 refine xF (x:=(a,c,m)) (Mu e) (λy _=> ?_) lt
 by_cases z:y.2.1=c
 ·rw[z];exact NZ lt
 ·unfold val;rw[jV z];exact Lo _
def Cc (b:bZ ν)(x:ν×ν×Int):Prop:=∀d w,b x.1=some (d,w)->∃d' w',b x.2.1=some (d',w')/\d'<=d+x.2.2
theorem zM {b:bZ ν}{x:ν×ν×Int}(h:∀d w,b x.1=some (d,w)->dY b x.2.1 (d+x.2.2)=false):Cc b x:=λd w e=>by
 have:=h d w e;unfold dY at this
 cases z:b x.2.1 with
 | none=>rw[z]at this;cases this
 | some y=>
  rw[z]at this
  have:=of_decide_eq_false this;exact⟨y.1,y.2,rfl,by omega⟩
theorem iD {L:bJ ν}{S:List ν}:∀(r:bJ ν) (k:Nat) (b:bZ ν) (mv:Bool),L.drop k=r->Kept L S b->match ip L k r b mv with
  | .inr q=>Bar L q
  | .inl (b',mv')=>Kept L S b'/\(mv'=false->mv=false/\b'=b/\∀x∈r,Cc b x)/\left (size L) b' L<=left (size L) b L/\(mv'=true->mv=true\/left (size L) b' L<left (size L) b L)
 | [],k,b,mv,_,K=>⟨K,λh=>⟨h,rfl,λx hx=>by simp at hx⟩,Lo _,λh=> .inl h⟩
 | x::r,k,b,mv,hr,K=>by
  have e:L[k]? =some x:=by
   have:=congrArg (·[0]?) hr
   simpa using this
  have hr':L.drop (k+1)=r:=by
   have:=congrArg (List.drop 1) hr
   simpa [List.drop_drop,RF]using this
  rw[ip];obtain⟨a,c,m⟩:=x;unfold gM
  cases z:b a with
  | none=>
   simp only[z]
   have ih:=iD r (k+1) b mv hr' K
   revert ih
   generalize ip L (k+1) r b mv=R
   cases R with
   | inr q=>exact id
   | inl p=>
    obtain⟨b',mv'⟩:=p
    rintro ⟨i1,i2,i3,i4⟩
    refine⟨i1,λh=> ?_,i3,i4⟩
    obtain⟨j1,j2,j3⟩:=i2 h;refine⟨j1,j2,λx hx=> ?_⟩
    rcases Lj.mp hx with rfl | hx
    ·intro d w q;rw[z]at q;cases q
    ·exact j3 x hx
  | some y=>
   obtain⟨d,w⟩:=y;simp only[z]
   by_cases hb:dY b c (d+m)=true
   ·rw[if_pos hb]
    by_cases hn:c∈d8 L (w++ [k])
    ·rw[if_pos hn]
     exact K.round e z hb hn
    ·rw[if_neg hn]
     have K':=K.put e z hb hn
     have lt:=AL K e z hb hn
     have ih:=iD r (k+1) (put b c (d+m,w++ [k])) true hr' K'
     revert ih
     simp only
     generalize ip L (k+1) r (put b c (d+m,w++ [k])) true=R
     cases R with
     | inr q=>exact id
     | inl p=>
      obtain⟨b',mv'⟩:=p
      rintro ⟨i1,i2,i3,i4⟩
      refine⟨i1,λh=> ?_,by omega,λ_=> .inr (by omega)⟩
      obtain⟨j1,_⟩:=i2 h;cases j1
   ·rw[if_neg hb]
    have ih:=iD r (k+1) b mv hr' K
    revert ih
    simp only
    generalize ip L (k+1) r b mv=R
    cases R with
    | inr q=>exact id
    | inl p=>
     obtain⟨b',mv'⟩:=p
     rintro ⟨i1,i2,i3,i4⟩
     refine⟨i1,λh=> ?_,i3,i4⟩
     obtain⟨j1,j2,j3⟩:=i2 h;refine⟨j1,j2,λx hx=> ?_⟩
     rcases Lj.mp hx with rfl | hx
     ·refine zM λd' w' q=> ?_
      simp only at q;rw[z]at q;cases q
      simpa using hb
     ·exact j3 x hx
structure Settled (L:bJ ν)(S:List ν)(b:bZ ν):Prop where
 walk:∀v d w,b v=some (d,w)->∃s∈S,Ch L s w v/\d9 L w=d/\v∉d8 L w/\(d8 L w).Nodup
 least:∀s∈S,∀v t,Wk L s v t->∃d w,b v=some (d,w)/\d<=t
theorem vJ {L:bJ ν}{S:List ν}{b:bZ ν}(K:Kept L S b)(h:∀x∈L,Cc b x):Settled L S b where
 walk:=λv d w e=>by
  obtain⟨s,h1,h2,h3,h4,h5,_⟩:=K.walk v d w e;exact⟨s,h1,h2,h3,h4,h5⟩
 least:=by
  have go:∀{u v:ν} {t:Int},Wk L u v t->∀d w,b u=some (d,w)->∃d' w',b v=some (d',w')/\d'<=d+t:=by
   intro u v t hw
   induction hw with
   | nil a=>exact λd w e=>⟨d,w,e,by omega⟩
   | step e _ ih=>
    intro d w q;obtain⟨d1,w1,e1,l1⟩:=h _ e d w q;obtain⟨d2,w2,e2,l2⟩:=ih d1 w1 e1;exact⟨d2,w2,e2,by simp only at l1;omega⟩
  intro s hs v t hw;obtain⟨d,w,e,l⟩:=K.start s hs;obtain⟨d2,w2,e2,l2⟩:=go hw d w e;exact⟨d2,w2,e2,by omega⟩
theorem qf {L:bJ ν}{S:List ν}:∀(n:Nat) (b:bZ ν),Kept L S b->left (size L) b L<n->∃r,settle L n b=some r/\match r with
  | .inr q=>Bar L q
  | .inl b'=>Settled L S b'
 | 0,b,K,h=>by omega
 | n+1,b,K,h=>by
  have s:=iD (S:=S) L 0 b false rfl K;rw[settle]
  revert s
  generalize ip L 0 L b false=R
  cases R with
  | inr q=>exact λs=>⟨_,rfl,s⟩
  | inl p=>
   obtain⟨b',mv'⟩:=p
   rintro ⟨i1,i2,i3,i4⟩
   cases mv' with
   | false=>
    obtain⟨_,j2,j3⟩:=i2 rfl;subst j2
    exact⟨_,rfl,vJ i1 j3⟩
   | true=>
    rcases i4 rfl with z | z
    ·cases z
    ·exact qf n b' i1 (by omega)
def start (S:List ν):bZ ν:=λv=>if v∈S then some (0,[])else none
theorem oA (L:bJ ν)(S:List ν):Kept L S (start S) where
 walk:=λv d w e=>by
  unfold start at e
  split at e
  ·rename_i h
   cases e;refine⟨v,h,rfl,rfl,by simp[d8],by simp[d8],λp q u hpq hp=> ?_⟩
   obtain⟨rfl,rfl⟩:=List.append_eq_nil_iff.mp hpq.symm;cases hp;exact⟨0,[],by unfold start;rw[if_pos h],by simp[d9]⟩
  ·cases e
 start:=λs hs=>⟨0,[],by unfold start;rw[if_pos hs],Ng _⟩
theorem AM (L:bJ ν)(S:List ν):left (size L) (start S) L<=L.length*(2*size L+1):=by
 unfold left
 have:∀M:bJ ν,(M.map λx=>val (size L) (start S) x.2.1).sum<=M.length*(2*size L+1):=by
  intro M
  induction M with
  | nil=>simp
  | cons x M ih=>
   rw[Lf,MX,Li,Nat.succ_mul]
   have:val (size L) (start S) x.2.1<=2*size L+1:=by
    unfold val start;split
    ·exact Lo _
    ·rename_i h
     split at h
     ·cases h;simp;omega
     ·cases h
   omega
 exact this L
theorem vK (L:bJ ν)(S:List ν){n:Nat}(h:L.length*(2*size L+1)<n):∃r,settle L n (start S)=some r/\match r with
  | .inr q=>Bar L q
  | .inl b'=>Settled L S b':=qf n (start S) (oA L S) (Q7 (AM L S) h)
theorem Bar.neg {L:bJ ν}{q:List Nat}(h:Bar L q):¬ eX L:=λn=>by
 obtain⟨_,⟨a,ha⟩,hc,_⟩:=h
 have:=n a _ ha.wk;omega
theorem Settled.holds {L:bJ ν}{S:List ν}{b:bZ ν}(h:Settled L S b)(hS:∀x∈L,x.1∈S/\x.2.1∈S){t:ν->Int}(ht:∀v∈S,∃w,b v=some (t v,w)):Holds L t:=λa c m hx=>by
 obtain⟨ha,hc⟩:=hS _ hx;obtain⟨w,e⟩:=ht a ha;obtain⟨s,hs,h1,h2,_⟩:=h.walk a _ _ e;obtain⟨d,w',e',l⟩:=h.least s hs c _ (h1.wk.app (.one hx));obtain⟨w2,e2⟩:=ht c hc;rw[e2]at e';cases e';omega
inductive Pth (L:bJ ν):ν->List ν->ν->Int->Prop
 | one {a b:ν} {m:Int}:(a,b,m)∈L->Pth L a [] b m
 | cons {a x b:ν} {ms:List ν} {m s:Int}:(a,x,m)∈L->Pth L x ms b s->Pth L a (x::ms) b (m+s)
theorem Pth.cut {L:bJ ν}{x:ν}{q:List ν}:∀{p:List ν} {a b:ν} {s:Int},Pth L a (p++x::q) b s->∃s1 s2,Pth L a p x s1/\Pth L x q b s2/\s=s1+s2
 | [],a,b,s,h=>by
  cases h with
  | cons e h=>exact⟨_,_,.one e,h,rfl⟩
 | y::p,a,b,s,h=>by
  cases h with
  | cons e h=>
   obtain⟨s1,s2,h1,h2,h3⟩:=Pth.cut h;exact⟨_,s2,.cons e h1,h2,by omega⟩
def HJ (L:bJ ν)(u v:ν)(s:Int):Prop:=(u=v/\s=0)\/(u≠v/\∃ms,Pth L u ms v s/\ms.Nodup/\u∉ms/\v∉ms)
def Cg (L:bJ ν):Prop:=∃x ms s,Pth L x ms x s/\ms.Nodup/\x∉ms/\s<0
theorem Wk.simple {L:bJ ν}{u v:ν}{s:Int}(w:Wk L u v s):Cg L\/∃s',s'<=s/\HJ L u v s':=by
 induction w with
 | nil a=>exact .inr ⟨0,Ng _,.inl ⟨rfl,rfl⟩⟩
 | @step a b c m s e w ih=>
  rcases ih with ih | ⟨s',hs,ih⟩
  ·exact .inl ih
  by_cases hab:a=b
  ·subst hab
   by_cases hm:m<0
   ·exact .inl ⟨a,[],m,.one e,NA,by simp,hm⟩
   ·exact .inr ⟨s',by omega,ih⟩
  rcases ih with⟨rfl,rfl⟩ | ⟨hbc,ms,hp,hn,hb,hc⟩
  ·exact .inr ⟨m,by omega,.inr ⟨hab,[],.one e,NA,by simp,by simp⟩⟩
  by_cases hac:a=c
  ·subst hac
   by_cases hm:m+s'<0
   ·exact .inl ⟨a,b::ms,m+s',.cons e hp,LF.mpr ⟨hb,hn⟩,by simp[hab,hc],hm⟩
   ·exact .inr ⟨0,by omega,.inl ⟨rfl,rfl⟩⟩
  by_cases ham:a∈ms
  ·obtain⟨p,q,rfl⟩:=Q8 ham
   obtain⟨s1,s2,h1,h2,h3⟩:=hp.cut;rw[Mg]at hn;obtain⟨n1,n2,n3⟩:=hn;rw[LF]at n2
   have hap:a∉p:=λz=>n3 a z a Lg rfl
   by_cases hm:m+s1<0
   ·refine .inl ⟨a,b::p,m+s1,.cons e h1,LF.mpr ⟨λz=>hb (LB _ z),n1⟩,by simp[hab,hap],hm⟩
   ·exact .inr ⟨s2,by omega,.inr ⟨hac,q,h2,n2.2,n2.1,λz=>hc (Lu _ (K9 _ z))⟩⟩
  ·refine .inr ⟨m+s',by omega,.inr ⟨hac,b::ms,.cons e hp,LF.mpr ⟨hb,hn⟩,by simp[hab,ham],?_⟩⟩
   simp only[Lj,not_or];exact⟨λz=>hbc z.symm,hc⟩
abbrev fI (ν:Type):=ν->ν->Option Int
def u4 (f:fI ν)(a b:ν)(x:Int):fI ν:=λu v=>if u=a/\v=b then some x else f u v
def sU (f:fI ν)(a b:ν)(x:Int):fI ν:=match f a b with
 | none=>u4 f a b x
 | some y=>if x<y then u4 f a b x else f
def oJ (mid one other:ν)(f:fI ν):fI ν:=match f one mid,f mid other with
 | some x,some y=>sU f one other (x+y)
 | _,_=>f
def yx (P:List ν):fI ν:=λu v=>if u∈P/\u=v then some 0 else none
def CP (P:List ν)(L:bJ ν):fI ν:=L.foldl (λf x=>sU f x.1 x.2.1 x.2.2) (yx P)
def mW (mid one:ν)(P:List ν)(f:fI ν):fI ν:=P.foldl (λf other=>oJ mid one other f) f
def qy (mid:ν)(Q P:List ν)(f:fI ν):fI ν:=Q.foldl (λf one=>mW mid one P f) f
def xX (M P:List ν)(f:fI ν):fI ν:=M.foldl (λf mid=>qy mid P P f) f
def table (P:List ν)(L:bJ ν):fI ν:=xX P P (CP P L)
def Le (f g:fI ν):Prop:=∀u v x,g u v=some x->∃y,f u v=some y/\y<=x
theorem Le.refl (f:fI ν):Le f f:=λu v x h=>⟨x,h,Ng _⟩
theorem Le.trans {f g h:fI ν}(a:Le f g)(b:Le g h):Le f h:=λu v x e=>by
 obtain⟨y,e1,l1⟩:=b u v x e;obtain⟨z,e2,l2⟩:=a u v y e1;exact⟨z,e2,by omega⟩
theorem lU {f:fI ν}{a b:ν}{x:Int}:u4 f a b x a b=some x:=by unfold u4;rw[if_pos ⟨rfl,rfl⟩]
theorem sT (f:fI ν)(a b:ν)(x:Int):Le (sU f a b x) f:=λu v y e=>by
 unfold sU
 cases q:f a b with
 | none=>
  by_cases z:u=a/\v=b
  ·obtain⟨rfl,rfl⟩:=z;rw[q]at e;cases e
  ·exact⟨y,by simp only;unfold u4;rw[if_neg z];exact e,Ng _⟩
 | some y0=>
  simp only;split
  ·by_cases z:u=a/\v=b
   ·obtain⟨rfl,rfl⟩:=z;rw[q]at e;cases e
    exact⟨x,lU,by omega⟩
   ·exact⟨y,by unfold u4;rw[if_neg z];exact e,Ng _⟩
  ·exact⟨y,e,Ng _⟩
theorem xY (f:fI ν)(a b:ν)(x:Int):∃y,sU f a b x a b=some y/\y<=x:=by
 unfold sU
 cases q:f a b with
 | none=>exact⟨x,lU,Ng _⟩
 | some y0=>
  simp only;split
  ·exact⟨x,lU,Ng _⟩
  ·exact⟨y0,q,by omega⟩
theorem oO {L:bJ ν}{f:fI ν}{a b:ν}{x:Int}(h:∀u v y,f u v=some y->Wk L u v y)(hx:Wk L a b x):∀u v y,sU f a b x u v=some y->Wk L u v y:=λu v y e=>by
 have key:u4 f a b x u v=some y->Wk L u v y:=λe'=>by
  unfold u4 at e'
  by_cases z:u=a/\v=b
  ·rw[if_pos z]at e';injection e' with e';rw[z.1,z.2,<-e'];exact hx
  ·rw[if_neg z]at e';exact h u v y e'
 unfold sU at e
 cases q:f a b with
 | none=>rw[q]at e;exact key e
 | some y0=>
  rw[q]at e;simp only at e
  split at e
  ·exact key e
  ·exact h u v y e
theorem uZ (mid one other:ν)(f:fI ν):Le (oJ mid one other f) f:=by
 unfold oJ;split
 ·exact sT _ _ _ _
 ·exact Le.refl f
theorem Bm {mid one other:ν}{f:fI ν}{x y:Int}(h1:f one mid=some x)(h2:f mid other=some y):∃z,oJ mid one other f one other=some z/\z<=x+y:=by
 unfold oJ;rw[h1,h2];exact xY _ _ _ _
theorem ju {α:Type}(step:fI ν->α->fI ν)(hs:∀f a,Le (step f a) f):∀(l:List α) (f:fI ν),Le (l.foldl step f) f
 | [],f=>Le.refl f
 | a::l,f=>(ju step hs l (step f a)).trans (hs f a)
theorem oM (mid one:ν)(P:List ν)(f:fI ν):Le (mW mid one P f) f:=ju _ (λf o=>uZ mid one o f) P f
theorem u6 (mid:ν)(Q P:List ν)(f:fI ν):Le (qy mid Q P f) f:=ju _ (λf o=>oM mid o P f) Q f
theorem Br (M P:List ν)(f:fI ν):Le (xX M P f) f:=ju _ (λf o=>u6 o P P f) M f
theorem mX {α:Type}(step:fI ν->α->fI ν)(hs:∀f a,Le (step f a) f):∀(l:List α) (f:fI ν) (a:α),a∈l->∃g,Le g f/\Le (l.foldl step f) (step g a)
 | [],f,a,h=>by simp at h
 | b::l,f,a,h=>by
  rcases Lj.mp h with rfl | h
  ·exact⟨f,Le.refl f,ju step hs l (step f a)⟩
  ·obtain⟨g,h1,h2⟩:=mX step hs l (step f b) a h
   exact⟨g,h1.trans (hs f b),h2⟩
theorem Bp {mid u v:ν}{P:List ν}{f:fI ν}{x y:Int}(hu:u∈P)(hv:v∈P)(h1:f u mid=some x)(h2:f mid v=some y):∃z,qy mid P P f u v=some z/\z<=x+y:=by
 obtain⟨g,g1,g2⟩:=mX (λf one=>mW mid one P f) (λf o=>oM mid o P f) P f u hu
 obtain⟨g',g3,g4⟩:=mX (λf other=>oJ mid u other f) (λf o=>uZ mid u o f) P g v hv
 have l:Le g' f:=g3.trans g1;obtain⟨x',e1,l1⟩:=l _ _ _ h1;obtain⟨y',e2,l2⟩:=l _ _ _ h2;obtain⟨z,e3,l3⟩:=Bm e1 e2;obtain⟨z',e4,l4⟩:=(g2.trans g4) _ _ _ e3;exact⟨z',e4,by omega⟩
def Up (L:bJ ν)(M:List ν)(f:fI ν):Prop:=∀u v ms s,Pth L u ms v s->ms.Nodup->(∀x∈ms,x∈M)->∃y,f u v=some y/\y<=s
theorem Pth.ends {L:bJ ν}{P:List ν}(hL:∀x∈L,x.1∈P/\x.2.1∈P){u v:ν}{ms:List ν}{s:Int}(h:Pth L u ms v s):u∈P/\v∈P/\∀x∈ms,x∈P:=by
 induction h with
 | one e=>exact⟨(hL _ e).1,(hL _ e).2,by simp⟩
 | cons e _ ih=>exact⟨(hL _ e).1,ih.2.1,λx hx=>by
   rcases Lj.mp hx with rfl | hx
   ·exact ih.1
   ·exact ih.2.2 x hx⟩
theorem Up.mid {L:bJ ν}{P M:List ν}{f:fI ν}(hL:∀x∈L,x.1∈P/\x.2.1∈P)(h:Up L M f)(k:ν):Up L (k::M) (qy k P P f):=λu v ms s hp hn hm=>by
 by_cases hk:k∈ms
 ·obtain⟨p,q,rfl⟩:=Q8 hk
  obtain⟨s1,s2,h1,h2,h3⟩:=hp.cut;rw[Mg]at hn;obtain⟨n1,n2,n3⟩:=hn;rw[LF]at n2
  have hp':∀x∈p,x∈M:=λx hx=>by
   rcases Lj.mp (hm x (LB _ hx))with rfl | z
   ·exact absurd rfl (n3 x hx x Lg)
   ·exact z
  have hq':∀x∈q,x∈M:=λx hx=>by
   rcases Lj.mp (hm x (Lu _ (K9 _ hx)))with rfl | z
   ·exact absurd hx n2.1
   ·exact z
  obtain⟨y1,e1,l1⟩:=h u k p s1 h1 n1 hp';obtain⟨y2,e2,l2⟩:=h k v q s2 h2 n2.2 hq';obtain⟨z,e3,l3⟩:=Bp (P:=P) (h1.ends hL).1 (h2.ends hL).2.1 e1 e2;exact⟨z,e3,by omega⟩
 ·obtain⟨y,e,l⟩:=h u v ms s hp hn λx hx=>by
   rcases Lj.mp (hm x hx)with rfl | z
   ·exact absurd hx hk
   ·exact z
  obtain⟨z,e2,l2⟩:=u6 k P P f u v y e;exact⟨z,e2,by omega⟩
theorem Up.KU {L:bJ ν}{P:List ν}(hL:∀x∈L,x.1∈P/\x.2.1∈P):∀(Q M:List ν) (f:fI ν),Up L M f->∃M',(∀x,x∈Q\/x∈M->x∈M')/\Up L M' (xX Q P f)
 | [],M,f,h=>⟨M,λx hx=>hx.elim (λz=>by simp at z) id,h⟩
 | k::Q,M,f,h=>by
  obtain⟨M',h1,h2⟩:=Up.KU hL Q (k::M) (qy k P P f) (h.mid hL k);refine⟨M',λx hx=>h1 x ?_,h2⟩
  rcases hx with hx | hx
  ·rcases Lj.mp hx with rfl | hx
   ·exact .inr Lg
   ·exact .inl hx
  ·exact .inr (K9 _ hx)
theorem CO {P:List ν}{L:bJ ν}:Up L [] (CP P L):=λu v ms s hp hn hm=>by
 have:ms= []:=by
  cases ms with
  | nil=>rfl
  | cons x r=>exact absurd (hm x Lg) (by simp)
 subst this
 cases hp with
 | one e=>
  obtain⟨g,h1,h2⟩:=mX (λ(f:fI ν) (x:ν×ν×Int)=>sU f x.1 x.2.1 x.2.2) (λf x=>sT f _ _ _) L (yx P) _ e
  obtain⟨y,e1,l1⟩:=xY g u v s;obtain⟨z,e2,l2⟩:=h2 u v y e1;exact⟨z,e2,by omega⟩
theorem fU {α:Type}{L:bJ ν}(step:fI ν->α->fI ν):∀(l:List α) (f:fI ν),(∀f,∀a∈l,(∀u v y,f u v=some y->Wk L u v y)->∀u v y,step f a u v=some y->Wk L u v y)->(∀u v y,f u v=some y->Wk L u v y)->∀u v y,l.foldl step f u v=some y->Wk L u v y
 | [],f,_,h=>h
 | a::l,f,hs,h=>fU step l (step f a) (λf b hb=>hs f b (K9 _ hb)) (hs f a Lg h)
theorem l7 (P:List ν)(L:bJ ν):∀u v y,table P L u v=some y->Wk L u v y:=by
 unfold table xX;refine fU _ P _ (λf m _ h=> ?_) ?_
 ·unfold qy
  refine fU _ P _ (λf o _ h=> ?_) h
  unfold mW;refine fU _ P _ (λf v _ h=> ?_) h
  unfold oJ
  cases e1:f o m with
  | none=>exact h
  | some x=>
   cases e2:f m v with
   | none=>exact h
   | some y=>exact oO h ((h _ _ _ e1).app (h _ _ _ e2))
 ·unfold CP
  refine fU _ L _ (λf x hx h=>oO h (.one hx)) λu v y e=> ?_
  unfold yx at e
  split at e
  ·rename_i z;obtain⟨_,rfl⟩:=z;cases e;exact .nil u
  ·cases e
theorem tV {P:List ν}{L:bJ ν}(hL:∀x∈L,x.1∈P/\x.2.1∈P):∀u v ms s,Pth L u ms v s->ms.Nodup->∃y,table P L u v=some y/\y<=s:=λu v ms s hp hn=>by
 obtain⟨M',h1,h2⟩:=Up.KU hL P [] (CP P L) CO;exact h2 u v ms s hp hn λx hx=>h1 x (.inl ((hp.ends hL).2.2 x hx))
theorem vG {P:List ν}{L:bJ ν}{u:ν}(hu:u∈P):∃y,table P L u u=some y/\y<=0:=by
 have h0:yx P u u=some 0:=by unfold yx;rw[if_pos ⟨hu,rfl⟩]
 have h1:Le (table P L) (yx P):=(Br P P _).trans (ju _ (λf x=>sT f _ _ _) L _)
 exact h1 u u 0 h0
structure o7 (L:bJ ν)(P:List ν)(f:fI ν):Prop where
 is:∀u v d,f u v=some d->Wk L u v d
 le:∀u∈P,∀v t,Wk L u v t->∃d,f u v=some d/\d<=t
theorem yw {P:List ν}{L:bJ ν}{u:ν}{y:Int}(h:table P L u u=some y)(hy:y<0):¬ eX L:=λn=>by
 have:=n u y (l7 P L u u y h);omega
theorem tW {P:List ν}{L:bJ ν}(hL:∀x∈L,x.1∈P/\x.2.1∈P)(h:∀u∈P,∀y,table P L u u=some y->0<=y):eX L/\o7 L P (table P L):=by
 have nc:¬ Cg L:=λ⟨x,ms,s,hp,hn,_,hs⟩=>by
  obtain⟨y,e,l⟩:=tV hL x x ms s hp hn
  have:=h x (hp.ends hL).1 y e;omega
 have le:∀u∈P,∀v t,Wk L u v t->∃d,table P L u v=some d/\d<=t:=λu hu v t w=>by
  rcases w.simple with z | ⟨s',hs,z⟩
  ·exact absurd z nc
  ·rcases z with⟨rfl,rfl⟩ | ⟨_,ms,hp,hn,_⟩
   ·obtain⟨y,e,l⟩:=vG (L:=L) hu
    exact⟨y,e,by omega⟩
   ·obtain⟨y,e,l⟩:=tV hL u v ms s' hp hn
    exact⟨y,e,by omega⟩
 refine⟨λa s w=> ?_,λu v d e=>l7 P L u v d e,le⟩
 by_cases ha:a∈P
 ·obtain⟨d,e,l⟩:=le a ha a s w
  have:=h a ha d e;omega
 ·cases w with
  | nil=>exact Ng _
  | step e _=>exact absurd (hL _ e).1 ha
end Gr
namespace G
open PySem Tr
def isI:T->Bool
 | .int _=>true
 | _=>false
theorem Ep (t:T)(h:t.pl=true):gZ [t] = .ok (.bl (isI t)):=by
 cases t <;> first | rfl | (simp[T.pl]at h;done)
def aR (t:T)(a b:Int):Bool:=match t with
 | .int i=>decide (a<=i)&&decide (i<=b)
 | _=>false
theorem eU (t:T)(a b:Int)(h:t.pl=true):aU [t,.int a,.int b] = .ok (.bl (aR t a b)):=by
 have w:=Ep t h
 cases t with
 | int i=>
  simp[aU,val,bD,jb,aO,aM,cD,vr,ch,cl,af,ak,vm,aR,w,isI]
  cases decide (a<=i) <;> rfl
 | scr _=>simp[T.pl]at h
 | dct _ _=>simp[T.pl]at h
 | ob _ _ _=>simp[T.pl]at h
 | _=>simp[aU,val,bD,jb,aO,aM,cD,vr,ch,cl,af,ak,aR,w,isI]
def dn (t:T)(a b:Nat):Bool:=match t with
 | .tup l=>decide (a<=l.length)&&decide (l.length<=b)
 | _=>false
theorem j8 (t:T)(a b:Nat)(h:t.pl=true):aP [t,.int a,.int b] = .ok (.bl (dn t a b)):=by
 cases t with
 | tup l=>
  simp[aP,val,bD,qO,aO,aM,cD,o1,vr,Ef,T.ty,xU,ch,cl,af,ak,bL,T.items,vm,dn]
  cases decide (a<=l.length) <;> rfl
 | scr _=>simp[T.pl]at h
 | dct _ _=>simp[T.pl]at h
 | ob _ _ _=>simp[T.pl]at h
 | _=>rfl
def jW (x y:T):Bool:=aR x 1 9&&(match x with
 | .int i=>aR y i 9
 | _=>false)
theorem Hy (x y:T)(hx:x.pl=true)(hy:y.pl=true):fF [x,y] = .ok (.bl (jW x y)):=by
 have w:=eU x 1 9 hx;unfold jW
 cases q:aR x 1 9 with
 | false=>rw[q]at w;simp[fF,val,bD,l5,aO,aM,cD,vr,cn,cl,af,ak,w]
 | true=>
  rw[q]at w
  cases x with
  | int i=>simp[fF,val,bD,l5,aO,aM,cD,vr,cn,cl,af,ak,w,eU y i 9 hy]
  | _=>cases q
def mh:List Int->Bool
 | a::b::r=>decide (a<b)&&mh (b::r)
 | _=>true
theorem C1 (a b:Int)(r:List Int):mh (a::b::r)=(decide (a<b)&&mh (b::r)):=rfl
theorem tG {fe:En->Rs T}{p:T->Bool}{l:List T}{fi:En->Rs (List T)}{src:List (Option Nat)}{Z:En}(hi:fi Z= .ok l)(hs:l.length<=sizeLine)(hn:0<src.length)(hf:∀t∈l,fe ((dz src Z).set 0 (.va t))= .ok (.bl (p t))) :
  cl p0 (af (jr fi src (gN 0) bT fe) ak) Z= .ok (.bl (l.all p)):=by
 have e:=wj (fe:=fe) (h:=λt=>T.bl (p t)) l (dz src Z) (by unfold dz;rw[Lh];exact hn) hf
 simp only[cl,af,ak,jr,hi,aA,if_pos hs,e,all_map]
def lO (l:List T):T->Bool
 | .int k=>match L2.atI l k,L2.atI l (k+1)with
  | some (.int a),some (.int b)=>decide (a<b)
  | _,_=>false
 | _=>false
theorem rz {t:T}{j:Int}(h:t∈rng 0 j):∃k:Nat,t= .int k/\(k:Int)<j:=by
 unfold rng at h;obtain⟨k,hk,e⟩:=LM.mp h;rw[L4]at hk;exact⟨k,by rw[<-e];simp,by omega⟩
theorem FR:(l:List Int)->l.length<=4->(rng 0 ((l.length:Int) - 1)).all (lO (l.map .int))=mh l
 | [],_=>rfl
 | [a],_=>rfl
 | [a,b],_=>by simp[rng,OM,lO,L2.atI,L2.ixN,mh]
 | [a,b,c],_=>by simp[rng,OM,lO,L2.atI,L2.ixN,mh]
 | [a,b,c,d],_=>by simp[rng,OM,lO,L2.atI,L2.ixN,mh,Bool.and_assoc]
 | a::b::c::d::e::r,h=>absurd h (by simp only[Li];omega)
theorem Es (l:List Int)(h:l.length<=4):jq [.tup (l.map .int)] = .ok (.bl (mh l)):=by
 have hr:iR (af (o2 f9 (cl bL (af (vr 0) ak)) (cn (.int 1))) ak) [.va (.tup (l.map .int))] = .ok (rng 0 ((l.length:Int) - 1)):=by
  have:Cq ((l.length:Int) - 1)=true:=by unfold Cq;rw[K8];exact⟨decide_eq_true (by omega),decide_eq_true (by omega)⟩
  simp[iR,af,ak,o2,cl,vr,cn,bL,T.items,f9,this]
 have hs:(rng 0 ((l.length:Int) - 1)).length<=sizeLine:=by
  unfold rng sizeLine;rw[Lh,NM];omega
 have e:=tG (fe:=o2 zp (o2 aQ (vr 1) (vr 0)) (o2 aQ (vr 1) (o2 aL (vr 0) (cn (.int 1))))) (p:=lO (l.map .int)) (src:=[none,some 0]) hr hs (by decide) (λt ht=>by
  obtain⟨k,rfl,hk⟩:=rz ht
  have h1:(l.map T.int)[k]? =some (.int (l[k]'(by omega))):=by simp
  have h2:(l.map T.int)[k+1]? =some (.int (l[k+1]'(by omega))):=by rw[LD,Lv (by omega)];rfl
  have g1:=ka h1
  have g2:L2.atI (l.map T.int) ((k:Int)+1)=some (.int (l[k+1]'(by omega))):=ka h2
  simp[o2,vr,dz,cn,aL,aQ,T.items,g1,g2,vm,lO])
 rw[FR l h]at e;simp only[jq,val,MU,if_true,yn,bD,aM,aO]
 show(do let f <-(do let t <-cl p0 _ [.va (.tup (l.map .int))];Rs.ok (Fl.rt t));_)=_
 rw[e]
 rfl
def iA:List T->Option (List Int)
 | [] =>some []
 | .int i::l=>match iA l with
  | some m=>some (i::m)
  | none=>none
 | _::_=>none
def bx (t:T):Bool:=dn t 1 4&&(match t with
 | .tup l=>l.all (λu=>aR u 0 99)&&(match iA l with | some m=>mh m | none=>false)
 | _=>false)
theorem nZ:∀{l:List T} {m:List Int},iA l=some m->l=m.map .int
 | [],m,h=>by cases h;rfl
 | t::l,m,h=>by
  cases t with
  | int i=>
   unfold iA at h
   cases q:iA l with
   | none=>rw[q]at h;cases h
   | some m'=>rw[q]at h;cases h;rw[Lf,<-nZ q]
  | _=>cases h
theorem rZ:∀{l:List T} {a b:Int},(l.all λu=>aR u a b)=true->∃m,iA l=some m
 | [],_,_,_=>⟨[],rfl⟩
 | t::l,a,b,h=>by
  rw[List.all_cons,K8]at h
  cases t with
  | int i=>
   obtain⟨m,e⟩:=rZ h.2
   exact⟨i::m,by unfold iA;rw[e]⟩
  | _=>exact absurd h.1 (by simp[aR])
theorem dg {t:T}{a b:Nat}(h:dn t a b=true):∃l,t= .tup l/\a<=l.length/\l.length<=b:=by
 cases t with
 | tup l=>unfold dn at h;rw[K8]at h;exact⟨l,rfl,of_decide_eq_true h.1,of_decide_eq_true h.2⟩
 | _=>cases h
theorem small {n k:Nat}(h:n<=k)(hk:autoParam (k<=1000) aqb._auto_1):n<=sizeLine:=by unfold sizeLine;omega
theorem wH (t:T)(h:t.pl=true):bP [t] = .ok (.bl (bx t)):=by
 have w:aP [t,.int 1,.int 4] = .ok (.bl (dn t 1 4)):=j8 t 1 4 h;unfold bx
 cases q:dn t 1 4 with
 | false=>rw[q]at w;simp[bP,val,bD,d7,aO,aC,gf,du,tb,sN,aM,cl,vr,cn,af,ak,w]
 | true=>
  rw[q]at w;obtain⟨l,rfl,h1,h2⟩:=dg q
  have hp:∀u∈l,u.pl=true:=λu hu=>fy (by unfold T.pl at h;exact h) hu
  have e:=tG (fe:=cl aU (af (vr 0) (af (cn (.int 0)) (af (cn (.int 99)) ak)))) (p:=λu=>aR u 0 99) (src:=[none]) (fi:=iS (vr 0)) (Z:=[.va (.tup l)]) rfl (small h2) (by decide) (λu hu=>by
   simp[cl,af,ak,vr,cn,dz,eU u 0 99 (hp u hu)])
  have w':cl aP (af (vr 0) (af (cn (.int 1)) (af (cn (.int 4)) ak))) [.va (.tup l)] = .ok (.bl true):=w
  show bP _= .ok (.bl (true&&(l.all (λu=>aR u 0 99)&&(match iA l with | some m=>mh m | none=>false))))
  cases qa:l.all λu=>aR u 0 99 with
  | false=>
   rw[qa]at e
   simp[bP,val,bD,d7,aO,aC,gf,du,tb,sN,aM,cD,e,w']
  | true=>
   rw[qa]at e;obtain⟨m,em⟩:=rZ qa
   have el:=nZ em
   have er:=Es m (by rw[el,Lh]at h2;exact h2)
   rw[<-el]at er
   have er':cl jq (af (vr 0) ak) [.va (.tup l)] = .ok (.bl (mh m)):=er;simp[bP,val,bD,d7,aO,aC,gf,du,tb,sN,aM,cD,e,w',er',em]
def at_ (t:T)(k:Nat):T:=match t.items with
 | some l=>l.getD k .non
 | none=> .non
def bj (t:T):Bool:=dn t 3 3&&(match t with
 | .tup [x,y,r] =>jW x y&&bx r
 | _=>false)
theorem Ey (t:T)(h:t.pl=true):c9 [t] = .ok (.bl (bj t)):=by
 have w:aP [t,.int 3,.int 3] = .ok (.bl (dn t 3 3)):=j8 t 3 3 h;unfold bj
 cases q:dn t 3 3 with
 | false=>rw[q]at w;simp[c9,val,bD,ie,aO,aM,cD,cl,vr,cn,af,ak,w]
 | true=>
  rw[q]at w;obtain⟨l,rfl,h1,h2⟩:=dg q
  match l,h1,h2 with
  | [x,y,r],_,_=>
   simp[T.pl,plS]at h;obtain⟨px,py,pr⟩:=h
   have g0:aQ (.tup [x,y,r]) (.int 0)= .ok x:=rfl
   have g1:aQ (.tup [x,y,r]) (.int 1)= .ok y:=rfl
   have g2:aQ (.tup [x,y,r]) (.int 2)= .ok r:=rfl
   have ep:=Hy x y px py
   have er:=wH r pr
   cases qp:jW x y with
   | false=>rw[qp]at ep;simp[c9,val,bD,ie,aO,aM,cD,cl,vr,cn,af,ak,o2,w,g0,g1,ep,qp]
   | true=>rw[qp]at ep;simp[c9,val,bD,ie,aO,aM,cD,cl,vr,cn,af,ak,o2,w,g0,g1,g2,ep,er,qp]
def bf (t:T):Bool:=dn t 1 4&&(match t with
 | .tup l=>l.all bj
 | _=>false)
theorem BF (t:T)(h:t.pl=true):dk [t] = .ok (.bl (bf t)):=by
 have w:aP [t,.int 1,.int 4] = .ok (.bl (dn t 1 4)):=j8 t 1 4 h;unfold bf
 cases q:dn t 1 4 with
 | false=>rw[q]at w;simp[dk,val,bD,ig,aO,aM,cD,cl,vr,cn,af,ak,w]
 | true=>
  rw[q]at w;obtain⟨l,rfl,h1,h2⟩:=dg q
  have hp:∀u∈l,u.pl=true:=λu hu=>fy (by unfold T.pl at h;exact h) hu
  have e:=tG (fe:=cl c9 (af (vr 0) ak)) (p:=bj) (src:=[none]) (fi:=iS (vr 0)) (Z:=[.va (.tup l)]) rfl (small h2) (by decide) (λu hu=>by
   simp[cl,af,ak,vr,cn,dz,Ey u (hp u hu)])
  have w':cl aP (af (vr 0) (af (cn (.int 1)) (af (cn (.int 4)) ak))) [.va (.tup l)] = .ok (.bl true):=w;simp[dk,val,bD,ig,aO,aM,cD,e,w']
def dq (x y:T):Bool:=aR x 0 999&&(match x,y with
 | _,.non=>true
 | .int i,_=>aR y i 999
 | _,_=>false)
theorem Ex (x y:T)(hx:x.pl=true)(hy:y.pl=true):dG [x,y] = .ok (.bl (dq x y)):=by
 have w:=eU x 0 999 hx;unfold dq
 cases q:aR x 0 999 with
 | false=>rw[q]at w;simp[dG,val,bD,ib,aO,aM,cD,vr,cn,cl,af,ak,w]
 | true=>
  rw[q]at w
  cases x with
  | int i=>
   have e:=eU y i 999 hy
   cases y with
   | non=>simp[dG,val,bD,ib,aO,aM,cD,Co,vr,cn,cl,af,ak,o2,lR,T.isN,w]
   | _=>simp[dG,val,bD,ib,aO,aM,cD,Co,vr,cn,cl,af,ak,o2,lR,T.isN,w,e]
  | _=>cases q
def reads (cs:List T)(c:Int):Nat:=if 0<=c then(match cs[c.toNat]? with
 | some (.tup [_,_,.tup r])=>r.length
 | _=>0)else 0
def aV (cs:List T)(t:T):Bool:=match t with
 | .tup [.int c,.int k] =>decide (0<=c)&&decide (c<cs.length)&&(decide (0<=k)&&decide (k<reads cs c))
 | _=>false
theorem mq {t:T}(h:bj t=true):∃x y r,t= .tup [x,y,.tup r]:=by
 unfold bj at h;rw[K8]at h;obtain⟨h1,h2⟩:=h;obtain⟨l,rfl,h3,h4⟩:=dg h1
 match l,h3,h4,h2 with
 | [x,y,r],_,_,h2=>
  simp only[K8]at h2;obtain⟨_,h5⟩:=h2;unfold bx at h5;rw[K8]at h5;obtain⟨m,rfl,_⟩:=dg h5.1;exact⟨x,y,m,rfl⟩
theorem bA {t:T}{a b:Int}(h:aR t a b=true):∃i,t= .int i/\a<=i/\i<=b:=by
 cases t with
 | int i=>unfold aR at h;rw[K8]at h;exact⟨i,rfl,of_decide_eq_true h.1,of_decide_eq_true h.2⟩
 | _=>cases h
theorem sZ (cs:List T)(t:T)(hc:bf (.tup cs)=true)(h:t.pl=true):cA [.tup cs,t] = .ok (.bl (aV cs t)):=by
 have w:aP [t,.int 2,.int 2] = .ok (.bl (dn t 2 2)):=j8 t 2 2 h
 cases q:dn t 2 2 with
 | false=>
  rw[q]at w
  have:aV cs t=false:=by
   unfold aV;split
   ·cases q
   ·rfl
  simp[cA,val,bD,ia,aO,aC,gf,ph,du,tb,sN,aM,cl,vr,cn,af,ak,w,this]
 | true=>
  rw[q]at w;obtain⟨l,rfl,h1,h2⟩:=dg q
  match l,h1,h2 with
  | [x,y],_,_=>
   simp[T.pl,plS]at h;obtain⟨px,py⟩:=h
   have g0:aQ (.tup [x,y]) (.int 0)= .ok x:=rfl
   have g1:aQ (.tup [x,y]) (.int 1)= .ok y:=rfl
   have gl:bL [.tup cs] = .ok (.int cs.length):=rfl
   have e1:=eU x 0 ((cs.length:Int) - 1) px
   cases q1:aR x 0 ((cs.length:Int) - 1)with
   | false=>
    rw[q1]at e1
    have:aV cs (.tup [x,y])=false:=by
     cases x with
     | int c=>
      cases y with
      | int k=>
       simp only[aR,Qe,decide_eq_false_iff_not]at q1;simp only[aV,Qe,decide_eq_false_iff_not]
       omega
      | _=>rfl
     | _=>rfl
    simp[cA,val,bD,ia,aO,aC,gf,ph,du,tb,sN,aM,cl,vr,cn,af,ak,o2,f9,w,g0,gl,e1,this]
   | true=>
    rw[q1]at e1;obtain⟨c,rfl,c1,c2⟩:=bA q1;obtain⟨n,rfl⟩:=LU c1
    have hn:n<cs.length:=by omega
    have hcl:bj cs[n] =true:=by
     unfold bf at hc;rw[K8]at hc;exact LG.mp hc.2 _ (Mz hn)
    obtain⟨a,b,r,er⟩:=mq hcl
    have g2:aQ (.tup cs) (.int (n:Int))= .ok (.tup [a,b,.tup r]):=by
     simp only[aQ,T.items];rw[ka (Lv hn),er]
    have g3:aQ (.tup [a,b,.tup r]) (.int 2)= .ok (.tup r):=rfl
    have gr:bL [.tup r] = .ok (.int r.length):=rfl
    have e2:=eU y 0 ((r.length:Int) - 1) py
    have:aV cs (.tup [.int n,y])=aR y 0 ((r.length:Int) - 1):=by
     have er2:reads cs (n:Int)=r.length:=by
      unfold reads;rw[if_pos c1,ME,Lv hn,er]
     cases y with
     | int k=>
      simp only[aV,aR,er2];rw[decide_eq_true c1,decide_eq_true (show(n:Int)<cs.length by omega)]
      simp only[Oz]
      congr 1
      exact decide_eq_decide.mpr (by omega)
     | _=>rfl
    simp[cA,val,bD,ia,aO,aC,gf,ph,du,tb,sN,aM,cl,vr,cn,af,ak,o2,f9,w,g0,g1,g2,g3,gl,gr,e1,e2,this]
def ba (cs:List T)(t:T):Bool:=match t with
 | .tup [a,b,x,y] =>dq x y&&(aV cs a&&(aV cs b&& !bh a b))
 | _=>false
theorem cM {cs:List T}{t:T}(h:aV cs t=true):∃c k:Int,t= .tup [.int c,.int k]:=by
 unfold aV at h
 split at h
 ·exact⟨_,_,rfl⟩
 ·cases h
theorem By (cs:List T)(t:T)(hc:bf (.tup cs)=true)(h:t.pl=true):bW [.tup cs,t] = .ok (.bl (ba cs t)):=by
 have w:aP [t,.int 4,.int 4] = .ok (.bl (dn t 4 4)):=j8 t 4 4 h
 cases q:dn t 4 4 with
 | false=>
  rw[q]at w
  have:ba cs t=false:=by
   unfold ba;split
   ·cases q
   ·rfl
  simp[bW,val,bD,dM,aO,aC,gf,ph,du,tb,sN,aM,cl,vr,cn,af,ak,w,this]
 | true=>
  rw[q]at w;obtain⟨l,rfl,h1,h2⟩:=dg q
  match l,h1,h2 with
  | [a,b,x,y],_,_=>
   simp[T.pl,plS]at h;obtain⟨pa,pb,px,py⟩:=h
   have g0:aQ (.tup [a,b,x,y]) (.int 0)= .ok a:=rfl
   have g1:aQ (.tup [a,b,x,y]) (.int 1)= .ok b:=rfl
   have g2:aQ (.tup [a,b,x,y]) (.int 2)= .ok x:=rfl
   have g3:aQ (.tup [a,b,x,y]) (.int 3)= .ok y:=rfl
   have e1:=Ex x y px py
   have e2:=sZ cs a hc pa
   have e3:=sZ cs b hc pb
   show _=Rs.ok (T.bl (dq x y&&(aV cs a&&(aV cs b&& !bh a b))))
   cases q1:dq x y with
   | false=>
    rw[q1]at e1
    simp[bW,val,bD,dM,aO,aC,gf,ph,du,tb,sN,aM,cl,vr,cn,af,ak,o2,w,g2,g3,e1]
   | true=>
    rw[q1]at e1
    cases q2:aV cs a with
    | false=>
     rw[q2]at e2
     simp[bW,val,bD,dM,aO,aC,gf,ph,du,tb,sN,aM,cD,cl,vr,cn,af,ak,o2,w,g0,g2,g3,e1,e2]
    | true=>
     rw[q2]at e2
     cases q3:aV cs b with
     | false=>
      rw[q3]at e3
      simp[bW,val,bD,dM,aO,aC,gf,ph,du,tb,sN,aM,cD,cl,vr,cn,af,ak,o2,w,g0,g1,g2,g3,e1,e2,e3]
     | true=>
      rw[q3]at e3;obtain⟨c,k,rfl⟩:=cM q2
      have f:hI (.tup [.int c,.int k]) b=true:=i6 (by simp[T.dep,deps]) rfl (T.Km _ pb)
      have g4:pY (.tup [.int c,.int k]) b= .ok (.bl (!bh (.tup [.int c,.int k]) b)):=by unfold pY;rw[if_pos f]
      simp[bW,val,bD,dM,aO,aC,gf,ph,du,tb,sN,aM,cD,cl,vr,cn,af,ak,o2,w,g0,g1,g2,g3,g4,e1,e2,e3]
def jt (cs:List T)(t:T):Bool:=dn t 0 8&&(match t with
 | .tup l=>l.all (ba cs)
 | _=>false)
theorem y9 (cs:List T)(t:T)(hc:bf (.tup cs)=true)(h:t.pl=true):cS [.tup cs,t] = .ok (.bl (jt cs t)):=by
 have w:aP [t,.int 0,.int 8] = .ok (.bl (dn t 0 8)):=j8 t 0 8 h;unfold jt
 cases q:dn t 0 8 with
 | false=>rw[q]at w;simp[cS,val,bD,gF,aO,aM,cD,cl,vr,cn,af,ak,w]
 | true=>
  rw[q]at w;obtain⟨l,rfl,h1,h2⟩:=dg q
  have hp:∀u∈l,u.pl=true:=λu hu=>fy (by unfold T.pl at h;exact h) hu
  have e:=tG (fe:=cl bW (af (vr 1) (af (vr 0) ak))) (p:=ba cs) (src:=[none,some 0]) (fi:=iS (vr 1)) (Z:=[.va (.tup cs),.va (.tup l)]) rfl (small h2) (by decide) (λu hu=>by
   simp[cl,af,ak,vr,cn,dz,By cs u hc (hp u hu)])
  have w':cl aP (af (vr 1) (af (cn (.int 0)) (af (cn (.int 8)) ak))) [.va (.tup cs),.va (.tup l)] = .ok (.bl true):=w;simp[cS,val,bD,gF,aO,aM,cD,e,w']
def dX (t:T):Bool:=match t with
 | .tup [.tup cs,ls] =>bf (.tup cs)&&jt cs ls
 | _=>false
theorem vg (t:T)(h:t.pl=true):c8 [t] = .ok (.bl (dX t)):=by
 have w:aP [t,.int 2,.int 2] = .ok (.bl (dn t 2 2)):=j8 t 2 2 h
 cases q:dn t 2 2 with
 | false=>
  rw[q]at w
  have:dX t=false:=by
   unfold dX;split
   ·cases q
   ·rfl
  simp[c8,val,bD,gp,aO,aM,cD,cl,vr,cn,af,ak,w,this]
 | true=>
  rw[q]at w;obtain⟨l,rfl,h1,h2⟩:=dg q
  match l,h1,h2 with
  | [x,y],_,_=>
   simp[T.pl,plS]at h;obtain⟨px,py⟩:=h
   have g0:aQ (.tup [x,y]) (.int 0)= .ok x:=rfl
   have g1:aQ (.tup [x,y]) (.int 1)= .ok y:=rfl
   have e1:=BF x px
   cases q1:bf x with
   | false=>
    rw[q1]at e1
    have:dX (.tup [x,y])=false:=by
     cases x with
     | tup cs=>show(bf (.tup cs)&&_)=false;rw[q1];rfl
     | _=>rfl
    simp[c8,val,bD,gp,aO,aM,cD,cl,vr,cn,af,ak,o2,w,g0,e1,this]
   | true=>
    rw[q1]at e1
    cases x with
    | tup cs=>
     have e2:=y9 cs y q1 py
     have:dX (.tup [.tup cs,y])=jt cs y:=by show(bf (.tup cs)&&_)=_;rw[q1];rfl
     simp[c8,val,bD,gp,aO,aM,cD,cl,vr,cn,af,ak,o2,w,g0,g1,e1,e2,this]
    | _=>cases q1
theorem fG:∀m:List Int,deps (m.map .int)=0
 | [] =>rfl
 | a::m=>by rw[Lf,deps,fG m];rfl
def gU (i n:Nat):List T:=(rng 0 n).map λt=>T.tup [.int i,t]
def vA:T->Nat
 | .tup [_,_,.tup r] =>r.length
 | _=>0
def dv:Nat->List T->List T
 | _,[] => []
 | i,c::r=>gU i (vA c)++dv (i+1) r
theorem dJ {t:T}(h:bj t=true):∃x y r,t= .tup [x,y,.tup r]/\1<=r.length/\r.length<=4:=by
 obtain⟨x,y,r,rfl⟩:=mq h
 have:bx (.tup r)=true:=by
  have h':(jW x y&&bx (.tup r))=true:=h;rw[K8]at h';exact h'.2
 unfold bx at this;rw[K8]at this;obtain⟨l,e,h1,h2⟩:=dg this.1;cases e;exact⟨x,y,r,rfl,h1,h2⟩
theorem gS (i n:Nat):(gU i n).length=n:=by unfold gU;rw[Lh,kI]
abbrev evF:En->Rs Fl:=cE (o2 aL (vr 1) (jr (iR (af (cl bL (af (o2 aQ (vr 3) (cn (.int 2))) ak)) ak)) [none,some 2] (gN 0) bT (bB (af (vr 1) (af (vr 0) ak))))) (gN 1)
abbrev evG:T->En->Rs En:=gT 2 (kW (gN 2) (kW (gN 3) vB))
theorem Hm {f:En->Rs (List T)}{Z:En}{j:Int}(h:f Z= .ok [.int j])(h0:0<=j)(h1:j<=100000):iR f Z= .ok (rng 0 j):=by
 have e:Cq j=true:=by unfold Cq;rw[K8];exact⟨decide_eq_true (by omega),decide_eq_true (by omega)⟩
 unfold iR;rw[h]
 show(if Cq j=true then _ else _)=_
 rw[e];rfl
theorem yi (l m:List T)(h:(l++m).length<=1000):aL (.lst l) (.lst m)= .ok (.lst (l++m)):=by
 show jO (l++m)=_
 unfold jO;rw[if_pos (aE h)]
theorem lj (l m:List T)(h:(l++m).length<=1000):aL (.tup l) (.tup m)= .ok (.tup (l++m)):=by
 show jN (l++m)=_
 unfold jN;rw[if_pos (aE h)]
theorem JO (c0 acc x y:T)(r:List T)(i:Nat)(h:r.length<=4) :
  jr (iR (af (cl bL (af (o2 aQ (vr 3) (cn (.int 2))) ak)) ak)) [none,some 2] (gN 0) bT (bB (af (vr 1) (af (vr 0) ak))) [.va c0,.va acc,.va (.int i),.va (.tup [x,y,.tup r])] = .ok (.lst (gU i r.length)):=
 yX (Hm (j:=(r.length:Int)) rfl (by omega) (by omega)) (aE (k:=4) (by rw[kI];exact h)) (by simp) λt _=>mk2 _ _
theorem El (c0 x y:T)(acc r:List T)(i:Nat)(h:r.length<=4)(ha:acc.length<=100):evF [.va c0,.va (.lst acc),.va (.int i),.va (.tup [x,y,.tup r])] = .ok (.nx [.va c0,.va (.lst (acc++gU i r.length)),.va (.int i),.va (.tup [x,y,.tup r])]):=
 cC (aG (t:=.lst acc) rfl (JO c0 (.lst acc) x y r i h) (yi _ _ (by rw[Lb,gS];omega))) rfl
theorem xZ:∀(cs:List T) (c0:T) (acc:List T) (i:Nat) (s2 s3:Sl),(∀c∈cs,bj c=true)->acc.length+4*cs.length<=100 →
  ∃y2 y3,bO evG evF (cR i cs) [.va c0,.va (.lst acc),s2,s3] = .ok (.nx [.va c0,.va (.lst (acc++dv i cs)),y2,y3])
 | [],c0,acc,i,s2,s3,_,_=>⟨s2,s3,by simp[cR,bO,dv]⟩
 | c::cs,c0,acc,i,s2,s3,hc,hl=>by
  obtain⟨x,y,r,rfl,r1,r2⟩:=dJ (hc c Lg);rw[Li]at hl;obtain⟨z2,z3,ih⟩:=xZ cs c0 (acc++gU i r.length) (i+1) (.va (.int i)) (.va (.tup [x,y,.tup r])) (λc h=>hc c (K9 _ h)) (by rw[Lb,gS];omega)
  refine⟨z2,z3,?_⟩
  rw[cR,gA (Z1:=[.va c0,.va (.lst acc),.va (.int i),.va (.tup [x,y,.tup r])]) rfl (El c0 x y acc r i r2 (by omega)),ih,dv,LS]
  rfl
theorem bo {cs:List T}(hc:bf (.tup cs)=true):(∀c∈cs,bj c=true)/\1<=cs.length/\cs.length<=4:=by
 unfold bf at hc;rw[K8]at hc;obtain⟨l,e,h1,h2⟩:=dg hc.1;cases e;exact⟨λc h=>LG.mp hc.2 c h,h1,h2⟩
theorem BD (cs:List T)(hc:bf (.tup cs)=true):dy [.tup cs] = .ok (.lst (dv 0 cs)):=by
 obtain⟨ha,h1,h2⟩:=bo hc;obtain⟨y2,y3,e⟩:=xZ cs (.tup cs) [] 0 .em .em ha (by simp;omega)
 rw[OJ]at e;refine cm rfl ?_
 unfold jS;rw[aF (Z':=[.va (.tup cs),.va (.lst []),.em,.em]) rfl,aF ((jP (ts:=cR 0 cs) rfl e))]
 rfl
theorem DT {n k:Nat}(h:k<n):T.int (k:Int)∈rng 0 (n:Int):=by
 unfold rng;exact LM.mpr ⟨k,L4.mpr (by omega),by simp⟩
theorem lz (cs:List T)(c:Nat):reads cs (c:Int)=vA (cs.getD c .non):=by
 unfold reads;rw[if_pos (by omega),ME,MM]
 cases cs[c]? with
 | none=>rfl
 | some t=>
  cases t with
  | tup l=>
   match l with
   | [] =>rfl
   | [_] =>rfl
   | [_,_] =>rfl
   | [_,_,z] =>cases z <;> rfl
   | _::_::z::_::_=>cases z <;> rfl
  | _=>rfl
mutual
def sm (n:Nat):T->Bool
 | .dct _ _=>false
 | .ob _ _ _=>false
 | .scr _=>false
 | .tup l=>decide (l.length<=n)&&sms n l
 | .lst l=>decide (l.length<=n)&&sms n l
 | _=>true
def sms (n:Nat):List T->Bool
 | [] =>true
 | t::l=>sm n t&&sms n l
end
mutual
theorem zP {n:Nat}:∀(t:T),sm n t=true->t.pl=true
 | .scr _,h=>by simp[sm]at h
 | .dct _ _,h=>by simp[sm]at h
 | .ob _ _ _,h=>by simp[sm]at h
 | .tup l,h=>by rw[sm,K8]at h;rw[T.pl];exact sms_pl l h.2
 | .lst l,h=>by rw[sm,K8]at h;rw[T.pl];exact sms_pl l h.2
 | .non,_=>by simp[T.pl]
 | .bl _,_=>by simp[T.pl]
 | .int _,_=>by simp[T.pl]
 | .str _,_=>by simp[T.pl]
theorem sms_pl {n:Nat}:∀(l:List T),sms n l=true->plS l=true
 | [],_=>by simp[plS]
 | t::l,h=>by rw[sms,K8]at h;rw[plS,zP t h.1,sms_pl l h.2];rfl
end
theorem xc {n:Nat}:∀{l:List T},sms n l=true↔ ∀t∈l,sm n t=true
 | [] =>by simp[sms]
 | t::l=>by rw[sms,K8,xc (l:=l)];simp
theorem sm_tup {n:Nat}{l:List T}:sm n (.tup l)=true↔l.length<=n/\∀t∈l,sm n t=true:=by rw[sm,K8,xc,decide_eq_true_iff]
theorem j0 {i j:Int}(h:0<j):kN (.int i) (.int j)= .ok (.int (i % j)):=by show(if _ then _ else _)=_;rw[if_pos h]
theorem mY {i j:Int}(h:0<j)(h2:j<1073741824):kX (.int i) (.int j)= .ok (.int (i / j)):=by show(if _ then _ else _)=_;rw[if_pos ⟨h,h2⟩]
theorem jM {i j:Int}(h : -18446744073709551616<i)(h2:i<18446744073709551616):bS (.int i) (.int j)= .ok (.int (i*j)):=by
 show wb (.int i) (.int j)=_
 show(if _ then _ else _)=_
 rw[if_pos (.inl ⟨by omega,by omega⟩)]
theorem AF {i j:Int}(h : -18446744073709551616<j)(h2:j<18446744073709551616):bS (.int i) (.int j)= .ok (.int (i*j)):=by
 show wb (.int i) (.int j)=_
 show(if _ then _ else _)=_
 rw[if_pos (.inr ⟨by omega,by omega⟩)]
theorem HB (ns:List Int)(k:Nat)(hn:ns.length<=63):∃c,eO [.scr ns,.int k] = .ok (.int c):=by
 have e0:o2 ve (vr 0) (eV ak) [.va (.scr ns),.va (.int k)] = .ok (.bl (jQ ns [])):=by
  refine aG (t:=.scr ns) (u:=.lst []) rfl (mm (ts:=[]) rfl (aE (k:=0) (Lo _))) ?_
  unfold ve;rw[if_pos (i6 (by simp[T.dep]) rfl rfl)]
  rfl
 cases ns with
 | nil=>
  refine⟨7*k,cm rfl ?_⟩
  unfold jd
  refine oE ((iY (cW e0)).trans (cU (aG (t:=.int 7) (u:=.int k) rfl rfl (jM (by omega) (by omega)))))
 | cons a r=>
  have hl:(0:Int)<((a::r).length:Nat):=by simp only[Li];omega
  have hl2:(((a::r).length:Nat):Int)<1073741824:=by simp only[Li]at hn ⊢;omega
  have hi:k % (a::r).length<(a::r).length:=Nat.mod_lt _ (by simp)
  have g0:o2 kN (vr 1) (cl bL (af (vr 0) ak)) [.va (.scr (a::r)),.va (.int k)] = .ok (.int ((k % (a::r).length:Nat):Int)):=by
   refine aG (t:=.int k) (u:=.int ((a::r).length:Nat)) rfl ?_ (by rw[j0 hl];rfl)
   refine aW (ts:=[.scr (a::r)]) rfl ?_
   show Rs.ok (T.int (((a::r).map T.int).length:Nat))=_
   rw[Lh]
  have g1:aQ (.scr (a::r)) (.int ((k % (a::r).length:Nat):Int))= .ok (.int (a::r)[k % (a::r).length]):=by
   have e:((a::r).map T.int)[k % (a::r).length]? =some (.int (a::r)[k % (a::r).length]):=by rw[LD,Lv hi];rfl
   show(match L2.atI ((a::r).map T.int) ((k % (a::r).length:Nat):Int)with | some t=>Rs.ok t | none=> .bad)=_
   rw[ka e]
  have g2:o2 kX (vr 1) (cl bL (af (vr 0) ak)) [.va (.scr (a::r)),.va (.int k)] = .ok (.int ((k:Int) / ((a::r).length:Nat))):=by
   refine aG (t:=.int k) (u:=.int ((a::r).length:Nat)) rfl ?_ (mY hl hl2)
   refine aW (ts:=[.scr (a::r)]) rfl ?_
   show Rs.ok (T.int (((a::r).map T.int).length:Nat))=_
   rw[Lh]
  refine⟨(a::r)[k % (a::r).length] +6553*((k:Int) / ((a::r).length:Nat)),cm rfl ?_⟩
  unfold jd
  show aC _ _ [.va (.scr (a::r)),.va (.int k)] =_
  refine(aF (Z':=[.va (.scr (a::r)),.va (.int k)]) ((fw (cW e0)).trans rfl)).trans ?_
  exact cU (aG (aG (t:=.scr (a::r)) rfl g0 g1) (aG (t:=.int 6553) rfl g2 (jM (by omega) (by omega))) rfl)
theorem cG (ns:List Int)(k:Nat)(m:Int)(hn:ns.length<=63)(hm:0<m):∃r,aw [.scr ns,.int k,.int m] = .ok (.int r)/\0<=r/\r<m:=by
 obtain⟨c,hc⟩:=HB ns k hn
 have b1:∀x:Int,0<=x % 2147483563/\x % 2147483563<2147483563:=λx=>⟨Qg _ (by omega),O9 _ (by omega)⟩
 have b2:∀x:Int,0<=x % 2147483399/\x % 2147483399<2147483399:=λx=>⟨Qg _ (by omega),O9 _ (by omega)⟩
 generalize hx:(c % 2147483563*69069+104723*((k:Int)+1)) % 2147483563=x
 have hx':=b1 (c % 2147483563*69069+104723*((k:Int)+1));rw[hx]at hx'
 generalize hy:(x*x+x / 3) % 2147483399=y
 have hy':=b2 (x*x+x / 3);rw[hy]at hy';refine⟨(y*y+y / 7) % 2147483647 / 11 % m,cm rfl ?_,Qg _ (by omega),O9 _ hm⟩
 show ik [.va (.scr ns),.va (.int k),.va (.int m),.em] =_
 unfold ik
 have s1:cE (o2 kN (o2 aL (o2 bS (o2 kN (cl eO (af (vr 0) (af (vr 1) ak))) (cn (.int 2147483563))) (cn (.int 69069))) (o2 bS (cn (.int 104723)) (o2 aL (vr 1) (cn (.int 1))))) (cn (.int 2147483563))) (gN 3) [.va (.scr ns),.va (.int k),.va (.int m),.em] = .ok (.nx [.va (.scr ns),.va (.int k),.va (.int m),.va (.int x)]):=by
  refine cC (t:=.int x) (aG (u:=.int 2147483563) (aG (aG (u:=.int 69069) (aG (u:=.int 2147483563) (aW (ts:=[.scr ns,.int k]) rfl hc) rfl (j0 (by omega))) rfl (AF (by omega) (by omega))) (aG (t:=.int 104723) (u:=.int ((k:Int)+1)) rfl rfl (jM (by omega) (by omega))) rfl) rfl ?_) rfl
  rw[j0 (by omega),hx]
 have s2:cE (o2 kN (o2 aL (o2 bS (vr 3) (vr 3)) (o2 kX (vr 3) (cn (.int 3)))) (cn (.int 2147483399))) (gN 3) [.va (.scr ns),.va (.int k),.va (.int m),.va (.int x)] = .ok (.nx [.va (.scr ns),.va (.int k),.va (.int m),.va (.int y)]):=by
  refine cC (t:=.int y) (aG (u:=.int 2147483399) (aG (aG (t:=.int x) (u:=.int x) rfl rfl (jM (by omega) (by omega))) (aG (t:=.int x) (u:=.int 3) rfl rfl (mY (by omega) (by omega))) rfl) rfl ?_) rfl
  rw[j0 (by omega),hy]
 rw[aF s1,aF s2];exact cU (aG (u:=.int m) (aG (u:=.int 11) (aG (u:=.int 2147483647) (aG (aG (t:=.int y) (u:=.int y) rfl rfl (jM (by omega) (by omega))) (aG (t:=.int y) (u:=.int 7) rfl rfl (mY (by omega) (by omega))) rfl) rfl (j0 (by omega))) rfl (mY (by omega) (by omega))) rfl (j0 hm))
theorem dE {ns:List Int}{k:Nat}{m r:Int}{f g h:En->Rs T}{Z:En}(e:aw [.scr ns,.int k,.int m] = .ok (.int r))(h1:f Z= .ok (.scr ns))(h2:g Z= .ok (.int k))(h3:h Z= .ok (.int m)) :
  cl aw (af f (af g (af h ak))) Z= .ok (.int r):=aW (ar h1 (ar h2 (ar h3 rfl))) e
theorem nI:∀(l:List Int) (z y:Int),mh (l++ [z])=true->z<y->mh (l++ [z] ++ [y])=true
 | [],z,y,_,h=>by simp[mh,h]
 | [a],z,y,h,hy=>by
  simp[mh]at h ⊢
  omega
 | a::b::l,z,y,h,hy=>by
  have h':mh (a::b::(l++ [z]))=true:=h;rw[C1,K8]at h'
  have ih:=nI (b::l) z y h'.2 hy
  show mh (a::b::(l++ [z] ++ [y]))=true
  rw[C1,h'.1];exact ih
theorem fQ:∀l:List Int,iA (l.map .int)=some l
 | [] =>rfl
 | a::l=>by rw[Lf,iA,fQ l]
def RdOk (l:List Int):Prop:=∃(l':List Int) (z:Int),l=l'++ [z]/\mh l=true/\(∀x∈l,0<=x/\x<=5*l.length)/\z<=5*l.length
abbrev clF:En->Rs Fl:=cE (o2 aL (vr 3) (bB (af (o2 aL (o2 aL (o2 aQ (vr 3) (o1 gz (cn (.int 1)))) (cn (.int 1))) (cl aw (af (vr 0) (af (o2 aL (o2 aL (vr 1) (cn (.int 3))) (vr 4)) (af (cn (.int 5)) ak))))) ak))) (gN 3)
theorem mT (l:List T)(z:T):aQ (.tup (l++ [z])) (.int (-1))= .ok z:=by
 have e:L2.atI (l++ [z]) (-1)=some z:=by
  unfold L2.atI L2.ixN;simp;rw[if_pos (by omega)]
  have q:(-1+((l.length:Int)+1)).toNat=l.length:=by omega
  show(l++ [z])[(-1+((l.length:Int)+1)).toNat]? =some z
  rw[q];simp
 show(match L2.atI (l++ [z]) (-1)with | some t=>Rs.ok t | none=> .bad)=_
 rw[e]
theorem EB (ns:List Int)(hn:ns.length<=63)(a j:Nat)(s:T)(l:List Int)(h:RdOk l)(hl:l.length<=3):∃l2,clF [.va (.scr ns),.va (.int a),.va s,.va (.tup (l.map .int)),.va (.int j)] = .ok (.nx [.va (.scr ns),.va (.int a),.va s,.va (.tup (l2.map .int)),.va (.int j)])/\RdOk l2/\l2.length=l.length+1:=by
 obtain⟨l',z,rfl,h1,h2,h3⟩:=h;obtain⟨d,ed,d0,d1⟩:=cG ns (a+3+j) 5 hn (by omega)
 refine⟨l'++ [z] ++ [z+1+d],?_,⟨l'++ [z],z+1+d,rfl,nI l' z _ h1 (by omega),?_,?_⟩,by simp⟩
 ·refine cC (t:=.tup ((l'++ [z] ++ [z+1+d]).map .int)) (aG (t:=.tup ((l'++ [z]).map .int)) (u:=.tup [.int (z+1+d)]) rfl (cy (ts:=[.int (z+1+d)]) (ar (aG (t:=.int (z+1)) (u:=.int d) (aG (t:=.int z) (u:=.int 1) (aG (t:=.tup ((l'++ [z]).map .int)) (u:=.int (-1)) rfl rfl ?_) rfl rfl) (dE (k:=a+3+j) ed rfl ?_ rfl) rfl) rfl) (aE (k:=1) (by simp))) ?_) rfl
  ·rw[LY];exact mT _ _
  ·refine aG (t:=.int ((a:Int)+3)) (u:=.int j) (aG (t:=.int a) (u:=.int 3) rfl rfl rfl) rfl ?_
   show Rs.ok (T.int ((a:Int)+3+j))=_
   congr 2
  ·rw[LY (l₁:=l'++ [z])]
   exact lj _ _ (by rw[Lb,Lh];simp at hl ⊢;omega)
 ·intro x hx
  rcases Lw.mp hx with hx | hx
  ·have:=h2 x hx
   simp only[Lb,MU]at this ⊢;omega
  ·rw[Lr]at hx
   subst hx
   have hz:=h2 z (by simp)
   simp only[Lb,MU]at h3 ⊢;omega
 ·simp only[Lb,MU]at h3 ⊢
  omega
theorem ye (ns:List Int)(hn:ns.length<=63)(a:Nat)(s:T):∀(js:List Nat) (l:List Int) (s4:Sl),RdOk l->l.length+js.length<=4->∃l2 s5,bO (gN 4) clF (js.map λ(j:Nat)=>T.int j) [.va (.scr ns),.va (.int a),.va s,.va (.tup (l.map .int)),s4] = .ok (.nx [.va (.scr ns),.va (.int a),.va s,.va (.tup (l2.map .int)),s5])/\RdOk l2/\l2.length=l.length+js.length
 | [],l,s4,h,_=>⟨l,s4,rfl,h,rfl⟩
 | j::js,l,s4,h,hl=>by
  rw[Li]at hl;obtain⟨l2,e2,h2,n2⟩:=EB ns hn a j s l h (by omega)
  obtain⟨l3,s5,e3,h3,n3⟩:=ye ns hn a s js l2 (.va (.int j)) h2 (by omega)
  refine⟨l3,s5,?_,h3,by rw[n3,n2,Li];omega⟩
  rw[Lf,gA (Z1:=[.va (.scr ns),.va (.int a),.va s,.va (.tup (l.map .int)),.va (.int j)]) rfl e2];exact e3
theorem ji (n:Nat):rng 0 (n:Int)=(L7 n).map λ(j:Nat)=>T.int j:=by
 unfold rng;simp
theorem RdOk.reads {l:List Int}(h:RdOk l)(hl:l.length<=4):bx (.tup (l.map .int))=true:=by
 obtain⟨l',z,rfl,h1,h2,h3⟩:=h;unfold bx;rw[K8];refine⟨?_,?_⟩
 ·simp[dn];simp at hl;omega
 ·show(((l'++ [z]).map T.int).all (λu=>aR u 0 99)&&(match iA ((l'++ [z]).map T.int)with | some m=>mh m | none=>false))=true
  rw[fQ]
  show(_&&mh (l'++ [z]))=true
  rw[h1,Q9,LG];intro t ht;obtain⟨x,hx,rfl⟩:=LM.mp ht
  have:=h2 x hx;simp only[aR,K8,decide_eq_true_eq];omega
theorem CU (n:Nat)(l:List Int)(h:l.length<=n):sm n (.tup (l.map .int))=true:=sm_tup.mpr ⟨by rw[Lh];exact h,λt ht=>by obtain⟨x,_,rfl⟩:=LM.mp ht;simp[sm]⟩
def Dc (c:T):Prop:=∃(x y:Int) (l:List Int),c= .tup [.int x,.int y,.tup (l.map .int)]/\RdOk l/\l.length<=3/\x<=3
theorem BE (ns:List Int)(hn:ns.length<=63)(a:Nat):∃c,cu [.scr ns,.int a] = .ok c/\bj c=true/\sm 8 c=true/\Dc c:=by
 obtain⟨d1,e1,p1,q1⟩:=cG ns a 3 hn (by omega)
 obtain⟨d2,e2,p2,q2⟩:=cG ns (a+2) 6 hn (by omega)
 obtain⟨d3,e3,p3,q3⟩:=cG ns (a+1) 3 hn (by omega)
 obtain⟨d4,e4,p4,q4⟩:=cG ns (a+6) 3 hn (by omega)
 obtain⟨n3,rfl⟩:=LU p3;obtain⟨l,s5,el,hl,nl⟩:=ye ns hn a (.int (1+d1)) (L7 n3) [d2] .em ⟨[],d2,rfl,rfl,λx hx=>by rw[Lr]at hx;subst hx;simp;omega,by simp;omega⟩ (by simp;omega)
 have nl':l.length<=4:=by rw[nl];simp;omega
 have hr:=hl.reads nl';refine⟨.tup [.int (1+d1),.int (1+d1+d4),.tup (l.map .int)],cm rfl ?_,?_,?_,⟨_,_,l,rfl,hl,by rw[nl];simp;omega,by omega⟩⟩
 ·show il [.va (.scr ns),.va (.int a),.em,.em,.em] =_
  unfold il;rw[aF (Z':=[.va (.scr ns),.va (.int a),.va (.int (1+d1)),.em,.em]) (cC (t:=.int (1+d1)) (aG (t:=.int 1) rfl (dE e1 rfl rfl rfl) rfl) rfl)];rw[aF (Z':=[.va (.scr ns),.va (.int a),.va (.int (1+d1)),.va (.tup ([d2].map .int)),.em]) (cC (t:=.tup [.int d2]) (cy (ts:=[.int d2]) (ar (dE (k:=a+2) e2 rfl rfl rfl) rfl) (aE (k:=1) (by simp))) rfl)]
  rw[aF ((jP (Hm (ar (dE (k:=a+1) e3 rfl rfl rfl) rfl) (by omega) (by omega)) (by rw[ji];exact el)))]
  exact cU (cy (ar (t:=.int (1+d1)) rfl (ar (aG (t:=.int (1+d1)) rfl (dE (k:=a+6) e4 rfl rfl rfl) rfl) (ar (t:=.tup (l.map .int)) rfl rfl))) (aE (k:=3) (by simp)))
 ·show(true&&(jW (.int (1+d1)) (.int (1+d1+d4))&&bx _))=true
  rw[hr];simp only[jW,aR,Oz,Q9,K8,decide_eq_true_eq];omega
 ·refine sm_tup.mpr ⟨by simp,λt ht=> ?_⟩
  rcases Lj.mp ht with rfl | ht
  ·simp[sm]
  ·rcases Lj.mp ht with rfl | ht
   ·simp[sm]
   ·rw[Lr]at ht;subst ht;exact CU 8 l (by omega)
theorem mR {y:T}:∀(cs:List T) (i:Nat),y∈dv i cs->∃c k:Nat,y= .tup [.int c,.int k]/\i<=c/\c<i+cs.length/\k<vA (cs.getD (c - i) .non)
 | [],i,h=>by cases h
 | x::cs,i,h=>by
  rw[dv]at h;rcases Lw.mp h with h | h
  ·unfold gU at h
   obtain⟨t,ht,rfl⟩:=LM.mp h;obtain⟨j,rfl,hj⟩:=rz ht;refine⟨i,j,rfl,Lo _,by rw[Li];omega,?_⟩
   rw[O7]
   show j<vA x
   omega
  ·obtain⟨c,k,e,h1,h2,h3⟩:=mR cs (i+1) h
   refine⟨c,k,e,by omega,by rw[Li];omega,?_⟩
   have:c - i=(c - (i+1))+1:=by omega
   rw[this];exact h3
theorem Bu {cs:List T}{y:T}(h:y∈dv 0 cs):aV cs y=true:=by
 obtain⟨c,k,rfl,_,h2,h3⟩:=mR cs 0 h
 show(decide ((0:Int)<=(c:Int))&&decide ((c:Int)<(cs.length:Int))&&(decide ((0:Int)<=(k:Int))&&decide ((k:Int)<(reads cs (c:Int):Int))))=true
 rw[P9]at h3;rw[lz];simp only[K8,decide_eq_true_eq];omega
theorem lF:∀(cs:List T) (i:Nat),(dv i cs).Nodup
 | [],i=>NA
 | x::cs,i=>by
  rw[dv,Mg];refine⟨?_,lF cs (i+1),?_⟩
  ·unfold gU rng
   rw[Qa];rw[OY,List.pairwise_map];refine List.nodup_range.imp ?_
   intro a b hab e
   simp at e
   exact hab (by omega)
  ·intro a ha b hb e
   subst e;unfold gU at ha;obtain⟨t,ht,rfl⟩:=LM.mp ha;obtain⟨c,k,e,h1,_,_⟩:=mR cs (i+1) hb
   simp at e
   omega
theorem Az {l:List T}(h:l.Nodup){i j:Nat}(hi:i<l.length)(hj:j<l.length)(hij:i≠j):l[i] ≠l[j]:=by
 rw[OY,List.pairwise_iff_getElem]at h;rcases Nat.lt_or_ge i j with q | q
 ·exact h i j hi hj q
 ·exact λe=>h j i hj hi (by omega) e.symm
theorem sV:∀(cs:List T) (i:Nat),(∀c∈cs,bj c=true)->(dv i cs).length<=4*cs.length
 | [],i,_=>Lo _
 | x::cs,i,h=>by
  obtain⟨a,b,r,rfl,_,h2⟩:=dJ (h x Lg)
  have:=sV cs (i+1) λc hc=>h c (K9 _ hc)
  rw[dv,Lb,gS,Li]
  show r.length+_<=_
  omega
theorem Bt {cs:List T}{a b:T}(ha:aV cs a=true)(hb:aV cs b=true)(h:a≠b):bh a b=false:=by
 obtain⟨c,k,rfl⟩:=cM ha;obtain⟨c',k',rfl⟩:=cM hb;rw[Bool.eq_false_iff];intro e;simp[bh,beqTs]at e;exact h (by rw[e.1,e.2])
theorem ub {cs:List T}{a:T}(ha:aV cs a=true):sm 8 a=true:=by
 obtain⟨c,k,rfl⟩:=cM ha;simp[sm,sms]
theorem wy {l:List T}{i:Nat}(h:i<l.length):aQ (.lst l) (.int (i:Int))= .ok l[i]:=by
 show(match L2.atI l (i:Int)with | some t=>Rs.ok t | none=> .bad)=_
 rw[ka (Lv h)]
theorem sW (a b:Int):ve (.int a) (.int b)= .ok (.bl (a == b)):=by
 unfold ve;rw[if_pos (i6 (by simp[T.dep]) rfl rfl)]
 rfl
def lsL:T->Prop
 | .tup [_,_,.int x,_] =>x<=9
 | _=>False
theorem oP (ns:List Int)(hn:ns.length<=63)(a:Nat)(cs:List T)(hc:bf (.tup cs)=true):∃r,bz [.scr ns,.int a,.tup cs] = .ok r/\((r= .non/\(dv 0 cs).length<2)\/(ba cs r=true/\sm 8 r=true/\lsL r)):=by
 obtain⟨ha,h1,h4⟩:=bo hc
 have hlen:=sV cs 0 ha
 have er:=BD cs hc
 have gl:∀s4 s5 s6 s7:Sl,cl bL (af (vr 3) ak) [.va (.scr ns),.va (.int a),.va (.tup cs),.va (.lst (dv 0 cs)),s4,s5,s6,s7] = .ok (.int ((dv 0 cs).length:Nat)):=λ_ _ _ _=>rfl
 have s1:cE (cl dy (af (vr 2) ak)) (gN 3) [.va (.scr ns),.va (.int a),.va (.tup cs),.em,.em,.em,.em,.em] = .ok (.nx [.va (.scr ns),.va (.int a),.va (.tup cs),.va (.lst (dv 0 cs)),.em,.em,.em,.em]):=cC (aW (ts:=[.tup cs]) rfl er) rfl
 have lt:o2 zp (cl bL (af (vr 3) ak)) (cn (.int 2)) [.va (.scr ns),.va (.int a),.va (.tup cs),.va (.lst (dv 0 cs)),.em,.em,.em,.em] = .ok (.bl (decide (((dv 0 cs).length:Int)<2))):=aG (t:=.int ((dv 0 cs).length:Nat)) (u:=.int 2) (gl _ _ _ _) rfl rfl
 by_cases hs:(dv 0 cs).length<2
 ·refine⟨.non,cm rfl ?_,.inl ⟨rfl,hs⟩⟩
  show dB [.va (.scr ns),.va (.int a),.va (.tup cs),.em,.em,.em,.em,.em] =_
  unfold dB;rw[aF s1];rw[decide_eq_true (by omega)]at lt
  exact oE ((iY (cW lt)).trans rfl)
 ·rw[decide_eq_false (by omega)]at lt
  generalize hN:(dv 0 cs).length=n at*
  obtain⟨d1,e1,p1,q1⟩:=cG ns a (n:Int) hn (by omega)
  obtain⟨d2,e2,p2,q2⟩:=cG ns (a+1) ((n:Int) - 1) hn (by omega)
  obtain⟨d3,e3,p3,q3⟩:=cG ns (a+2) 8 hn (by omega)
  obtain⟨d4,e4,p4,q4⟩:=cG ns (a+3) 3 hn (by omega)
  obtain⟨d5,e5,p5,q5⟩:=cG ns (a+4) 9 hn (by omega)
  obtain⟨i,rfl⟩:=LU p1;obtain⟨d2,rfl⟩:=LU p2
  have hi:i<(dv 0 cs).length:=by omega
  have hj:(i+1+d2) % n<(dv 0 cs).length:=by rw[hN];exact Nat.mod_lt _ (by omega)
  have hij:i≠(i+1+d2) % n:=by
   rcases Nat.lt_or_ge (i+1+d2) n with q | q
   ·rw[RW q];omega
   ·have:(i+1+d2) % n=i+1+d2 - n:=by
     rw[Nat.mod_eq_sub_mod q,RW (by omega)]
    rw[this];omega
  have eA:=Bu (Mz hi)
  have eB:=Bu (Mz hj)
  have eN:(dv 0 cs)[i] ≠(dv 0 cs)[(i+1+d2) % n]:=Az (lF cs 0) hi hj hij
  generalize hA:(dv 0 cs)[i] =A at*
  generalize hB:(dv 0 cs)[(i+1+d2) % n] =B at*
  let y:T:=if d4 == 0 then .non else .int (d3+d5)
  refine⟨.tup [A,B,.int d3,y],cm rfl ?_,.inr ⟨?_,?_,show d3<=9 by omega⟩⟩
  ·show dB [.va (.scr ns),.va (.int a),.va (.tup cs),.em,.em,.em,.em,.em] =_
   unfold dB;rw[aF s1];rw[aF (Z':=[.va (.scr ns),.va (.int a),.va (.tup cs),.va (.lst (dv 0 cs)),.em,.em,.em,.em]) ((fw (cW lt)).trans rfl)];rw[aF (Z':=[.va (.scr ns),.va (.int a),.va (.tup cs),.va (.lst (dv 0 cs)),.va (.int (i:Nat)),.em,.em,.em]) (cC (dE e1 rfl rfl (gl _ _ _ _)) rfl)];rw[aF (Z':=[.va (.scr ns),.va (.int a),.va (.tup cs),.va (.lst (dv 0 cs)),.va (.int (i:Nat)),.va (.int ((i+1+d2) % n:Nat)),.em,.em]) (cC (t:=.int ((i+1+d2) % n:Nat)) (aG (t:=.int ((i:Int)+1+d2)) (u:=.int n) (aG (t:=.int ((i:Int)+1)) (u:=.int d2) rfl (dE (k:=a+1) e2 rfl rfl (aG (t:=.int n) (u:=.int 1) (gl _ _ _ _) rfl rfl)) rfl) (gl _ _ _ _) (j0 (by omega))) rfl)]
   rw[aF (Z':=[.va (.scr ns),.va (.int a),.va (.tup cs),.va (.lst (dv 0 cs)),.va (.int (i:Nat)),.va (.int ((i+1+d2) % n:Nat)),.va (.int d3),.em]) (cC (dE (k:=a+2) e3 rfl rfl rfl) rfl)]
   have ey:Fd (tb (o2 ve (cl aw (af (vr 0) (af (o2 aL (vr 1) (cn (.int 3))) (af (cn (.int 3)) ak)))) (cn (.int 0)))) (cn .non) (o2 aL (vr 6) (cl aw (af (vr 0) (af (o2 aL (vr 1) (cn (.int 4))) (af (cn (.int 9)) ak))))) [.va (.scr ns),.va (.int a),.va (.tup cs),.va (.lst (dv 0 cs)),.va (.int (i:Nat)),.va (.int ((i+1+d2) % n:Nat)),.va (.int d3),.em] = .ok y:=by
    rw[xQ (cW (aG (u:=.int 0) (dE (k:=a+3) e4 rfl rfl rfl) rfl (sW _ _)))]
    show _=Rs.ok (if d4 == 0 then T.non else .int (d3+d5))
    cases d4 == 0 with
    | true=>rfl
    | false=>exact aG (t:=.int d3) rfl (dE (k:=a+4) e5 rfl rfl rfl) rfl
   rw[aF (Z':=[.va (.scr ns),.va (.int a),.va (.tup cs),.va (.lst (dv 0 cs)),.va (.int (i:Nat)),.va (.int ((i+1+d2) % n:Nat)),.va (.int d3),.va y]) (cC ey rfl)];refine cU (cy (ar (t:=A) (aG (t:=.lst (dv 0 cs)) (u:=.int (i:Nat)) rfl rfl ?_) (ar (t:=B) (aG (t:=.lst (dv 0 cs)) (u:=.int ((i+1+d2) % n:Nat)) rfl rfl ?_) (ar (t:=.int d3) rfl (ar (t:=y) rfl rfl)))) (aE (k:=4) (by simp)))
   ·rw[<-hA];exact wy hi
   ·rw[<-hB];exact wy hj
  ·show(dq (.int d3) y&&(aV cs A&&(aV cs B&& !bh A B)))=true
   rw[eA,eB,Bt eA eB eN]
   have:dq (.int d3) y=true:=by
    show(aR (.int d3) 0 999&&(match(T.int d3),(if d4 == 0 then T.non else .int (d3+d5))with | _,.non=>true | .int i,_=>aR (if d4 == 0 then T.non else .int (d3+d5)) i 999 | _,_=>false))=true
    cases d4 == 0 with
    | true=>simp[aR];omega
    | false=>simp[aR];omega
   rw[this];rfl
  ·refine sm_tup.mpr ⟨by simp,λt ht=> ?_⟩
   have hy:sm 8 y=true:=by show sm 8 (if d4 == 0 then T.non else .int (d3+d5))=true;cases d4 == 0 <;> simp[sm]
   simp only[Lj,Mo,or_false]at ht;rcases ht with rfl | rfl | rfl | rfl
   ·exact ub eA
   ·exact ub eB
   ·simp[sm]
   ·exact hy
theorem za (ns:List Int)(hn:ns.length<=63)(a:Nat)(cs:List T)(hc:bf (.tup cs)=true):∃r,bz [.scr ns,.int a,.tup cs] = .ok r/\(r= .non\/(ba cs r=true/\sm 8 r=true)):=by
 obtain⟨r,e,h⟩:=oP ns hn a cs hc;exact⟨r,e,h.imp (·.1) λz=>⟨z.1,z.2.1⟩⟩
def okv:Rs T->T
 | .ok t=>t
 | _=> .non
theorem xA (l:List T)(k:Int)(h : -(2 ^ 63)<=k/\k<2 ^ 63/\l.length*k.toNat<=sizeLine):bS (.lst l) (.int k)= .ok (.lst (LA k.toNat l).flatten):=by
 show wb (.lst l) (.int k)=_
 unfold wb;exact if_pos h
theorem mul_one (x:T)(b:Bool):bS (.lst [x]) (.int (if b then 1 else 0))= .ok (.lst (if b then [x]else [])):=by
 cases b with
 | true=>exact xA [x] 1 ⟨by decide,by decide,aE (k:=1) (by simp)⟩
 | false=>exact xA [x] 0 ⟨by decide,by decide,aE (k:=1) (by simp)⟩
abbrev leF:En->Rs Fl:=aC (cE (cl bz (af (vr 0) (af (o2 aL (o2 aL (vr 1) (cn (.int 31))) (o2 bS (cn (.int 6)) (vr 5))) (af (vr 3) ak)))) (gN 6)) (cE (o2 aL (vr 4) (o2 bS (eV (af (vr 6) ak)) (cl sM (af (o2 iw (vr 6) (cn .non)) ak)))) (gN 4))
def zk (cs ls:List T):Prop:=∀t∈ls,ba cs t=true/\sm 8 t=true
theorem DX (ns:List Int)(hn:ns.length<=63)(a j:Nat)(m:T)(cs ls:List T)(hc:bf (.tup cs)=true)(h:zk cs ls)(hl:ls.length<=100)(s6:Sl) :
  ∃ls2 s7,leF [.va (.scr ns),.va (.int a),.va m,.va (.tup cs),.va (.lst ls),.va (.int j),s6] = .ok (.nx [.va (.scr ns),.va (.int a),.va m,.va (.tup cs),.va (.lst ls2),.va (.int j),s7])/\zk cs ls2/\ls2.length<=ls.length+1:=by
 obtain⟨r,er,hr⟩:=za ns hn (a+31+6*j) cs hc
 have e1:∀G,aC (cE (cl bz (af (vr 0) (af (o2 aL (o2 aL (vr 1) (cn (.int 31))) (o2 bS (cn (.int 6)) (vr 5))) (af (vr 3) ak)))) (gN 6)) G [.va (.scr ns),.va (.int a),.va m,.va (.tup cs),.va (.lst ls),.va (.int j),s6] =G [.va (.scr ns),.va (.int a),.va m,.va (.tup cs),.va (.lst ls),.va (.int j),.va r]:=λG=>by
  refine aF (cC (t:=r) (aW (ts:=[.scr ns,.int (a+31+6*j:Nat),.tup cs]) (ar (t:=.scr ns) rfl (ar (t:=.int (a+31+6*j:Nat)) (aG (t:=.int ((a:Int)+31)) (u:=.int (6*(j:Int))) rfl (aG (t:=.int 6) (u:=.int j) rfl rfl (jM (by omega) (by omega))) rfl) (ar (t:=.tup cs) rfl rfl))) er) rfl)
 have e2:cl sM (af (o2 iw (vr 6) (cn .non)) ak) [.va (.scr ns),.va (.int a),.va m,.va (.tup cs),.va (.lst ls),.va (.int j),.va r] = .ok (.int (if !r.isN then 1 else 0)):=aW (ts:=[.bl (!r.isN)]) rfl rfl
 refine⟨ls++(if !r.isN then [r]else []),.va r,?_,?_,?_⟩
 ·refine(e1 _).trans (cC (aG (t:=.lst ls) (u:=.lst (if !r.isN then [r]else [])) rfl (aG (t:=.lst [r]) (mm (ts:=[r]) rfl (aE (k:=1) (by simp))) e2 (mul_one _ _)) (yi _ _ ?_)) rfl)
  rw[Lb];cases r.isN <;> simp <;> omega
 ·intro t ht
  rcases Lw.mp ht with ht | ht
  ·exact h t ht
  ·rcases hr with rfl | hr
   ·cases ht
   ·cases q:r.isN with
    | true=>rw[q]at ht;cases ht
    | false=>
     rw[q]at ht;rw[show t=r by simpa using ht]
     exact hr
 ·rw[Lb]
  cases r.isN <;> simp
theorem xH (ns:List Int)(hn:ns.length<=63)(a:Nat)(m:T)(cs:List T)(hc:bf (.tup cs)=true):∀(js:List Nat) (ls:List T) (s5 s6:Sl),zk cs ls->ls.length+js.length<=100 →
  ∃ls2 t5 t6,bO (gN 5) leF (js.map λ(j:Nat)=>T.int j) [.va (.scr ns),.va (.int a),.va m,.va (.tup cs),.va (.lst ls),s5,s6] = .ok (.nx [.va (.scr ns),.va (.int a),.va m,.va (.tup cs),.va (.lst ls2),t5,t6])/\zk cs ls2/\ls2.length<=ls.length+js.length
 | [],ls,s5,s6,h,_=>⟨ls,s5,s6,rfl,h,Lo _⟩
 | j::js,ls,s5,s6,h,hl=>by
  rw[Li]at hl;obtain⟨l2,s7,e2,h2,n2⟩:=DX ns hn a j m cs ls hc h (by omega) s6
  obtain⟨l3,t5,t6,e3,h3,n3⟩:=xH ns hn a m cs hc js l2 (.va (.int j)) s7 h2 (by omega)
  refine⟨l3,t5,t6,?_,h3,by rw[Li];omega⟩
  rw[Lf,gA (Z1:=[.va (.scr ns),.va (.int a),.va m,.va (.tup cs),.va (.lst ls),.va (.int j),s6]) rfl e2];exact e3
theorem HA (ns:List Int)(hn:ns.length<=63)(a m:Nat)(hm:m<=8):∃cs ls,eJ [.scr ns,.int a,.int m] = .ok (RR cs ls)/\bf (.tup cs)=true/\cs.length<=3/\(∀c∈cs,sm 8 c=true)/\zk cs ls/\ls.length<=m/\∀c∈cs,Dc c:=by
 obtain⟨d1,e1,p1,q1⟩:=cG ns a 3 hn (by omega)
 obtain⟨d2,e2,p2,q2⟩:=cG ns (a+30) ((m:Int)+1) hn (by omega)
 obtain⟨d1,rfl⟩:=LU p1;obtain⟨d2,rfl⟩:=LU p2
 let hcl:T->T:=λt=>match t with
  | .int k=>okv (cu [.scr ns,.int ((a:Int)+1+8*k)])
  | _=> .non
 have hh:∀t∈rng 0 ((1+d1:Nat):Int),∃k:Nat,t= .int k/\cu [.scr ns,.int ((a+1+8*k:Nat):Int)] = .ok (hcl t)/\bj (hcl t)=true/\sm 8 (hcl t)=true/\Dc (hcl t):=λt ht=>by
  obtain⟨k,rfl,_⟩:=rz ht;obtain⟨c,ec,h1,h2,h3⟩:=BE ns hn (a+1+8*k)
  have e:hcl (.int k)=c:=by
   show okv (cu [.scr ns,.int ((a+1+8*k:Nat):Int)])=c
   rw[ec];rfl
  exact⟨k,rfl,by rw[e];exact ec,by rw[e];exact h1,by rw[e];exact h2,by rw[e];exact h3⟩
 generalize hcs:(rng 0 ((1+d1:Nat):Int)).map hcl=cs
 have lc:cs.length=1+d1:=by rw[<-hcs,Lh,kI]
 have hc:bf (.tup cs)=true:=by
  show(dn (.tup cs) 1 4&&cs.all bj)=true
  rw[K8,LG];refine⟨by simp[dn];omega,λc h=> ?_⟩
  rw[<-hcs]at h;obtain⟨t,ht,rfl⟩:=LM.mp h;obtain⟨_,_,_,h1,_⟩:=hh t ht;exact h1
 have hsm:∀c∈cs,sm 8 c=true:=λc h=>by
  rw[<-hcs]at h;obtain⟨t,ht,rfl⟩:=LM.mp h;obtain⟨_,_,_,_,h1,_⟩:=hh t ht;exact h1
 obtain⟨ls,t5,t6,el,hl,nl⟩:=xH ns hn a (.int m) cs hc (L7 d2) [] .em .em (λt h=>by cases h) (by simp;omega)
 refine⟨cs,ls,cm rfl ?_,hc,by omega,hsm,hl,by simp at nl;omega,λc h=>by
  rw[<-hcs]at h;obtain⟨t,ht,rfl⟩:=LM.mp h;obtain⟨_,_,_,_,_,h1⟩:=hh t ht;exact h1⟩
 show gG [.va (.scr ns),.va (.int a),.va (.int m),.em,.em,.em,.em] =_
 unfold gG
 have s1:cE (cl jU (af (jr (iR (af (o2 aL (cn (.int 1)) (cl aw (af (vr 0) (af (vr 1) (af (cn (.int 3)) ak))))) ak)) [none,some 0,some 1] (gN 0) bT (cl cu (af (vr 1) (af (o2 aL (o2 aL (vr 2) (cn (.int 1))) (o2 bS (cn (.int 8)) (vr 0))) ak)))) ak)) (gN 3) [.va (.scr ns),.va (.int a),.va (.int m),.em,.em,.em,.em] = .ok (.nx [.va (.scr ns),.va (.int a),.va (.int m),.va (.tup cs),.em,.em,.em]):=by
  refine cC (t:=.tup cs) (aW (ts:=[.lst cs]) (ar (t:=.lst cs) ?_ rfl) rfl) rfl
  rw[<-hcs];refine yX (ts:=rng 0 ((1+d1:Nat):Int)) (h:=hcl) (Hm (ar (t:=.int ((1+d1:Nat):Int)) (aG (t:=.int 1) (u:=.int d1) rfl (dE e1 rfl rfl rfl) rfl) rfl) (by omega) (by omega)) (aE (k:=3) (by rw[kI];omega)) (by simp) λt ht=> ?_
  obtain⟨k,rfl,ek,_,_⟩:=hh t ht;refine aW (ts:=[.scr ns,.int ((a+1+8*k:Nat):Int)]) (ar (t:=.scr ns) rfl (ar (aG (t:=.int ((a:Int)+1)) (u:=.int (8*(k:Int))) rfl (aG (t:=.int 8) (u:=.int k) rfl rfl (jM (by omega) (by omega))) rfl) rfl)) ek
 rw[aF s1];rw[aF (Z':=[.va (.scr ns),.va (.int a),.va (.int m),.va (.tup cs),.va (.lst []),.em,.em]) (cC (mm (ts:=[]) rfl (aE (k:=0) (by simp))) rfl)]
 rw[aF ((jP (Hm (ar (dE (k:=a+30) e2 rfl rfl (aG (t:=.int m) (u:=.int 1) rfl rfl rfl)) rfl) (by omega) (by omega)) (by rw[ji];exact el)))]
 exact cU (cy (ar (t:=.tup cs) rfl (ar (t:=.tup ls) rfl rfl)) (aE (k:=2) (by simp)))
theorem dS {cs:List T}{t:T}(h:ba cs t=true):∃a b x y,t= .tup [a,b,x,y]/\dq x y=true/\aV cs a=true/\aV cs b=true/\bh a b=false:=by
 unfold ba at h
 split at h
 ·simp only[K8,Rr]at h
  exact⟨_,_,_,_,rfl,h.1,h.2.1,h.2.2.1,h.2.2.2⟩
 ·cases h
theorem FT {cs ls:List T}(hc:bf (.tup cs)=true)(hs:∀c∈cs,sm 8 c=true)(hl:zk cs ls)(hn:ls.length<=8):dX (RR cs ls)=true/\sm 8 (RR cs ls)=true:=by
 refine⟨?_,?_⟩
 ·show(bf (.tup cs)&&(dn (.tup ls) 0 8&&ls.all (ba cs)))=true
  rw[hc,Oz,K8,LG];exact⟨by simp[dn];exact hn,λt ht=>(hl t ht).1⟩
 ·refine sm_tup.mpr ⟨by simp,λt ht=> ?_⟩
  simp only[Lj,Mo,or_false]at ht;rcases ht with rfl | rfl
  ·exact sm_tup.mpr ⟨by have:=(bo hc).2.2;omega,hs⟩
  ·exact sm_tup.mpr ⟨hn,λt ht=>(hl t ht).2⟩
end G
namespace Tr
open PySem
section
variable {f fa fb:En->Rs T}{fs:En->Rs (List T)}{b c:En->Rs Bool}{F G:En->Rs Fl}{Z Z' Z1 Z2:En}{t u r:T}{ts l m:List T}
mutual
theorem lY:∀(t:T),t.pl=true->bh t t=true
 | .non,_=>rfl
 | .bl a,_=>by simp[bh]
 | .int a,_=>by simp[bh]
 | .str a,_=>by simp[bh]
 | .tup l,h=>by rw[bh];exact beqTs_refl l (by unfold T.pl at h;exact h)
 | .lst l,h=>by rw[bh];exact beqTs_refl l (by unfold T.pl at h;exact h)
 | .scr _,h=>by simp[T.pl]at h
theorem beqTs_refl:∀(l:List T),plS l=true->beqTs l l=true
 | [],_=>rfl
 | t::l,h=>by
  unfold plS at h;rw[K8]at h;rw[beqTs,lY t h.1,beqTs_refl l h.2];rfl
end
theorem jm (hp:t.pl=true)(hd:t.dep<=60):pY t t= .ok (.bl false):=by
 unfold pY;rw[if_pos (i6 hd (T.Km _ hp) (T.Km _ hp)),lY t hp];rfl
theorem Em (hp:t.pl=true)(hd:t.dep<=60):ve t t= .ok (.bl true):=by
 unfold ve;rw[if_pos (i6 hd (T.Km _ hp) (T.Km _ hp)),lY t hp]
theorem yb {n:Nat}:∀{l:List T},(∀t∈l,t.dep<=n)->deps l<=n
 | [],_=>by unfold deps;omega
 | t::l,h=>by
  unfold deps
  have:=yb (l:=l) λu hu=>h u (K9 _ hu)
  have:=h t Lg;omega
theorem gw:∀{l:List T},(∀t∈l,t.pl=true)->plS l=true
 | [],_=>rfl
 | t::l,h=>by unfold plS;rw[h t Lg,gw λu hu=>h u (K9 _ hu)];rfl
end
end Tr
namespace G
open PySem Tr
def dr (r:List Int)(k:Nat):Int:=r.getD (k+1) 0 - r.getD k 0
def pr (n:Nat)(x y:Int)(r:List Int)(k:Nat):List T:=
 [.tup [.tup [.int n,.int k],.tup [.int n,.int ((k+1:Nat):Int)],.int (dr r k*y)],.tup [.tup [.int n,.int ((k+1:Nat):Int)],.tup [.int n,.int k],.int (-dr r k*x)]]
def cB (n:Nat)(x y:Int)(r:List Int):List T:=(L7 (r.length - 1)).flatMap (pr n x y r)
abbrev BY (n:Nat)(x y:Int)(r:List Int)(acc:List T)(s4 s5 s6 s7:Sl):En:=[.va (.int n),.va (.tup [.int x,.int y,.tup (r.map .int)]),.va (.tup (r.map .int)),.ow (.lst acc),s4,s5,s6,s7]
abbrev bcF:En->Rs Fl:=(aC (cE (bB (af (vr 0) (af (vr 4) ak))) (gN 5)) (aC (cE (bB (af (vr 0) (af (o2 aL (vr 4) (cn (.int 1))) ak))) (gN 6)) (aC (cE (o2 f9 (o2 aQ (vr 2) (o2 aL (vr 4) (cn (.int 1)))) (o2 aQ (vr 2) (vr 4))) (gN 7)) (aC (ly 3 (bB (af (vr 5) (af (vr 6) (af (o2 bS (vr 7) (o2 aQ (vr 1) (cn (.int 1)))) ak))))) (ly 3 (bB (af (vr 6) (af (vr 5) (af (o2 bS (o1 gz (vr 7)) (o2 aQ (vr 1) (cn (.int 0)))) ak)))))))))
theorem mV {r:List Int}{k:Nat}(h:k<r.length):(r.map T.int)[k]? =some (.int (r.getD k 0)):=by
 rw[LD,Lv h]
 simp[h]
theorem EE (n:Nat)(x y:Int)(r:List Int)(acc:List T)(k:Nat)(s5 s6 s7:Sl)(hk:k+1<r.length)(hx:0<=x/\x<=9)(hy:0<=y/\y<=9)(ha:acc.length<=100) :
  bcF (BY n x y r acc (.va (.int k)) s5 s6 s7)= .ok (.nx (BY n x y r (acc++pr n x y r k) (.va (.int k)) (.va (.tup [.int n,.int k])) (.va (.tup [.int n,.int ((k+1:Nat):Int)])) (.va (.int (dr r k))))):=by
 have h2:([T.int n,T.int k]:List T).length<=sizeLine:=aE (k:=2) (by simp)
 have ek:((k:Int)+1)=((k+1:Nat):Int):=by omega
 refine(aF (Z':=BY n x y r acc (.va (.int k)) (.va (.tup [.int n,.int k])) s6 s7) (cC (cy rfl (aE (k:=2) (by simp))) rfl)).trans ?_
 refine(aF (Z':=BY n x y r acc (.va (.int k)) (.va (.tup [.int n,.int k])) (.va (.tup [.int n,.int ((k+1:Nat):Int)])) s7) (cC (cy (ar rfl (ar (t:=.int ((k+1:Nat):Int)) (aG (t:=.int k) (u:=.int 1) rfl rfl (congrArg (λz=>Rs.ok (T.int z)) ek)) rfl)) (aE (k:=2) (by simp))) rfl)).trans ?_
 refine(aF (Z':=BY n x y r acc (.va (.int k)) (.va (.tup [.int n,.int k])) (.va (.tup [.int n,.int ((k+1:Nat):Int)])) (.va (.int (dr r k)))) (cC (t:=.int (dr r k)) (aG (t:=.int (r.getD (k+1) 0)) (u:=.int (r.getD k 0)) (kU (n:=k+1) rfl (aG (t:=.int k) (u:=.int 1) rfl rfl (congrArg (λz=>Rs.ok (T.int z)) ek)) (mV hk)) (kU (n:=k) rfl rfl (mV (by omega))) rfl) rfl)).trans ?_
 refine(aF (Z':=BY n x y r (acc++ [.tup [.tup [.int n,.int k],.tup [.int n,.int ((k+1:Nat):Int)],.int (dr r k*y)]]) (.va (.int k)) (.va (.tup [.int n,.int k])) (.va (.tup [.int n,.int ((k+1:Nat):Int)])) (.va (.int (dr r k)))) (xS (l:=acc) (cy (ar rfl (ar rfl (ar (aG (t:=.int (dr r k)) (u:=.int y) rfl rfl (AF (by omega) (by omega))) rfl))) (aE (k:=3) (by simp))) rfl (by omega))).trans ?_
 refine(xS (l:=acc++ [.tup [.tup [.int n,.int k],.tup [.int n,.int ((k+1:Nat):Int)],.int (dr r k*y)]]) (cy (ar rfl (ar rfl (ar (aG (t:=.int (-dr r k)) (u:=.int x) rfl rfl (AF (by omega) (by omega))) rfl))) (aE (k:=3) (by simp))) rfl (by rw[Lb];simp;omega)).trans ?_
 rw[LS]
 rfl
theorem yh (n:Nat)(x y:Int)(r:List Int)(hx:0<=x/\x<=9)(hy:0<=y/\y<=9):∀(js:List Nat) (acc:List T) (s4 s5 s6 s7:Sl),(∀k∈js,k+1<r.length)->acc.length+2*js.length<=100 →
  ∃t4 t5 t6 t7,bO (gN 4) bcF (js.map λ(k:Nat)=>T.int k) (BY n x y r acc s4 s5 s6 s7)= .ok (.nx (BY n x y r (acc++js.flatMap (pr n x y r)) t4 t5 t6 t7))
 | [],acc,s4,s5,s6,s7,_,_=>⟨s4,s5,s6,s7,by simp[bO]⟩
 | k::js,acc,s4,s5,s6,s7,hk,hl=>by
  rw[Li]at hl
  have e:=EE n x y r acc k s5 s6 s7 (hk k Lg) hx hy (by omega)
  obtain⟨t4,t5,t6,t7,ih⟩:=yh n x y r hx hy js (acc++pr n x y r k) (.va (.int k)) (.va (.tup [.int n,.int k])) (.va (.tup [.int n,.int ((k+1:Nat):Int)])) (.va (.int (dr r k))) (λj hj=>hk j (K9 _ hj)) (by rw[Lb];simp[pr];omega)
  refine⟨t4,t5,t6,t7,?_⟩
  rw[Lf,gA (Z1:=BY n x y r acc (.va (.int k)) s5 s6 s7) rfl e,ih,Pp,LS]
theorem BI (n:Nat)(x y:Int)(r:List Int)(hx:0<=x/\x<=9)(hy:0<=y/\y<=9)(h1:1<=r.length)(h4:r.length<=4):cq [.int n,.tup [.int x,.int y,.tup (r.map .int)]] = .ok (.lst (cB n x y r)):=by
 refine cm rfl ?_
 show d6 [.va (.int n),.va (.tup [.int x,.int y,.tup (r.map .int)]),.em,.em,.em,.em,.em,.em] =_
 unfold d6;rw[aF (Z':=[.va (.int n),.va (.tup [.int x,.int y,.tup (r.map .int)]),.va (.tup (r.map .int)),.em,.em,.em,.em,.em]) (cC (t:=.tup (r.map .int)) rfl rfl)];rw[aF (Z':=BY n x y r [] .em .em .em .em) rfl];obtain⟨t4,t5,t6,t7,e⟩:=yh n x y r hx hy (L7 (r.length - 1)) [] .em .em .em .em (λk hk=>by have:=L4.mp hk;omega) (by simp;omega)
 have e1:iR (af (o2 f9 (cl bL (af (vr 2) ak)) (cn (.int 1))) ak) (BY n x y r [] .em .em .em .em)= .ok (rng 0 ((r.length - 1:Nat):Int)):=by
  refine Hm (j:=((r.length - 1:Nat):Int)) (ar (aG (t:=.int (r.length:Nat)) (u:=.int 1) (aW (ts:=[.tup (r.map .int)]) rfl (by show Rs.ok (T.int ((r.map T.int).length:Nat))=_;rw[Lh])) rfl (congrArg (λz=>Rs.ok (T.int z)) (by omega))) rfl) (by omega) (by omega)
 rw[aF ((jP (ts:=(L7 (r.length - 1)).map λ(k:Nat)=>T.int k) (by rw[e1,ji]) e))]
 rfl
theorem fV {t:T}(h:bj t=true):∃(x y:Int) (r:List Int),t= .tup [.int x,.int y,.tup (r.map .int)]/\(0<=x/\x<=9)/\(0<=y/\y<=9)/\1<=r.length/\r.length<=4:=by
 obtain⟨x,y,r,rfl,h1,h4⟩:=dJ h
 have h':(jW x y&&bx (.tup r))=true:=h;rw[K8]at h';obtain⟨hp,hr⟩:=h';unfold jW at hp;rw[K8]at hp;obtain⟨i,rfl,i1,i2⟩:=bA hp.1;obtain⟨j,rfl,j1,j2⟩:=bA (t:=y) (a:=i) (b:=9) hp.2;unfold bx at hr;rw[K8]at hr
 have hr2:((r.all λu=>aR u 0 99)&&(match iA r with | some m=>mh m | none=>false))=true:=hr.2
 rw[K8]at hr2;obtain⟨m,em⟩:=rZ hr2.1
 have e:=nZ em;subst e;rw[Lh]at h1 h4;exact⟨i,j,m,rfl,⟨by omega,by omega⟩,⟨by omega,by omega⟩,h1,h4⟩
def xB (n:Nat)(t:T):List T:=match t with
 | .tup [.int x,.int y,.tup r] =>match iA r with
  | some m=>cB n x y m
  | none=> []
 | _=> []
def bC:Nat->List T->List T
 | _,[] => []
 | i,c::r=>xB i c++bC (i+1) r
def lB (t:T):List T:=match t with
 | .tup [a,b,.int le,mo] => .tup [b,a,.int (-le)] ::(if mo.isN then []else [.tup [a,b,mo]])
 | _=> []
def wK (cs ls:List T):List T:=bC 0 cs++ls.flatMap lB
theorem km (n:Nat)(x y:Int)(r:List Int):xB n (.tup [.int x,.int y,.tup (r.map .int)])=cB n x y r:=by
 unfold xB;simp only[fQ]
theorem HI (n:Nat)(x y:Int)(r:List Int):(cB n x y r).length=2*(r.length - 1):=by
 unfold cB;rw[List.length_flatMap]
 have:∀l:List Nat,(l.map λk=>(pr n x y r k).length).sum=2*l.length:=by
  intro l
  induction l with
  | nil=>rfl
  | cons a l ih=>rw[Lf,MX,ih,Li];simp[pr];omega
 rw[this,NM]
theorem zD {n:Nat}{t:T}(h:bj t=true):(xB n t).length<=6:=by
 obtain⟨x,y,r,rfl,_,_,h1,h4⟩:=fV h;rw[km,HI];omega
theorem wM:∀{cs:List T} {i:Nat},(∀c∈cs,bj c=true)->(bC i cs).length<=6*cs.length
 | [],i,_=>by simp[bC]
 | c::cs,i,h=>by
  rw[bC,Lb,Li]
  have:=zD (n:=i) (h c Lg)
  have:=wM (cs:=cs) (i:=i+1) λc hc=>h c (K9 _ hc)
  omega
theorem AU (t:T):(lB t).length<=2:=by
 unfold lB;split
 ·rename_i a b le mo
  cases mo.isN <;> simp
 ·simp
theorem xK:∀(ls:List T),(ls.flatMap lB).length<=2*ls.length
 | [] =>by simp
 | t::ls=>by
  rw[Pp,Lb,Li]
  have:=AU t
  have:=xK ls;omega
theorem iX {cs:List T}{t:T}(h:ba cs t=true):∃(a b mo:T) (le:Int),t= .tup [a,b,.int le,mo]/\aV cs a=true/\aV cs b=true:=by
 obtain⟨a,b,x,y,rfl,hd,ha,hb,_⟩:=dS h;unfold dq at hd;rw[K8]at hd;obtain⟨i,rfl,_⟩:=bA hd.1;exact⟨a,b,y,i,rfl,ha,hb⟩
theorem zc {cs:List T}{t:T}(h:ba cs t=true):bY [t] = .ok (.lst (lB t)):=by
 obtain⟨a,b,mo,le,rfl,_,_⟩:=iX h;refine cm rfl ?_
 show dH [.va (.tup [a,b,.int le,mo]),.em] =_
 unfold dH;rw[aF (Z':=[.va (.tup [a,b,.int le,mo]),.ow (.lst [.tup [b,a,.int (-le)]])]) (wt (l:=[.tup [b,a,.int (-le)]]) (ar (cy (ar rfl (ar rfl (ar rfl rfl))) (aE (k:=3) (by simp))) rfl) (by simp) (by simp))]
 have e:∀(Z:En) l,Z= [.va (.tup [a,b,.int le,mo]),.ow (.lst l)]->o2 iw (o2 aQ (vr 0) (cn (.int 3))) (cn .non) Z= .ok (.bl (!mo.isN)):=λZ l z=>by subst z;rfl
 have e2:lB (.tup [a,b,.int le,mo])= .tup [b,a,.int (-le)] ::(if mo.isN then []else [.tup [a,b,mo]]):=rfl
 rw[e2]
 cases q:mo.isN with
 | true=>
  rw[aF (Z':=[.va (.tup [a,b,.int le,mo]),.ow (.lst [.tup [b,a,.int (-le)]])]) ((fw (cW (by rw[e _ _ rfl,q];rfl))).trans rfl)]
  rfl
 | false=>
  rw[aF (Z':=[.va (.tup [a,b,.int le,mo]),.ow (.lst ([.tup [b,a,.int (-le)]] ++ [.tup [a,b,mo]]))]) ((iY (cW (by rw[e _ _ rfl,q];rfl))).trans (xS (l:=[.tup [b,a,.int (-le)]]) (cy (ar rfl (ar rfl (ar rfl rfl))) (aE (k:=3) (by simp))) rfl (by simp)))]
  rfl
abbrev bdF:En->Rs Fl:=nH 1 (cl cq (af (vr 2) (af (vr 3) ak)))
abbrev bdG:T->En->Rs En:=gT 2 (kW (gN 2) (kW (gN 3) vB))
theorem yg (R:T)(s4:Sl):∀(cs:List T) (acc:List T) (i:Nat) (s2 s3:Sl),(∀c∈cs,bj c=true)->acc.length+6*cs.length<=100 →
  ∃y2 y3,bO bdG bdF (cR i cs) [.va R,.ow (.lst acc),s2,s3,s4] = .ok (.nx [.va R,.ow (.lst (acc++bC i cs)),y2,y3,s4])
 | [],acc,i,s2,s3,_,_=>⟨s2,s3,by simp[cR,bO,bC]⟩
 | c::cs,acc,i,s2,s3,hc,hl=>by
  have h0:=hc c Lg
  have hx:=zD (n:=i) h0;obtain⟨x,y,r,rfl,a1,a2,a3,a4⟩:=fV h0;rw[Li]at hl;rw[km]at hx
  have st:bdF [.va R,.ow (.lst acc),.va (.int i),.va (.tup [.int x,.int y,.tup (r.map .int)]),s4] = .ok (.nx [.va R,.ow (.lst (acc++cB i x y r)),.va (.int i),.va (.tup [.int x,.int y,.tup (r.map .int)]),s4]):=
   A8 (l:=acc) (aW (ts:=[.int i,.tup [.int x,.int y,.tup (r.map .int)]]) rfl (BI i x y r a1 a2 a3 a4)) rfl (by omega)
  obtain⟨z2,z3,ih⟩:=yg R s4 cs (acc++cB i x y r) (i+1) (.va (.int i)) (.va (.tup [.int x,.int y,.tup (r.map .int)])) (λc h=>hc c (K9 _ h)) (by rw[Lb];omega)
  refine⟨z2,z3,?_⟩
  rw[cR,gA (Z1:=[.va R,.ow (.lst acc),.va (.int i),.va (.tup [.int x,.int y,.tup (r.map .int)]),s4]) rfl st,ih,bC,km,LS]
abbrev blF:En->Rs Fl:=nH 1 (cl bY (af (vr 4) ak))
theorem yf (R:T)(cs:List T)(s2 s3:Sl):∀(ls:List T) (acc:List T) (s4:Sl),(∀t∈ls,ba cs t=true)->acc.length+2*ls.length<=100 →
  ∃y4,bO (gN 4) blF ls [.va R,.ow (.lst acc),s2,s3,s4] = .ok (.nx [.va R,.ow (.lst (acc++ls.flatMap lB)),s2,s3,y4])
 | [],acc,s4,_,_=>⟨s4,by simp[bO]⟩
 | t::ls,acc,s4,hl,hn=>by
  rw[Li]at hn
  have:=AU t
  have st:blF [.va R,.ow (.lst acc),s2,s3,.va t] = .ok (.nx [.va R,.ow (.lst (acc++lB t)),s2,s3,.va t]):=A8 (l:=acc) (aW (ts:=[t]) rfl (zc (hl t Lg))) rfl (by omega)
  obtain⟨y4,ih⟩:=yf R cs s2 s3 ls (acc++lB t) (.va t) (λu h=>hl u (K9 _ h)) (by rw[Lb];omega)
  refine⟨y4,?_⟩
  rw[gA (Z1:=[.va R,.ow (.lst acc),s2,s3,.va t]) rfl st,ih,Pp,LS]
theorem gO {R:T}(hp:R.pl=true)(h:dX R=true):aS [R] = .ok .non:=by
 refine oB (Z:=[.va R]) rfl ?_
 show dA [.va R] =_
 unfold dA;exact(fw ((kS (k:=true) (cW (aW (ts:=[R]) rfl (by rw[vg R hp,h])))))).trans rfl
theorem yM {R:T}(hp:R.pl=true)(h:dX R=false):aS [R] = .err "NoRecord":=by
 refine wq rfl ?_
 show dA [.va R] =_
 unfold dA;exact(iY ((kS (k:=false) (cW (aW (ts:=[R]) rfl (by rw[vg R hp,h])))))).trans rfl
structure Good (cs ls:List T):Prop where
 c:bf (.tup cs)=true
 l:∀t∈ls,ba cs t=true
 n:ls.length<=8
 p:(RR cs ls).pl=true
theorem Good.ok {cs ls:List T}(g:Good cs ls):dX (RR cs ls)=true:=by
 show(bf (.tup cs)&&(dn (.tup ls) 0 8&&ls.all (ba cs)))=true
 rw[g.c,Oz,K8,LG];exact⟨by simp[dn];exact g.n,g.l⟩
theorem BG {cs ls:List T}(g:Good cs ls):fS [RR cs ls] = .ok (.lst (wK cs ls)):=by
 obtain⟨hc,c1,c4⟩:=bo g.c
 have hn:=g.n;refine cm rfl ?_
 show pf [.va (RR cs ls),.em,.em,.em,.em] =_
 unfold pf;rw[aF (oF (t:=.non) (aW (ts:=[RR cs ls]) rfl (gO g.p g.ok)))];rw[aF (Z':=[.va (RR cs ls),.ow (.lst []),.em,.em,.em]) (A3 (by simp))]
 obtain⟨y2,y3,e⟩:=yg (RR cs ls) .em cs [] 0 .em .em hc (by simp;omega)
 rw[aF ((jP (ts:=cR 0 cs) rfl e))]
 have:=wM (i:=0) hc;obtain⟨y4,e2⟩:=yf (RR cs ls) cs y2 y3 ls ([] ++bC 0 cs) .em g.l (by rw[OJ];omega)
 rw[aF ((jP (ts:=ls) rfl e2))]
 rfl
theorem gv {l:List T}:(T.tup l).pl=plS l:=by unfold T.pl;rfl
theorem Good.parts {cs ls:List T}(g:Good cs ls):(T.tup cs).pl=true/\∀t∈ls,t.pl=true:=by
 have:=g.p;rw[gv]at this;unfold plS at this;rw[K8]at this
 have h2:=this.2;unfold plS at h2;rw[K8,gv]at h2;exact⟨this.1,λt ht=>fy h2.1 ht⟩
theorem Good.sub {cs ls ms:List T}(g:Good cs ls)(hm:∀t∈ms,t∈ls)(hn:ms.length<=8):Good cs ms:=⟨g.c,λt ht=>g.l t (hm t ht),hn,by
 obtain⟨h1,h2⟩:=g.parts;rw[gv];refine gw λt ht=> ?_
 simp only[Lj,Mo,or_false]at ht;rcases ht with rfl | rfl
 ·exact h1
 ·rw[gv];exact gw λt ht=>h2 t (hm t ht)⟩
theorem Ff {cs:List T}{y:T}(h:aV cs y=true):y.pl=true/\y.dep<=1:=by
 obtain⟨c,k,rfl⟩:=cM h;exact⟨rfl,by simp[T.dep,deps]⟩
theorem Jk {cs:List T}{a b x y:T}(h:ba cs (.tup [a,b,x,y])=true):y.pl=true/\y.dep=0:=by
 obtain⟨a',b',x',y',e,hd,_⟩:=dS h;cases e;unfold dq at hd;rw[K8]at hd;obtain⟨i,rfl,_⟩:=bA hd.1
 cases y with
 | non=>exact⟨rfl,rfl⟩
 | int j=>exact⟨rfl,rfl⟩
 | bl j=>exact⟨rfl,rfl⟩
 | str j=>exact⟨rfl,rfl⟩
 | tup j=>cases hd.2
 | lst j=>cases hd.2
 | scr j=>cases hd.2
 | dct _ _=>cases hd.2
 | ob _ _ _=>cases hd.2
theorem Dy {l:List T}{r:Int}(h0:0<=r)(h1:r<l.length):∃t∈l,aQ (.lst l) (.int r)= .ok t:=by
 obtain⟨n,rfl⟩:=LU h0
 have hn:n<l.length:=by omega
 exact⟨l[n],Mz hn,wy hn⟩
theorem FO {t:T}(h:sm 8 t=true):t.pl=true:=zP t h
abbrev peF:En->Rs Fl:=nH 1 (jr (iR (af (cl bL (af (o2 aQ (vr 3) (cn (.int 2))) ak)) ak)) [none,some 2] (gN 0) bT (bB (af (vr 1) (af (vr 0) ak))))
theorem Af (c0 s1:Sl)(x y:T)(r:List T)(i:Nat)(h:r.length<=4) :
  jr (iR (af (cl bL (af (o2 aQ (vr 3) (cn (.int 2))) ak)) ak)) [none,some 2] (gN 0) bT (bB (af (vr 1) (af (vr 0) ak))) [c0,s1,.va (.int i),.va (.tup [x,y,.tup r])] = .ok (.lst (gU i r.length)):=
 yX (Hm (j:=(r.length:Int)) rfl (by omega) (by omega)) (aE (k:=4) (by rw[kI];exact h)) (by simp) λt _=>mk2 _ _
theorem xq:∀(cs:List T) (c0:T) (acc:List T) (i:Nat) (s2 s3:Sl),(∀c∈cs,bj c=true)->acc.length+4*cs.length<=100 →
  ∃y2 y3,bO evG peF (cR i cs) [.va c0,.ow (.lst acc),s2,s3] = .ok (.nx [.va c0,.ow (.lst (acc++dv i cs)),y2,y3])
 | [],c0,acc,i,s2,s3,_,_=>⟨s2,s3,by simp[cR,bO,dv]⟩
 | c::cs,c0,acc,i,s2,s3,hc,hl=>by
  obtain⟨x,y,r,rfl,r1,r2⟩:=dJ (hc c Lg);rw[Li]at hl
  have st:peF [.va c0,.ow (.lst acc),.va (.int i),.va (.tup [x,y,.tup r])] = .ok (.nx [.va c0,.ow (.lst (acc++gU i r.length)),.va (.int i),.va (.tup [x,y,.tup r])]):=A8 (l:=acc) (Af _ _ x y r i r2) rfl (by rw[gS];omega)
  obtain⟨z2,z3,ih⟩:=xq cs c0 (acc++gU i r.length) (i+1) (.va (.int i)) (.va (.tup [x,y,.tup r])) (λc h=>hc c (K9 _ h)) (by rw[Lb,gS];omega)
  refine⟨z2,z3,?_⟩
  rw[cR,gA (Z1:=[.va c0,.ow (.lst acc),.va (.int i),.va (.tup [x,y,.tup r])]) rfl st,ih,dv,LS]
  rfl
theorem Am {cs ls:List T}(g:Good cs ls):de [RR cs ls] = .ok (.lst (dv 0 cs)):=by
 obtain⟨hc,c1,c4⟩:=bo g.c;refine cm rfl ?_
 show pd [.va (RR cs ls),.em,.em,.em] =_
 unfold pd;rw[aF (oF (t:=.non) (aW (ts:=[RR cs ls]) rfl (gO g.p g.ok)))];rw[aF (Z':=[.va (RR cs ls),.ow (.lst []),.em,.em]) (A3 (by simp))]
 obtain⟨y2,y3,e⟩:=xq cs (RR cs ls) [] 0 .em .em hc (by simp;omega)
 rw[aF ((jP (ts:=cR 0 cs) rfl e))]
 rfl
theorem xw {cs ls:List T}{t:T}(g:Good cs ls)(ht:t.pl=true)(h:aV cs t=true):dR [RR cs ls,t] = .ok .non:=by
 refine oB (Z:=[.va (RR cs ls),.va t]) rfl ?_
 show hZ [.va (RR cs ls),.va t] =_
 unfold hZ;exact(fw ((kS (k:=true) (cW (aW (ts:=[.tup cs,t]) rfl (by rw[sZ cs t g.c ht,h])))))).trans rfl
theorem p2 {a b:En->Rs T}{t u:T}{Z:En}(ha:a Z= .ok t)(hb:b Z= .ok u):bB (af a (af b ak)) Z= .ok (.tup [t,u]):=cy (ar ha (ar hb rfl)) (aE (k:=2) (by simp))
theorem ED {cs ls:List T}(g:Good cs ls):(wK cs ls).length<=60:=by
 unfold wK;rw[Lb];obtain⟨hc,c1,c4⟩:=bo g.c
 have:=wM (i:=0) hc
 have:=xK ls
 have:=g.n;omega
end G
namespace G
open PySem Tr Gr
structure N2 where
 c:Int
 k:Int
deriving DecidableEq
theorem N2.ext':∀{u v:N2},u.c=v.c->u.k=v.k->u=v
 | ⟨_,_⟩,⟨_,_⟩,rfl,rfl=>rfl
def en (v:N2):T:=.tup [.int v.c,.int v.k]
def eB (x:N2×N2×Int):T:=.tup [en x.1,en x.2.1,.int x.2.2]
def eN (ks:List Nat):List T:=ks.map λk=> .int (k:Nat)
def eW (x:Int×List Nat):T:=.tup [.int x.1,.lst (eN x.2)]
def ky (v:N2):List L2.Key:=[.inl v.c,.inl v.k]
theorem cI (v:N2):keyOf (en v)=some (ky v):=rfl
theorem sH {u v:N2}(h:some (ky u)=some (ky v)):u=v:=by
 injection h with h
 injection h with h1 h2
 injection h2 with h2 _
 injection h1 with h1
 injection h2 with h2
 exact N2.ext' h1 h2
theorem sY {u v:N2}(h:en u=en v):u=v:=sH (by rw[<-cI u,<-cI v,h])
theorem BX (u v:N2):bh (en u) (en v)=decide (u=v):=by
 unfold en bh beqTs bh beqTs beqTs
 by_cases h:u=v
 ·subst h;simp[bh]
 ·have:¬ (u.c=v.c/\u.k=v.k):=λz=>h (N2.ext' z.1 z.2)
  simp[h,bh];exact λz=>λy=>this ⟨z,y⟩
theorem ya (g:N2->T)(v:N2):∀(ns:List N2),lV (ns.map en) (ns.map g) (ky v)=if v∈ns then some (g v)else none
 | [] =>rfl
 | u::ns=>by
  rw[Lf,Lf,lV,cI]
  by_cases h:u=v
  ·subst h;rw[if_pos rfl,if_pos Lg]
  ·rw[if_neg (λz=>h (sH z)),ya g v ns]
   have:(v∈u::ns)↔v∈ns:=by rw[Lj];exact⟨λz=>z.elim (λy=>absurd y.symm h) id,.inr⟩
   simp only[this]
theorem oS (x:T)(v:N2)(g:N2->T):∀(ns:List N2),v∉ns->hV (en v) x (ns.map en) (ns.map g)=(ns.map en++ [en v],ns.map g++ [x])
 | [],_=>rfl
 | u::ns,h=>by
  rw[Lj,not_or]at h;rw[Lf,Lf,hV,cI,cI,if_neg (λz=>h.1 (sH z).symm),oS x v g ns h.2]
  rfl
theorem x8 (x:T)(v:N2)(g:N2->T):∀(ns:List N2),ns.Nodup->v∈ns->hV (en v) x (ns.map en) (ns.map g)=(ns.map en,ns.map λu=>if u=v then x else g u)
 | [],_,h=>by simp at h
 | u::ns,hn,h=>by
  rw[LF]at hn;rw[Lf,Lf,Lf,hV,cI,cI]
  by_cases z:u=v
  ·subst z
   rw[if_pos rfl,if_pos rfl]
   congr 2
   exact Nu λw hw=>by rw[if_neg (λ(y:w=u)=>hn.1 (y▸hw))]
  ·rw[if_neg (λy=>z (sH y)),if_neg z]
   have h':v∈ns:=(Lj.mp h).elim (λy=>absurd y.symm z) id
   rw[x8 x v g ns hn.2 h']
theorem jl {α:Type}[DecidableEq α]:∀{l m:List α},l.Nodup->(∀x∈l,x∈m)->l.length<=m.length
 | [],_,_,_=>Nq _
 | x::l,m,hn,h=>by
  rw[LF]at hn
  have hx:=h x Lg
  have:=jl (m:=m.erase x) hn.2 λy hy=>(Qu (λ(z:y=x)=>hn.1 (z▸hy))).mpr (h y (K9 _ hy))
  rw[List.length_erase_of_mem hx]at this
  have:0<m.length:=List.length_pos_of_mem hx;rw[Li];omega
def oW (o:Option (Int×List Nat)):T:=match o with
 | some x=>eW x
 | none=> .non
structure DR (P ns:List N2)(b:bZ N2):Prop where
 nd:ns.Nodup
 mem:∀v,v∈ns↔(b v).isSome=true
 sub:∀v∈ns,v∈P
def dV (ns:List N2)(b:bZ N2):List T:=ns.map λv=>oW (b v)
theorem DR.get {P ns:List N2}{b:bZ N2}(D:DR P ns b)(v:N2):lV (ns.map en) (dV ns b) (ky v)=(b v).map eW:=by
 unfold dV;rw[ya (λv=>oW (b v))]
 have:=D.mem v
 cases q:b v with
 | none=>rw[q]at this;rw[if_neg (λz=>by simpa using this.mp z)];rfl
 | some x=>rw[q]at this;rw[if_pos (this.mpr rfl)];rfl
theorem DR.put {P ns:List N2}{b:bZ N2}(D:DR P ns b){v:N2}(hv:v∈P)(y:Int×List Nat):∃ns',DR P ns' (Gr.put b v y)/\hV (en v) (eW y) (ns.map en) (dV ns b)=(ns'.map en,dV ns' (Gr.put b v y)):=by
 by_cases h:v∈ns
 ·refine⟨ns,⟨D.nd,λu=> ?_,D.sub⟩,?_⟩
  ·by_cases z:u=v
   ·subst z;rw[c7];exact⟨λ_=>rfl,λ_=>h⟩
   ·rw[jV z];exact D.mem u
  ·unfold dV
   rw[x8 _ _ _ _ D.nd h]
   congr 1
   refine Nu λu _=> ?_
   by_cases z:u=v
   ·subst z;rw[if_pos rfl,c7];rfl
   ·rw[if_neg z,jV z]
 ·refine⟨ns++ [v],⟨?_,λu=> ?_,λu hu=> ?_⟩,?_⟩
  ·exact Mg.mpr ⟨D.nd,by simp,λx hx y hy=>by simp at hy;subst hy;exact λz=>h (z▸hx)⟩
  ·rw[Lw,Lr]
   by_cases z:u=v
   ·subst z;rw[c7];exact⟨λ_=>rfl,λ_=> .inr rfl⟩
   ·rw[jV z,<-D.mem u];exact⟨λw=>w.elim id λy=>absurd y z,.inl⟩
  ·rcases Lw.mp hu with w | w
   ·exact D.sub u w
   ·rw[Lr.mp w];exact hv
  ·unfold dV
   rw[oS _ _ _ _ h,LY,LY]
   congr 1
   congr 1
   ·refine Nu λu hu=> ?_
    rw[jV (λ(z:u=v)=>h (z▸hu))]
   ·simp[c7,oW]
theorem BH {P ns:List N2}{b:bZ N2}(D:DR P ns b)(x:N2×N2×Int)(d:Int)(w:List Nat) :
  da [.dct (ns.map en) (dV ns b),eB x,eW (d,w)] = .ok (.bl (dY b x.2.1 (d+x.2.2))):=by
 refine cm rfl ?_
 show jc [.va (.dct (ns.map en) (dV ns b)),.va (eB x),.va (eW (d,w)),.em] =_
 unfold jc
 have g:oD iz (vr 0) (o2 aQ (vr 1) (cn (.int 1))) [.va (.dct (ns.map en) (dV ns b)),.va (eB x),.va (eW (d,w)),.em] = .ok (oW (b x.2.1)):=by
  refine Jx (ks:=ns.map en) (vs:=dV ns b) (u:=en x.2.1) rfl rfl ?_
  unfold iz;rw[cI];simp only[D.get];cases b x.2.1 <;> rfl
 rw[aF (cC (t:=oW (b x.2.1)) (Z':=[.va (.dct (ns.map en) (dV ns b)),.va (eB x),.va (eW (d,w)),.va (oW (b x.2.1))]) g rfl)];refine cU ?_
 unfold dY
 cases q:b x.2.1 with
 | none=>exact G9 (aG (t:=.non) (u:=.non) rfl rfl rfl)
 | some y=>exact(Ha (aG (t:=eW y) (u:=.non) rfl rfl rfl)).trans (aG (t:=.int (d+x.2.2)) (u:=.int y.1) rfl rfl rfl)
abbrev Cn:En->Rs Fl:=(aC (cE (ln 2 (oD iz (vr 2) (o2 aQ (vr 5) (cn (.int 0))))) (gN 6)) (aC (gf (ph (tb (o2 lR (vr 6) (cn .non))) (du (GW 2 (tb (cl da (af (vr 2) (af (vr 5) (af (vr 6) ak)))))))) EV sN) (aC (cE (o2 aL (o2 aQ (vr 6) (cn (.int 1))) (eV (af (vr 4) ak))) (gN 7)) (aC (cE (jr (iS (vr 7)) [none,some 0] (gN 0) bT (o2 aQ (o2 aQ (vr 1) (vr 0)) (cn (.int 0)))) (gN 8)) (aC (gf (tb (o2 HQ (o2 aQ (vr 5) (cn (.int 1))) (vr 8))) (aM (bB (af (cn .non) (af (sl (vr 7) (pS (oL gk (vr 8) (o2 aQ (vr 5) (cn (.int 1))))) pN) ak)))) sN) (aC (yC 2 (o2 aQ (vr 5) (cn (.int 1))) (bB (af (o2 aL (o2 aQ (vr 6) (cn (.int 0))) (o2 aQ (vr 5) (cn (.int 2)))) (af (vr 7) ak)))) (cE (cn (.bl true)) (gN 3))))))))
abbrev J4:T->En->Rs En:=gT 2 (kW (gN 4) (kW (gN 5) vB))
def eL (L:bJ N2):T:=.lst (L.map eB)
def zO (L:bJ N2)(t:T):T:=match t with
 | .int j=>match L[j.toNat]? with
  | some x=>en x.1
  | none=> .non
 | _=> .non
theorem xu {L:bJ N2}:∀{ks:List Nat} {a b:N2},Ch L a ks b->(eN ks).map (zO L)=(d8 L ks).map en
 | [],_,_,_=>rfl
 | k::r,a,b,h=>by
  rw[h.Kg];obtain⟨c,m,e,h⟩:=h
  show zO L (.int k)::(eN r).map (zO L)=en a::(d8 L r).map en
  rw[xu h]
  congr 1
  unfold zO;simp only[ME,e]
theorem wN (v:N2):∀(l:List N2),jR (en v) (l.map en)=decide (v∈l)
 | [] =>rfl
 | u::l=>by
  have ih:=wN v l;unfold jR at ih ⊢;rw[Lf,Nt,ih,BX]
  by_cases h:u=v
  ·subst h;simp
  ·have h':¬ v=u:=λz=>h z.symm
   simp[h,h']
theorem u9 (v:N2):∀(l:List N2) (n:Nat),v∈l->jw (en v) (l.map en) n=some (n+l.idxOf v)
 | [],n,h=>by simp at h
 | u::l,n,h=>by
  rw[Lf,jw,BX,Sf]
  by_cases z:u=v
  ·subst z;simp
  ·have h':v∈l:=(Lj.mp h).elim (λy=>absurd y.symm z) id
   have zb:(u == v)=false:=by rw[beq_eq_false_iff_ne];exact z
   rw[zb,decide_eq_false z,if_neg LK,u9 v l (n+1) h'];simp only[cond_false]
   congr 1
   omega
theorem EY (v:N2):(en v).nd=true:=rfl
theorem sC {α:Type}(f:α->T)(h:∀a,(f a).nd=true):∀l:List α,nds (l.map f)=true
 | [] =>rfl
 | a::l=>by rw[Lf,nds,h a,sC f h l];rfl
theorem BO (v:N2):(en v).dep<=60:=by show(T.tup [.int v.c,.int v.k]).dep<=60;simp[T.dep,deps]
theorem JH (v:N2)(l:List N2):HQ (en v) (.lst (l.map en))= .ok (.bl (decide (v∈l))):=by
 show(if (_\/_)/\_/\(T.lst (l.map en)).nd=true then _ else _)=_
 rw[if_pos ⟨.inl (BO v),rfl,sC en EY l⟩,wN]
theorem Bc (v:N2)(l:List N2)(h:v∈l):gk (.lst (l.map en)) (en v)= .ok (.int ((l.idxOf v:Nat):Int)):=by
 unfold gk;simp only;rw[if_pos ⟨.inl (BO v),rfl,sC en EY l⟩,u9 v l 0 h,MK]
theorem HC (p q:List Nat):eN (p++q)=eN p++eN q:=by unfold eN;rw[LY]
theorem AD (D:Bool):∀ks:List Nat,nks D (eN ks)=true
 | [] =>rfl
 | k::r=>by show nks D (.int k::eN r)=true;unfold nks;rw[AD D r];rfl
theorem Ch.len {L:bJ N2}{ks:List Nat}{a b:N2}(h:Ch L a ks b)(hn:(d8 L ks).Nodup):ks.length<=L.length:=by
 have:=jl (h.nodup hn) (m:=L7 L.length) λk hk=>L4.mpr (h.lt k hk)
 rwa [NM]at this
abbrev sE (L:bJ N2)(st:T)(o:OT)(b:Bool)(k:Nat)(x:N2×N2×Int)(s6 s7 s8:Sl):En:=[.va (eL L),.va st,.ow o,.va (.bl b),.va (.int k),.va (eB x),s6,s7,s8]
def Fo (L:bJ N2)(P ns:List N2)(b:bZ N2)(k:Nat)(x:N2×N2×Int)(st:T)(mv:Bool)(s6 s7 s8:Sl):Sum (Option (bZ N2)) (List Nat)->Prop
 | .inl none=> ∃s6' s7' s8',Cn (sE L st (.dct (ns.map en) (dV ns b)) mv k x s6 s7 s8)= .ok (.ct (sE L st (.dct (ns.map en) (dV ns b)) mv k x s6' s7' s8'))
 | .inl (some b')=> ∃ns' s6' s7' s8',DR P ns' b'/\Cn (sE L st (.dct (ns.map en) (dV ns b)) mv k x s6 s7 s8)= .ok (.nx (sE L st (.dct (ns'.map en) (dV ns' b')) true k x s6' s7' s8'))
 | .inr q=>Cn (sE L st (.dct (ns.map en) (dV ns b)) mv k x s6 s7 s8)= .ok (.rt (.tup [.non,.lst (eN q)]))
theorem CZ {L:bJ N2}{S P ns:List N2}{b:bZ N2}{k:Nat}{x:N2×N2×Int}(K:Kept L S b)(D:DR P ns b)(hL:L.length<=500)(hP:P.length<1000)(e:L[k]? =some x)(hx:x.2.1∈P)(st:T)(mv:Bool)(s6 s7 s8:Sl) :
  Fo L P ns b k x st mv s6 s7 s8 (gM L b k x):=by
 obtain⟨a,c,m⟩:=x;unfold Fo
 generalize hks:ns.map en=ks
 generalize hvs:dV ns b=vs
 have get:∀s7 s8,ln 2 (oD iz (vr 2) (o2 aQ (vr 5) (cn (.int 0)))) (sE L st (.dct ks vs) mv k (a,c,m) s6 s7 s8)= .ok (oW (b a)):=λs7 s8=>by
  refine A4 (o:=.dct ks vs) rfl (Jx (ks:=ks) (vs:=vs) (u:=en a) rfl rfl ?_) ?_
  ·unfold iz
   rw[cI,<-hks,<-hvs];simp only[D.get];cases b a <;> rfl
  ·cases b a with
   | none=>rfl
   | some y=>show nks true [.int y.1,.lst (eN y.2)] =true;simp[nks,T.nk,AD]
 have s1:∀G,aC (cE (ln 2 (oD iz (vr 2) (o2 aQ (vr 5) (cn (.int 0))))) (gN 6)) G (sE L st (.dct ks vs) mv k (a,c,m) s6 s7 s8)=G (sE L st (.dct ks vs) mv k (a,c,m) (.va (oW (b a))) s7 s8):=λG=>
  aF (cC (t:=oW (b a)) (get s7 s8) rfl)
 cases qa:b a with
 | none=>
  rw[show gM L b k (a,c,m)= .inl none from by unfold gM;simp only[qa]]
  simp only;refine⟨.va .non,s7,s8,?_⟩
  unfold Cn;rw[s1,qa]
  exact A0 (iY (F:=EV) (Jw (cW (aG (t:=.non) (u:=.non) rfl rfl rfl))))
 | some y=>
  obtain⟨d,w⟩:=y
  have bt:∀s7 s8,GW 2 (tb (cl da (af (vr 2) (af (vr 5) (af (vr 6) ak))))) (sE L st (.dct ks vs) mv k (a,c,m) (.va (eW (d,w))) s7 s8)= .ok (dY b c (d+m)):=λs7 s8=>by
   refine Jy (cW (aW (ts:=[.dct ks vs,eB (a,c,m),eW (d,w)]) rfl ?_))
   rw[<-hks,<-hvs];exact BH D (a,c,m) d w
  have nn:tb (o2 lR (vr 6) (cn .non)) (sE L st (.dct ks vs) mv k (a,c,m) (.va (eW (d,w))) s7 s8)= .ok false:=cW (aG (t:=eW (d,w)) (u:=.non) rfl rfl rfl)
  have cond:=A1 nn (kS (bt s7 s8))
  have s1':∀G,aC (cE (ln 2 (oD iz (vr 2) (o2 aQ (vr 5) (cn (.int 0))))) (gN 6)) G (sE L st (.dct ks vs) mv k (a,c,m) s6 s7 s8)=G (sE L st (.dct ks vs) mv k (a,c,m) (.va (eW (d,w))) s7 s8):=λG=>by rw[s1 G,qa];rfl
  cases hb:dY b c (d+m)with
  | false=>
   rw[show gM L b k (a,c,m)= .inl none from by unfold gM;simp only[qa,hb];rfl]
   simp only;rw[hb]at cond;refine⟨.va (eW (d,w)),s7,s8,?_⟩
   unfold Cn;rw[s1']
   exact A0 (iY (F:=EV) cond)
  | true=>
   rw[hb]at cond;obtain⟨s,hs,h1,h2,h3,h4,h5⟩:=K.walk a d w qa
   have hch:Ch L s (w++ [k]) c:=h1.snoc e
   have hwl:w.length<=500:=Me (Ch.len h1 h4) hL
   have s2:∀G,aC (gf (ph (tb (o2 lR (vr 6) (cn .non))) (du (GW 2 (tb (cl da (af (vr 2) (af (vr 5) (af (vr 6) ak)))))))) EV sN) G (sE L st (.dct ks vs) mv k (a,c,m) (.va (eW (d,w))) s7 s8)=G (sE L st (.dct ks vs) mv k (a,c,m) (.va (eW (d,w))) s7 s8):=λG=>
    aF (Z':=(sE L st (.dct ks vs) mv k (a,c,m) (.va (eW (d,w))) s7 s8)) ((fw (F:=EV) (G:=sN) cond).trans rfl)
   have wk:o2 aL (o2 aQ (vr 6) (cn (.int 1))) (eV (af (vr 4) ak)) (sE L st (.dct ks vs) mv k (a,c,m) (.va (eW (d,w))) s7 s8)= .ok (.lst (eN (w++ [k]))):=by
    refine aG (t:=.lst (eN w)) (u:=.lst (eN [k])) rfl (mm (ts:=[.int k]) rfl (aE (k:=1) (by simp))) ?_
    show jO (eN w++eN [k])=_
    rw[<-HC];unfold jO;rw[if_pos (aE (k:=1000) (by unfold eN;rw[Lh,Lb];simp;omega))]
   have s3:∀G,aC (cE (o2 aL (o2 aQ (vr 6) (cn (.int 1))) (eV (af (vr 4) ak))) (gN 7)) G (sE L st (.dct ks vs) mv k (a,c,m) (.va (eW (d,w))) s7 s8)=G (sE L st (.dct ks vs) mv k (a,c,m) (.va (eW (d,w))) (.va (.lst (eN (w++ [k])))) s8):=λG=>aF (cC wk rfl)
   have ps:jr (iS (vr 7)) [none,some 0] (gN 0) bT (o2 aQ (o2 aQ (vr 1) (vr 0)) (cn (.int 0))) (sE L st (.dct ks vs) mv k (a,c,m) (.va (eW (d,w))) (.va (.lst (eN (w++ [k])))) s8)= .ok (.lst ((d8 L (w++ [k])).map en)):=by
    rw[<-xu hch];refine yX (ts:=eN (w++ [k])) (xR rfl) (aE (k:=1000) (by unfold eN;rw[Lh,Lb];simp;omega)) (by simp) λt ht=> ?_
    unfold eN at ht;obtain⟨j,hj,rfl⟩:=LM.mp ht
    have hjl:=hch.lt j hj;refine aG (t:=eB L[j]) (u:=.int 0) (A6 (l:=L.map eB) (n:=j) rfl rfl (by rw[LD,Lv hjl];rfl)) rfl ?_
    unfold zO;simp only[ME,Lv hjl]
    rfl
   have s4:∀G,aC (cE (jr (iS (vr 7)) [none,some 0] (gN 0) bT (o2 aQ (o2 aQ (vr 1) (vr 0)) (cn (.int 0)))) (gN 8)) G (sE L st (.dct ks vs) mv k (a,c,m) (.va (eW (d,w))) (.va (.lst (eN (w++ [k])))) s8)=G (sE L st (.dct ks vs) mv k (a,c,m) (.va (eW (d,w))) (.va (.lst (eN (w++ [k])))) (.va (.lst ((d8 L (w++ [k])).map en)))):=λG=>aF (cC ps rfl)
   have inn:tb (o2 HQ (o2 aQ (vr 5) (cn (.int 1))) (vr 8)) (sE L st (.dct ks vs) mv k (a,c,m) (.va (eW (d,w))) (.va (.lst (eN (w++ [k])))) (.va (.lst ((d8 L (w++ [k])).map en))))= .ok (decide (c∈d8 L (w++ [k]))):=
    cW (aG (t:=en c) (u:=.lst ((d8 L (w++ [k])).map en)) rfl rfl (JH c _))
   by_cases hn:c∈d8 L (w++ [k])
   ·rw[show gM L b k (a,c,m)= .inr ((w++ [k]).drop ((d8 L (w++ [k])).idxOf c))from by unfold gM;simp only[qa,hb,if_pos hn,if_true]]
    simp only;unfold Cn;rw[s1',s2,s3,s4];rw[decide_eq_true hn]at inn;refine oE ((iY inn).trans (cU ?_))
    have sle:sl (vr 7) (pS (oL gk (vr 8) (o2 aQ (vr 5) (cn (.int 1))))) pN (sE L st (.dct ks vs) mv k (a,c,m) (.va (eW (d,w))) (.va (.lst (eN (w++ [k])))) (.va (.lst ((d8 L (w++ [k])).map en))))= .ok (.lst (eN ((w++ [k]).drop ((d8 L (w++ [k])).idxOf c)))):=by
     rw[E7 (l:=eN (w++ [k])) (lo:=some (((d8 L (w++ [k])).idxOf c:Nat):Int)) (hi:=none) rfl (DZ (k_oL (ks:=(d8 L (w++ [k])).map en) (u:=en c) rfl rfl (Bc c _ hn))) rfl,vj];unfold eN;rw[List.map_drop]
    exact(cy (ts:=[.non,.lst (eN ((w++ [k]).drop ((d8 L (w++ [k])).idxOf c)))]) (ar rfl (ar sle rfl)) (aE (k:=2) (by simp)))
   ·rw[show gM L b k (a,c,m)= .inl (some (Gr.put b c (d+m,w++ [k])))from by unfold gM;simp only[qa,hb,if_neg hn,if_true]]
    simp only;rw[decide_eq_false hn]at inn;obtain⟨ns',D',hd⟩:=D.put hx (d+m,w++ [k]);refine⟨ns',.va (eW (d,w)),.va (.lst (eN (w++ [k]))),.va (.lst ((d8 L (w++ [k])).map en)),D',?_⟩
    unfold Cn;rw[s1',s2,s3,s4];rw[aF (Z':=(sE L st (.dct ks vs) mv k (a,c,m) (.va (eW (d,w))) (.va (.lst (eN (w++ [k])))) (.va (.lst ((d8 L (w++ [k])).map en))))) ((fw (G:=sN) inn).trans rfl)]
    have pt:yC 2 (o2 aQ (vr 5) (cn (.int 1))) (bB (af (o2 aL (o2 aQ (vr 6) (cn (.int 0))) (o2 aQ (vr 5) (cn (.int 2)))) (af (vr 7) ak))) (sE L st (.dct ks vs) mv k (a,c,m) (.va (eW (d,w))) (.va (.lst (eN (w++ [k])))) (.va (.lst ((d8 L (w++ [k])).map en))))
      = .ok (.nx (sE L st (.dct (ns'.map en) (dV ns' (Gr.put b c (d+m,w++ [k])))) mv k (a,c,m) (.va (eW (d,w))) (.va (.lst (eN (w++ [k])))) (.va (.lst ((d8 L (w++ [k])).map en))))):=by
     have ev:bB (af (o2 aL (o2 aQ (vr 6) (cn (.int 0))) (o2 aQ (vr 5) (cn (.int 2)))) (af (vr 7) ak)) (sE L st (.dct ks vs) mv k (a,c,m) (.va (eW (d,w))) (.va (.lst (eN (w++ [k])))) (.va (.lst ((d8 L (w++ [k])).map en))))= .ok (eW (d+m,w++ [k])):=
      cy (ts:=[.int (d+m),.lst (eN (w++ [k]))]) rfl (aE (k:=2) (by simp))
     have ek:o2 aQ (vr 5) (cn (.int 1)) (sE L st (.dct ks vs) mv k (a,c,m) (.va (eW (d,w))) (.va (.lst (eN (w++ [k])))) (.va (.lst ((d8 L (w++ [k])).map en))))= .ok (en c):=rfl
     show(bB _ _ >>= λv=>o2 aQ (vr 5) (cn (.int 1)) _ >>= λkk=>match keyOf kk with | some _=>if ks.length<1000 then Rs.ok (Fl.nx _)else .bad | none=> .bad)=_
     rw[ev,aA,ek,aA,cI]
     have hlen:ks.length<1000:=by rw[<-hks,Lh];exact Q7 (jl D.nd D.sub) hP
     simp only[if_pos hlen]
     have hd1:hV (en c) (eW (d+m,w++ [k])) ks vs=(ns'.map en,dV ns' (Gr.put b c (d+m,w++ [k]))):=by rw[<-hks,<-hvs];exact hd
     rw[hd1]
     rfl
    rw[aF pt];exact cC (t:=.bl true) rfl rfl
def zm (L:bJ N2)(st:T)(ns:List N2)(b:bZ N2)(mv:Bool)(s4 s5 s6 s7 s8:Sl):En:=[.va (eL L),.va st,.ow (.dct (ns.map en) (dV ns b)),.va (.bl mv),s4,s5,s6,s7,s8]
def Ca (L:bJ N2)(P:List N2)(st:T)(X:Rs Fl):Sum (bZ N2×Bool) (List Nat)->Prop
 | .inr q=>X= .ok (.rt (.tup [.non,.lst (eN q)]))
 | .inl (b',mv')=> ∃ns' s4 s5 s6 s7 s8,DR P ns' b'/\X= .ok (.nx (zm L st ns' b' mv' s4 s5 s6 s7 s8))
theorem qW {L:bJ N2}{S P:List N2}(hL:L.length<=500)(hP:P.length<1000)(hx:∀x∈L,x.2.1∈P)(st:T):∀(r:bJ N2) (k:Nat) (b:bZ N2) (mv:Bool) (ns:List N2) (s4 s5 s6 s7 s8:Sl),L.drop k=r->Kept L S b->DR P ns b →
  Ca L P st (bO J4 Cn (cR k (r.map eB)) (zm L st ns b mv s4 s5 s6 s7 s8)) (ip L k r b mv)
 | [],k,b,mv,ns,s4,s5,s6,s7,s8,_,K,D=>⟨ns,s4,s5,s6,s7,s8,D,rfl⟩
 | x::r,k,b,mv,ns,s4,s5,s6,s7,s8,hr,K,D=>by
  have e:L[k]? =some x:=by
   have:=congrArg (·[0]?) hr
   simpa using this
  have hr':L.drop (k+1)=r:=by
   have:=congrArg (List.drop 1) hr
   simpa [List.drop_drop,RF]using this
  have tg:J4 (.tup [.int k,eB x]) (zm L st ns b mv s4 s5 s6 s7 s8)= .ok [.va (eL L),.va st,.ow (.dct (ns.map en) (dV ns b)),.va (.bl mv),.va (.int k),.va (eB x),s6,s7,s8]:=rfl
  have tn:=CZ K D hL hP e (hx x (Mu e)) st mv s6 s7 s8;rw[ip,Lf,cR]
  cases q:gM L b k x with
  | inr w=>
   rw[q]at tn;simp only;unfold Ca
   exact D9 tg tn
  | inl o=>
   rw[q]at tn
   cases o with
   | none=>
    obtain⟨s6',s7',s8',tn⟩:=tn;simp only;rw[Ed tg tn]
    exact qW hL hP hx st r (k+1) b mv ns _ _ _ _ _ hr' K D
   | some b'=>
    obtain⟨ns',s6',s7',s8',D',tn⟩:=tn;simp only;rw[gA tg tn];refine qW (S:=S) hL hP hx st r (k+1) b' true ns' _ _ _ _ _ hr' ?_ D'
    -- what is kept stays so
    obtain⟨a,c,m⟩:=x;unfold gM at q
    cases qa:b a with
    | none=>simp only[qa]at q;cases q
    | some y=>
     obtain⟨d,w⟩:=y;simp only[qa]at q
     split at q
     ·rename_i hb
      split at q
      ·cases q
      ·rename_i hn
       cases q;exact K.put e qa hb hn
     ·cases q
abbrev wF:En->Rs Fl:=aC (cE (cn (.bl false)) (gN 3)) (jy (iE (af (vr 0) ak)) J4 Cn)
def SetP (L:bJ N2)(P:List N2)(st:T)(X:Rs Fl):Sum (bZ N2) (List Nat)->Prop
 | .inr q=>X= .ok (.rt (.tup [.non,.lst (eN q)]))
 | .inl b'=> ∃ns' s4 s5 s6 s7 s8,DR P ns' b'/\X= .ok (.nx (zm L st ns' b' false s4 s5 s6 s7 s8))
theorem ud {L:bJ N2}{S P:List N2}(hL:L.length<=500)(hP:P.length<1000)(hx:∀x∈L,x.2.1∈P)(st:T):∀(n:Nat) (b:bZ N2) (ns:List N2) (s4 s5 s6 s7 s8:Sl) (r:Sum (bZ N2) (List Nat)),Kept L S b->DR P ns b->Gr.settle L n b=some r →
  SetP L P st (bN (tb (vr 3)) wF (n+1) (zm L st ns b true s4 s5 s6 s7 s8)) r
 | 0,_,_,_,_,_,_,_,_,_,_,h=>by cases h
 | n+1,b,ns,s4,s5,s6,s7,s8,r,K,D,h=>by
  have sw:=qW hL hP hx st L 0 b false ns s4 s5 s6 s7 s8 rfl K D
  have ok:=iD (S:=S) L 0 b false rfl K
  have body:∀X,bO J4 Cn (cR 0 (L.map eB)) (zm L st ns b false s4 s5 s6 s7 s8)= .ok X->wF (zm L st ns b true s4 s5 s6 s7 s8)= .ok X:=λX hX=>by
   show aC _ _ _=_
   rw[aF (Z':=zm L st ns b false s4 s5 s6 s7 s8) (cC (t:=.bl false) rfl rfl)];exact jP (ts:=cR 0 (L.map eB)) (JB rfl) hX
  have tt:tb (vr 3) (zm L st ns b true s4 s5 s6 s7 s8)= .ok true:=rfl;rw[Gr.settle]at h
  revert sw ok h
  generalize ip L 0 L b false=R
  intro h sw ok
  cases R with
  | inr q=>
   simp only at h;cases h
   exact AY tt (body _ sw)
  | inl p=>
   obtain⟨b',mv'⟩:=p;obtain⟨ns',t4,t5,t6,t7,t8,D',sw⟩:=sw;obtain⟨K',_⟩:=ok
   cases mv' with
   | true=>
    simp only at h
    have ih:=ud hL hP hx st n b' ns' t4 t5 t6 t7 t8 r K' D' h;rw[uU tt (body _ sw)]
    exact ih
   | false=>
    simp only at h;cases h;refine⟨ns',t4,t5,t6,t7,t8,D',?_⟩
    rw[uU tt (body _ sw)];exact AZ rfl
theorem gW {c:En->Rs Bool}{F:En->Rs Fl}{x:Fl}:∀{n m:Nat} {Z:En},n<=m->bN c F n Z= .ok x->bN c F m Z= .ok x
 | 0,_,_,_,h=>by cases h
 | n+1,0,_,hl,_=>absurd hl (by omega)
 | n+1,m+1,Z,hl,h=>by
  unfold bN at h ⊢
  cases q:c Z with
  | bad=>rw[q]at h;cases h
  | err _=>rw[q]at h;cases h
  | ok k=>
   rw[q]at h
   cases k with
   | false=>exact h
   | true=>
    simp only at h ⊢
    cases q2:F Z with
    | bad=>rw[q2]at h;cases h
    | err _=>rw[q2]at h;cases h
    | ok f=>
     rw[q2]at h
     cases f with
     | nx Z'=>exact gW (by omega) h
     | ct Z'=>exact gW (by omega) h
     | bk Z'=>exact h
     | rt t=>exact h
theorem Ab (w:T):∀S:List N2,HM (S.map λv=> .tup [en v,w])=some (S.map λv=>(en v,w))
 | [] =>rfl
 | v::S=>by rw[Lf,HM,cI,Ab w S];rfl
theorem vh (w:T):∀(S ns:List N2) (g:N2->T),(ns++S).Nodup->(∀v∈S,g v=w)->i7 (S.map λv=>(en v,w)) (ns.map en,ns.map g)=((ns++S).map en,(ns++S).map g)
 | [],ns,g,_,_=>by rw[LR];rfl
 | v::S,ns,g,hn,hg=>by
  have hv:v∉ns:=λz=>by
   rw[Mg]at hn;exact hn.2.2 v z v Lg rfl
  rw[Lf,i7,oS _ _ _ _ hv]
  have e1:ns.map en++ [en v] =(ns++ [v]).map en:=by rw[LY];rfl
  have e2:ns.map g++ [w] =(ns++ [v]).map g:=by rw[LY,<-hg v Lg];rfl
  rw[e1,e2,vh w S (ns++ [v]) g (by rw[LS];exact hn) λu hu=>hg u (K9 _ hu),LS]
  rfl
theorem Ez (w:T)(S:List N2)(hn:S.Nodup)(hl:S.length<=1000):x9 [.lst (S.map λv=> .tup [en v,w])] = .ok (.dct (S.map en) (S.map λ_=>w)):=by
 unfold x9;simp only[Ab];rw[if_pos (by rw[Lh];exact hl)]
 have:=vh w S [] (λ_=>w) (by simpa using hn) (λ_ _=>rfl)
 rw[OJ]at this;rw[show(([]:List T),([]:List T))=(([]:List N2).map en,([]:List N2).map λ_=>w)from rfl,this]
def eS (S:List N2):T:=.lst (S.map en)
def EH (L:bJ N2)(P:List N2)(X:Rs T):Sum (bZ N2) (List Nat)->Prop
 | .inr q=>X= .ok (.tup [.non,.lst (eN q)])
 | .inl b'=> ∃ns',DR P ns' b'/\X= .ok (.tup [.dct (ns'.map en) (dV ns' b'),.non])
structure JY (L:bJ N2)(P:List N2):Prop where
 len:L.length<=500
 size:size L<=100000000
 ends:∀x∈L,x.1∈P/\x.2.1∈P
 pl:P.length<1000
def SOk (L:bJ N2)(S:List N2):Sum (bZ N2) (List Nat)->Prop
 | .inr q=>Bar L q
 | .inl b'=>Settled L S b'
theorem vf {L:bJ N2}{S P:List N2}(F:JY L P)(hS:S.Nodup)(hSP:∀v∈S,v∈P):∃r,EH L P (fR [eL L,eS S]) r/\SOk L S r:=by
 have bound:L.length*(2*size L+1)<1000000000000 - 1:=by
  have h1:=F.len
  have h2:=F.size
  have:L.length*(2*size L+1)<=500*(2*100000000+1):=Nat.mul_le_mul h1 (by omega)
  omega
 obtain⟨r,hr,ok⟩:=vK L S bound
 have ok':SOk L S r:=by cases r <;> exact ok
 refine⟨r,?_,ok'⟩
 have hSl:S.length<=1000:=Me (jl hS hSP) (by have:=F.pl;omega)
 have D0:DR P S (Gr.start S):=⟨hS,λv=>by unfold Gr.start;by_cases h:v∈S <;> simp[h],hSP⟩
 have dv0:dV S (Gr.start S)=S.map λ_=>eW (0,[]):=Nu λv hv=>by unfold Gr.start;rw[if_pos hv];rfl
 have w:=ud F.len F.pl (λx hx=>(F.ends x hx).2) (eS S) _ (Gr.start S) S .em .em .em .em .em r (oA L S) D0 hr
 have lc:jr (iS (vr 1)) [none] (gN 0) bT (bB (af (vr 0) (af (bB (af (cn (.int 0)) (af (eV ak) ak))) ak))) [.va (eL L),.va (eS S),.em,.em,.em,.em,.em,.em,.em] = .ok (.lst (S.map λv=> .tup [en v,eW (0,[])])):=by
  have:=yX (fi:=iS (vr 1)) (src:=[none]) (fe:=bB (af (vr 0) (af (bB (af (cn (.int 0)) (af (eV ak) ak))) ak))) (h:=λt=> .tup [t,eW (0,[])]) (Z:=[.va (eL L),.va (eS S),.em,.em,.em,.em,.em,.em,.em]) (ts:=S.map en) (xR rfl) (aE (k:=1000) (by rw[Lh];exact hSl)) (by simp) λt _=>
   cy (ts:=[t,eW (0,[])]) (ar rfl (ar (cy (ts:=[.int 0,.lst []]) (ar rfl (ar (mm (ts:=[]) rfl (Nq _)) rfl)) (aE (k:=2) (by simp))) rfl)) (aE (k:=2) (by simp))
  rw[this,Qa];rfl
 have n0:qg 2 (jr (iS (vr 1)) [none] (gN 0) bT (bB (af (vr 0) (af (bB (af (cn (.int 0)) (af (eV ak) ak))) ak)))) [.va (eL L),.va (eS S),.em,.em,.em,.em,.em,.em,.em] = .ok (.nx [.va (eL L),.va (eS S),.ow (.dct (S.map en) (dV S (Gr.start S))),.em,.em,.em,.em,.em,.em]):=by
  unfold qg;rw[lc,aA,Ez _ S hS hSl,aA,dv0]
  rfl
 have main:∀G X,bN (tb (vr 3)) wF FU (zm L (eS S) S (Gr.start S) true .em .em .em .em .em)= .ok X->ja [.va (eL L),.va (eS S),.em,.em,.em,.em,.em,.em,.em] =G->(aC (bN (tb (vr 3)) wF FU) (pC 2 (aM (bB (af (vr 2) (af (cn .non) ak)))))) (zm L (eS S) S (Gr.start S) true .em .em .em .em .em)=G:=λG X _ h=>by
  rw[<-h];unfold ja;rw[aF n0,aF (Z':=zm L (eS S) S (Gr.start S) true .em .em .em .em .em) (cC (t:=.bl true) rfl rfl)]
 cases r with
 | inr q=>
  have w':=gW (m:=FU) (by unfold FU;omega) w
  refine cm rfl ?_
  show ja [.va (eL L),.va (eS S),.em,.em,.em,.em,.em,.em,.em] =_
  rw[<-main _ _ w' rfl]
  exact oE w'
 | inl b'=>
  obtain⟨ns',s4,s5,s6,s7,s8,D',w⟩:=w
  have w':=gW (m:=FU) (by unfold FU;omega) w
  refine⟨ns',D',cm rfl ?_⟩
  show ja [.va (eL L),.va (eS S),.em,.em,.em,.em,.em,.em,.em] =_
  rw[<-main _ _ w' rfl,aF w'];exact Fb (cU (cy (ts:=[.dct (ns'.map en) (dV ns' b'),.non]) rfl (aE (k:=2) (by simp))))
theorem om {α:Type}{f:α->T}{p:α->Prop}:∀{l:List T},(∀t∈l,∃x,t=f x/\p x)->∃L:List α,l=L.map f/\∀x∈L,p x
 | [],_=>⟨[],rfl,λ_ h=>nomatch h⟩
 | t::l,h=>by
  obtain⟨x,e,hx⟩:=h t Lg;obtain⟨L,e2,h2⟩:=om (l:=l) λu hu=>h u (K9 _ hu)
  exact⟨x::L,by rw[e,e2];rfl,λy hy=>(Lj.mp hy).elim (λz=>z▸hx) (h2 y)⟩
theorem oV {t:T}(h:bj t=true):∃(x y:Int) (r:List Int),t= .tup [.int x,.int y,.tup (r.map .int)]/\(0<=x/\x<=9)/\(0<=y/\y<=9)/\∀k,0<=r.getD k 0/\r.getD k 0<=99:=by
 obtain⟨x,y,r,rfl,h1,h2,h3,h4⟩:=fV h;refine⟨x,y,r,rfl,h1,h2,λk=> ?_⟩
 have h':(jW (.int x) (.int y)&&bx (.tup (r.map .int)))=true:=h;rw[K8]at h'
 have hr:=h'.2;unfold bx at hr;rw[K8]at hr
 have hr2:(((r.map T.int).all λu=>aR u 0 99)&&(match iA (r.map .int)with | some m=>mh m | none=>false))=true:=hr.2
 rw[K8]at hr2
 by_cases hk:k<r.length
 ·have:=LG.mp hr2.1 (.int r[k]) (LM.mpr ⟨_,Mz hk,rfl⟩)
  obtain⟨i,e,a,b⟩:=bA this;cases e;simp[hk];exact⟨a,b⟩
 ·simp[hk]
theorem xC {cs:List T}{i:Nat}:∀{cs0:List T} {c k:Nat},i<=c->c<i+cs0.length->k<vA (cs0.getD (c - i) .non)->T.tup [.int c,.int k] ∈dv i cs0:=by
 intro cs0
 induction cs0 generalizing i with
 | nil=>intro c k h1 h2;simp at h2;omega
 | cons a r ih=>
  intro c k h1 h2 h3;rw[dv,Lw]
  by_cases e:c=i
  ·subst e
   rw[O7]at h3
   have h3':k<vA a:=h3;exact .inl (LM.mpr ⟨.int k,DT h3',rfl⟩)
  ·refine .inr (ih (by omega) (by rw[Li]at h2;omega) ?_)
   rw[show c - i=(c - (i+1))+1 by omega]at h3
   exact h3
theorem qA {cs:List T}{t:T}(h:aV cs t=true):t∈dv 0 cs:=by
 obtain⟨c,k,rfl⟩:=cM h;unfold aV at h;simp only[K8,decide_eq_true_eq]at h;obtain⟨⟨h1,h2⟩,h3,h4⟩:=h;obtain⟨c,rfl⟩:=LU h1;obtain⟨k,rfl⟩:=LU h3;rw[lz]at h4;exact xC (cs:=cs) (Nq _) (by omega) (by rw[P9];omega)
theorem Bv {cs:List T}{t:T}(h:t∈dv 0 cs):∃v:N2,t=en v/\True:=by
 obtain⟨c,k,rfl,_⟩:=mR cs 0 h;exact⟨⟨c,k⟩,rfl,trivial⟩
def big (x:N2×N2×Int):Prop:=x.2.2.natAbs<=999
theorem qo {a b:Int}(ha : -99<=a/\a<=99)(hb:0<=b/\b<=9):(a*b).natAbs<=999:=by
 rw[Int.natAbs_mul]
 have h1:a.natAbs<=99:=by omega
 have h2:b.natAbs<=9:=by omega
 exact Me (Nat.mul_le_mul h1 h2) (by decide)
theorem Fm {cs0:List T}:∀{cs:List T} {i:Nat},(∀c∈cs,bj c=true)->(∀c k:Nat,i<=c->c<i+cs.length->k<vA (cs.getD (c - i) .non)->T.tup [.int c,.int k] ∈dv 0 cs0) →
  ∀t∈bC i cs,∃x,t=eB x/\(en x.1∈dv 0 cs0/\en x.2.1∈dv 0 cs0/\big x)
 | [],_,_,_,t,h=>by simp[bC]at h
 | c::cs,i,hc,hm,t,h=>by
  rw[bC,Lw]at h;rcases h with h | h
  ·obtain⟨x,y,r,rfl,hx,hy,hr⟩:=oV (hc c Lg)
   have hm0:∀k,k<r.length->T.tup [.int i,.int k] ∈dv 0 cs0:=λk hk=>hm i k (Lo _) (by simp) (by rw[O7];show k<(r.map T.int).length;rw[Lh];exact hk)
   rw[km]at h;unfold cB at h;obtain⟨k,hk,hp⟩:=MV.mp h
   have hk:=L4.mp hk
   have d : -99<=dr r k/\dr r k<=99:=by have:=hr k;have:=hr (k+1);unfold dr;omega
   unfold pr at hp;simp only[Lj,Mo,or_false]at hp;rcases hp with rfl | rfl
   ·exact⟨(⟨i,k⟩,⟨i,((k+1:Nat):Int)⟩,dr r k*y),rfl,hm0 k (by omega),hm0 (k+1) (by omega),qo d hy⟩
   ·exact⟨(⟨i,((k+1:Nat):Int)⟩,⟨i,k⟩,-dr r k*x),rfl,hm0 (k+1) (by omega),hm0 k (by omega),qo (by omega) hx⟩
  ·exact Fm (cs:=cs) (i:=i+1) (λc h=>hc c (K9 _ h)) (λc k h1 h2 h3=>hm c k (by omega) (by rw[Li];omega) (by rw[show c - i=(c - (i+1))+1 by omega];exact h3)) t h
theorem Jt {cs:List T}{u:T}(hu:ba cs u=true):∀t∈lB u,∃x,t=eB x/\(en x.1∈dv 0 cs/\en x.2.1∈dv 0 cs/\big x):=by
 intro t ht;obtain⟨a,b,x,y,rfl,hd,ha,hb,_⟩:=dS hu
 have ma:=qA ha
 have mb:=qA hb;obtain⟨va,rfl,_⟩:=Bv ma;obtain⟨vb,rfl,_⟩:=Bv mb;unfold dq at hd;rw[K8]at hd;obtain⟨i,rfl,i1,i2⟩:=bA hd.1
 have e2:lB (.tup [en va,en vb,.int i,y])= .tup [en vb,en va,.int (-i)] ::(if y.isN then []else [.tup [en va,en vb,y]]):=rfl
 rw[e2]at ht;rcases Lj.mp ht with rfl | ht
 ·exact⟨(vb,va,-i),rfl,mb,ma,by unfold big;simp only;omega⟩
 ·cases q:y.isN with
  | true=>rw[q]at ht;simp at ht
  | false=>
   rw[q]at ht
   have ht:t= .tup [en va,en vb,y]:=by simpa using ht
   have hw:aR y i 999=true:=by
    cases y with
    | non=>cases q
    | _=>exact hd.2
   obtain⟨j,rfl,j1,j2⟩:=bA hw;exact⟨(va,vb,j),ht,ma,mb,by unfold big;simp only;omega⟩
structure Rd (cs ls:List T)(L:bJ N2)(P:List N2):Prop where
 g:Good cs ls
 b:wK cs ls=L.map eB
 e:dv 0 cs=P.map en
 f:JY L P
 nd:P.Nodup
 pl:P.length<=16
 ll:L.length<=60
 bg:∀x∈L,big x
theorem CW {L:bJ N2}(h:∀x∈L,big x):size L<=999*L.length:=by
 unfold size
 induction L with
 | nil=>simp
 | cons x L ih=>
  rw[Lf,MX,Li]
  have:=ih λy hy=>h y (K9 _ hy)
  have:=h x Lg;unfold big at this;omega
theorem Ay {P:List N2}(h:(P.map en).Nodup):P.Nodup:=by
 induction P with
 | nil=>exact NA
 | cons a r ih=>
  rw[Lf,LF]at h;exact LF.mpr ⟨λz=>h.1 (LM.mpr ⟨a,z,rfl⟩),ih h.2⟩
theorem mi {cs ls:List T}(g:Good cs ls):∃L P,Rd cs ls L P:=by
 obtain⟨hc,c1,c4⟩:=bo g.c;obtain⟨P,eP,_⟩:=om (f:=en) (p:=λ_=>True) (l:=dv 0 cs) λt ht=>Bv ht
 have key:∀t∈wK cs ls,∃x,t=eB x/\(en x.1∈dv 0 cs/\en x.2.1∈dv 0 cs/\big x):=λt ht=>by
  unfold wK at ht;rw[Lw]at ht;rcases ht with h | h
  ·exact Fm hc (λc k h1 h2 h3=>xC (cs:=cs) h1 h2 h3) t h
  ·obtain⟨u,hu,h⟩:=MV.mp h
   exact Jt (g.l u hu) t h
 obtain⟨L,eL,hL⟩:=om key
 have mem:∀v:N2,en v∈dv 0 cs->v∈P:=λv hv=>by
  rw[eP]at hv;obtain⟨u,hu,e⟩:=LM.mp hv;rw[<-sY e];exact hu
 have hl:=ED g;rw[eL,Lh]at hl
 have hp:=sV cs 0 hc;rw[eP,Lh]at hp
 have hs:=CW λx hx=>(hL x hx).2.2
 exact⟨L,P,g,eL,eP,⟨by omega,by omega,λx hx=>⟨mem _ (hL x hx).1,mem _ (hL x hx).2.1⟩,by omega⟩,Ay (eP▸lF cs 0),by omega,hl,λx hx=>(hL x hx).2.2⟩
def run (L:bJ N2):N2->List Nat->Option N2
 | a,[] =>some a
 | a,k::r=>match L[k]? with
  | some x=>if x.1=a then run L x.2.1 r else none
  | none=>none
section
variable {cs ls:List T}{L:bJ N2}{P:List N2}
theorem Rd.ev (R:Rd cs ls L P){v:N2}(h:v∈P):aV cs (en v)=true:=Bu (by rw[R.e];exact LM.mpr ⟨v,h,rfl⟩)
theorem Rd.bounds (R:Rd cs ls L P):fS [RR cs ls] = .ok (eL L):=by rw[BG R.g,R.b];rfl
theorem Rd.KW (R:Rd cs ls L P){a b:N2}(ha:a∈P)(hb:b∈P):eI [RR cs ls,en a,en b] = .ok .non:=by
 refine oB (Z:=[.va (RR cs ls),.va (en a),.va (en b)]) rfl ?_
 show gE [.va (RR cs ls),.va (en a),.va (en b)] =_
 unfold gE;rw[aF (oF (t:=.non) (aW (ts:=[RR cs ls]) rfl (gO R.g.p R.g.ok)))];rw[aF (oF (t:=.non) (aW (ts:=[RR cs ls,en a]) rfl (xw R.g rfl (R.ev ha))))];exact oF (t:=.non) (aW (ts:=[RR cs ls,en b]) rfl (xw R.g rfl (R.ev hb)))
end
section
variable {cs ls:List T}{L:bJ N2}{P:List N2}
theorem Rd.events (R:Rd cs ls L P):de [RR cs ls] = .ok (eS P):=by rw[Am R.g,R.e];rfl
theorem BL {ns:List N2}{b:bZ N2}(D:DR P ns b){v:N2}{x:Int×List Nat}(e:b v=some x):ti (.dct (ns.map en) (dV ns b)) (en v)= .ok (eW x):=by
 unfold ti;simp only[cI];rw[D.get,e];rfl
theorem HE {ns:List N2}{b:bZ N2}(D:DR P ns b)(v:N2):BN (en v) (.dct (ns.map en) (dV ns b))= .ok (.bl (b v).isSome):=by
 unfold BN;simp only[cI];rw[D.get];cases b v <;> rfl
def tmT (P:List N2)(t:N2->Int):T:=.tup (P.map λv=> .int (t v))
def JZ (b:bZ N2)(v:N2):Int:=match b v with
 | some x=>x.1
 | none=>0
def atT (t:N2->Int)(u:T):T:=match u with
 | .tup [.int c,.int k] => .int (t ⟨c,k⟩)
 | _=> .non
theorem Rd.KG (R:Rd cs ls L P):(¬eX L/\jo [(RR cs ls)] = .ok .non)\/(eX L/\∃t b,Settled L P b/\(∀v∈P,∃w,b v=some (t v,w))/\jo [(RR cs ls)] = .ok (tmT P t)):=by
 obtain⟨r,hr,ok⟩:=vf R.f R.nd (λv h=>h)
 have wrap:∀{w:T},dj [(RR cs ls),eL L] = .ok w->jo [(RR cs ls)] = .ok w:=λ{w} e=>cm rfl (cU (aW (ts:=[(RR cs ls),eL L]) (ar rfl (ar (aW (ts:=[(RR cs ls)]) rfl R.bounds) rfl)) e))
 have begin_:∀{x z:T} {y:Rs Fl},fR [eL L,eS P] = .ok (.tup [x,z])->((aC (gf (tb (o2 lR (vr 3) (cn .non))) (aM (cn .non)) sN) (aM (cl jU (af (jr (iS (vr 2)) [none,some 3] (gN 0) bT (o2 aQ (o2 ti (vr 1) (vr 0)) (cn (.int 0)))) ak)))) [.va (RR cs ls),.va (eL L),.va (eS P),.va x] =y)->eC [.va (RR cs ls),.va (eL L),.em,.em] =y:=λ{x z y} hs hy=>by
  unfold eC;rw[aF (Z':=[.va (RR cs ls),.va (eL L),.va (eS P),.em]) (cC (aW (ts:=[(RR cs ls)]) rfl R.events) rfl)];rw[aF (Z':=[.va (RR cs ls),.va (eL L),.va (eS P),.va x]) (cC (aG (u:=.int 0) (aW (ts:=[eL L,eS P]) rfl hs) rfl rfl) rfl)];exact hy
 cases r with
 | inr q=>exact .inl ⟨λn=>absurd n (Bar.neg ok),wrap (cm rfl (begin_ hr (oE ((iY (cW (aG (t:=.non) (u:=.non) rfl rfl rfl))).trans rfl))))⟩
 | inl b=>
  obtain⟨ns,D,hr⟩:=hr
  have ok:Settled L P b:=ok
  have htm:∀v∈P,∃w,b v=some (JZ b v,w):=λv hv=>by
   obtain⟨d,w,e,_⟩:=ok.least v hv v 0 (.nil v);exact⟨w,by unfold JZ;rw[e]⟩
  refine .inr ⟨(ok.holds R.f.ends htm).Kt,JZ b,b,ok,htm,wrap (cm rfl (begin_ hr ?_))⟩
  generalize JZ b=tm at htm
  have lc:jr (iS (vr 2)) [none,some 3] (gN 0) bT (o2 aQ (o2 ti (vr 1) (vr 0)) (cn (.int 0))) [.va (RR cs ls),.va (eL L),.va (eS P),.va (.dct (ns.map en) (dV ns b))] = .ok (.lst ((P.map en).map (atT tm))):=
   yX (ts:=P.map en) (xR rfl) (aE (k:=16) (by rw[Lh];exact R.pl)) (by simp) λt ht=>by
    obtain⟨v,hv,rfl⟩:=LM.mp ht;obtain⟨w,e⟩:=htm v hv;exact aG (t:=eW (tm v,w)) (u:=.int 0) (aG (t:=.dct (ns.map en) (dV ns b)) (u:=en v) rfl rfl (BL D e)) rfl rfl
  rw[Qa]at lc;rw[aF (Z':=[.va (RR cs ls),.va (eL L),.va (eS P),.va (.dct (ns.map en) (dV ns b))]) ((fw (cW (aG (t:=.dct (ns.map en) (dV ns b)) (u:=.non) rfl rfl rfl))).trans rfl)];exact cU (aW (ar lc rfl) rfl)
theorem Rd.KJ (R:Rd cs ls L P):∃hw:Bool,aY [(RR cs ls)] = .ok (.bl hw)/\(hw=true↔eX L):=by
 rcases R.KG with⟨n,e⟩ | ⟨n,t,b,_,_,e⟩
 ·exact⟨false,cm rfl (cU (aG (t:=.non) (u:=.non) (aW (ts:=[(RR cs ls)]) rfl e) rfl rfl)),λz=>(by cases z),λz=>absurd z n⟩
 ·exact⟨true,cm rfl (cU (aG (t:=tmT P t) (u:=.non) (aW (ts:=[(RR cs ls)]) rfl e) rfl rfl)),λ_=>n,λ_=>rfl⟩
theorem Rd.KH (R:Rd cs ls L P)(n:eX L):cO [RR cs ls] = .ok .non:=by
 obtain⟨hw,e,i⟩:=R.KJ;rw[i.mpr n]at e;refine oB (Z:=[.va (RR cs ls)]) rfl ?_
 show hY [.va (RR cs ls)] =_
 unfold hY;exact(fw (kS (k:=true) (cW (aW (ts:=[RR cs ls]) rfl e)))).trans rfl
theorem Rd.from_ (R:Rd cs ls L P)(n:eX L){a:N2}(ha:a∈P):∃b ns,Settled L [a] b/\DR P ns b/\fA [RR cs ls,en a] = .ok (.dct (ns.map en) (dV ns b)):=by
 obtain⟨r,hr,ok⟩:=vf (S:=[a]) R.f (by simp) (λv h=>by rw[Lr.mp h];exact ha)
 cases r with
 | inr q=>exact absurd n (Bar.neg ok)
 | inl b=>
  obtain⟨ns,D,hr⟩:=hr;refine⟨b,ns,ok,D,cm rfl (cU (aG (u:=.int 0) (aW (ts:=[eL L,eS [a]]) (ar (aW (ts:=[RR cs ls]) rfl R.bounds) (ar (mm (ts:=[en a]) rfl (aE (k:=1) (by simp))) rfl)) hr) rfl rfl))⟩
def EZ (o:Option (Int×List Nat)):T:=match o with
 | some x=> .int x.1
 | none=> .non
theorem Rd.K6 (R:Rd cs ls L P)(n:eX L){a c:N2}(ha:a∈P)(hc:c∈P):∃b,Settled L [a] b/\bq [RR cs ls,en a,en c] = .ok (EZ (b c)):=by
 obtain⟨b,ns,S,D,e⟩:=R.from_ n ha;refine⟨b,S,cm rfl ?_⟩
 show fY [.va (RR cs ls),.va (en a),.va (en c)] =_
 unfold fY;rw[aF (oF (t:=.non) (aW (ts:=[RR cs ls,en a,en c]) rfl (R.KW ha hc)))];rw[aF (oF (t:=.non) (aW (ts:=[RR cs ls]) rfl (R.KH n)))];refine cU (aW (ts:=[.dct (ns.map en) (dV ns b),en c]) (ar (aW (ts:=[RR cs ls,en a]) rfl e) rfl) (cm rfl ?_))
 refine cU ((xQ (p:=(b c).isSome) (cW (aG (t:=en c) (u:=.dct (ns.map en) (dV ns b)) rfl rfl (HE D c)))).trans ?_)
 cases q:b c with
 | none=>rfl
 | some x=>exact aG (t:=eW x) (u:=.int 0) (aG (t:=.dct (ns.map en) (dV ns b)) (u:=en c) rfl rfl (BL D q)) rfl rfl
end
theorem AE {n:Int}{t:T}(ht:t.pl=true)(h:aR t 0 (n - 1)=true):eG [.int n,t] = .ok .non:=by
 refine oB (Z:=[.va (.int n),.va t]) rfl ?_
 show gD [.va (.int n),.va t] =_
 unfold gD;exact(fw (kS (k:=true) (cW (aW (ts:=[t,.int 0,.int (n - 1)]) rfl (by rw[eU _ _ _ ht,h]))))).trans rfl
theorem BA {t:T}(hp:t.pl=true)(h:dX t=true):cL [t] = .ok t:=by
 refine cm rfl ?_
 show eY [.va t] =_
 unfold eY;rw[aF (oF (t:=.non) (aW (ts:=[t]) rfl (gO hp h)))];exact cU rfl
theorem BB {t:T}(hp:t.pl=true)(h:dX t=false):cL [t] = .err "NoRecord":=by
 refine wq rfl ?_
 show eY [.va t] =_
 unfold eY;exact G6 (JC (aW (ts:=[t]) rfl (yM hp h)))
def nJ (t:T):Rs T:=if dX t then .ok t else .err "NoRecord"
theorem x5 {t:T}(hp:t.pl=true):cL [t] =nJ t:=by
 unfold nJ
 cases h:dX t with
 | true=>exact BA hp h
 | false=>exact BB hp h
theorem rA {f:En->Rs T}{Z:En}{t:T}(h:f Z=nJ t):aM f Z=(if dX t then .ok (.rt t)else .err "NoRecord"):=by
 unfold nJ at h
 cases q:dX t with
 | true=>rw[q]at h;exact cU h
 | false=>rw[q]at h;exact G7 h
theorem qT {n m:Nat}{F:En->Rs Fl}{ts:List T}{t:T}(hl:ts.length=n)(h:F (aO m ts)=(if dX t then .ok (.rt t)else .err "NoRecord")):val n m F ts=nJ t:=by
 unfold nJ
 cases q:dX t with
 | true=>rw[q]at h;exact cm hl h
 | false=>rw[q]at h;exact wq hl h
theorem kK {a b:T}(ha:a.pl=true)(hb:b.pl=true):(T.tup [a,b]).pl=true:=by simp[T.pl,plS,ha,hb]
theorem vW {l m:List T}(h1:(T.tup l).pl=true)(h2:(T.tup m).pl=true):(T.tup (l++m)).pl=true:=by
 rw[gv]at*;exact gw λt ht=>(Lw.mp ht).elim (fy h1) (fy h2)
theorem Good.pls {cs ls:List T}(g:Good cs ls):(T.tup ls).pl=true:=by rw[gv];exact gw g.parts.2
theorem rJ {cs ls:List T}{t:T}(hc:(T.tup cs).pl=true)(hl:(T.tup ls).pl=true)(hn:ls.length<=20)(ht:t.pl=true)(ok:dX (RR cs ls)=true):bc [RR cs ls,t] =nJ (.tup [.tup cs,.tup (ls++ [t])]):=by
 refine qT rfl ?_
 show gC [.va (RR cs ls),.va t] =_
 unfold gC;rw[aF (oF (t:=.non) (aW (ts:=[RR cs ls]) rfl (gO (kK hc hl) ok)))];refine rA (aW (ts:=[.tup [.tup cs,.tup (ls++ [t])]]) (ar (cy (ar (t:=.tup cs) rfl (ar (t:=.tup (ls++ [t])) (aG (t:=.tup ls) (u:=.tup [t]) rfl (cy rfl (aE (k:=1) (by simp))) (lj _ _ (by simp;omega))) rfl)) (aE (k:=2) (by simp))) rfl) (x5 (kK hc (vW hl (by simp[T.pl,plS,ht])))))
theorem HG {l:List T}{n:Nat}{f:En->Rs T}{g:En->Rs T}{Z:En}(h:f Z= .ok (.tup l))(hg:g Z= .ok (.int n)):sl f pN (pS g) Z= .ok (.tup (l.take n)):=by
 rw[<-BR];exact Ju h rfl (DZ hg)
theorem HH {l:List T}{n:Nat}{f:En->Rs T}{g:En->Rs T}{Z:En}(h:f Z= .ok (.tup l))(hg:g Z= .ok (.int n)):sl f (pS g) pN Z= .ok (.tup (l.drop n)):=by
 rw[<-vj];exact Ju h (DZ hg) rfl
theorem EA {l:List T}{n:Nat}{f:En->Rs T}{g:En->Rs T}{Z:En}(h:f Z= .ok (.tup l))(hg:g Z= .ok (.int n)):sl f (pS (o2 aL g (cn (.int 1)))) pN Z= .ok (.tup (l.drop (n+1))):=
 HH h (aG (t:=.int n) (u:=.int 1) hg rfl rfl)
def cT (l:List T)(n:Nat)(c:T):List T:=(l.take n++ [c])++l.drop (n+1)
theorem Ds (l:List T)(n:Nat)(c:T):(cT l n c).length<=l.length+1:=by unfold cT;rw[Lb,Lb,Mq,Nx];simp;omega
theorem z0 {l:List T}{n:Nat}{c:T}(h:(T.tup l).pl=true)(hc:c.pl=true):(T.tup (cT l n c)).pl=true:=by
 rw[gv]at*;refine gw λt ht=> ?_
 unfold cT at ht;rcases Lw.mp ht with ht | ht
 ·rcases Lw.mp ht with ht | ht
  ·exact fy h (Qv ht)
  ·cases Lr.mp ht;exact hc
 ·exact fy h (Qw ht)
theorem G8 {l:List T}{n:Nat}{c:T}{f g h:En->Rs T}{Z:En}(hl:l.length<=100)(hf:f Z= .ok (.tup l))(hg:g Z= .ok (.int n))(hc:h Z= .ok c) :
  o2 aL (o2 aL (sl f pN (pS g)) (bB (af h ak))) (sl f (pS (o2 aL g (cn (.int 1)))) pN) Z= .ok (.tup (cT l n c)):=by
 have:=Ds l n c;refine aG (t:=.tup (l.take n++ [c])) (u:=.tup (l.drop (n+1))) (aG (t:=.tup (l.take n)) (u:=.tup [c]) (HG hf hg) (cy (ar hc rfl) (aE (k:=1) (by simp))) (lj _ _ (by simp;omega))) (EA hf hg) (lj _ _ (by unfold cT at this;omega))
theorem uv {cs ls:List T}{n:Nat}{c:T}(g:Good cs ls)(hc:c.pl=true):fz [RR cs ls,.int n,c] =nJ (.tup [.tup (cT cs n c),.tup ls]):=by
 obtain⟨_,_,h4⟩:=bo g.c;refine qT rfl ?_
 show hW [.va (RR cs ls),.va (.int n),.va c,.em] =_
 unfold hW;rw[aF (Z':=[.va (RR cs ls),.va (.int n),.va c,.va (.tup cs)]) (cC (t:=.tup cs) rfl rfl)];exact rA (aW (ts:=[.tup [.tup (cT cs n c),.tup ls]]) (ar (cy (ar (t:=.tup (cT cs n c)) (G8 (by omega) rfl rfl rfl) (ar (t:=.tup ls) rfl rfl)) (aE (k:=2) (by simp))) rfl) (x5 (kK (z0 g.parts.1 hc) g.pls)))
theorem w_in {n m:Nat}(h:n<m):aR (.int n) 0 ((m:Int) - 1)=true:=by unfold aR;simp;omega
theorem pD {cs ls:List T}{n:Nat}{x y u:T}{r:List T}(g:Good cs ls)(hn:n<cs.length)(e:cs[n]? =some (.tup [x,y,.tup r]))(hr:r.length<=4)(hx:x.pl=true)(hy:y.pl=true)(hp:(T.tup r).pl=true)(hu:u.pl=true) :
  bp [RR cs ls,.int n,u] =nJ (.tup [.tup (cT cs n (.tup [x,y,.tup (r++ [u])])),.tup ls]):=by
 refine qT rfl ?_
 show fW [.va (RR cs ls),.va (.int n),.va u,.em] =_
 unfold fW;rw[aF (oF (t:=.non) (aW (ts:=[RR cs ls]) rfl (gO g.p g.ok)))];rw[aF (oF (t:=.non) (aW (ts:=[.int (cs.length:Int),.int n]) rfl (AE rfl (w_in hn))))];rw[aF (Z':=[.va (RR cs ls),.va (.int n),.va u,.va (.tup [x,y,.tup r])]) (cC (t:=.tup [x,y,.tup r]) (kU (n:=n) (l:=cs) rfl rfl e) rfl)];refine rA (aW (ts:=[RR cs ls,.int n,.tup [x,y,.tup (r++ [u])]]) (ar rfl (ar rfl (ar (cy (ar (t:=x) rfl (ar (t:=y) rfl (ar (t:=.tup (r++ [u])) (aG (t:=.tup r) (u:=.tup [u]) rfl (cy rfl (aE (k:=1) (by simp))) (lj _ _ (by simp;omega))) rfl))) (aE (k:=3) (by simp))) rfl))) (uv g ?_))
 have:=vW hp (m:=[u]) (by simp[T.pl,plS,hu])
 simp[T.pl,plS,hx,hy]at this ⊢;exact this
theorem k9 {n:Nat}{l:List T}(h:∀t∈l,t.dep<=n):(T.tup l).dep<=n+1:=by unfold T.dep;have:=yb h;omega
theorem zh {c:T}(h:bj c=true):c.dep<=2:=by
 obtain⟨x,y,r,rfl,_⟩:=fV h;refine k9 λt ht=> ?_
 simp only[Lj,Mo,or_false]at ht;rcases ht with rfl | rfl | rfl
 ·simp[T.dep]
 ·simp[T.dep]
 ·exact k9 (n:=0) λt ht=>by obtain⟨i,_,rfl⟩:=LM.mp ht;simp[T.dep]
theorem wg {cs:List T}{t:T}(h:ba cs t=true):t.dep<=2:=by
 obtain⟨a,b,x,y,rfl,hd,ha,hb,_⟩:=dS h;obtain⟨m1,m2⟩:=Jk h
 have:=(Ff ha).2
 have:=(Ff hb).2
 have hx:x.dep<=2:=by
  unfold dq at hd;rw[K8]at hd;obtain⟨i,rfl,_⟩:=bA hd.1;simp[T.dep]
 unfold T.dep deps deps deps deps deps;obtain⟨a',b',mo,le,e,_⟩:=iX h;cases e;simp only[T.dep];omega
theorem xf {cs ls:List T}(g:Good cs ls):(T.tup cs).dep<=3/\(T.tup ls).dep<=3:=⟨k9 λt ht=>zh ((bo g.c).1 t ht),k9 λt ht=>wg (g.l t ht)⟩
theorem C3 {cs ls:List T}(h:dX (RR cs ls)=true)(hp:(RR cs ls).pl=true):Good cs ls:=by
 have h':(bf (.tup cs)&&(dn (.tup ls) 0 8&&ls.all (ba cs)))=true:=h;rw[K8,K8,LG]at h';exact⟨h'.1,h'.2.2,by have:=h'.2.1;simp[dn]at this;exact this,hp⟩
theorem zU:∀{r:List Int} {k:Nat},mh r=true->k+1<r.length->0<=dr r k
 | [],k,_,h=>by simp at h
 | [a],k,_,h=>by simp at h
 | a::b::r,0,h,_=>by
  rw[C1,K8]at h
  have:=of_decide_eq_true h.1
  show 0<=b - a
  omega
 | a::b::r,k+1,h,hk=>by
  rw[C1,K8]at h;exact zU (r:=b::r) (k:=k) h.2 (by simpa using hk)
theorem wJ {t:T}(h:bj t=true):∃(x y:Int) (r:List Int),t= .tup [.int x,.int y,.tup (r.map .int)]/\(0<=x/\x<=9)/\x<=y/\(∀k,0<=r.getD k 0/\r.getD k 0<=99)/\∀k,k+1<r.length->0<=dr r k:=by
 obtain⟨x,y,r,rfl,h1,h2,h3⟩:=oV h;refine⟨x,y,r,rfl,h1,?_,h3,?_⟩
 ·have h':(jW (.int x) (.int y)&&bx (.tup (r.map .int)))=true:=h
  rw[K8]at h'
  have hp:(aR (.int x) 1 9&&aR (.int y) x 9)=true:=h'.1;rw[K8]at hp;obtain⟨i,e,a,b⟩:=bA hp.2;cases e;exact a
 ·have h':(jW (.int x) (.int y)&&bx (.tup (r.map .int)))=true:=h
  rw[K8]at h'
  have hr:=h'.2;unfold bx at hr;rw[K8]at hr
  have hr2:(((r.map T.int).all λu=>aR u 0 99)&&(match iA (r.map .int)with | some m=>mh m | none=>false))=true:=hr.2
  rw[K8,fQ]at hr2;exact λk hk=>zU hr2.2 hk
theorem tE {u:T}:∀{cs:List T} {i:Nat},u∈bC i cs->∃j c,cs[j]? =some c/\u∈xB (i+j) c
 | [],i,h=>by simp[bC]at h
 | c::cs,i,h=>by
  rw[bC,Lw]at h;rcases h with h | h
  ·exact⟨0,c,rfl,h⟩
  ·obtain⟨j,d,e,hd⟩:=tE h
   exact⟨j+1,d,e,by rw[show i+(j+1)=i+1+j by omega];exact hd⟩
theorem oQ {x y:N2×N2×Int}(h:eB x=eB y):x=y:=by
 obtain⟨a,b,m⟩:=x;obtain⟨a',b',m'⟩:=y;unfold eB at h
 have h':=T.tup.inj h;simp only[PZ,T.int.injEq,and_true]at h';rw[sY h'.1,sY h'.2.1,h'.2.2]
theorem lq {x:T}{c:T}:∀{cs:List T} {i j:Nat},cs[j]? =some c->x∈xB (i+j) c->x∈bC i cs
 | [],i,j,e,_=>by simp at e
 | c'::cs,i,0,e,h=>by
  simp only[List.getElem?_cons_zero,Of]at e
  subst e
  exact LB _ h
 | c'::cs,i,j+1,e,h=>by
  rw[Ms]at e
  exact Lu _ (lq (i:=i+1) e (by rw[show i+1+j=i+(j+1)by omega];exact h))
def ck (x y:Int)(r:List Int):T:=.tup [.int x,.int y,.tup (r.map .int)]
theorem gX {l:List T}{n:Nat}{c:T}(hn:n<l.length)(j:Nat):(cT l n c)[j]? =if j=n then some c else l[j]?:=by
 unfold cT
 have hl:(l.take n).length=n:=by rw[Mq];omega
 by_cases hj:j=n
 ·rw[if_pos hj,hj,LS,L6 (by omega),hl,O7];rfl
 ·rw[if_neg hj]
  rcases Nat.lt_or_gt_of_ne hj with h | h
  ·rw[LS,LN (by omega),Pm h]
  ·rw[L6 (by rw[Lb,hl];simp;omega),Lb,hl,List.getElem?_drop]
   congr 1
   simp only[Li,My];omega
theorem z4 {l:List T}{n:Nat}{c:T}(hn:n<l.length):(cT l n c).length=l.length:=by
 unfold cT;rw[Lb,Lb,Mq,Nx];simp only[Li,My];omega
theorem xi {l:List T}{n:Nat}{c u:T}(h:u∈cT l n c):u=c\/u∈l:=by
 unfold cT at h;rcases Lw.mp h with h | h
 ·rcases Lw.mp h with h | h
  ·exact .inr (Qv h)
  ·exact .inl (Lr.mp h)
 ·exact .inr (Qw h)
theorem c7 {l:List T}{n:Nat}{c:T}(h:l[n]? =some c):cT l n c=l:=by
 have hn:=(Ll.mp h).1
 refine Ro λj=> ?_
 rw[gX hn]
 by_cases hj:j=n
 ·rw[if_pos hj,hj,h]
 ·rw[if_neg hj]
theorem oG {cs ds:List T}{t:T}(hl:cs.length=ds.length)(h:∀j:Nat,vA (cs.getD j .non)<=vA (ds.getD j .non))(e:aV cs t=true):aV ds t=true:=by
 obtain⟨c,k,rfl⟩:=cM e
 have e':((decide (0<=c)&&decide (c<cs.length))&&(decide (0<=k)&&decide (k<reads cs c)))=true:=e
 show((decide (0<=c)&&decide (c<ds.length))&&(decide (0<=k)&&decide (k<reads ds c)))=true
 simp only[K8,decide_eq_true_iff]at e' ⊢;obtain⟨⟨h1,h2⟩,h3,h4⟩:=e';obtain⟨j,rfl⟩:=LU h1
 have q:=h j;rw[lz]at h4 ⊢;exact⟨⟨h1,by omega⟩,h3,by omega⟩
theorem yT {cs ds:List T}{t:T}(hl:cs.length=ds.length)(h:∀j:Nat,vA (cs.getD j .non)<=vA (ds.getD j .non))(e:ba cs t=true):ba ds t=true:=by
 unfold ba at e ⊢
 split at e
 ·simp only[K8]at e ⊢
  exact⟨e.1,oG hl h e.2.1,oG hl h e.2.2.1,e.2.2.2⟩
 ·cases e
theorem rC (x y:Int)(r:List Int):vA (ck x y r)=r.length:=by show(r.map T.int).length=_;rw[Lh]
theorem BW {x y:Int}{r:List Int}(h1:1<=x)(h2:x<=y)(h3:y<=9)(hr:bx (.tup (r.map .int))=true):bj (ck x y r)=true:=by
 show(true&&(jW (.int x) (.int y)&&bx _))=true
 rw[hr];simp only[jW,aR,Oz,Q9,K8,decide_eq_true_eq];omega
theorem mr {x y:Int}{r:List Int}(h:bj (ck x y r)=true):(1<=x/\x<=y/\y<=9)/\bx (.tup (r.map .int))=true:=by
 have h':(jW (.int x) (.int y)&&bx (.tup (r.map .int)))=true:=h;rw[K8]at h'
 have hp:(aR (.int x) 1 9&&aR (.int y) x 9)=true:=h'.1;rw[K8]at hp;obtain⟨i,e,a,b⟩:=bA hp.1;cases e;obtain⟨i,e,a',b'⟩:=bA hp.2;cases e;exact⟨⟨a,a',b'⟩,h'.2⟩
theorem JS (x y:Int)(r:List Int):(ck x y r).pl=true:=by
 have:(T.tup (r.map .int)).pl=true:=by rw[gv];exact gw λu hu=>by obtain⟨k,_,rfl⟩:=LM.mp hu;rfl
 unfold ck;rw[gv];refine gw λu hu=> ?_
 simp only[Lj,Mo,or_false]at hu;rcases hu with rfl | rfl | rfl
 ·rfl
 ·rfl
 ·exact this
section
variable {cs ls:List T}{L:bJ N2}{P:List N2}
theorem Good.put (g:Good cs ls){n:Nat}{x y x' y':Int}{r r':List Int}(e:cs[n]? =some (ck x y r))(hc:bj (ck x' y' r')=true)(hr:r.length<=r'.length):Good (cT cs n (ck x' y' r')) ls:=by
 have hn:=(Ll.mp e).1
 obtain⟨c0,c1,c4⟩:=bo g.c
 have hl:=z4 (c:=ck x' y' r') hn;refine⟨?_,λt ht=>yT hl.symm (λj=> ?_) (g.l t ht),g.n,?_⟩
 ·show(dn (.tup (cT cs n (ck x' y' r'))) 1 4&&(cT cs n (ck x' y' r')).all bj)=true
  rw[K8,LG];refine⟨by simp[dn];omega,λc h=> ?_⟩
  rcases xi h with rfl | h
  ·exact hc
  ·exact c0 c h
 ·rw[MM,MM,gX hn]
  by_cases hj:j=n
  ·rw[if_pos hj,hj,e]
   show vA (ck x y r)<=vA (ck x' y' r')
   rw[rC,rC];exact hr
  ·rw[if_neg hj];exact Lo _
 ·have:=z0 (n:=n) g.parts.1 (JS x' y' r')
  exact kK this g.pls
theorem kZ:∀{cs ds:List T} {i:Nat},dv i (cs++ds)=dv i cs++dv (i+cs.length) ds
 | [],ds,i=>rfl
 | c::cs,ds,i=>by
  rw[PL,dv,dv,kZ,LS,Li,show i+1+cs.length=i+(cs.length+1)by omega]
end
theorem qB (i n:Nat):gU i (n+1)=gU i n++ [.tup [.int i,.int n]]:=by
 unfold gU;rw[ji,ji,OM,LY,LY]
 rfl
theorem x6 {r:List Int}{w:Int}{k:Nat}(h:k+1<r.length):dr (r++ [w]) k=dr r k:=by
 unfold dr;simp only[MM]
 rw[LN h,LN (by omega)]
theorem tf {l:List Int}{z w:Int}:dr (l++ [z] ++ [w]) l.length=w - z:=by
 unfold dr;simp only[MM]
 rw[L6 (by simp),LN (by simp),L6 (by omega)]
 simp
section
variable {cs ls:List T}{L:bJ N2}{P:List N2}{t:N2->Int}
theorem yA {n:Nat}{c:T}(h:cs[n]? =some c):cs=cs.take n++ [c] ++cs.drop (n+1):=(c7 h).symm
theorem sX:∀{A B:List N2},A.map en=B.map en->A=B
 | [],[],_=>rfl
 | [],_::_,h=>by simp at h
 | _::_,[],h=>by simp at h
 | v::A,a::B,h=>by
  rw[Lf,Lf,PZ]at h;rw[sY h.1,sX h.2]
end
end G
set_option maxHeartbeats 1000000
namespace G
open PySem Tr
theorem AB {D:Bool}:∀{l:List T},(∀t∈l,t.nk D=true)->nks D l=true
 | [],_=>rfl
 | t::l,h=>by unfold nks;rw[h t (.head _),AB λu hu=>h u (.tail _ hu)];rfl
theorem lK {D:Bool}{l:List T}(h:∀t∈l,t.nk D=true):(T.tup l).nk D=true:=by unfold T.nk;exact AB h
theorem BV {c:T}(h:bj c=true):c.nk false=true:=by
 obtain⟨x,y,r,rfl,_⟩:=fV h;refine lK λt ht=> ?_
 simp at ht
 rcases ht with rfl | rfl | rfl
 ·rfl
 ·rfl
 ·exact lK λu hu=>by obtain⟨k,_,rfl⟩:=LM.mp hu;rfl
theorem vc {cs:List T}{t:T}(h:aV cs t=true):t.nk false=true:=by
 obtain⟨c,k,rfl⟩:=cM h;rfl
theorem yS {cs:List T}{t:T}(h:ba cs t=true):t.nk false=true:=by
 obtain⟨a,b,x,y,rfl,hd,ha,hb,_⟩:=dS h;unfold dq at hd;rw[K8]at hd;obtain⟨i,rfl,_⟩:=bA hd.1;refine lK λt ht=> ?_
 simp at ht
 rcases ht with rfl | rfl | rfl | rfl
 ·exact vc ha
 ·exact vc hb
 ·rfl
 ·have:=hd.2
  cases t <;> first | rfl | simp[aR]at this
def GR (r:T):Prop:=∃cs ls,r=RR cs ls/\Good cs ls
theorem GR.pl {r:T}(h:GR r):r.pl=true:=by obtain⟨cs,ls,rfl,g⟩:=h;exact g.p
theorem GR.nk {r:T}(h:GR r):r.nk false=true:=by
 obtain⟨cs,ls,rfl,g⟩:=h;refine lK λt ht=> ?_
 simp at ht
 rcases ht with rfl | rfl
 ·exact lK λc hc=>BV ((bo g.c).1 c hc)
 ·exact lK λu hu=>yS (g.l u hu)
theorem GR.dep {r:T}(h:GR r):r.dep<=4:=by
 obtain⟨cs,ls,rfl,g⟩:=h;refine k9 λt ht=> ?_
 simp at ht
 rcases ht with rfl | rfl
 ·exact(xf g).1
 ·exact(xf g).2
theorem GR.hw {r:T}(h:GR r):∃b,aY [r] = .ok (.bl b):=by
 obtain⟨cs,ls,rfl,g⟩:=h;obtain⟨L,P,R⟩:=mi g;obtain⟨b,e,_⟩:=R.KJ;exact⟨b,e⟩
abbrev sp (w r:T):T:=.tup [w,r]
theorem uY (l:List T)(z:T):aQ (.lst (l++ [z])) (.int (-1))= .ok z:=by
 have:=mT l z;exact this
end G
namespace G
open PySem Tr Gr
section
variable {cs ls:List T}{L:bJ N2}{P:List N2}{i:Nat}{x y:Int}{r:List Int}
def cw (b:Bool)(cs:List T)(v:N2):Int:=match cs[v.c.toNat]? with
 | some (.tup [.int x,.int y,.tup r])=>(if b then y else x)*((iA r).getD []).getD v.k.toNat 0
 | _=>0
theorem Fh (b:Bool)(e:cs[i]? =some (.tup [.int x,.int y,.tup (r.map .int)]))(k:Nat):cw b cs ⟨i,(k:Nat)⟩=(if b then y else x)*r.getD k 0:=by
 unfold cw;simp only[ME,e,fQ,Option.getD_some]
theorem Rd.cw0 (R:Rd cs [] L P)(b:Bool):Holds L (cw b cs):=λu v m hx=>by
 have hb:eB (u,v,m)∈wK cs []:=by rw[R.b];exact LM.mpr ⟨_,hx,rfl⟩
 unfold wK at hb;rw[List.flatMap_nil,LR]at hb;obtain⟨j,c,hj,hu⟩:=tE hb;rw[MK]at hu;obtain⟨x,y,r,rfl,_,xy,_,dd⟩:=wJ ((bo R.g.c).1 _ (Mu hj));rw[km]at hu;obtain⟨k,hk,hu⟩:=MV.mp hu
 have hk':=L4.mp hk
 have d0:=dd k (by omega)
 have c1:=Fh b hj k
 have c2:=Fh b hj (k+1)
 have fx:x<=(if b then y else x)/\(if b then y else x)<=y:=by cases b <;> simp[xy]
 revert fx c1 c2
 generalize (if b then y else x)=z
 intro c1 c2 fx
 have m1:=Ny fx.1 d0
 have m2:=Ny fx.2 d0
 have ed:z*r.getD (k+1) 0 - z*r.getD k 0=dr r k*z:=by unfold dr;rw[<-Int.mul_sub,P4]
 unfold pr at hu;simp only[Lj,Mo,or_false]at hu;rcases hu with hu | hu
 ·have:=oQ (y:=(⟨j,k⟩,⟨j,((k+1:Nat):Int)⟩,dr r k*y)) hu
  cases this;rw[c1,c2];omega
 ·have:=oQ (y:=(⟨j,((k+1:Nat):Int)⟩,⟨j,k⟩,-dr r k*x)) hu
  cases this;rw[c1,c2,Sg];omega
theorem Rd.inL (R:Rd cs ls L P){x:N2×N2×Int}(h:eB x∈wK cs ls):x∈L:=by
 rw[R.b]at h;obtain⟨y,hy,e⟩:=LM.mp h;rw[<-oQ e];exact hy
end
def gR (r:T):Bool:=match aY [r]with
 | .ok (.bl b)=>b
 | _=>false
theorem GR.has {r:T}(h:GR r):aY [r] = .ok (.bl (gR r)):=by
 obtain⟨b,e⟩:=h.hw;unfold gR;rw[e]
theorem oH {cs ls:List T}{L:bJ N2}{P:List N2}(R:Rd cs ls L P):gR (RR cs ls)=true↔eX L:=by
 obtain⟨b,e,h⟩:=R.KJ;unfold gR;rw[e];exact h
theorem GR.nw {r:T}(h:GR r)(hw:gR r=true):cO [r] = .ok .non:=by
 obtain⟨cs,ls,rfl,g⟩:=h;obtain⟨L,P,R⟩:=mi g;exact R.KH ((oH R).mp hw)
theorem Hn {cs ls:List T}(g:Good cs ls):gR (RR cs [])=true:=by
 obtain⟨M,Q,S⟩:=mi (g.sub (ms:=[]) (λu hu=>by cases hu) (by simp))
 exact(oH S).mpr (S.cw0 true).Kt
def oI (o:Option Int):T:=match o with
 | some x=> .int x
 | none=> .non
section
variable {cs ls:List T}{L:bJ N2}{P:List N2}{ns:List Int}
theorem DQ {a:N2}{b:bZ N2}{f:fI N2}(S:Settled L [a] b)(F:o7 L P f)(ha:a∈P)(c:N2):EZ (b c)=oI (f a c):=by
 cases q:b c with
 | none=>
  cases e:f a c with
  | none=>rfl
  | some y=>
   obtain⟨d,w,z,_⟩:=S.least a (by simp) c y (F.is a c y e)
   rw[q]at z;cases z
 | some x=>
  obtain⟨d,w⟩:=x;obtain⟨s,hs,h1,h2,_⟩:=S.walk c d w q;rw[Lr.mp hs]at h1
  have wk:Wk L a c d:=h2▸h1.wk;obtain⟨y,e,hy⟩:=F.le a ha c d wk;obtain⟨d',w',z,hd⟩:=S.least a (by simp) c y (F.is a c y e)
  rw[q]at z;cases z;rw[e]
  show T.int d= .int y
  congr 1
  omega
theorem Rd.KB (R:Rd cs ls L P)(n:eX L){f:fI N2}(F:o7 L P f){a c:N2}(ha:a∈P)(hc:c∈P):bq [(RR cs ls),en a,en c] = .ok (oI (f a c)):=by
 obtain⟨b,S,e⟩:=R.K6 n ha hc;rw[e,DQ S F ha]
def xv (o:Option Int):T:=match o with
 | some x=> .int (0 - x)
 | none=> .non
theorem Rd.Ku (R:Rd cs ls L P)(n:eX L){f:fI N2}(F:o7 L P f){a c:N2}(ha:a∈P)(hc:c∈P):br [(RR cs ls),en a,en c] = .ok (xv (f c a)):=by
 refine cm rfl ?_
 show fj [.va (RR cs ls),.va (en a),.va (en c),.em] =_
 unfold fj;rw[aF (Z':=[.va (RR cs ls),.va (en a),.va (en c),.va (oI (f c a))]) (cC (aW (ts:=[(RR cs ls),en c,en a]) rfl (R.KB n F hc ha)) rfl)]
 cases f c a with
 | none=>exact cU ((xQ (p:=true) (cW (aG (t:=.non) (u:=.non) rfl rfl rfl))).trans rfl)
 | some x=>
  refine cU ((xQ (p:=false) (cW (aG (t:=.int x) (u:=.non) rfl rfl rfl))).trans ((A2 (t:=.int x) rfl rfl).trans ?_))
  show Rs.ok (T.int (-x))= .ok (.int (0 - x))
  rw[Int.zero_sub]
end
end G
set_option maxHeartbeats 1000000
namespace G
open PySem Tr
def rc:T->T
 | .tup [_,r] =>r
 | _=> .non
abbrev DK (K:List T):OT:=.ob "Desk" ["kept"] [K]
abbrev DV (K:List T):T:=.ob "Desk" ["kept"] [.lst K]
theorem sQ {α:Type}(K:α):kY "kept" ["kept"] [K] =some K:=by unfold kY;rw[if_pos rfl]
theorem Al (K Q:List T):j7 "kept" Q ["kept"] [K] = [Q]:=by unfold j7;rw[if_pos rfl]
theorem Ew {r:T}(h:GR r)(hw:gR r=true):dD [.ow (.ob "Desk" [] []),.va r] = .ok (.non,DK [r]):=by
 refine sI (Z:=[.ow (DK [r]),.va r]) rfl ?_ rfl
 show fm [.ow (.ob "Desk" [] []),.va r] =_
 unfold fm;refine ej (Z':=[.ow (.ob "Desk" [] []),.va r]) (uW (t:=.non) (wm (aW (ts:=[r]) rfl (h.nw hw)))) ?_
 exact(He (c:="Desk") (ns:=[]) (ls:=[]) (l:=[r]) rfl rfl (by simp) (by simp)).trans rfl
theorem JQ (K:List T)(r:T):aJ [DV (K++ [r])] = .ok r:=
 cm rfl (cU (aG (E9 (ns:=["kept"]) (ts:=[.lst (K++ [r])]) rfl (sQ _)) (A2 rfl rfl) (uY K r)))
section
variable {K:List T}{r r' t:T}{Z:En}
theorem g9 {i:Nat}(hi:Z[i]? =some (.ow (DK (K++ [r]))))(h:GR r):ln i (qr "Desk" "record" aJ (vr i) ak) Z= .ok r:=by
 have hl:i<Z.length:=(Ll.mp hi).1
 refine A4 hi (E8 (c:="Desk") (ns:=["kept"]) (ts:=[.lst (K++ [r])]) (uV ?_) (by decide) rfl (JQ K r)) h.nk
 unfold disown;rw[hi];simp[hl];rfl
theorem Bz (h:GR r)(hw:gR r=true)(hl:K.length<=1000):df [.ow (DK K),.va r] = .ok (.non,DK (K++ [r])):=by
 refine sI (Z:=[.ow (DK (K++ [r])),.va r]) rfl ?_ rfl
 show e9 [.ow (DK K),.va r] =_
 unfold e9;refine ej (Z':=[.ow (DK K),.va r]) ((qu (k:=false) (kS (k:=true) (cW (aW (ts:=[r]) rfl (by rw[h.has,hw]))))).trans rfl) ?_
 exact uW (t:=.non) ((G5 (ns:=["kept"]) (ls:=[K]) (l:=K) (t:=r) rfl (sQ _) rfl hl).trans (by rw[Al];rfl))
theorem Eu (h:GR r)(hw:gR r=false):df [.ow (DK K),.va r] = .err "Barred":=by
 refine xM rfl ?_
 show e9 [.ow (DK K),.va r] =_
 unfold e9;exact xN ((qu (k:=true) (kS (k:=false) (cW (aW (ts:=[r]) rfl (by rw[h.has,hw]))))).trans rfl)
theorem Hv {cs ls:List T}(h:GR r)(hx:bc [r,t] = .ok (RR cs ls))(h':GR (RR cs ls))(hw:gR (RR cs ls)=true)(hl:(K++ [r]).length<=1000) :
  eR [.ow (DK (K++ [r])),.va t] = .ok (.int ((ls.length:Int) - 1),DK (K++ [r] ++ [RR cs ls])):=by
 refine oC (Z:=[.ow (DK (K++ [r] ++ [RR cs ls])),.va t]) rfl ?_ rfl
 show eZ [.ow (DK (K++ [r])),.va t] =_
 unfold eZ;refine ej (uW (kR (c:="Desk") (ns:=["kept"]) (ls:=[K++ [r]]) (ts:=[RR cs ls]) rfl (by decide) (ar (aW (ar (g9 rfl h) rfl) hx) rfl) (Bz h' hw hl))) ?_
 exact sJ (wm (aG (t:=.int (ls.length:Nat)) (u:=.int 1) (aW (ts:=[.tup ls]) (ar (kU (n:=1) (l:=[.tup cs,.tup ls]) (g9 (K:=K++ [r]) rfl h') rfl rfl) rfl) rfl) rfl rfl))
theorem Er (h:GR r)(hx:bc [r,t] = .ok r')(h':GR r')(hw:gR r'=false):eR [.ow (DK (K++ [r])),.va t] = .err "Barred":=by
 refine xM rfl ?_
 show eZ [.ow (DK (K++ [r])),.va t] =_
 unfold eZ;exact xN (Hf (uT (c:="Desk") (ns:=["kept"]) (ls:=[K++ [r]]) (ts:=[r']) rfl (by decide) (ar (aW (ar (g9 rfl h) rfl) hx) rfl) (Eu h' hw)))
end
end G
namespace G
open PySem Tr Gr
section
variable {cs ls:List T}{L M:bJ N2}{P:List N2}{f:fI N2}{ns:List Int}{t:N2->Int}
theorem Rd.pos (R:Rd cs ls L P):0<P.length:=by
 obtain⟨hcl,c1,_⟩:=bo R.g.c
 have e:=congrArg M4 R.e;rw[Lh]at e;rw[<-e]
 cases cs with
 | nil=>simp at c1
 | cons c cs=>
  obtain⟨x,y,r,rfl,r1,_⟩:=dJ (hcl c Lg);rw[dv,Lb,gS]
  show 0<r.length+_
  omega
theorem Rd.pick (R:Rd cs ls L P)(hn:ns.length<=63)(k:Nat):∃r v,v∈P/\aw [.scr ns,.int k,.int (P.length:Nat)] = .ok (.int r)/\aQ (eS P) (.int r)= .ok (en v):=by
 have:=R.pos;obtain⟨r,e,r0,r1⟩:=cG ns k (P.length:Nat) hn (by omega)
 obtain⟨t,ht,e2⟩:=Dy (l:=P.map en) r0 (by rw[Lh];exact r1)
 obtain⟨v,hv,rfl⟩:=LM.mp ht;exact⟨r,v,hv,e,e2⟩
theorem AK {P:List N2}{f:En->Rs T}{Z:En}(h:f Z= .ok (eS P)):cl bL (af f ak) Z= .ok (.int (P.length:Nat)):=aW (ts:=[eS P]) (ar h rfl) (by show Rs.ok (T.int ((P.map en).length:Nat))=_;rw[Lh])
end
open Classical in
section
variable {P:List N2}{L M N:bJ N2}{f g:fI N2}
theorem kP (he:∀x∈L,x.1∈P/\x.2.1∈P)(n:eX L):o7 L P (table P L):=(tW he λu _ y h=>Int.not_lt.mp λz=>yw h z n).2
end
section
variable {cs ls ms:List T}{L M:bJ N2}{P:List N2}
def deB (t:T):N2×N2×Int:=match t with
 | .tup [.tup [.int a,.int b],.tup [.int c,.int d],.int m] =>(⟨a,b⟩,⟨c,d⟩,m)
 | _=>(⟨0,0⟩,⟨0,0⟩,0)
def lim (cs ls:List T):bJ N2:=(wK cs ls).map deB
end
end G
set_option maxHeartbeats 1000000
namespace G
open PySem Tr Gr
section
variable {K:List T}{r r' t:T}{Z Z':En}
theorem Hz (K:List T):cv [DV K] = .ok (.int ((K.length:Int) - 1)):=
 cm rfl (cU (aG (aW (ts:=[.lst K]) (ar (E9 (ns:=["kept"]) (ts:=[.lst K]) rfl (sQ _)) rfl) rfl) rfl rfl))
theorem wu {i:Nat}(hi:Z[i]? =some (.ow (DK K))):ln i (qr "Desk" "many" cv (vr i) ak) Z= .ok (.int ((K.length:Int) - 1)):=by
 have hl:i<Z.length:=(Ll.mp hi).1
 refine A4 hi (E8 (c:="Desk") (ns:=["kept"]) (ts:=[.lst K]) (uV ?_) (by decide) rfl (Hz K)) rfl
 unfold disown;rw[hi];simp[hl];rfl
theorem Hu (r:T)(h:K≠ []):eQ [.ow (DK (K++ [r]))] = .ok (.non,DK K):=by
 refine sI (Z:=[.ow (DK K)]) rfl ?_ rfl
 show je [.ow (DK (K++ [r]))] =_
 unfold je
 have hl:0<K.length:=List.length_pos_iff.mpr h;refine ej (Z':=[.ow (DK (K++ [r]))]) ((qu (k:=false) (cW ((aG (u:=.int 0) (wu rfl) rfl (sW _ _)).trans ?_))).trans rfl) ?_
 ·rw[show((((K++ [r]).length:Int) - 1) == 0)=false by rw[Lb];simp;omega]
 ·exact uW (t:=r) ((G3 (ns:=["kept"]) (ls:=[K++ [r]]) (l:=K) rfl (sQ _)).trans (by rw[Al];rfl))
theorem Bw {cs ls:List T}(h:GR r)(hx:bc [r,t] = .ok (RR cs ls))(h':GR (RR cs ls))(hw:gR (RR cs ls)=true)(hl:(K++ [r]).length<=1000):cP [.ow (DK (K++ [r])),.va t] = .ok (.bl true,DK (K++ [r] ++ [RR cs ls])):=by
 refine oC (Z:=[.ow (DK (K++ [r] ++ [RR cs ls])),.va t]) rfl (Hd (sJ ?_)) rfl
 refine AX (t:=.int ((ls.length:Int) - 1)) (u:=.int ((ls.length:Int) - 1)) (kR (c:="Desk") (ns:=["kept"]) (ls:=[K++ [r]]) (ts:=[t]) rfl (by decide) rfl (Hv h hx h' hw hl)) ?_ (Em rfl (by simp[T.dep]))
 exact aG (t:=.int (ls.length:Nat)) (u:=.int 1) (aW (ts:=[.tup ls]) (ar (kU (n:=1) (l:=[.tup cs,.tup ls]) (g9 (K:=K++ [r]) rfl h') rfl rfl) rfl) rfl) rfl rfl
theorem G4 {r:T->T->Rs T}{x:En->Rs (T×En)}{f:En->Rs T}{d:Str}(h:x Z= .err d):vz r x f Z= .err d:=by unfold vz;rw[h];rfl
theorem Bx (h:GR r)(hx:bc [r,t] = .ok r')(h':GR r')(hw:gR r'=false):cP [.ow (DK (K++ [r])),.va t] = .ok (.bl false,DK (K++ [r])):=by
 refine oC (Z:=[.ow (DK (K++ [r])),.va t]) rfl (D7 (d:="Barred") (D8 (G4 (uT (c:="Desk") (ns:=["kept"]) (ls:=[K++ [r]]) (ts:=[t]) rfl (by decide) rfl (Er h hx h' hw)))) (by unfold Be;rw[if_pos rfl])) rfl
theorem GR.ne {r:T}(h:GR r):pY r r= .ok (.bl false):=jm h.pl (by have:=h.dep;omega)
end
section
variable {cs ls ms:List T}{L:bJ N2}{P:List N2}{u v:N2}{ns:List Int}
theorem wl (g:Good cs ms){l:T}(hl:ba cs l=true)(hp:l.pl=true)(hn:ms.length<8):bc [RR cs ms,l] = .ok (RR cs (ms++ [l]))/\Good cs (ms++ [l]):=by
 have g':Good cs (ms++ [l]):=⟨g.c,λt ht=>(Lw.mp ht).elim (g.l t) λz=>by rw[Lr.mp z];exact hl,by rw[Lb];simp;omega,kK g.parts.1 (vW g.pls (by simp[T.pl,plS,hp]))⟩
 refine⟨?_,g'⟩
 rw[rJ g.parts.1 g.pls (by omega) hp g.ok]
 unfold nJ;rw[if_pos g'.ok]
end
end G
set_option maxHeartbeats 1000000
namespace G
open PySem Tr Gr
structure Grow (L M:bJ N2)(a e:N2)(p q:Int):Prop where
 mem:∀x,x∈M↔x∈L\/x=(a,e,p)\/x=(e,a,q)
 ne:∀x∈L,x.1≠e/\x.2.1≠e
 pq:0<=p+q
 ae:a≠e
section
variable {L M:bJ N2}{a e:N2}{p q:Int}{P Q:List N2}{f g:fI N2}
theorem Grow.wk (G:Grow L M a e p q){u v:N2}{s:Int}(w:Wk M u v s)(hv:v≠e):(u=e->∃s',Wk L a v s'/\s'+q<=s)/\(u≠e->∃s',Wk L u v s'/\s'<=s):=by
 induction w with
 | nil a0=>exact⟨λz=>absurd z hv,λ_=>⟨0,.nil _,by omega⟩⟩
 | @step a0 b c m s hx w ih=>
  have ih:=ih hv
  rcases(G.mem _).mp hx with h | h | h
  ·obtain⟨n1,n2⟩:=G.ne _ h
   refine⟨λz=>absurd z n1,λ_=> ?_⟩
   obtain⟨s',w',l⟩:=ih.2 n2;exact⟨m+s',.step h w',by omega⟩
  ·cases h
   refine⟨λz=>absurd z G.ae,λ_=> ?_⟩
   obtain⟨s',w',l⟩:=ih.1 rfl;exact⟨s',w',by have:=G.pq;omega⟩
  ·cases h
   refine⟨λ_=> ?_,λz=>absurd rfl z⟩
   obtain⟨s',w',l⟩:=ih.2 G.ae;exact⟨s',w',by omega⟩
theorem Grow.Kt (G:Grow L M a e p q){t:N2->Int}(h:Holds L t):eX M:=by
 refine Holds.Kt (t:=λw=>if w=e then t a+p else t w) λx y m hx=> ?_
 rcases(G.mem _).mp hx with z | z | z
 ·obtain⟨n1,n2⟩:=G.ne _ z
  dsimp only at n1 n2 ⊢
  rw[if_neg n1,if_neg n2];exact h x y m z
 ·cases z
  dsimp only
  rw[if_pos rfl,if_neg G.ae];omega
 ·cases z
  dsimp only
  rw[if_pos rfl,if_neg G.ae]
  have:=G.pq;omega
theorem Grow.tab (G:Grow L M a e p q)(F:o7 L P f)(F':o7 M Q g){u v:N2}(hu:u∈P)(hu':u∈Q)(nu:u≠e)(nv:v≠e):g u v=f u v:=by
 have up:∀x∈L,x∈M:=λx hx=>(G.mem x).mpr (.inl hx)
 cases q1:f u v with
 | none=>
  cases q2:g u v with
  | none=>rfl
  | some d=>
   obtain⟨s',w',_⟩:=(G.wk (F'.is u v d q2) nv).2 nu;obtain⟨d',e',_⟩:=F.le u hu v s' w'
   rw[q1]at e';cases e'
 | some d=>
  obtain⟨d',e',l1⟩:=F'.le u hu' v d ((F.is u v d q1).mono up);obtain⟨s',w',l2⟩:=(G.wk (F'.is u v d' e') nv).2 nu;obtain⟨d2,e2,l3⟩:=F.le u hu v s' w';rw[q1]at e2;cases e2;rw[e',show d'=d by omega]
end
theorem vS {l:List Int}{z w:Int}(h:bx (.tup ((l++ [z]).map .int))=true)(hw:z<w)(h9:w<=99)(h3:(l++ [z]).length<=3):bx (.tup ((l++ [z] ++ [w]).map .int))=true:=by
 unfold bx at h ⊢;rw[K8]at h ⊢
 have h2:((((l++ [z]).map T.int).all λu=>aR u 0 99)&&(match iA ((l++ [z]).map .int)with | some m=>mh m | none=>false))=true:=h.2
 rw[K8,fQ]at h2
 have hz:0<=z:=by
  have:=LG.mp h2.1 (.int z) (LM.mpr ⟨z,by simp,rfl⟩)
  obtain⟨i,e,a,_⟩:=bA this;cases e;exact a
 refine⟨?_,?_⟩
 ·simp only[Lb,Li,My]at h3
  simp[dn];omega
 ·show((((l++ [z] ++ [w]).map T.int).all λu=>aR u 0 99)&&(match iA ((l++ [z] ++ [w]).map .int)with | some m=>mh m | none=>false))=true
  rw[K8,fQ];refine⟨?_,nI l z w h2.2 hw⟩
  rw[LY,List.all_append,h2.1];simp[aR];omega
section
variable {cs ls:List T}{L:bJ N2}{P:List N2}
theorem Rd.grow (R:Rd cs ls L P){n:Nat}{x y z w:Int}{l:List Int}(e:cs[n]? =some (ck x y (l++ [z])))(hw:z<w)(h9:w<=99)(hl:(l++ [z]).length<=3) :
  ∃(M:bJ N2) (Q:List N2),Rd (cT cs n (ck x y (l++ [z] ++ [w]))) ls M Q/\(∀u∈P,u∈Q/\u≠⟨(n:Nat),((l.length+1:Nat):Int)⟩)/\(⟨(n:Nat),((l.length+1:Nat):Int)⟩:N2)∈Q/\(⟨(n:Nat),(l.length:Nat)⟩:N2)∈P ∧
   Grow L M ⟨(n:Nat),(l.length:Nat)⟩ ⟨(n:Nat),((l.length+1:Nat):Int)⟩ ((w - z)*y) (-(w - z)*x):=by
 have hn:=(Ll.mp e).1
 have hc:=mr ((bo R.g.c).1 _ (Mu e))
 have g2:Good (cT cs n (ck x y (l++ [z] ++ [w]))) ls:=R.g.put e (BW hc.1.1 hc.1.2.1 hc.1.2.2 (vS hc.2 hw h9 hl)) (by simp)
 obtain⟨M,Q,S⟩:=mi g2
 have tl:(cs.take n).length=n:=by rw[Mq];omega
 have e1:dv 0 cs=(dv 0 (cs.take n)++gU n (l.length+1))++dv (n+1) (cs.drop (n+1)):=by
  conv=>lhs;rw[yA e]
  rw[kZ,kZ,Lb,tl,MK,MK]
  show(_++(gU n (vA (ck x y (l++ [z])))++ []))++_=_
  rw[rC,LR,Lb]
  rfl
 have e2:dv 0 (cT cs n (ck x y (l++ [z] ++ [w])))=((dv 0 (cs.take n)++gU n (l.length+1))++ [.tup [.int n,.int ((l.length+1:Nat):Int)]])++dv (n+1) (cs.drop (n+1)):=by
  unfold cT;rw[kZ,kZ,Lb,tl,MK,MK]
  show(_++(gU n (vA (ck x y (l++ [z] ++ [w])))++ []))++_=_
  rw[rC,LR,Lb,Lb]
  show(_++gU n (l.length+1+1))++_=_
  rw[qB n (l.length+1),<-LS]
  rfl
 rw[R.e]at e1;obtain⟨A,B,hP,hA,hB_⟩:=PQ.mp e1
 have hQ:Q=A++ [⟨(n:Nat),((l.length+1:Nat):Int)⟩] ++B:=sX (by rw[<-S.e,e2,LY,LY,hA,hB_];rfl)
 subst hQ
 have la:∃A',A=A'++ [⟨(n:Nat),(l.length:Nat)⟩]:=by
  rw[qB,<-LS]at hA;obtain⟨A',C,hh,_,hC⟩:=PQ.mp hA
  have:C= [⟨(n:Nat),(l.length:Nat)⟩]:=sX (by rw[hC];rfl)
  exact⟨A',by rw[hh,this]⟩
 obtain⟨A',hA'⟩:=la
 have nv:(⟨(n:Nat),((l.length+1:Nat):Int)⟩:N2)∉P:=by
  have nd:=S.nd;rw[LS,Mg]at nd;obtain⟨_,n2,n3⟩:=nd;rw[P5,LF]at n2;rw[hP];intro h;rcases Lw.mp h with h | h
  ·exact n3 _ h _ (by simp) rfl
  ·exact n2.1 h
 have up:(⟨(n:Nat),(l.length:Nat)⟩:N2)∈P:=by rw[hP,hA'];simp
 refine⟨M,_,S,λu hu=>⟨?_,λz=>nv (by rw[<-z];exact hu)⟩,by simp,up,?_⟩
 ·rw[hP]at hu
  rcases Lw.mp hu with z | z
  ·exact LB _ (LB _ z)
  ·exact Lu _ z
 have inM:∀w',eB w'∈wK (cT cs n (ck x y (l++ [z] ++ [w]))) ls->w'∈M:=λw' hw'=>S.inL hw'
 refine⟨λv=>⟨λhv=> ?_,λhv=> ?_⟩,λv hv=> ?_,?_,λz=>nv (by rw[<-z];exact up)⟩
 ·have hb:eB v∈wK (cT cs n (ck x y (l++ [z] ++ [w]))) ls:=by rw[S.b];exact LM.mpr ⟨v,hv,rfl⟩
  unfold wK at hb;rcases Lw.mp hb with hb | hb
  ·obtain⟨j,c,hj,hu⟩:=tE hb
   rw[gX hn]at hj;rw[MK]at hu
   by_cases hjn:j=n
   ·rw[if_pos hjn]at hj
    cases hj;subst hjn;unfold ck at hu;rw[km]at hu;obtain⟨k,hk,hu⟩:=MV.mp hu
    have hk':=L4.mp hk;simp only[Lb,Li,My]at hk'
    by_cases hkl:k<l.length
    ·refine .inl (R.inL ?_)
     refine LB _ (lq (i:=0) (j:=j) e ?_)
     rw[MK];unfold ck;rw[km];refine MV.mpr ⟨k,L4.mpr (by simp only[Lb,Li,My];omega),?_⟩
     unfold pr at hu ⊢;rw[x6 (by simp only[Lb,Li,My];omega)]at hu
     exact hu
    ·obtain rfl:k=l.length:=by omega
     unfold pr at hu;rw[tf]at hu;simp only[Lj,Mo,or_false]at hu;rcases hu with hu | hu
     ·exact .inr (.inl (oQ (y:=(⟨j,l.length⟩,⟨j,((l.length+1:Nat):Int)⟩,(w - z)*y)) hu))
     ·exact .inr (.inr (oQ (y:=(⟨j,((l.length+1:Nat):Int)⟩,⟨j,l.length⟩,-(w - z)*x)) hu))
   ·rw[if_neg hjn]at hj
    exact .inl (R.inL (LB _ (lq (i:=0) (j:=j) hj (by rw[MK];exact hu))))
  ·exact .inl (R.inL (Lu _ hb))
 ·have self:∀v,eB v∈pr n x y (l++ [z] ++ [w]) l.length->v∈M:=λv h=>inM v (by
   refine LB _ (lq (i:=0) (j:=n) (c:=ck x y (l++ [z] ++ [w])) (by rw[gX hn,if_pos rfl]) ?_)
   rw[MK];unfold ck;rw[km];exact MV.mpr ⟨l.length,L4.mpr (by simp),h⟩)
  rcases hv with hv | rfl | rfl
  ·refine inM v ?_
   have hb:eB v∈wK cs ls:=by rw[R.b];exact LM.mpr ⟨v,hv,rfl⟩
   unfold wK at hb;rcases Lw.mp hb with hb | hb
   ·obtain⟨j,c,hj,hu⟩:=tE hb
    rw[MK]at hu;refine LB _ ?_
    by_cases hjn:j=n
    ·subst hjn
     rw[e]at hj;cases hj;refine lq (i:=0) (j:=j) (c:=ck x y (l++ [z] ++ [w])) (by rw[gX hn,if_pos rfl]) ?_
     rw[MK];unfold ck at hu ⊢;rw[km]at hu ⊢;obtain⟨k,hk,hu⟩:=MV.mp hu
     have hk':=L4.mp hk;simp only[Lb,Li,My]at hk';refine MV.mpr ⟨k,L4.mpr (by simp only[Lb,Li,My];omega),?_⟩
     unfold pr at hu ⊢;rw[x6 (by simp only[Lb,Li,My];omega)]
     exact hu
    ·exact lq (i:=0) (j:=j) (c:=c) (by rw[gX hn,if_neg hjn];exact hj) (by rw[MK];exact hu)
   ·exact Lu _ hb
  ·refine self _ ?_
   unfold pr;rw[tf];exact Lg
  ·refine self _ ?_
   unfold pr;rw[tf];exact K9 _ Lg
 ·obtain⟨h1,h2⟩:=R.f.ends v hv
  exact⟨λz=>nv (by rw[<-z];exact h1),λz=>nv (by rw[<-z];exact h2)⟩
 ·have:=Ny hc.1.2.1 (show 0<=w - z by omega)
  rw[Sg];omega
end
end G
set_option maxHeartbeats 4000000
namespace G
open PySem Tr Gr
theorem Hg {f:En->Rs T}{g:T->En->Rs En}{Z Z':En}{t:T}(h:f Z= .ok t)(h2:g t Z= .ok Z'):yQ f g Z= .ok (.nx Z'):=by unfold yQ;rw[h];show(match g t Z with | .ok Z'=>_ | _=>_)=_;rw[h2]
theorem Fc {i:Nat}{f:En->Rs T}{Z:En}{l m:List T}(hi:Z[i]? =some (.ow (.lst l)))(h:f Z= .ok (.lst m))(hl:l.length+m.length<=1000):uj i f Z= .ok (.nx (Z.set i (.ow (.lst (l++m))))):=by
 unfold uj;rw[hi,h]
 show(if l.length+m.length<=sizeLine then _ else _)=_
 rw[if_pos (aE hl)]
section
variable {K:List T}{cs ls:List T}{L:bJ N2}{P:List N2}{u v:N2}{n:Nat}{x y z w:Int}{l:List Int}
theorem wr (R:Rd cs ls L P)(e:cs[n]? =some (ck x y (l++ [z])))(hw:z<w)(h9:w<=99)(hl:(l++ [z]).length<=3):bp [RR cs ls,.int (n:Nat),.int w] = .ok (RR (cT cs n (ck x y (l++ [z] ++ [w]))) ls):=by
 have hn:=(Ll.mp e).1
 obtain⟨M,Q,S,_⟩:=R.grow e hw h9 hl
 have hp:(T.tup ((l++ [z]).map .int)).pl=true:=by rw[gv];exact gw λu hu=>by obtain⟨k,_,rfl⟩:=LM.mp hu;rfl
 rw[pD R.g hn e (by rw[Lh];omega) rfl rfl hp rfl]
 unfold nJ
 have:(T.tup [.int x,.int y,.tup ((l++ [z]).map T.int++ [.int w])])=ck x y (l++ [z] ++ [w]):=by unfold ck;rw[LY (l₂:=[w])];rfl
 rw[this,if_pos S.g.ok]
theorem B8 (R:Rd cs ls L P)(hw:gR (RR cs ls)=true)(hu:u∈P)(hv:v∈P){d:Int}(e:table P L v u=some d)(h:d<0):dQ [RR cs ls,en u,en v] = .ok (.bl true):=by
 have n:=(oH R).mp hw;refine cm rfl ?_
 show fX [.va (RR cs ls),.va (en u),.va (en v),.em] =_
 unfold fX;rw[aF (Z':=[.va (RR cs ls),.va (en u),.va (en v),.va (.int (0 - d))]) (cC (aW (ts:=[RR cs ls,en u,en v]) rfl ((R.Ku n (kP R.f.ends n) hu hv).trans (by rw[e];rfl))) rfl)]
 refine cU ((A9 (aG (t:=.int (0 - d)) (u:=.non) rfl rfl rfl)).trans ((aG (t:=.int (0 - d)) (u:=.int 0) rfl rfl rfl).trans ?_))
 show Rs.ok (T.bl (decide (0 - d > 0)))=_
 rw[decide_eq_true (by omega)]
theorem Ax {P:List N2}(h:v∈P):r6 (en v) (eS P)= .ok (.bl false):=by
 show(if ((en v).dep<=60\/deps (P.map en)<=60)/\(en v).nd=true/\(eS P).nd=true then Rs.ok (T.bl (!jR (en v) (P.map en)))else .bad)=_
 have hp:(eS P).pl=true:=by
  show(T.lst (P.map en)).pl=true
  unfold T.pl;exact gw λu hu=>by obtain⟨v,_,rfl⟩:=LM.mp hu;rfl
 rw[if_pos ⟨.inl (by simp[en,T.dep,deps]),rfl,T.Km _ hp⟩,wN,decide_eq_true h]
 rfl
theorem Hw {r:T}{k:Nat}{a b u:T}{rr cs' ls':List T}(h:GR r)(hx:bp [r,.int (k:Nat),u] = .ok (RR cs' ls'))(h':GR (RR cs' ls'))(hw:gR (RR cs' ls')=true)(hk:cs'[k]? =some (.tup [a,b,.tup rr]))(hl:(K++ [r]).length<=1000) :
  gj [.ow (DK (K++ [r])),.va (.int (k:Nat)),.va u] = .ok (.tup [.int (k:Nat),.int ((rr.length:Int) - 1)],DK (K++ [r] ++ [RR cs' ls'])):=by
 refine oC (Z:=[.ow (DK (K++ [r] ++ [RR cs' ls'])),.va (.int (k:Nat)),.va u]) rfl ?_ rfl
 show jf [.ow (DK (K++ [r])),.va (.int (k:Nat)),.va u] =_
 unfold jf;refine ej (uW (kR (c:="Desk") (ns:=["kept"]) (ls:=[K++ [r]]) (ts:=[RR cs' ls']) rfl (by decide) (ar (aW (ar (g9 rfl h) rfl) hx) rfl) (Bz h' hw hl))) ?_
 refine sJ (wm (cy (ar (t:=.int (k:Nat)) rfl (ar (aG (t:=.int (rr.length:Nat)) (u:=.int 1) (aW (ts:=[.tup rr]) (ar (kU (n:=2) (l:=[a,b,.tup rr]) (kU (n:=k) (l:=cs') (kU (n:=0) (l:=[.tup cs',.tup ls']) (g9 (K:=K++ [r]) rfl h') rfl rfl) rfl hk) rfl rfl) rfl) rfl) rfl rfl) rfl)) (aE (k:=2) (by simp))))
theorem Et (R:Rd cs ls L P)(hw0:gR (RR cs ls)=true)(hu:u∈P)(hv:v∈P)(e:cs[n]? =some (ck x y (l++ [z]))){s:Int}(s1:1<=s)(s9:s<=9)(h9:z+s<=99)(hl:(l++ [z]).length<=3)(hK:(K++ [RR cs ls]).length<=1000) :
  gR (RR (cT cs n (ck x y (l++ [z] ++ [z+s]))) ls)=true/\dm [.ow (DK (K++ [RR cs ls])),.va (RR cs ls),.va (.int (n:Nat)),.va (.int s),.va (.lst [en u,en v])] = .ok (.bl true,DK (K++ [RR cs ls] ++ [RR (cT cs n (ck x y (l++ [z] ++ [z+s]))) ls])):=by
 have hn:=(Ll.mp e).1
 have hcx:=(mr ((bo R.g.c).1 _ (Mu e))).1;obtain⟨M,Q,S,hPQ,heQ,haP,G⟩:=R.grow e (w:=z+s) (by omega) h9 hl
 have ew:=wr R e (w:=z+s) (by omega) h9 hl
 have n0:=(oH R).mp hw0
 have nM:eX M:=by
  rcases R.KG with⟨zz,_⟩ | ⟨_,t,b,Se,hb,_⟩
  ·exact absurd n0 zz
  ·exact G.Kt (Se.holds R.f.ends hb)
 have hw1:=(oH S).mpr nM
 have F:=kP R.f.ends n0
 have F':=kP S.f.ends nM
 have gr:GR (RR cs ls):=⟨_,_,rfl,R.g⟩
 have gr':GR (RR (cT cs n (ck x y (l++ [z] ++ [z+s]))) ls):=⟨_,_,rfl,S.g⟩;refine⟨hw1,?_⟩
 have tuv:table Q M u v=table P L u v:=G.tab F F' hu (hPQ u hu).1 (hPQ u hu).2 (hPQ v hv).2
 have tvu:table Q M v u=table P L v u:=G.tab F F' hv (hPQ v hv).1 (hPQ v hv).2 (hPQ u hu).2
 have haQ:=(hPQ _ haP).1;obtain⟨d1,t1,l1⟩:=F'.le ⟨(n:Nat),(l.length:Nat)⟩ haQ ⟨(n:Nat),((l.length+1:Nat):Int)⟩ _ (Wk.one ((G.mem _).mpr (.inr (.inl rfl))));obtain⟨d2,t2,l2⟩:=F'.le ⟨(n:Nat),((l.length+1:Nat):Int)⟩ heQ ⟨(n:Nat),(l.length:Nat)⟩ _ (Wk.one ((G.mem _).mpr (.inr (.inr rfl))));rw[show z+s - z=s by omega]at l1 l2
 rw[Sg]at l2
 have sx:1<=s*x:=by
  have:=Int.mul_le_mul s1 hcx.1 (by omega) (by omega)
  omega
 have put:(cT cs n (ck x y (l++ [z] ++ [z+s])))[n]? =some (ck x y (l++ [z] ++ [z+s])):=by rw[gX hn,if_pos rfl]
 generalize hcs':cT cs n (ck x y (l++ [z] ++ [z+s]))=cs' at*
 have em:∀{B:List N2} {X:bJ N2} {ds:List T},Rd ds ls X B->eX X->u∈B->v∈B->table B X u v=table P L u v->table B X v u=table P L v u->∀{Z:En} {fr:En->Rs T},fr Z= .ok (RR ds ls)->Z[4]? =some (.va (.lst [en u,en v])) →
   bB (af (cl bq (af fr (af (o2 aQ (vr 4) (cn (.int 0))) (af (o2 aQ (vr 4) (cn (.int 1))) ak)))) (af (cl br (af fr (af (o2 aQ (vr 4) (cn (.int 0))) (af (o2 aQ (vr 4) (cn (.int 1))) ak)))) ak)) Z= .ok (.tup [oI (table P L u v),xv (table P L v u)]):=λ{B X ds} S n1 h1 h2 q1 q2 {Z fr} hf h4=>by
  have F1:=kP S.f.ends n1
  have a1:=S.KB n1 F1 h1 h2
  have a2:=S.Ku n1 F1 h1 h2;rw[q1]at a1;rw[q2]at a2
  have i0:o2 aQ (vr 4) (cn (.int 0)) Z= .ok (en u):=A6 (n:=0) (l:=[en u,en v]) (uV h4) rfl rfl
  have i1:o2 aQ (vr 4) (cn (.int 1)) Z= .ok (en v):=A6 (n:=1) (l:=[en u,en v]) (uV h4) rfl rfl;exact cy (ar (aW (ts:=[RR ds ls,en u,en v]) (ar hf (ar i0 (ar i1 rfl))) a1) (ar (aW (ts:=[RR ds ls,en u,en v]) (ar hf (ar i0 (ar i1 rfl))) a2) rfl)) (aE (k:=2) (by simp))
 refine oC (Z:=[.ow (DK (K++ [RR cs ls] ++ [RR cs' ls])),.va (RR cs ls),.va (.int (n:Nat)),.va (.int s),.va (.lst [en u,en v]),.va (.int x),.va (.int y),.va (.tup ((l++ [z]).map .int)),.va (.tup [oI (table P L u v),xv (table P L v u)]),.va (en ⟨(n:Nat),((l.length+1:Nat):Int)⟩),.va (RR cs' ls),.va (en ⟨(n:Nat),(l.length:Nat)⟩)]) rfl ?_ rfl
 show ij [.ow (DK (K++ [RR cs ls])),.va (RR cs ls),.va (.int (n:Nat)),.va (.int s),.va (.lst [en u,en v]),.em,.em,.em,.em,.em,.em,.em] =_
 unfold ij;refine ej (Z':=[.ow (DK (K++ [RR cs ls])),.va (RR cs ls),.va (.int (n:Nat)),.va (.int s),.va (.lst [en u,en v]),.va (.int x),.va (.int y),.va (.tup ((l++ [z]).map .int)),.em,.em,.em,.em]) (Hg (t:=ck x y (l++ [z])) (kU (n:=n) (l:=cs) (kU (n:=0) (l:=[.tup cs,.tup ls]) rfl rfl rfl) rfl e) rfl) ?_
 refine ej (Z':=[.ow (DK (K++ [RR cs ls])),.va (RR cs ls),.va (.int (n:Nat)),.va (.int s),.va (.lst [en u,en v]),.va (.int x),.va (.int y),.va (.tup ((l++ [z]).map .int)),.va (.tup [oI (table P L u v),xv (table P L v u)]),.em,.em,.em]) (xO (wm (em R n0 hu hv rfl rfl rfl rfl)) (by simp)) ?_
 have hev:T.tup [.int (n:Nat),.int ((((l++ [z] ++ [z+s]).map T.int).length:Int) - 1)] =en ⟨(n:Nat),((l.length+1:Nat):Int)⟩:=by
  unfold en;rw[Lh,Lb,Lb];simp
 have hix:∀{Z:En},vr 7 Z= .ok (.tup ((l++ [z]).map .int))->o2 aQ (vr 7) (o1 gz (cn (.int 1))) Z= .ok (.int z):=λh=>aG (u:=.int (-1)) h rfl (by rw[LY];exact mT _ _)
 refine ej (Z':=[.ow (DK (K++ [RR cs ls] ++ [RR cs' ls])),.va (RR cs ls),.va (.int (n:Nat)),.va (.int s),.va (.lst [en u,en v]),.va (.int x),.va (.int y),.va (.tup ((l++ [z]).map .int)),.va (.tup [oI (table P L u v),xv (table P L v u)]),.va (en ⟨(n:Nat),((l.length+1:Nat):Int)⟩),.em,.em]) (xO (kR (c:="Desk") (ns:=["kept"]) (ls:=[K++ [RR cs ls]]) (ts:=[.int (n:Nat),.int (z+s)]) rfl (by decide) (ar rfl (ar (aG (hix rfl) rfl rfl) rfl)) ((Hw gr ew gr' hw1 put hK).trans (by rw[hev]))) (by simp)) ?_
 refine ej (Z':=[.ow (DK (K++ [RR cs ls] ++ [RR cs' ls])),.va (RR cs ls),.va (.int (n:Nat)),.va (.int s),.va (.lst [en u,en v]),.va (.int x),.va (.int y),.va (.tup ((l++ [z]).map .int)),.va (.tup [oI (table P L u v),xv (table P L v u)]),.va (en ⟨(n:Nat),((l.length+1:Nat):Int)⟩),.va (RR cs' ls),.em]) (xO (wm (g9 (K:=K++ [RR cs ls]) rfl gr')) (by simp)) ?_
 have hlen:∀{Z:En},vr 7 Z= .ok (.tup ((l++ [z]).map .int))->cl bL (af (vr 7) ak) Z= .ok (.int ((l.length+1:Nat):Int)):=λh=>aW (ts:=[.tup ((l++ [z]).map .int)]) (ar h rfl) (by show Rs.ok (T.int (((l++ [z]).map T.int).length:Nat))=_;rw[Lh,Lb];rfl)
 refine ej (Z':=[.ow (DK (K++ [RR cs ls] ++ [RR cs' ls])),.va (RR cs ls),.va (.int (n:Nat)),.va (.int s),.va (.lst [en u,en v]),.va (.int x),.va (.int y),.va (.tup ((l++ [z]).map .int)),.va (.tup [oI (table P L u v),xv (table P L v u)]),.va (en ⟨(n:Nat),((l.length+1:Nat):Int)⟩),.va (RR cs' ls),.em]) ((qu (k:=false) (A1 (cW (aG (t:=en ⟨(n:Nat),((l.length+1:Nat):Int)⟩) (u:=en ⟨(n:Nat),((l.length+1:Nat):Int)⟩) rfl (cy (ar (t:=.int (n:Nat)) rfl (ar (hlen rfl) rfl)) (aE (k:=2) (by simp))) (jm rfl (by simp[en,T.dep,deps])))) (cW (aG (t:=en ⟨(n:Nat),((l.length+1:Nat):Int)⟩) (u:=eS Q) rfl (aW (ts:=[RR cs' ls]) rfl S.events) (Ax heQ))))).trans rfl) ?_
 have plo:∀o:Option Int,(oI o).pl=true/\(xv o).pl=true/\(oI o).dep=0/\(xv o).dep=0:=λo=>by cases o <;> simp[oI,xv,T.pl,T.dep]
 refine ej (Z':=[.ow (DK (K++ [RR cs ls] ++ [RR cs' ls])),.va (RR cs ls),.va (.int (n:Nat)),.va (.int s),.va (.lst [en u,en v]),.va (.int x),.va (.int y),.va (.tup ((l++ [z]).map .int)),.va (.tup [oI (table P L u v),xv (table P L v u)]),.va (en ⟨(n:Nat),((l.length+1:Nat):Int)⟩),.va (RR cs' ls),.em]) ((qu (k:=false) (cW (aG (u:=.tup [oI (table P L u v),xv (table P L v u)]) (em S nM (hPQ u hu).1 (hPQ v hv).1 tuv tvu rfl rfl) rfl (jm (by simp[T.pl,plS,plo]) (by simp[T.dep,deps,plo]))))).trans rfl) ?_
 refine ej (Z':=[.ow (DK (K++ [RR cs ls] ++ [RR cs' ls])),.va (RR cs ls),.va (.int (n:Nat)),.va (.int s),.va (.lst [en u,en v]),.va (.int x),.va (.int y),.va (.tup ((l++ [z]).map .int)),.va (.tup [oI (table P L u v),xv (table P L v u)]),.va (en ⟨(n:Nat),((l.length+1:Nat):Int)⟩),.va (RR cs' ls),.va (en ⟨(n:Nat),(l.length:Nat)⟩)]) (xO (t:=en ⟨(n:Nat),(l.length:Nat)⟩) (wm (cy (ar (t:=.int (n:Nat)) rfl (ar (t:=.int (l.length:Nat)) (aG (u:=.int 1) (hlen rfl) rfl (by show Rs.ok (T.int (((l.length+1:Nat):Int) - 1))=_;rw[show((l.length+1:Nat):Int) - 1=(l.length:Nat)by omega])) rfl)) (aE (k:=2) (by simp)))) (by simp)) ?_
 refine ej (Z':=[.ow (DK (K++ [RR cs ls] ++ [RR cs' ls])),.va (RR cs ls),.va (.int (n:Nat)),.va (.int s),.va (.lst [en u,en v]),.va (.int x),.va (.int y),.va (.tup ((l++ [z]).map .int)),.va (.tup [oI (table P L u v),xv (table P L v u)]),.va (en ⟨(n:Nat),((l.length+1:Nat):Int)⟩),.va (RR cs' ls),.va (en ⟨(n:Nat),(l.length:Nat)⟩)]) ((qu (k:=false) (kS (k:=true) (cW (aW (ts:=[RR cs' ls,en ⟨(n:Nat),(l.length:Nat)⟩,en ⟨(n:Nat),((l.length+1:Nat):Int)⟩]) rfl (B8 S hw1 haQ heQ t2 (by omega)))))).trans rfl) ?_
 have b1:=S.Ku nM F' haQ heQ;rw[t2]at b1
 have b2:=S.KB nM F' haQ heQ;rw[t1]at b2;refine sJ (wm ((A9 ((aG (t:=.int (x*s)) (u:=.int (0 - d2)) (aG (t:=.int x) (u:=.int s) rfl rfl (jM (by omega) (by omega))) (aW (ts:=[RR cs' ls,en ⟨(n:Nat),(l.length:Nat)⟩,en ⟨(n:Nat),((l.length+1:Nat):Int)⟩]) rfl b1) rfl).trans ?_)).trans ((aG (t:=.int d1) (u:=.int (y*s)) (aW (ts:=[RR cs' ls,en ⟨(n:Nat),(l.length:Nat)⟩,en ⟨(n:Nat),((l.length+1:Nat):Int)⟩]) rfl b2) (aG (t:=.int y) (u:=.int s) rfl rfl (jM (by omega) (by omega))) rfl).trans ?_)))
 ·show Rs.ok (T.bl (decide (x*s<=0 - d2)))=_
  rw[decide_eq_true (by rw[P4];omega)]
 ·show Rs.ok (T.bl (decide (d1<=y*s)))=_
  rw[decide_eq_true (by rw[P4];omega)]
end
end G
set_option maxHeartbeats 4000000
namespace G
open PySem Tr Gr
abbrev LE (ns:List Int)(f:T)(d:OT)(rw_:List T)(k he rc cK sL fa rd le ro tw st mo:Sl):En:=[.va (.scr ns),.va f,.ow d,.ow (.lst rw_),k,he,rc,cK,sL,fa,rd,le,ro,tw,st,mo]
abbrev B0:En->Rs Fl:=(cE (o2 aL (cn (.int 80)) (o2 bS (cn (.int 10)) (vr 4))) (gN 5))
abbrev B1:En->Rs Fl:=(cE (ln 3 (o2 aQ (vr 3) (o1 gz (cn (.int 1))))) (gN 6))
abbrev B2:En->Rs Fl:=(cE (cl aw (af (vr 0) (af (vr 5) (af (cl bL (af (o2 aQ (vr 6) (cn (.int 0))) ak)) ak)))) (gN 7))
abbrev B3:En->Rs Fl:=(cE (o2 aQ (o2 aQ (vr 6) (cn (.int 0))) (vr 7)) (gT 3 (kW (gN 8) (kW (gN 9) (kW (gN 10) vB)))))
abbrev B4:En->Rs Fl:=(cE (cl bz (af (vr 0) (af (o2 aL (vr 5) (cn (.int 3))) (af (o2 aQ (vr 6) (cn (.int 0))) ak)))) (gN 11))
abbrev B5:En->Rs Fl:=(gf (lZ (tb (o2 ve (cl aw (af (vr 0) (af (o2 aL (vr 5) (cn (.int 1))) (af (cn (.int 2)) ak)))) (cn (.int 0)))) (tb (o2 zp (cl bL (af (vr 10) ak)) (cn (.int 4))))) (aC (cE (cl de (af (vr 6) ak)) (gN 12)) (aC (cE (eV (af (o2 aQ (vr 12) (cl aw (af (vr 0) (af (o2 aL (vr 5) (cn (.int 2))) (af (cl bL (af (vr 12) ak)) ak))))) (af (o2 aQ (vr 12) (cl aw (af (vr 0) (af (o2 aL (vr 5) (cn (.int 9))) (af (cl bL (af (vr 12) ak)) ak))))) ak))) (gN 13)) (aC (cE (o2 aL (cn (.int 1)) (cl aw (af (vr 0) (af (o2 aL (vr 5) (cn (.int 8))) (af (cn (.int 9)) ak))))) (gN 14)) (aC (ly 3 (cl bp (af (vr 6) (af (vr 7) (af (o2 aL (o2 aQ (vr 10) (o1 gz (cn (.int 1)))) (vr 14)) ak))))) (nG (l6 (w8 (m8 2 dm (af (vr 6) (af (vr 7) (af (vr 14) (af (vr 13) ak))))))) (aM (cn (.bl false))) sN))))) (gf (lZ (tb (o2 iw (vr 11) (cn .non))) (tb (o2 zp (cl bL (af (o2 aQ (vr 6) (cn (.int 1))) ak)) (cn (.int 8))))) (aC (cE (cl bc (af (vr 6) (af (vr 11) ak))) (gN 15)) (aC (nG (w8 (vz pY (m8 2 cP (af (vr 11) ak)) (cl aY (af (vr 15) ak)))) (aM (cn (.bl false))) sN) (uj 3 (o2 bS (eV (af (vr 15) ak)) (cl sM (af (cl aY (af (vr 15) ak)) ak)))))) sN))
abbrev B6:En->Rs Fl:=(gf (ph (tb (o2 pY (ln 2 (qr "Desk" "record" aJ (vr 2) ak)) (ln 3 (o2 aQ (vr 3) (o1 gz (cn (.int 1))))))) (tb (o2 pY (ln 2 (qr "Desk" "many" cv (vr 2) ak)) (o2 f9 (ln 3 (cl bL (af (vr 3) ak))) (cn (.int 1)))))) (aM (cn (.bl false))) sN)
abbrev CA:En->Rs Bool:=(lZ (tb (o2 ve (cl aw (af (vr 0) (af (o2 aL (vr 5) (cn (.int 1))) (af (cn (.int 2)) ak)))) (cn (.int 0)))) (tb (o2 zp (cl bL (af (vr 10) ak)) (cn (.int 4)))))
abbrev R0:En->Rs Fl:=(cE (cl de (af (vr 6) ak)) (gN 12))
abbrev R1:En->Rs Fl:=(cE (eV (af (o2 aQ (vr 12) (cl aw (af (vr 0) (af (o2 aL (vr 5) (cn (.int 2))) (af (cl bL (af (vr 12) ak)) ak))))) (af (o2 aQ (vr 12) (cl aw (af (vr 0) (af (o2 aL (vr 5) (cn (.int 9))) (af (cl bL (af (vr 12) ak)) ak))))) ak))) (gN 13))
abbrev R2:En->Rs Fl:=(cE (o2 aL (cn (.int 1)) (cl aw (af (vr 0) (af (o2 aL (vr 5) (cn (.int 8))) (af (cn (.int 9)) ak))))) (gN 14))
abbrev R3:En->Rs Fl:=(ly 3 (cl bp (af (vr 6) (af (vr 7) (af (o2 aL (o2 aQ (vr 10) (o1 gz (cn (.int 1)))) (vr 14)) ak)))))
abbrev R4:En->Rs Fl:=(nG (l6 (w8 (m8 2 dm (af (vr 6) (af (vr 7) (af (vr 14) (af (vr 13) ak))))))) (aM (cn (.bl false))) sN)
abbrev RC4:En->Rs Fl:=R4
abbrev RC3:En->Rs Fl:=aC R3 RC4
abbrev RC2:En->Rs Fl:=aC R2 RC3
abbrev RC1:En->Rs Fl:=aC R1 RC2
abbrev CB:En->Rs Bool:=(lZ (tb (o2 iw (vr 11) (cn .non))) (tb (o2 zp (cl bL (af (o2 aQ (vr 6) (cn (.int 1))) ak)) (cn (.int 8)))))
abbrev T0:En->Rs Fl:=(cE (cl bc (af (vr 6) (af (vr 11) ak))) (gN 15))
abbrev T1:En->Rs Fl:=(nG (w8 (vz pY (m8 2 cP (af (vr 11) ak)) (cl aY (af (vr 15) ak)))) (aM (cn (.bl false))) sN)
abbrev T2:En->Rs Fl:=(uj 3 (o2 bS (eV (af (vr 15) ak)) (cl sM (af (cl aY (af (vr 15) ak)) ak))))
abbrev TC2:En->Rs Fl:=T2
abbrev TC1:En->Rs Fl:=aC T1 TC2
abbrev TC0:En->Rs Fl:=aC T0 TC1
abbrev D6:En->Rs Fl:=B6
abbrev D5:En->Rs Fl:=aC B5 D6
abbrev D4:En->Rs Fl:=aC B4 D5
abbrev D3:En->Rs Fl:=aC B3 D4
abbrev D2:En->Rs Fl:=aC B2 D3
abbrev D1:En->Rs Fl:=aC B1 D2
abbrev D0:En->Rs Fl:=aC B0 D1
abbrev UB:En->Rs Fl:=(aC (vP (fq 2 "Desk" "undo" eQ ak)) (gf (tb (o2 pY (ln 2 (qr "Desk" "record" aJ (vr 2) ak)) (vr 6))) (aM (cn (.bl false))) sN))
def Ck (b:Int)(c:T):Prop:=∃x y l z,c=ck x y (l++ [z])/\z<=b
structure Jv (cs ls K:List T)(j:Nat):Prop where
 g:Good cs ls
 w:gR (RR cs ls)=true
 lst:∃K',K=K'++ [RR cs ls]
 all:∀r∈K,GR r
 len:K.length<=j+1
 cb:∀c∈cs,Ck (15+9*j) c
 ll:ls.length<=j
section
variable {cs ls ms K:List T}{L:bJ N2}{P:List N2}{u v:N2}{ns:List Int}{Z Z':En}
theorem GR.of2 (g:Good cs ms):GR (RR cs ms):=⟨cs,ms,rfl,g⟩
theorem A5 {i:Nat}{K':List T}{r:T}(hi:Z[i]? =some (.ow (.lst (K'++ [r]))))(h:GR r):ln i (o2 aQ (vr i) (o1 gz (cn (.int 1)))) Z= .ok r:=by
 have hl:i<Z.length:=(Ll.mp hi).1
 refine A4 hi (aG (t:=.lst (K'++ [r])) (u:=.int (-1)) (uV ?_) rfl (uY K' r)) h.nk
 unfold disown;rw[hi];simp[hl];rfl
theorem DY {x:En->Rs (Bool×En)}{b:Bool}(h:x Z= .ok (b,Z')):l6 x Z= .ok (!b,Z'):=by unfold l6;rw[h];rfl
theorem b6 (f:T)(K':List T)(r:T)(hr:GR r)(k he rc cK sL fa rd le ro tw st mo:Sl):B6 (LE ns f (DK (K'++ [r])) (K'++ [r]) k he rc cK sL fa rd le ro tw st mo)= .ok (.nx (LE ns f (DK (K'++ [r])) (K'++ [r]) k he rc cK sL fa rd le ro tw st mo)):=by
 refine(fw (A1 (cW (aG (g9 (K:=K') rfl hr) (A5 (K':=K') rfl hr) hr.ne)) (cW (aG (t:=.int (((K'++ [r]).length:Int) - 1)) (u:=.int (((K'++ [r]).length:Int) - 1)) (wu rfl) (aG (t:=.int ((K'++ [r]).length:Nat)) (u:=.int 1) (A4 (o:=.lst (K'++ [r])) rfl (aW (ts:=[.lst (K'++ [r])]) rfl rfl) rfl) rfl rfl) (jm rfl (by simp[T.dep])))))).trans rfl
theorem Aq (hn:ns.length<=63)(j:Nat)(hj:j<=4)(J:Jv cs ls K j)(f:T)(he rc cK sL fa rd le ro tw st mo:Sl):∃cs' ls' K' he' rc' cl' sl' fa' rd' le' ro' tw' st' mo',Jv cs' ls' K' (j+1) ∧
  D0 (LE ns f (DK K) K (.va (.int (j:Nat))) he rc cK sL fa rd le ro tw st mo)= .ok (.nx (LE ns f (DK K') K' (.va (.int (j:Nat))) he' rc' cl' sl' fa' rd' le' ro' tw' st' mo')):=by
 obtain⟨K',hK⟩:=J.lst;subst hK
 have gr:=GR.of2 J.g;obtain⟨L,P,R⟩:=mi J.g
 have hlen:=J.len
 have hll:=J.ll;obtain⟨hca,c1,c4⟩:=bo J.g.c;obtain⟨d,ed,d0,d1⟩:=cG ns (80+10*j) (cs.length:Nat) hn (by omega)
 obtain⟨n,rfl⟩:=LU d0
 have hnl:n<cs.length:=by omega
 have ec:cs[n]? =some cs[n]:=Lv hnl
 obtain⟨x,y,l,z,hck,hz⟩:=J.cb _ (Mz hnl);rw[hck]at ec
 have hrl:(l++ [z]).length<=4:=by
  obtain⟨x',y',r',e',_,r4⟩:=dJ (hca _ (Mz hnl));rw[hck]at e';unfold ck at e'
  have h1:=T.tup.inj e';simp only[PZ,T.tup.injEq,and_true]at h1
  have h2:=congrArg M4 h1.2.2;rw[Lh]at h2;omega
 obtain⟨lt,el,hl⟩:=oP ns hn (80+10*j+3) cs J.g.c
 have e0:B0 (LE ns f (DK (K'++ [RR cs ls])) (K'++ [RR cs ls]) (.va (.int (j:Nat))) he rc cK sL fa rd le ro tw st mo)= .ok (.nx (LE ns f (DK (K'++ [RR cs ls])) (K'++ [RR cs ls]) (.va (.int (j:Nat))) (.va (.int ((80+10*j:Nat):Int))) rc cK sL fa rd le ro tw st mo)):=by
  refine cC (t:=.int ((80+10*j:Nat):Int)) (aG (t:=.int 80) (u:=.int (10*(j:Int))) rfl (aG rfl rfl (jM (by omega) (by omega))) ?_) rfl
  show Rs.ok (T.int (80+10*(j:Int)))=_
  rw[show(80+10*(j:Int))=((80+10*j:Nat):Int)by omega]
 have e1:B1 (LE ns f (DK (K'++ [RR cs ls])) (K'++ [RR cs ls]) (.va (.int (j:Nat))) (.va (.int ((80+10*j:Nat):Int))) rc cK sL fa rd le ro tw st mo)= .ok (.nx (LE ns f (DK (K'++ [RR cs ls])) (K'++ [RR cs ls]) (.va (.int (j:Nat))) (.va (.int ((80+10*j:Nat):Int))) (.va (RR cs ls)) cK sL fa rd le ro tw st mo)):=cC (A5 (K':=K') rfl gr) rfl
 have i0:∀{Z:En},Z[6]? =some (.va (RR cs ls))->o2 aQ (vr 6) (cn (.int 0)) Z= .ok (.tup cs):=λh=>kU (n:=0) (l:=[.tup cs,.tup ls]) (uV h) rfl rfl
 have e2:B2 (LE ns f (DK (K'++ [RR cs ls])) (K'++ [RR cs ls]) (.va (.int (j:Nat))) (.va (.int ((80+10*j:Nat):Int))) (.va (RR cs ls)) cK sL fa rd le ro tw st mo)= .ok (.nx (LE ns f (DK (K'++ [RR cs ls])) (K'++ [RR cs ls]) (.va (.int (j:Nat))) (.va (.int ((80+10*j:Nat):Int))) (.va (RR cs ls)) (.va (.int (n:Nat))) sL fa rd le ro tw st mo)):=
  cC (aW (ts:=[.scr ns,.int ((80+10*j:Nat):Int),.int (cs.length:Nat)]) (ar rfl (ar rfl (ar (aW (ts:=[.tup cs]) (ar (i0 rfl) rfl) rfl) rfl))) ed) rfl
 have e3:B3 (LE ns f (DK (K'++ [RR cs ls])) (K'++ [RR cs ls]) (.va (.int (j:Nat))) (.va (.int ((80+10*j:Nat):Int))) (.va (RR cs ls)) (.va (.int (n:Nat))) sL fa rd le ro tw st mo)= .ok (.nx (LE ns f (DK (K'++ [RR cs ls])) (K'++ [RR cs ls]) (.va (.int (j:Nat))) (.va (.int ((80+10*j:Nat):Int))) (.va (RR cs ls)) (.va (.int (n:Nat))) (.va (.int x)) (.va (.int y)) (.va (.tup ((l++ [z]).map .int))) le ro tw st mo)):=cC (t:=ck x y (l++ [z])) (kU (n:=n) (l:=cs) (i0 rfl) rfl ec) rfl
 have e4:B4 (LE ns f (DK (K'++ [RR cs ls])) (K'++ [RR cs ls]) (.va (.int (j:Nat))) (.va (.int ((80+10*j:Nat):Int))) (.va (RR cs ls)) (.va (.int (n:Nat))) (.va (.int x)) (.va (.int y)) (.va (.tup ((l++ [z]).map .int))) le ro tw st mo)= .ok (.nx (LE ns f (DK (K'++ [RR cs ls])) (K'++ [RR cs ls]) (.va (.int (j:Nat))) (.va (.int ((80+10*j:Nat):Int))) (.va (RR cs ls)) (.va (.int (n:Nat))) (.va (.int x)) (.va (.int y)) (.va (.tup ((l++ [z]).map .int))) (.va lt) ro tw st mo)):=
  cC (aW (ts:=[.scr ns,.int ((80+10*j+3:Nat):Int),.tup cs]) (ar rfl (ar (aG (t:=.int ((80+10*j:Nat):Int)) (u:=.int 3) rfl rfl rfl) (ar (i0 rfl) rfl))) el) rfl
 have go:∀{x'},D5 (LE ns f (DK (K'++ [RR cs ls])) (K'++ [RR cs ls]) (.va (.int (j:Nat))) (.va (.int ((80+10*j:Nat):Int))) (.va (RR cs ls)) (.va (.int (n:Nat))) (.va (.int x)) (.va (.int y)) (.va (.tup ((l++ [z]).map .int))) (.va lt) ro tw st mo)=x'->D0 (LE ns f (DK (K'++ [RR cs ls])) (K'++ [RR cs ls]) (.va (.int (j:Nat))) he rc cK sL fa rd le ro tw st mo)=x':=λh=>
  (aF (F:=B0) (G:=D1) e0).trans ((aF (F:=B1) (G:=D2) e1).trans ((aF (F:=B2) (G:=D3) e2).trans ((aF (F:=B3) (G:=D4) e3).trans ((aF (F:=B4) (G:=D5) e4).trans h))))
 obtain⟨t,et,t0,t1⟩:=cG ns (80+10*j+1) 2 hn (by omega)
 have ca:CA (LE ns f (DK (K'++ [RR cs ls])) (K'++ [RR cs ls]) (.va (.int (j:Nat))) (.va (.int ((80+10*j:Nat):Int))) (.va (RR cs ls)) (.va (.int (n:Nat))) (.va (.int x)) (.va (.int y)) (.va (.tup ((l++ [z]).map .int))) (.va lt) ro tw st mo)= .ok ((t == 0)&&decide (((l++ [z]).length:Int)<4)):=by
  refine JG (cW (aG (t:=.int t) (u:=.int 0) (aW (ts:=[.scr ns,.int ((80+10*j+1:Nat):Int),.int 2]) (ar rfl (ar (aG (t:=.int ((80+10*j:Nat):Int)) (u:=.int 1) rfl rfl rfl) rfl)) et) rfl (sW _ _))) λ_=>cW ((aG (t:=.int (((l++ [z]).map T.int).length:Nat)) (u:=.int 4) (aW (ts:=[.tup ((l++ [z]).map .int)]) rfl rfl) rfl rfl).trans ?_)
  show Rs.ok (T.bl (decide ((((l++ [z]).map T.int).length:Int)<4)))=_
  rw[Lh]
 cases hca':((t == 0)&&decide (((l++ [z]).length:Int)<4))with
 | true=>
  rw[hca']at ca;rw[K8,decide_eq_true_eq]at hca'
  have hl3:(l++ [z]).length<=3:=by omega
  obtain⟨r1,u,hu,p1,q1⟩:=R.pick hn (80+10*j+2);obtain⟨r2,v,hv,p2,q2⟩:=R.pick hn (80+10*j+9);obtain⟨sx,es,s0,s1⟩:=cG ns (80+10*j+8) 9 hn (by omega)
  have hzz:z+(1+sx)<=99:=by omega
  obtain⟨hw1,er⟩:=Et (K:=K') R J.w hu hv ec (s:=1+sx) (by omega) (by omega) hzz hl3 (by omega)
  have ewr:=wr R ec (w:=z+(1+sx)) (by omega) hzz hl3
  obtain⟨M,Q,S,_⟩:=R.grow ec (w:=z+(1+sx)) (by omega) hzz hl3
  have gr':=GR.of2 S.g;refine⟨cT cs n (ck x y (l++ [z] ++ [z+(1+sx)])),ls,K'++ [RR cs ls] ++ [RR (cT cs n (ck x y (l++ [z] ++ [z+(1+sx)]))) ls],.va (.int ((80+10*j:Nat):Int)),.va (RR cs ls),.va (.int (n:Nat)),.va (.int x),.va (.int y),.va (.tup ((l++ [z]).map .int)),.va lt,.va (eS P),.va (.lst [en u,en v]),.va (.int (1+sx)),mo,?_,go ?_⟩
  ·refine⟨S.g,hw1,⟨_,rfl⟩,λr hr=> ?_,by rw[Lb];simp at hlen ⊢;omega,λc hc=> ?_,by omega⟩
   ·rcases Lw.mp hr with h | h
    ·exact J.all r h
    ·rw[Lr.mp h];exact gr'
   ·rcases xi hc with rfl | h
    ·exact⟨x,y,l++ [z],z+(1+sx),rfl,by push_cast;omega⟩
    ·obtain⟨a,b,l',z',e',h'⟩:=J.cb c h
     exact⟨a,b,l',z',e',by push_cast;omega⟩
  ·refine(aF (F:=B5) (G:=D6) (Z':=LE ns f (DK (K'++ [RR cs ls] ++ [RR (cT cs n (ck x y (l++ [z] ++ [z+(1+sx)]))) ls])) (K'++ [RR cs ls] ++ [RR (cT cs n (ck x y (l++ [z] ++ [z+(1+sx)]))) ls]) (.va (.int (j:Nat))) (.va (.int ((80+10*j:Nat):Int))) (.va (RR cs ls)) (.va (.int (n:Nat))) (.va (.int x)) (.va (.int y)) (.va (.tup ((l++ [z]).map .int))) (.va lt) (.va (eS P)) (.va (.lst [en u,en v])) (.va (.int (1+sx))) mo) ?_).trans (b6 f _ _ gr' _ _ _ _ _ _ _ _ _ _ _ _)
   refine(iY ca).trans ?_
   refine(aF (F:=R0) (G:=RC1) (Z':=LE ns f (DK (K'++ [RR cs ls])) (K'++ [RR cs ls]) (.va (.int (j:Nat))) (.va (.int ((80+10*j:Nat):Int))) (.va (RR cs ls)) (.va (.int (n:Nat))) (.va (.int x)) (.va (.int y)) (.va (.tup ((l++ [z]).map .int))) (.va lt) (.va (eS P)) tw st mo) (cC (aW (ts:=[RR cs ls]) rfl R.events) rfl)).trans ?_
   refine(aF (F:=R1) (G:=RC2) (Z':=LE ns f (DK (K'++ [RR cs ls])) (K'++ [RR cs ls]) (.va (.int (j:Nat))) (.va (.int ((80+10*j:Nat):Int))) (.va (RR cs ls)) (.va (.int (n:Nat))) (.va (.int x)) (.va (.int y)) (.va (.tup ((l++ [z]).map .int))) (.va lt) (.va (eS P)) (.va (.lst [en u,en v])) st mo) (cC (mm (ts:=[en u,en v]) (ar (aG (t:=eS P) (u:=.int r1) rfl (aW (ts:=[.scr ns,.int ((80+10*j+2:Nat):Int),.int (P.length:Nat)]) (ar rfl (ar (aG (t:=.int ((80+10*j:Nat):Int)) (u:=.int 2) rfl rfl rfl) (ar (AK rfl) rfl))) p1) q1) (ar (aG (t:=eS P) (u:=.int r2) rfl (aW (ts:=[.scr ns,.int ((80+10*j+9:Nat):Int),.int (P.length:Nat)]) (ar rfl (ar (aG (t:=.int ((80+10*j:Nat):Int)) (u:=.int 9) rfl rfl rfl) (ar (AK rfl) rfl))) p2) q2) rfl)) (aE (k:=2) (by simp))) rfl)).trans ?_
   refine(aF (F:=R2) (G:=RC3) (Z':=LE ns f (DK (K'++ [RR cs ls])) (K'++ [RR cs ls]) (.va (.int (j:Nat))) (.va (.int ((80+10*j:Nat):Int))) (.va (RR cs ls)) (.va (.int (n:Nat))) (.va (.int x)) (.va (.int y)) (.va (.tup ((l++ [z]).map .int))) (.va lt) (.va (eS P)) (.va (.lst [en u,en v])) (.va (.int (1+sx))) mo) (cC (t:=.int (1+sx)) (aG (t:=.int 1) (u:=.int sx) rfl (aW (ts:=[.scr ns,.int ((80+10*j+8:Nat):Int),.int 9]) (ar rfl (ar (aG (t:=.int ((80+10*j:Nat):Int)) (u:=.int 8) rfl rfl rfl) rfl)) es) rfl) rfl)).trans ?_
   refine(aF (F:=R3) (G:=RC4) (Z':=LE ns f (DK (K'++ [RR cs ls])) (K'++ [RR cs ls] ++ [RR (cT cs n (ck x y (l++ [z] ++ [z+(1+sx)]))) ls]) (.va (.int (j:Nat))) (.va (.int ((80+10*j:Nat):Int))) (.va (RR cs ls)) (.va (.int (n:Nat))) (.va (.int x)) (.va (.int y)) (.va (.tup ((l++ [z]).map .int))) (.va lt) (.va (eS P)) (.va (.lst [en u,en v])) (.va (.int (1+sx))) mo) (xS (l:=K'++ [RR cs ls]) (aW (ts:=[RR cs ls,.int (n:Nat),.int (z+(1+sx))]) (ar rfl (ar rfl (ar (aG (t:=.int z) (u:=.int (1+sx)) (aG (t:=.tup ((l++ [z]).map .int)) (u:=.int (-1)) rfl rfl (by rw[LY];exact mT _ _)) rfl rfl) rfl))) ewr) rfl (by omega))).trans ?_
   exact(A7 (b:=false) (DY (b:=true) (AV (wo (o:=DK (K'++ [RR cs ls])) (ts:=[RR cs ls,.int (n:Nat),.int (1+sx),.lst [en u,en v]]) rfl rfl er)))).trans rfl
 | false=>
  rw[hca']at ca
  have stay:∀{lt'},lt'=lt->(gf CB TC0 sN (LE ns f (DK (K'++ [RR cs ls])) (K'++ [RR cs ls]) (.va (.int (j:Nat))) (.va (.int ((80+10*j:Nat):Int))) (.va (RR cs ls)) (.va (.int (n:Nat))) (.va (.int x)) (.va (.int y)) (.va (.tup ((l++ [z]).map .int))) (.va lt') ro tw st mo)= .ok (.nx (LE ns f (DK (K'++ [RR cs ls])) (K'++ [RR cs ls]) (.va (.int (j:Nat))) (.va (.int ((80+10*j:Nat):Int))) (.va (RR cs ls)) (.va (.int (n:Nat))) (.va (.int x)) (.va (.int y)) (.va (.tup ((l++ [z]).map .int))) (.va lt') ro tw st mo)))->∃cs' ls' K2 he' rc' cl' sl' fa' rd' le' ro' tw' st' mo',Jv cs' ls' K2 (j+1)/\D0 (LE ns f (DK (K'++ [RR cs ls])) (K'++ [RR cs ls]) (.va (.int (j:Nat))) he rc cK sL fa rd le ro tw st mo)= .ok (.nx (LE ns f (DK K2) K2 (.va (.int (j:Nat))) he' rc' cl' sl' fa' rd' le' ro' tw' st' mo')):=λhlt h=>by
   subst hlt;refine⟨cs,ls,K'++ [RR cs ls],_,_,_,_,_,_,_,_,_,_,_,⟨J.g,J.w,⟨K',rfl⟩,J.all,by omega,λc hc=> ?_,by omega⟩,go ((aF (F:=B5) (G:=D6) ((fw ca).trans h)).trans (b6 f _ _ gr _ _ _ _ _ _ _ _ _ _ _ _))⟩
   obtain⟨a,b,l',z',e',h'⟩:=J.cb c hc;exact⟨a,b,l',z',e',by push_cast;omega⟩
  rcases hl with⟨rfl,_⟩ | ⟨hlet,hsm,_⟩
  ·exact stay rfl ((fw (Bb (cW (aG (t:=.non) (u:=.non) rfl rfl rfl)))).trans rfl)
  ·have cb:∀{r s m o},CB (LE ns f (DK (K'++ [RR cs ls])) (K'++ [RR cs ls]) (.va (.int (j:Nat))) (.va (.int ((80+10*j:Nat):Int))) (.va (RR cs ls)) (.va (.int (n:Nat))) (.va (.int x)) (.va (.int y)) (.va (.tup ((l++ [z]).map .int))) (.va lt) r s m o)= .ok true:=λ{r s m o}=>by
    obtain⟨a,b,c,d,rfl,_,_⟩:=iX hlet;refine Ba (cW (aG (t:=.tup [a,b,.int d,c]) (u:=.non) rfl rfl rfl)) (cW ((aG (t:=.int (ls.length:Nat)) (u:=.int 8) (aW (ts:=[.tup ls]) (ar (kU (n:=1) (l:=[.tup cs,.tup ls]) rfl rfl rfl) rfl) rfl) rfl rfl).trans ?_))
    show Rs.ok (T.bl (decide ((ls.length:Int)<8)))=_
    rw[decide_eq_true (by omega)]
   obtain⟨ew,g'⟩:=wl J.g hlet (FO hsm) (by omega)
   have gr':=GR.of2 g'
   have hmul:∀{Z:En} (b:Bool),Z[15]? =some (.va (RR cs (ls++ [lt])))->gR (RR cs (ls++ [lt]))=b->(o2 bS (eV (af (vr 15) ak)) (cl sM (af (cl aY (af (vr 15) ak)) ak))) Z= .ok (.lst (if b then [RR cs (ls++ [lt])]else [])):=λ{Z} b h hb=>
    aG (t:=.lst [RR cs (ls++ [lt])]) (u:=.int (if b then 1 else 0)) (mm (ar (uV h) rfl) (aE (k:=1) (by simp))) (aW (ts:=[.bl b]) (ar (aW (ts:=[RR cs (ls++ [lt])]) (ar (uV h) rfl) (by rw[gr'.has,hb])) rfl) rfl) (mul_one _ b)
   cases hb:gR (RR cs (ls++ [lt]))with
   | true=>
    refine⟨cs,ls++ [lt],K'++ [RR cs ls] ++ [RR cs (ls++ [lt])],.va (.int ((80+10*j:Nat):Int)),.va (RR cs ls),.va (.int (n:Nat)),.va (.int x),.va (.int y),.va (.tup ((l++ [z]).map .int)),.va lt,ro,tw,st,.va (RR cs (ls++ [lt])),?_,go ?_⟩
    ·refine⟨g',hb,⟨_,rfl⟩,λr hr=> ?_,by rw[Lb];simp at hlen ⊢;omega,λc hc=> ?_,by rw[Lb];simp;omega⟩
     ·rcases Lw.mp hr with h | h
      ·exact J.all r h
      ·rw[Lr.mp h];exact gr'
     ·obtain⟨a,b,l',z',e',h'⟩:=J.cb c hc
      exact⟨a,b,l',z',e',by push_cast;omega⟩
    ·refine(aF (F:=B5) (G:=D6) (Z':=LE ns f (DK (K'++ [RR cs ls] ++ [RR cs (ls++ [lt])])) (K'++ [RR cs ls] ++ [RR cs (ls++ [lt])]) (.va (.int (j:Nat))) (.va (.int ((80+10*j:Nat):Int))) (.va (RR cs ls)) (.va (.int (n:Nat))) (.va (.int x)) (.va (.int y)) (.va (.tup ((l++ [z]).map .int))) (.va lt) ro tw st (.va (RR cs (ls++ [lt])))) ?_).trans (b6 f _ _ gr' _ _ _ _ _ _ _ _ _ _ _ _)
     refine(fw ca).trans ((iY cb).trans ?_)
     refine(aF (F:=T0) (G:=TC1) (Z':=LE ns f (DK (K'++ [RR cs ls])) (K'++ [RR cs ls]) (.va (.int (j:Nat))) (.va (.int ((80+10*j:Nat):Int))) (.va (RR cs ls)) (.va (.int (n:Nat))) (.va (.int x)) (.va (.int y)) (.va (.tup ((l++ [z]).map .int))) (.va lt) ro tw st (.va (RR cs (ls++ [lt])))) (cC (aW (ts:=[RR cs ls,lt]) rfl ew) rfl)).trans ?_
     refine(aF (F:=T1) (G:=TC2) (Z':=LE ns f (DK (K'++ [RR cs ls] ++ [RR cs (ls++ [lt])])) (K'++ [RR cs ls]) (.va (.int (j:Nat))) (.va (.int ((80+10*j:Nat):Int))) (.va (RR cs ls)) (.va (.int (n:Nat))) (.va (.int x)) (.va (.int y)) (.va (.tup ((l++ [z]).map .int))) (.va lt) ro tw st (.va (RR cs (ls++ [lt])))) ((A7 (b:=false) (AV (AX (t:=.bl true) (u:=.bl true) (wo (o:=DK (K'++ [RR cs ls])) (ts:=[lt]) rfl rfl (Bw gr ew gr' hb (by omega))) (aW (ts:=[RR cs (ls++ [lt])]) rfl (by rw[gr'.has,hb])) (jm rfl (by simp[T.dep]))))).trans rfl)).trans ?_
     exact Fc rfl (hmul true rfl hb) (by simp at hlen ⊢;omega)
   | false=>
    refine⟨cs,ls,K'++ [RR cs ls],.va (.int ((80+10*j:Nat):Int)),.va (RR cs ls),.va (.int (n:Nat)),.va (.int x),.va (.int y),.va (.tup ((l++ [z]).map .int)),.va lt,ro,tw,st,.va (RR cs (ls++ [lt])),⟨J.g,J.w,⟨K',rfl⟩,J.all,by omega,λc hc=> ?_,by omega⟩,go ?_⟩
    ·obtain⟨a,b,l',z',e',h'⟩:=J.cb c hc
     exact⟨a,b,l',z',e',by push_cast;omega⟩
    ·refine(aF (F:=B5) (G:=D6) (Z':=LE ns f (DK (K'++ [RR cs ls])) (K'++ [RR cs ls]) (.va (.int (j:Nat))) (.va (.int ((80+10*j:Nat):Int))) (.va (RR cs ls)) (.va (.int (n:Nat))) (.va (.int x)) (.va (.int y)) (.va (.tup ((l++ [z]).map .int))) (.va lt) ro tw st (.va (RR cs (ls++ [lt])))) ?_).trans (b6 f _ _ gr _ _ _ _ _ _ _ _ _ _ _ _)
     refine(fw ca).trans ((iY cb).trans ?_)
     refine(aF (F:=T0) (G:=TC1) (Z':=LE ns f (DK (K'++ [RR cs ls])) (K'++ [RR cs ls]) (.va (.int (j:Nat))) (.va (.int ((80+10*j:Nat):Int))) (.va (RR cs ls)) (.va (.int (n:Nat))) (.va (.int x)) (.va (.int y)) (.va (.tup ((l++ [z]).map .int))) (.va lt) ro tw st (.va (RR cs (ls++ [lt])))) (cC (aW (ts:=[RR cs ls,lt]) rfl ew) rfl)).trans ?_
     refine(aF (F:=T1) (G:=TC2) (Z':=LE ns f (DK (K'++ [RR cs ls])) (K'++ [RR cs ls]) (.va (.int (j:Nat))) (.va (.int ((80+10*j:Nat):Int))) (.va (RR cs ls)) (.va (.int (n:Nat))) (.va (.int x)) (.va (.int y)) (.va (.tup ((l++ [z]).map .int))) (.va lt) ro tw st (.va (RR cs (ls++ [lt])))) ((A7 (b:=false) (AV (AX (t:=.bl false) (u:=.bl false) (wo (o:=DK (K'++ [RR cs ls])) (ts:=[lt]) rfl rfl (Bx gr ew gr' hb)) (aW (ts:=[RR cs (ls++ [lt])]) rfl (by rw[gr'.has,hb])) (jm rfl (by simp[T.dep]))))).trans rfl)).trans ?_
     refine(Fc (l:=K'++ [RR cs ls]) (m:=[]) rfl (hmul false rfl hb) (by simp at hlen ⊢;omega)).trans ?_
     rw[LR];rfl
end
end G
set_option maxHeartbeats 4000000
namespace G
open PySem Tr Gr
section
variable {cs ls ms K:List T}{ns:List Int}{Z Z':En}
theorem qN (hn:ns.length<=63)(f:T):∀(m j:Nat) {cs ls K:List T} (k he rc cK sL fa rd le ro tw st mo:Sl),j+m=5->Jv cs ls K j->∃cs' ls' K' k' he' rc' cl' sl' fa' rd' le' ro' tw' st' mo',Jv cs' ls' K' 5 ∧
  bO (gN 4) D0 ((List.range' j m).map λ(j:Nat)=>T.int j) (LE ns f (DK K) K k he rc cK sL fa rd le ro tw st mo)= .ok (.nx (LE ns f (DK K') K' k' he' rc' cl' sl' fa' rd' le' ro' tw' st' mo'))
 | 0,j,cs,ls,K,k,he,rc,cK,sL,fa,rd,le,ro,tw,st,mo,h,J=>⟨cs,ls,K,k,he,rc,cK,sL,fa,rd,le,ro,tw,st,mo,by rw[show(5:Nat)=j by omega];exact J,rfl⟩
 | m+1,j,cs,ls,K,k,he,rc,cK,sL,fa,rd,le,ro,tw,st,mo,h,J=>by
  obtain⟨c1,l1,K1,a1,a2,a3,a4,a5,a6,a7,a8,a9,a10,a11,J1,e1⟩:=Aq hn j (by omega) J f he rc cK sL fa rd le ro tw st mo
  obtain⟨c2,l2,K2,b0,b1,b2,b3,b4,b5,b6,b7,b8,b9,b10,b11,J2,e2⟩:=qN hn f m (j+1) (.va (.int (j:Nat))) a1 a2 a3 a4 a5 a6 a7 a8 a9 a10 a11 (by omega) J1
  refine⟨c2,l2,K2,b0,b1,b2,b3,b4,b5,b6,b7,b8,b9,b10,b11,J2,?_⟩
  rw[List.range'_succ,Lf,gA (Z1:=LE ns f (DK K) K (.va (.int (j:Nat))) he rc cK sL fa rd le ro tw st mo) rfl e1,e2]
theorem zH (f rw_:T)(k he cK sL fa rd le ro tw st mo:Sl):∀(Q:List T) (r:T) (rc:Sl),(∀x∈Q,GR x)->∃rc' r',
  bO (gN 6) UB Q [.va (.scr ns),.va f,.ow (DK (Q.reverse++ [r])),.va rw_,k,he,rc,cK,sL,fa,rd,le,ro,tw,st,mo] = .ok (.nx [.va (.scr ns),.va f,.ow (DK [r']),.va rw_,k,he,rc',cK,sL,fa,rd,le,ro,tw,st,mo])
 | [],r,rc,_=>⟨rc,r,rfl⟩
 | q::Q,r,rc,h=>by
  obtain⟨rc',r',ih⟩:=zH f rw_ k he cK sL fa rd le ro tw st mo Q q (.va q) λx hx=>h x (.tail _ hx)
  have hq:=h q (.head _);refine⟨rc',r',?_⟩
  rw[gA (Z1:=[.va (.scr ns),.va f,.ow (DK ((q::Q).reverse++ [r])),.va rw_,k,he,.va q,cK,sL,fa,rd,le,ro,tw,st,mo]) (Z2:=[.va (.scr ns),.va f,.ow (DK (Q.reverse++ [q])),.va rw_,k,he,.va q,cK,sL,fa,rd,le,ro,tw,st,mo]) rfl ?_,ih]
  rw[NL];unfold UB;rw[aF (Z':=[.va (.scr ns),.va f,.ow (DK (Q.reverse++ [q])),.va rw_,k,he,.va q,cK,sL,fa,rd,le,ro,tw,st,mo]) (JE (kR (c:="Desk") (ns:=["kept"]) (ls:=[Q.reverse++ [q] ++ [r]]) (ts:=[]) rfl (by decide) rfl (Hu (K:=Q.reverse++ [q]) r (by simp))))]
  exact(fw (cW (aG (t:=q) (u:=q) (g9 (K:=Q.reverse) rfl hq) rfl hq.ne))).trans rfl
theorem BS (l:List T)(r:T):lb (l++ [r]) none (some (-1))=l:=by
 unfold lb HT.sIx;simp;rw[show((-1:Int)+((l.length:Int)+1)).toNat=l.length by omega]
 simp
end
theorem pure_law (ns:List Int)(hn:ns.length<=63):m_law [.scr ns] = .ok (.bl true):=by
 refine cm rfl ?_
 show Ci [.va (.scr ns),.em,.em,.em,.em,.em,.em,.em,.em,.em,.em,.em,.em,.em,.em,.em] =_
 unfold Ci;obtain⟨cs,ls,e0,hc,h3,hs,hl,h2,dc⟩:=HA ns hn 0 0 (by omega)
 obtain⟨hr,hsm⟩:=FT hc hs hl (by omega)
 have g0:=C3 hr (zP _ hsm)
 have g:Good cs []:=g0.sub (λu hu=>by cases hu) (by simp)
 have hw0:=Hn g0
 have hG:=GR.of2 g;rw[aF (Z':=[.va (.scr ns),.va (RR cs []),.em,.em,.em,.em,.em,.em,.em,.em,.em,.em,.em,.em,.em,.em]) (cC (t:=RR cs []) (cy (ar (kU (n:=0) (l:=[.tup cs,.tup ls]) (aW (ts:=[.scr ns,.int 0,.int 0]) rfl e0) rfl rfl) (ar (cy rfl (aE (k:=1) (by simp))) rfl)) (aE (k:=2) (by simp))) rfl)]
 rw[aF (Z':=[.va (.scr ns),.va (RR cs []),.ow (DK [RR cs []]),.em,.em,.em,.em,.em,.em,.em,.em,.em,.em,.em,.em,.em]) (Hb (ts:=[RR cs []]) rfl (Ew hG hw0) (by simp))]
 rw[aF (Z':=LE ns (RR cs []) (DK [RR cs []]) [RR cs []] .em .em .em .em .em .em .em .em .em .em .em .em) (wt (l:=[RR cs []]) rfl (by simp) (by simp))]
 have J0:Jv cs [] [RR cs []] 0:=by
  refine⟨g,hw0,⟨[],rfl⟩,λr h=>by rw[Lr.mp h];exact hG,by simp,λc h=> ?_,by simp⟩
  obtain⟨x,y,l,rfl,⟨l',z,hl',_,_,hz⟩,h3,_⟩:=dc c h;exact⟨x,y,l',z,by rw[hl'];rfl,by omega⟩
 obtain⟨cs',ls',K,b0,b1,b2,b3,b4,b5,b6,b7,b8,b9,b10,b11,J,e⟩:=qN hn (RR cs []) 5 0 .em .em .em .em .em .em .em .em .em .em .em .em rfl J0;rw[<-List.range_eq_range',<-ji]at e;rw[aF (jP (Hm (j:=((5:Nat):Int)) rfl (by omega) (by omega)) e)]
 obtain⟨K',hK⟩:=J.lst;subst hK;obtain⟨rc',r',e4⟩:=zH (ns:=ns) (RR cs []) (.lst (K'++ [RR cs' ls'])) b0 b1 b3 b4 b5 b6 b7 b8 b9 b10 b11 K'.reverse (RR cs' ls') b2 λx hx=>J.all x (LB _ (List.mem_reverse.mp hx))
 rw[List.reverse_reverse]at e4;rw[aF (Fb (jP (ts:=K'.reverse) (xR (A2 (t:=.lst K') (by rw[E7 (l:=K'++ [RR cs' ls']) (lo:=none) (hi:=some (-1)) rfl rfl (DZ (A2 (t:=.int 1) rfl rfl)),BS]) rfl)) e4))]
 refine cU ((aG (t:=.int 0) (u:=.int 0) (wu (K:=[r']) rfl) rfl (sW 0 0)).trans rfl)
end G
end
open PySem PySem.W PyProof.Rows
set_option maxRecDepth 100000 in
set_option maxHeartbeats 0 in
theorem PySem.Challenge.cw_farclocks_k82_whole_desks_read_holds : PySem.Challenge.rw_farclocks_k82_whole_desks_read.Holds := by
  w_on; o_law
  refine holds_open (q := G.vw) (loose := G.lse) (Xt := λ_ => true) (XP := λ_ _ => True) (Yf := (Tr.hookC G.asks G.top).obs) (Ya := (Tr.hookC G.asks G.top).val) (YP := (Tr.hookC G.asks G.top).says) (N := 9000) (Tr.left_of (by rfl) (by rfl) (λ_ => rfl) λw os => ?hl) (Tr.hookC G.asks G.top).of (Tr.hookC G.asks G.top).keeps (λ_ _ => trivial) (λ_ _ _ _ _ => trivial) (by rfl) (by rfl) (by rfl) (λs _ => recFacts_of (s := s) rfl) (by rfl) (by assumption) (by decide +kernel) ⟨rfl, rfl, rfl, rfl, rfl, by decide +kernel⟩ ?hw ?hc
  case hl => exact G.KR w os
  case hw => w_witness2
  case hc => exact Tr.walk_c (n := 63) (k := 17) (x := "_law_script") (CX := L2.CX0) (sp := λK => Tr.spP K 1 G.m_law) rfl (by decide) rfl ⟨rfl, by decide, by decide⟩ (λw K mg fa h X e g hf => G.all_ok X e g hf) (λK H a ns hl _ hS => Tr.sp_script hS (G.pure_law ns hl)) λ_ _ _ _ z => z
