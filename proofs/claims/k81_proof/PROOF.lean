import PyProof.Rows.All
import Wide.All
import OpenK.AllK
import Wide.FinOn
import Lean
import PyProof.EqAt
import PyProof.EqKinds
import PyProof.TupleCall
import PyProof.ExcClass3
import PyProof.StationsW
import PyProof.ExcBaseAll.ValueError
import PyProof.ExcArgsOwn
import PyProof.IsiBase
import PyProof.IsiH_tuple
import PyProof.ExcAttrAll.ValueError
import PyProof.Rows.RuleN_isinstance
import PyProof.MeetsSeq
import PyProof.RulesAs
import PyProof.IsiH_list
import PyProof.AttrMiss
import KE.KDictOf
import PyProof.Rows.SumAny
import PyProof.Rows.MinMaxN
import PyProof.Rows.SortShellK
import PyProof.Rows.SortWalk
import PyProof.ZipIter
import PyProof.WalksMore
import PyProof.DictWalks
import PyProof.AutoSeq1
import PyProof.Rows.Range3
import PyProof.CollectWalk
import KE.KSortTup
import PyProof.EnumMake
import PyProof.ListRange
import KE.KRevIter
import PySem.Challenge.RW_farclocks_k81_whole_desks
noncomputable section
open PySem.Challenge renaming pw_farclocks_k81_whole_desks→LD,rw_farclocks_k81_whole_desks→PF
open PySem.AutoListH renaming list___mul___list_int_3→QV
open PyProof.Rows renaming slot_tuple_getitem→LS,callWith_builtin1→Ou,callWith_type1→M7,subscriptTail_builtinR→P2,entry_tuple_getitem→O4,args_tuple_getitem→Pf,slicePart_none→Pl,tupleItemsOf_→PQ,subscriptTail→Rf,Subscript_→Rr,boot_all→RZ,IntsAre→OJ,AllBare→PP,IsTup→Sk
open Int renaming mul_le_mul_of_nonneg_left→OH,eq_ofNat_of_zero_le→L0,emod_lt_of_pos→Pe,toNat_natCast→Mr,emod_nonneg→Qi,ediv_one→RB,le_refl→Na
open PySem.F renaming args_tuple_iterator_next_1→OM,entry_tuple_iterator_next→OW,slot_tuple_iterator_next→Nd,excBase_ValueError→O6,slot_list_getattribute→Nq,args_tuple_add_2→N1,slot_list_append→Pp,type_list_append→Pq,plainAttrs_list→M4,entry_tuple_add→N7,args_dict_get_2→PH,slot_tuple_add→Oh,entry_dict_get→PX,slot_dict_get→Ov,slot_enumerate_next→Qa,args_int_rmul_2→Rk,slot_tuple_rmul→Rm,slot_tuple_mul→PR,slot_int_index→RP,entry_int_rmul→RQ,slot_int_rmul→OV,fills_int_mul→R5
open PySem.Builtin.Slice renaming slicePartIndex→RX,sliceApplied→Nb,slicePlaces→Mc,sliceAdjust→MA,sliceFields→Pj
open Array renaming getElem?_eq_some_iff→MK,length_toList→OS,find?_toList→QQ,toList→P6
open List renaming getElem?_append_right→Nc,getD_eq_getElem?_getD→NT,nodup_iff_pairwise_ne→O8,getElem?_eq_some_iff→Lz,getElem?_append_left→Mq,drop_eq_getElem_cons→NW,getElem?_eq_getElem→Ls,length_erase_of_mem→Px,getElem?_replicate→Mi,getElem?_cons_succ→MG,getElem?_set_self→LN,drop_eq_nil_of_le→Oj,take_of_length_le→Ol,length_pos_of_mem→PY,mem_append_right→LF,length_singleton→MW,getElem?_eq_none→MX,dropLast_eq_take→Qc,take_append_drop→Qe,mem_cons_of_mem→Lg,getElem?_set_ne→LL,mem_append_left→LW,mem_of_getElem?→Mw,mem_erase_of_ne→OL,filterMap_cons→MC,replicate_succ→MO,map_congr_left→MP,getElem_of_mem→Nx,getElem?_range→QF,length_reverse→QH,drop_succ_cons→QL,mem_cons_self→Ll,length_append→Lo,mem_singleton→Ly,mem_filterMap→N8,contains_cons→Oc,filterMap_map→QR,append_of_mem→Q5,size_toArray→Lx,getElem?_map→LI,append_assoc→Ms,nodup_append→Mt,flatten_cons→Np,length_range→NP,reverse_cons→On,flatMap_cons→Pw,length_cons→Lm,all_eq_true→LK,lookup_cons→L8,not_mem_nil→Mj,getElem_mem→MB,mem_flatMap→MJ,length_take→Ng,length_drop→OG,getElem_map→PU,drop_length→RS,cons_append→RU,length_map→Ln,mem_append→LH,nodup_cons→LJ,append_nil→LZ,length_set→MF,map_append→MY,find?_cons→NL,of_mem_zip→Oa,nil_append→OU,range_succ→Qg,mem_filter→R4,forIn_cons→R6,length_nil→R8,idxOf_cons→Sa,replicate→LG,mem_range→Mp,nodup_nil→NB,map_cons→Lk,mem_cons→Lp,sum_cons→MV,any_cons→Ny,mem_map→LQ,map_map→N5,map_nil→P7,toArray→RE,lookup→MN,length→M8,range→L6,Nodup→MQ,foldl→Pt,cons→OY,getD→QZ
open PySem.Builtin.Tuple renaming tupleItemsOf→NS,tupleIsExact→O5,tupleExact→L5
open PySem renaming wpAny_newFunctionEnv_cells→NU,wpAny_binaryOp_repeat_ref→Pm,wpAny_getItem_list_slice→PD,wpAny_callSpecial?_slot→MI,wpAny_pyNext_list_item→PZ,wpAny_Call_method_late→P3,codeAny_call_function→OA,wpAny_pyNext_list_end→Ql,builtinLookup_eq_fast→Qp,mem_of_lookup→M9,wpAny_isSubtype_exc→QP,wpAny_Call_Name_kw→MH,wpAny_pyIter_tuple→NH,tupleKind_room_in1→NI,wpAny_List_spliced→Ra,wpAny_newObj_type→Mg,foldedSetIterable→Mv,wpAny_truthy_bool→MR,wpAny_pyIter_list→PB,wpAny_sequenceKey→PC,wpAny_assign_Name→Rp,wpAny_pyIter_enum→Ru,wpAny_loadPart_at→Rv,wpAny_call_entry→NA,noFill_tuple_add→PV,seqSlot_of→RT,wpAny_execs_cons→RW,wpAny_loadPart'→Nu,wpAny_execs_nil→Oe,letOwnedTupleGo→Of,importedModules→Qk,pushCells_keeps→Qo,wpAny_passesOwn→Sb,typeLookup_type→Sh,codeAny_builtin→Si,wpAny_seqItems→Qx,wpAny_setField→Qy,attributeBase→LU,behindInMarks→Og,wpAny_holding→ON,swapsWithSole→Q8,swappedStores→Q9,seq_tuple_add→Rb,evalPart_none→Re,bootBuiltins→Ma,codeAny_mono→N6,wpAny_typeOf→OB,Within→Rx,codeAny_func→RI,concat_meets→RJ,mainGlobals→LX,wpAny_field→MT,keywordEach→NN,excClassObj→N0,sliceBounds→Oq,sizeLine_eq→OZ,subscripted→QN,wpAny_bind→Li,wpAny_pure→Lr,assignEach→MS,wpAny_mono→Nh,sysModules→NR,call_meets→Os,builtinsNs→Py,wpAny_call→Qr,typeIs_int→Qs,typeLookup→Rq,wpAny_rule→Rt,compareOp→L7,swapsWith→Me,cellsFrom→Nt,getMethod→O0,tupleKind→Pz,Arguments→Qj,pushCells→Qn,treeTable→Q7,slicePick→Se,noteFrame→Sg,starEach→LA,FuncData→Mo,binaryOp→MZ,boot_len→M0,NameKind→NQ,backToKw→Pg,intItems→Qt,callWith→Rg,bindArgs→RY,Program→LP,OsState→Pk,BindsTo→Qm,Keyword→Sf,Shared→Lj,Around→L3,IsPart→Rc,Result→Sd,Paired→Sn,Value→Lh,World→Mh,Scope→OI,CmpOp→Sm
open PySem.Calls renaming Name_function_global→O7,callWith_builtin→ND,evalArgs_plain→NV,spliced_cons→N9,spliced_nil→Om
open PySem.Builtin.SmallTypes renaming nextOf→Nj
open PySem.Builtin.List renaming listTooLong→Nm
open PySem.Builtin.Dict renaming updateFrom→PJ
open PySem.Heap renaming get?_push_of_some→Lq,get?_update_other→Oi,get?_update_self→P8,get?_push_size→LB,NewAttrErr→R9,size_push→M5,IsSliceOf→Sj,lt_size→Lw,SameBut→Oy
open PySem.W renaming cellsFrom_some→NC,methodCall_KW→Ox,hideAll_none→OK,hideAll_get→Nv,plainGet_of→OR,callWith_K0→QB,callWith_K→NG,of_hideAll→O9,codeRec_of→Pa,emptyDict→MD,methodObj→Pn,hasDictIn→Po,plainOver→Rh,kitx_list→Ri,kitx_dict→Rj,plainGet→OD,openSeen→RL,openGood→RM,handedIn→RN,kia_one→Mz,instObj→M6,topFrom→OQ,hideAll→P4,takerIn→P5,makesIn→R0,findIn→MU,keepIn→Ni,lookIn→Ph,codeIn→Qw,mg_of→NO,Frag→Ld,nsIn→N3,fnOf→Ot,isFn→Rw
open Option renaming map_eq_some_iff→NF,isSome_some→QY,isSome_map→Rn,getD_none→RO,some→Md
open PySem.Obj renaming isFreed_of_fields→P9,data_mapFields→Ob,mapFields→Q1
open Bool renaming and_eq_false_iff→Qh,and_eq_true_iff→Mx,or_eq_false_iff→Qv,false_ne_true→LM,not_eq_true'→Ro,and_eq_true→Lf,or_eq_true→R7,true_and→Nz,false_or→Q0,and_true→Q6
open PySem.Around renaming under_plainId→Qu,units→Pd,under→Ry
open PySem.Heap.SameBut renaming update→Qz
open Nat renaming lt_of_lt_of_le→LC,lt_of_le_of_lt→Q4,lt_succ_of_lt→Pu,le_of_succ_le→Pv,lt_succ_self→OF,mod_eq_of_lt→RV,lt_irrefl→LV,le_trans→Mf,ne_of_lt→My,le_of_lt→N4,le_of_eq→Oz,ne_of_gt→Pc,sub_self→Qb,add_comm→RC,mul_comm→RD,sub_zero→RF,zero_add→RH,le_refl→Lv,zero_le→Nk
open PySem.Heap.IsSliceOf renaming new→Pb
open Option.some renaming injEq→Pr,inj→LY
open List.cons renaming injEq→NJ
open ForInStep renaming yield→NK
open PySem.Expr renaming Subscript→NX,Attribute→NY,Constant→PM,ListComp→Q3,UnaryOp→Qd,Compare→RG,BoolOp→Nl,Name→L9,Call→Nr
open PySem.NameKind renaming free→L4,cell→ME
open Prod.mk renaming injEq→PK,inj→R1
open PySem.Paired renaming length→PL
open PySem.Str renaming ofString→Lu
open PySem.Code renaming isFrame→RA
open PySem.Stmt renaming Assign→PN
open PySem.Scope renaming names→QJ
open PySem.Pos renaming endLine→QK,line→Od
open PySem.Value renaming float→R3,none→L1,bool→Mu,type→OP,ref→LR,int→ML,str→MM
open False renaming elim→Nf
open True renaming intro→Nn
open PySem.BoolOp renaming And→Qq,Or→Q2
open PySem.Env renaming scope→NM
open PyProof.Rows.IsTup renaming new→QU
open Ne renaming symm→NZ
open Iff renaming rfl→Oo
open Sum renaming inl→QC,inr→QD
open Prod renaming mk→Rl
set_option Elab.async false
set_option linter.all false
set_option maxRecDepth 100000
set_option maxHeartbeats 8000000
noncomputable section
abbrev nDb (x:PySem.Str):Prop:=(x == PySem.Str.ofString "__debug__")=false
theorem aqa (h:True:=by first | exact .inl rfl | exact .inr rfl | assumption):True:=trivial
theorem aqb (h:True:=by decide):True:=trivial
theorem aqc (h:True:=by intro _;rfl):True:=trivial
theorem aqd (h:True:=by rfl):True:=trivial
theorem aqe (h:True:=by first | exact Or.inl rfl | exact Or.inr (Or.inl rfl) | exact Or.inr (Or.inr rfl)):True:=trivial
theorem aqf (h:True:=by with_unfolding_all rfl):True:=trivial
theorem aqg (h:True:=by intro _ _;rfl):True:=trivial
theorem aqh (h:True:=by first | exact Or.inl rfl | exact Or.inr rfl):True:=trivial
theorem aqi (h:True:=by decide+kernel):True:=trivial
namespace L2
open PySem PySem.Spec PyProof.Rows
inductive V where
 | non | bl (b:Bool) | int (i:Int) | str (x:Str) | byt (b:Array UInt8) | flt (b:UInt64) | ref (a:Addr) | ty (n:String)
 deriving DecidableEq
def cY (s:Stmt)(j:Nat):Stmt:=match s with
 | .ClassDef _ _ _ body _ _ _ _ _ _ _=>body.getD j (.Pass ⟨0,0,0,0⟩)
 | _=> .Pass ⟨0,0,0,0⟩
def eK (s:Stmt):Qj:=match s with
 | .FunctionDef _ a _ _ _ _ _ _ _ _=>a
 | _=> { posonlyargs:=[],args:=[],vararg:=none,kwonlyargs:=[],kw_defaults:=[],kwarg:=none,defaults:=[] }
def bF (s:Stmt):List Stmt:=match s with
 | .FunctionDef _ _ b _ _ _ _ _ _ _=>b
 | _=> []
def ai (s:Stmt):OI:=match s with
 | .FunctionDef _ _ _ _ _ _ sc _ _ _=>sc
 | _=> { kind:=.function,names:=[],isGenerator:=false,isCoroutine:=false }
end L2
namespace Tr
open PySem PySem.Spec PyProof.Rows L2
inductive T where
 | non | bl (b:Bool) | int (i:Int) | str (x:Str) | tup (l:List T) | lst (l:List T)
 /-- the law's script: a list of ints that is only read -/
 | scr (l:List Int)
 /-- a dict: its keys,its values -/
 | dct (ks vs:List T)
 /-- an instance: its class,the names of its attributes,what they are -/
 | ob (C:Str) (ns:List Str) (ts:List T)
inductive OT where
 | lst (l:List T) | dct (ks ts:List T) | dd (ks:List T) (rows:List (List T×List T))
 /-- an instance,its attributes own lists -/
 | ob (C:Str) (ns:List Str) (ls:List (List T))
def OT.view:OT->T
 | .lst l=> .lst l
 | .dct ks ts=> .dct ks ts
 | .dd ks rows=> .dct ks (rows.map λr=> .dct r.1 r.2)
 | .ob C ns ls=> .ob C ns (ls.map T.lst)
def calmNames:List Str:=["__init__","__getattribute__","__getattr__","__class__"]
def zp:Lh->Bool
 | .str _ _=>true
 | _=>false
end Tr
namespace Tr
def fj:List Int->List Int->Bool
 | [],[] =>false
 | [],_::_=>true
 | _::_,[] =>false
 | a::l,b::m=>if a=b then fj l m else decide (a<b)
end Tr
namespace Tr
open PySem PySem.Spec PyProof.Rows L2
structure RK where
 V:Heap->Lh->List Int->Prop
 inj:∀{h v a b},V h v a->V h v b->a=b
 on:∀{h h':Heap} {v a},V h v a->(∀b o,h.get? b=some o->h'.get? b=some o)->V h' v a
 fst:∀{h v a},V h v a->∃ad xs n o m t,v= .ref ad/\h.get? ad=some o/\o.cls= .type "tuple"/\o.data= .seq xs n/\xs[0]? =some (.int m t)
 lt:∀{prog w A s E x y a b} {Q:Bool->Lj->Prop},A.units+60<cLine->V s.heap x a->V s.heap y b->Q (fj a b) s->wpAny (model prog w) A (keyLt' (tuples' true) x y) Q E s
variable (R:RK)
open Classical in
def RK.key (h:Heap)(v:Lh):Option (List Int):=if e:∃ns,R.V h v ns then some e.choose else none
variable {R:RK}
end Tr
namespace Tr
open PySem PySem.Spec PyProof.Rows L2 PySem.W
def uh (h:Heap):Frag:=(L6 h.objs.size).filterMap λa=>(h.get? a).map λo=>(a,o)
def obF (K:Frag)(n:Str):Option (Str×Str×Qj×FuncBody×OI×Addr×List (Str×Addr)×Lh×Addr×Bool×Bool):=match nsIn K LX n with
 | some (some (.ref f))=>match K.lookup f with
  | some ⟨_,_,.func d,_⟩=>some (d.name,d.qualname,d.params,d.body,d.scope,d.globals,d.closure,d.defaults,d.builtins,codeIn K d.code n,keepIn K (.ref f))
  | _=>none
 | _=>none
def exF (n:Str)(st:Stmt):Option (Str×Str×Qj×FuncBody×OI×Addr×List (Str×Addr)×Lh×Addr×Bool×Bool):=
 some (n,n,eK st,.stmts (bF st),ai st,LX,[],.none,Py,true,true)
def IV (K:Frag)(N:Addr)(n:Str):Bool:=match nsIn K N n with | some none=>true | _=>false
def J2 (K:Frag)(n:Str):Option Int:=match nsIn K LX n with | some (some (.int i _))=>some i | _=>none
def wg:List Lh->Bool
 | [.type a,.type b,.type c,.type d] =>a == "ValueError" &&b == "Exception" &&c == "BaseException" &&d == "object"
 | _=>false
def under (D:Option Addr)(m:List Lh):Bool:=match D with
 | none=>wg m
 | some D=>match m with
  | .ref E::m=>E == D&&wg m
  | _=>false
def Dz (K:Frag)(D:Option Addr)(n:Str):Option Addr:=match nsIn K LX n with
 | some (some (.ref C))=>match K.lookup C with
  | some ⟨.type t,_,.cls c,⟨[_,_,_,_,some (.builtin b),_]⟩⟩=>match c.mro,K.lookup c.ns with
   | .ref E::m,some ⟨_,_,.dict es _,_⟩=>
    if (t == "type" &&b == "ValueError.__new__" && !c.hasDel&&(es.toList.all λe=>zp e.key)&&calmNames.all (IV K c.ns)&&E == C&&under D m)=true then some C else none
   | _,_=>none
  | _=>none
 | _=>none
def vU {α:Type}:List (Option α)->Option (List α)
 | [] =>some []
 | none::_=>none
 | some a::r=>match vU r with | some l=>some (a::l) | none=>none
def qZ:List Addr->Bool
 | [] =>true
 | a::r=>(r.all λb=> !(a == b))&&qZ r
def J0 (K:Frag):List Str->Bool
 | [] =>true
 | m::es=>match Dz K none m with
  | some D=>match vU (es.map (Dz K (some D)))with | some l=>qZ (l++ [D]) | none=>false
  | none=>false
structure BV where
 tab:List (Str×Nat)
 zs:List Str
 cs:List (Str×Int)
 es:List Str
def tL (S:BV)(K:Frag):=(S.tab.map (λp=>obF K p.1),S.zs.all (IV K LX),S.cs.map (λc=>J2 K c.1),J0 K S.es)
def sO (S:BV)(top:Nat->Stmt):=(S.tab.map (λp=>exF p.1 (top p.2)),true,S.cs.map (λc=>some c.2),true)
def IW (K:Frag)(C:Addr)(m q:Str):Option (Str×Str×Qj×FuncBody×OI×Addr×List (Str×Addr)×Lh×Addr×Bool×Bool×Bool):=match findIn K (.ref C) m with
 | some (some (.ref f))=>match K.lookup f with
  | some ⟨_,_,.func d,_⟩=>some (d.name,d.qualname,d.params,d.body,d.scope,d.globals,d.closure,d.defaults,d.builtins,codeIn K d.code q,keepIn K (.ref f),isFn K (.ref f))
  | _=>none
 | _=>none
def JH (m q:Str)(st:Stmt):Option (Str×Str×Qj×FuncBody×OI×Addr×List (Str×Addr)×Lh×Addr×Bool×Bool×Bool):=
 some (m,q,eK st,.stmts (bF st),ai st,LX,[],.none,Py,true,true,true)
def GF (K:Frag)(C:Addr)(f:Str):Bool:=match findIn K (.ref C) f with | some none=>true | _=>false
def FG (K:Frag)(C:Addr):Bool:=match findIn K (.ref C) "__setattr__" with | some (some (.builtin b))=>b == "object.__setattr__" | _=>false
def E8 (K:Frag)(C:Addr)(as:List Str):Bool:=plainGet K C Str.empty&&hasDictIn K C&&plainOver K C&&FG K C&&makesIn K C&&keepIn K (.ref C)&&as.all (GF K C)
structure EC where
 c:Str
 i:Nat
 as:List Str
 ms:List (Str×Str×Nat)
def J1 (K:Frag)(A:EC):=match nsIn K LX A.c with
 | some (some (.ref C))=>some (E8 K C A.as,A.ms.map λ(m:Str×Str×Nat)=>IW K C m.1 m.2.1)
 | _=>none
def J4 (top:Nat->Stmt)(A:EC):=some (true,A.ms.map λ(m:Str×Str×Nat)=>JH m.1 m.2.1 (cY (top A.i) m.2.2))
structure uG where
 a:BV
 ks:List EC
def Ab (S:uG)(K:Frag):=(tL S.a K,S.ks.map (J1 K))
def zi (S:uG)(top:Nat->Stmt):=(sO S.a top,S.ks.map (J4 top))
end Tr
namespace G
open PySem PySem.Spec PyProof.Rows L2 Tr
def top (i:Nat):Stmt:=LD.main.body.getD i (.Pass ⟨0,0,0,0⟩)
def BJ:BV:=⟨([("is_long",18),("is_whole",16),("is_within",17),("is_pace",21),("rises",19),("are_readings",20),("is_clock",22),("are_clocks",23),("is_event",24),("is_delay",25),("is_letter",26),("are_letters",27),("is_record",28),("need_record",29),("events",32)]:List (Str×Nat))++([("is_better",48),("settle",47),("greatest_world",50),("bounds_of_clock",39),("bounds_of_letter",40),("bounds",41),("world",51),("has_world",52),("need_world",53),("need_event",30),("need_events",59),("most_of",61),("walks_from",60),("most_between",62),("least_between",63)]:List (Str×Nat))++([("_law_cell",65),("_law_drawn",66),("_law_events",69),("_law_letter",68),("_law_clock",67),("_law_record",70),("if_record",34),("with_letter",35),("_law_takes",71),("are_numbers",43),("leads",45),("leads_round",46),("sum_of",44),("bars",55),("barring",54)]:List (Str×Nat))++([("law",72)]:List (Str×Nat)),(["all","bool","dict","enumerate","int","isinstance","len","list","range","sum","tuple"]:List Str),[("MOST_CLOCKS",4),("MOST_LETTERS",8),("MOST_READINGS",4),("LAST_READING",99),("SLOWEST",9),("LONGEST",999)],["ClockError","NoRecord","NoEvent","NoNumber","NoWorld","Barred","Nothing"]⟩
def asks:uG:=⟨BJ,[⟨"Desk",57,["kept"],[("__init__","Desk.__init__",0),("record","Desk.record",1),("many","Desk.many",7),("undo","Desk.undo",6),("keep","Desk.keep",2),("take","Desk.take",3)]⟩]⟩
def vw:LP:=PySem.W.view LD [72]
def lse:List Str:=(["_wall","ClockError","NoRecord","NoEvent","NoNumber","NoWorld","Barred","Nothing","MOST_CLOCKS","MOST_LETTERS","MOST_READINGS","LAST_READING","SLOWEST","LONGEST","is_whole","is_within","is_long","rises","are_readings","is_pace"]:List Str)++(["is_clock","are_clocks","is_event","is_delay","is_letter","are_letters","is_record","need_record","need_event","need_number","events","if_record","with_letter","with_clock","with_reading","bounds_of_clock","bounds_of_letter","bounds","are_numbers","sum_of"]:List Str)++(["leads","leads_round","settle","is_better","greatest_world","world","has_world","need_world","barring","bars","Desk","need_events","walks_from","most_of","most_between","least_between","_law_cell","_law_drawn","_law_clock","_law_letter"]:List Str)++(["_law_events","_law_record","_law_takes"]:List Str)
def lhs (w:Mh)(h:Heap)(d:Drawn)(t:Nat)(os:Pk):=(OQ Q7 LD w 9000 ⟨h,⟨[]⟩,d,t,os⟩).map (λs=>(RL vw lse (Qk LD.main.body) (λ_=>true) true s,Ab asks (uh s.heap)))
def rhs (w:Mh):=some (RM vw lse,zi asks top)
end G
set_option maxHeartbeats 1000000
set_option maxHeartbeats 1000000
set_option maxHeartbeats 1000000
set_option maxHeartbeats 1000000
set_option maxHeartbeats 4000000
set_option maxHeartbeats 4000000
namespace G
open PySem Tr PySem.W PyProof.Rows
def lhA (w:Mh)(h:Heap)(d:Drawn)(t:Nat)(os:Pk):=(OQ Q7 LD w 9000 ⟨h,⟨[]⟩,d,t,os⟩).map λs=>RL vw lse (Qk LD.main.body) (λ_=>true) true s
def rhA (_:Mh):=some (RM vw lse)
theorem lhA_r:lhA=lhA:=rfl
theorem rhA_r:rhA=rhA:=rfl
def lhB (w:Mh)(h:Heap)(d:Drawn)(t:Nat)(os:Pk):=(OQ Q7 LD w 9000 ⟨h,⟨[]⟩,d,t,os⟩).map λs=>tL asks.a (uh s.heap)
def rhB (_:Mh):=some (sO asks.a top)
theorem lhB_r:lhB=lhB:=rfl
theorem rhB_r:rhB=rhB:=rfl
def lhC (w:Mh)(h:Heap)(d:Drawn)(t:Nat)(os:Pk):=(OQ Q7 LD w 9000 ⟨h,⟨[]⟩,d,t,os⟩).map λs=>asks.ks.map (J1 (uh s.heap))
def rhC (_:Mh):=some (asks.ks.map (J4 top))
theorem lhC_r:lhC=lhC:=rfl
theorem rhC_r:rhC=rhC:=rfl
theorem join3 {α β γ δ:Type}{o:Option α}{f:α->β}{g:α->γ}{k:α->δ}{a:β}{b:γ}{c:δ}(h1:o.map f=some a)(h2:o.map g=some b)(h3:o.map k=some c):o.map (λs=>(f s,g s,k s))=some (a,b,c):=by
 cases o with
 | none=>cases h1
 | some s=>cases h1;cases h2;cases h3;rfl
end G
lay_quick G.lhA G.rhA G.lhB G.rhB G.lhC G.rhC
name_quick lhAz for G.lhA by G.lhA_r
name_quick rhAz for G.rhA by G.rhA_r
name_quick lhBz for G.lhB by G.lhB_r
name_quick rhBz for G.rhB by G.rhB_r
name_quick lhCz for G.lhC by G.lhC_r
name_quick rhCz for G.rhC by G.rhC_r
section
open PySem PySem.W PyProof.Rows
set_option maxRecDepth 100000 in
theorem G.K3 (w:Mh)(os:Pk):PySem.W.Fast.lhAz w (boot_heap w.params) boot_drawn boot_toks os=PySem.W.Fast.rhAz w:=by kernel_rfl
set_option maxRecDepth 100000 in
theorem G.KU (w:Mh)(os:Pk):PySem.W.Fast.lhBz w (boot_heap w.params) boot_drawn boot_toks os=PySem.W.Fast.rhBz w:=by kernel_rfl
set_option maxRecDepth 100000 in
theorem G.KQ (w:Mh)(os:Pk):PySem.W.Fast.lhCz w (boot_heap w.params) boot_drawn boot_toks os=PySem.W.Fast.rhCz w:=by kernel_rfl
theorem G.KZ (w:Mh)(os:Pk):G.lhs w (boot_heap w.params) boot_drawn boot_toks os=G.rhs w:=G.join3 (((congrFun (congrFun (congrFun (congrFun (congrFun PySem.W.Fast.lhAz_eq w) _) _) _) os).trans (G.K3 w os)).trans (congrFun PySem.W.Fast.rhAz_eq w).symm) (((congrFun (congrFun (congrFun (congrFun (congrFun PySem.W.Fast.lhBz_eq w) _) _) _) os).trans (G.KU w os)).trans (congrFun PySem.W.Fast.rhBz_eq w).symm) (((congrFun (congrFun (congrFun (congrFun (congrFun PySem.W.Fast.lhCz_eq w) _) _) _) os).trans (G.KQ w os)).trans (congrFun PySem.W.Fast.rhCz_eq w).symm)
end
namespace L2
open PySem PySem.Spec PyProof.Rows
abbrev Key:=Sum Int Str
def pL:Key->Lh->Bool
 | .inl k,v=>Value.isInt k v
 | .inr x,v=>Value.isStrOf x v
def keyH (w:Mh):Key->Int
 | .inl k=>hashInt k
 | .inr x=>hashStr w x
theorem b9:∀{k:Key} {v:Lh},pL k v=true->(∃i t,k=QC i/\v=ML i t)\/(∃x t,k=QD x/\v=MM x t)
 | .inl i,v,h=>by
  obtain⟨t,e⟩:=Value.isInt_shape (k:=i) (v:=v) h
  exact .inl ⟨i,t,rfl,e⟩
 | .inr x,v,h=>by
  obtain⟨t,e⟩:=Value.isStrOf_shape (x:=x) (v:=v) h;exact .inr ⟨x,t,rfl,e⟩
theorem yx (i:Int)(t:Tok):pL (.inl i) (.int i t)=true:=by simp[pL,Value.isInt]
theorem yw (x:Str)(t:Tok):pL (.inr x) (.str x t)=true:=by simp[pL,Value.isStrOf]
theorem GS (a b:Int):decide ((QC a:Key)=QC b)=(a == b):=by
 by_cases e:a=b
 ·subst e;simp
 ·have h:¬ (QC a:Key)=QC b:=λq=>e (QC.inj q)
  rw[decide_eq_false h];exact(beq_eq_false_iff_ne.mpr e).symm
theorem GO (a b:Str):decide ((QD a:Key)=QD b)=decide (a=b):=by
 by_cases e:a=b
 ·subst e;simp
 ·have h:¬ (QD a:Key)=QD b:=λq=>e (QD.inj q)
  rw[decide_eq_false h,decide_eq_false e]
theorem GQ (a:Int)(b:Str):decide ((QC a:Key)=QD b)=false:=decide_eq_false (λq=>nomatch q)
theorem GP (a:Str)(b:Int):decide ((QD a:Key)=QC b)=false:=decide_eq_false (λq=>nomatch q)
def cm (prog:LP)(w:Mh):PySem.KeyKind prog w Key where
 is:=pL
 hash:=keyH w
 inj:=λv a b ha hb=>by
  rcases b9 ha with⟨i,t,rfl,rfl⟩ | ⟨x,t,rfl,rfl⟩
  ·rcases b9 hb with⟨j,u,rfl,e⟩ | ⟨y,u,rfl,e⟩
   ·injection e with e1 _;rw[e1]
   ·exact nomatch e
  ·rcases b9 hb with⟨j,u,rfl,e⟩ | ⟨y,u,rfl,e⟩
   ·exact nomatch e
   ·injection e with e1 _;rw[e1]
 byValue:=λk v h=>by
  rcases b9 h with⟨i,t,rfl,rfl⟩ | ⟨x,t,rfl,rfl⟩ <;> rfl
 pyHash:=λhv h=>by
  rcases b9 hv with⟨i,t,rfl,rfl⟩ | ⟨x,t,rfl,rfl⟩
  ·exact wpAny_pyHash_int h
  ·exact wpAny_pyHash_str h
 eqBool:=λhu hv h=>by
  rcases b9 hu with⟨i,t,rfl,rfl⟩ | ⟨x,t,rfl,rfl⟩
  ·rcases b9 hv with⟨j,u,rfl,rfl⟩ | ⟨y,u,rfl,rfl⟩
   ·rw[GS]at h;exact wpAny_eqBool_int h
   ·rw[GQ]at h;exact SeqAt.EqAt.int_str i t y u _ _ _ _ h
  ·rcases b9 hv with⟨j,u,rfl,rfl⟩ | ⟨y,u,rfl,rfl⟩
   ·rw[GP]at h;exact SeqAt.EqAt.str_int x t j u _ _ _ _ h
   ·rw[GO]at h;exact wpAny_eqBool_str h
 «strs»:=λk x t v h=>by
  rcases b9 h with⟨i,u,rfl,e⟩ | ⟨y,u,rfl,e⟩
  ·exact nomatch e
  ·injection e with e1 _
   subst e1;cases v <;> rfl
theorem tY (prog:LP)(w:Mh)(i:Int)(t:Tok):(cm prog w).is (.inl i) (.int i t)=true:=yx i t
theorem tW (prog:LP)(w:Mh)(x:Str)(t:Tok):(cm prog w).is (.inr x) (.str x t)=true:=yw x t
def RelV:V->Lh->Prop
 | .non,u=>u=L1
 | .bl b,u=>u=Mu b
 | .int i,u=> ∃t,u=ML i t
 | .str x,u=> ∃t,u=MM x t
 | .byt b,u=> ∃t,u=Value.bytes b t
 | .flt b,u=> ∃t,u=R3 b t
 | .ref a,u=>u=LR a
 | .ty n,u=>u=OP n
abbrev Vals:List V->List Lh->Prop:=Sn RelV
theorem Vals.length {xs:List V}{us:List Lh}(r:Vals xs us):xs.length=us.length:=PL r
theorem Vals.get:∀{xs:List V} {us:List Lh} {i:Nat} {x:V},Vals xs us->xs[i]? =some x->∃u,us[i]? =some u/\RelV x u
 | _,_,_,_,.nil,e=>by simp at e
 | _,_,0,_,.cons r _,e=>by simp at e;subst e;exact⟨_,rfl,r⟩
 | _,_,i+1,x,.cons _ t,e=>by
  obtain⟨u,h1,h2⟩:=Vals.get (i:=i) (x:=x) t (by simpa using e)
  exact⟨u,by simpa using h1,h2⟩
theorem Vals.append:∀{xs ys:List V} {us ws:List Lh},Vals xs us->Vals ys ws->Vals (xs++ys) (us++ws)
 | _,_,_,_,.nil,s=>s
 | _,_,_,_,.cons r t,s=> .cons r (Vals.append t s)
theorem Vals.take:∀{xs:List V} {us:List Lh} (n:Nat),Vals xs us->Vals (xs.take n) (us.take n)
 | _,_,0,_=> .nil
 | _,_,_+1,.nil=> .nil
 | _,_,n+1,.cons r t=> .cons r (Vals.take n t)
theorem Vals.drop:∀{xs:List V} {us:List Lh} (n:Nat),Vals xs us->Vals (xs.drop n) (us.drop n)
 | _,_,0,r=>r
 | _,_,_+1,.nil=> .nil
 | _,_,n+1,.cons _ t=>Vals.drop n t
def RelO:Option V->Option Lh->Prop
 | some v,some u=>RelV v u
 | none,none=>True
 | _,_=>False
def KV {κ:Type}:List (κ×V)->List (κ×Lh)->Prop:=Sn λ(p:κ×V) (q:κ×Lh)=>p.1=q.1/\RelV p.2 q.2
def kV:Key->V
 | .inl i=> .int i
 | .inr x=> .str x
inductive HO where
 /-- a list -/
 | lst (xs:List V)
 /-- a tuple (never changes) -/
 | tup (xs:List V)
 /-- a dict whose keys are ints and texts;one whose keys are tuples of ints and texts (the empty one is both) -/
 | dK (kvs:List (Key×V)) | dT (kvs:List (List Key×V))
 /-- a set of ints: its members,its size -/
 | set (S:Int->Bool) (n:Nat)
 /-- an instance of the class at C,its dict at dx,its attributes -/
 | ins (C dx:Addr) (fs:List (Str×V))
 /-- the dict of the instance at x -/
 | own (x:Addr)
 /-- the dict of an exception -/
 | xd (fs:List (Str×V))
 /-- a bound method,f of x -/
 | met (f x:Addr)
 /-- a range object lo,lo+1,.. below hi -/
 | rng (lo hi:Int)
 /-- a thing that is known to the object (the script;a dict while a loop walks it): read,never written while it is so -/
 | frz (o:Obj) (u:HO)
 /-- a code object's table -/
 | tbl (ps:Array Lh)
 /-- any other thing,by what is true of its one object (a def of one's own: SetO a S n:=HO.ext λh=> ..) -/
 | ext (φ:Heap->Prop)
abbrev Hp:=Addr->Option HO
def upd (H:Hp)(a:Addr)(o:HO):Hp:=λb=>if b=a then some o else H b
theorem aQ {H:Hp}{a:Addr}{o:HO}:upd H a o a=some o:=by unfold upd;rw[if_pos rfl]
theorem aH {H:Hp}{a b:Addr}{o:HO}(h:b≠a):upd H a o b=H b:=by unfold upd;rw[if_neg h]
theorem qk {H:Hp}{a:Addr}{o u:HO}:upd (upd H a o) a u=upd H a u:=by
 funext b;unfold upd;split <;> rfl
theorem ny {H:Hp}{a b:Addr}{o u:HO}(h:H a=some o)(h':H b=some u)(d:o≠u):a≠b:=by
 intro e;subst e;rw[h]at h';exact d (LY h')
theorem bS {H:Hp}{a b:Addr}{o:HO}(h:H a=some o)(h':H b=none):a≠b:=by
 intro e;subst e;rw[h]at h';cases h'
section
variable (P:LP)(w:Mh)
def ObjOk (H:Hp)(h:Heap)(a:Addr):HO->Prop
 | .lst xs=>xs.length<=sizeLine/\∃(its:List Lh) (n:Nat),Vals xs its/\h.get? a=some { cls:=.type "list",data:=.seq its.toArray n }
 | .tup xs=>xs.length<=sizeLine/\∃its:List Lh,Vals xs its/\Sk h a its.toArray
 | .dK kvs=>kvs.length<=sizeLine/\(a == NR)=false/\∃vs,KV kvs vs/\h.DictOf (cm P w) a vs
 | .dT kvs=>kvs.length<=sizeLine/\(a == NR)=false/\∃xs:List (List Key×Addr×Lh),
   Sn (λ(p:List Key×V) (q:List Key×Addr×Lh)=>p.1=q.1/\H q.2.1=some (.tup (p.1.map kV))/\RelV p.2 q.2.2) kvs xs ∧
   ∃o es ep,h.get? a=some o/\o.ExactDict/\o.data= .dict es ep/\es.toList=xs.map (entryOfKey (Pz (cm P w)))/\(xs.map (·.1)).Nodup
 | .set S n=>h.SetOf (intKind P w) a S n
 | .ins C dx fs=>H dx=some (.own a)/\fs.length<=1000/\dx≠a/\h.get? a=some (M6 C dx) ∧
   ∃mA,h.Ns1 dx mA/\(∀f,RelO (fs.lookup f) (mA f))/\Rx mA (fs.map (·.1))
 | .own _=> ∃o,h.get? a=some o
 | .xd fs=> ∃mA,h.Ns1 a mA/\∀f,RelO (fs.lookup f) (mA f)
 | .rng lo hi=> ∃t u v,h.get? a=some { cls:=.type "range",data:=.fields #[.int lo t,.int hi u,.int 1 v] }
 | .frz o u=>h.get? a=some o/\ObjOk H h a u
 | .tbl ps=>h.get? a=some { cls:=.none,data:=.fields ps }
 | .met f x=>h.get? a=some (Pn (.ref f) (.ref x))
 | .ext φ=>φ h/\(∃o,h.get? a=some o)/\∀h1 h2:Heap,φ h1->(∀o,h1.get? a=some o->h2.get? a=some o)->φ h2
def HOk (H:Hp)(h:Heap):Prop:=∀a o,H a=some o->ObjOk P w H h a o
end
section
variable {P:LP}{w:Mh}{H H':Hp}{h h':Heap}{a:Addr}{o:HO}
theorem ObjOk.lt (x:ObjOk P w H h a o):a<h.objs.size:=by
 cases o with
 | lst xs=>obtain⟨_,_,_,_,e⟩:=x;exact Lw e
 | tup xs=>obtain⟨_,_,_,p⟩:=x;exact p.lt
 | dK kvs=>obtain⟨_,_,_,_,o,_,_,e,_⟩:=x;exact Lw e
 | dT kvs=>obtain⟨_,_,_,_,o,_,_,e,_⟩:=x;exact Lw e
 | set S n=>obtain⟨o,_,_,_,e,_⟩:=x;exact Lw e
 | ins C dx fs=>obtain⟨_,_,_,e,_⟩:=x;exact Lw e
 | own y=>obtain⟨_,e⟩:=x;exact Lw e
 | xd fs=>obtain⟨_,⟨_,_,_,e,_⟩,_⟩:=x;exact Lw e
 | rng lo hi=>obtain⟨_,_,_,e⟩:=x;exact Lw e
 | frz ob u=>obtain⟨e,_⟩:=x;exact Lw e
 | tbl ps=>exact Lw (show h.get? a=some _ from x)
 | met f y=>exact Lw (show h.get? a=some _ from x)
 | ext φ=>obtain⟨_,⟨_,e⟩,_⟩:=x;exact Lw e
theorem Paired.KF {α β:Type}{F G:α->β->Prop}:∀{l₁:List α} {l₂:List β},Sn F l₁ l₂->(∀a b,F a b->G a b)->Sn G l₁ l₂
 | _,_,.nil,_=> .nil
 | _,_,.cons r t,f=> .cons (f _ _ r) (Paired.KF t f)
theorem ObjOk.Ki (x:ObjOk P w H h a o)(k:∀b u,(b=a\/H b=some (.own a))->h.get? b=some u->h'.get? b=some u)
  (ho:∀b,H b=some (.own a)->H' b=some (.own a)) (ht:∀b xs,H b=some (.tup xs)->H' b=some (.tup xs)):ObjOk P w H' h' a o:=by
 induction o with
 | lst xs=>obtain⟨z,its,n,r,e⟩:=x;exact⟨z,its,n,r,k _ _ (.inl rfl) e⟩
 | tup xs=>obtain⟨z,its,r,ob,e,c⟩:=x;exact⟨z,its,r,ob,k _ _ (.inl rfl) e,c⟩
 | dK kvs=>obtain⟨z,y,vs,r,ob,es,ep,e,c⟩:=x;exact⟨z,y,vs,r,ob,es,ep,k _ _ (.inl rfl) e,c⟩
 | dT kvs=>
  obtain⟨z,y,xs,r,ob,es,ep,e,c⟩:=x
  exact⟨z,y,xs,Paired.KF r λp q z=>⟨z.1,ht _ _ z.2.1,z.2.2⟩,ob,es,ep,k _ _ (.inl rfl) e,c⟩
 | set S n=>obtain⟨ob,es,ep,t,e,c⟩:=x;exact⟨ob,es,ep,t,k _ _ (.inl rfl) e,c⟩
 | ins C dx fs=>
  obtain⟨d,z,ne,e,mA,⟨od,es,ep,e2,c⟩,r⟩:=x
  exact⟨ho _ d,z,ne,k _ _ (.inl rfl) e,mA,⟨od,es,ep,k _ _ (.inr d) e2,c⟩,r⟩
 | own y=>obtain⟨ob,e⟩:=x;exact⟨ob,k _ _ (.inl rfl) e⟩
 | xd fs=>obtain⟨mA,⟨od,es,ep,e,c⟩,r⟩:=x;exact⟨mA,⟨od,es,ep,k _ _ (.inl rfl) e,c⟩,r⟩
 | rng lo hi=>obtain⟨t,u,v,e⟩:=x;exact⟨t,u,v,k _ _ (.inl rfl) e⟩
 | frz ob u ih=>obtain⟨e,q⟩:=x;exact⟨k _ _ (.inl rfl) e,ih q⟩
 | tbl ps=>
  have e:h.get? a=some { cls:=.none,data:=.fields ps }:=x
  show h'.get? a=some { cls:=.none,data:=.fields ps }
  exact k a _ (.inl rfl) e
 | met f y=>
  have e:h.get? a=some (Pn (.ref f) (.ref y)):=x
  show h'.get? a=some (Pn (.ref f) (.ref y))
  exact k a _ (.inl rfl) e
 | ext φ=>obtain⟨p,⟨o,e⟩,st⟩:=x;exact⟨st _ _ p λo q=>k _ _ (.inl rfl) q,⟨o,k _ _ (.inl rfl) e⟩,st⟩
theorem HOk.lt (x:HOk P w H h)(e:H a=some o):a<h.objs.size:=(x a o e).lt
theorem HOk.fresh (x:HOk P w H h)(e:h.objs.size<=a):H a=none:=by
 cases q:H a with
 | none=>rfl
 | some u=>exact absurd (LC (x.lt q) e) (LV _)
theorem HOk.kept (x:HOk P w H h)(k:∀b u,h.get? b=some u->h'.get? b=some u):HOk P w H h':=λa o e=>
 (x a o e).Ki (λb u _ q=>k b u q) (λ_ q=>q) λ_ _ q=>q
theorem HOk.laid (x:HOk P w H h)(k:∀b u,h.get? b=some u->h'.get? b=some u)(hp:h.objs.size<=a)(new:ObjOk P w (upd H a o) h' a o):HOk P w (upd H a o) h':=λb u e=>by
 have hn:=x.fresh hp
 by_cases hb:b=a
 ·subst hb;rw[aQ]at e;cases e;exact new
 ·rw[aH hb]at e
  exact(x b u e).Ki (λc v _ q=>k c v q) (λc q=>by rw[aH (bS q hn)];exact q) λc xs q=>by rw[aH (bS q hn)];exact q
end
def Rd (H:Hp)(a:Addr)(u:HO):Prop:=H a=some u\/∃o,H a=some (.frz o u)
theorem Rd.ok {P:LP}{w:Mh}{H:Hp}{h:Heap}{a:Addr}{u:HO}(r:Rd H a u)(x:HOk P w H h):ObjOk P w H h a u:=by
 rcases r with r | ⟨o,r⟩
 ·exact x a u r
 ·obtain⟨_,q⟩:=x a _ r
  exact q
def JT:Option HO->Prop
 | some (.lst _)=>True
 | some (.dK _)=>True
 | some (.dT _)=>True
 | some (.set _ _)=>True
 | some (.ins _ _ _)=>True
 | some (.ext _)=>True
 | _=>False
section
variable {P:LP}{w:Mh}{H:Hp}{h h':Heap}{x e:Addr}{o':HO}
theorem HOk.write (ok:HOk P w H h)(mu:JT (H x))(he:e=x\/H e=some (.own x))(k:∀b u,b≠e->h.get? b=some u->h'.get? b=some u)(heo:∃u,h'.get? e=some u)
  (new:ObjOk P w (upd H x o') h' x o'):HOk P w (upd H x o') h':=λb u q=>by
 have nown:∀c y,H c=some (.own y)->c≠x:=λc y r z=>by subst z;rw[r]at mu;exact mu
 have ntup:∀c xs,H c=some (.tup xs)->c≠x:=λc xs r z=>by subst z;rw[r]at mu;exact mu
 by_cases hb:b=x
 ·subst hb;rw[aQ]at q;cases q;exact new
 ·rw[aH hb]at q
  by_cases hbe:b=e
  ·have q':H b=some (.own x):=by
    rcases he with z | z
    ·exact absurd (hbe.trans z) hb
    ·rw[hbe];exact z
   rw[q]at q';cases q';obtain⟨v,hv⟩:=heo;exact⟨v,by rw[hbe];exact hv⟩
  ·refine(ok b u q).Ki (λc v hc r=>k c v ?_ r) (λc r=>by rw[aH (nown c b r)];exact r) λc xs r=>by rw[aH (ntup c xs r)];exact r
   rcases hc with rfl | hc
   ·exact hbe
   ·rintro rfl
    rcases he with z | z
    ·exact nown c b hc z
    ·rw[hc]at z;cases z;exact hb rfl
end
structure Un (fs ex:List Addr)(H H':Hp)(h h':Heap):Prop where
 keep:∀b o,h.get? b=some o->H b=none->b∉fs->b∉ex->h'.get? b=some o
 slot:∀b o,h.get? b=some o->H b=none->b∈fs->b∉ex->∃sl,h'.get? b=some { o with slots:=sl }
 free:∀b o,h.get? b=some o->H b=none->b∉ex->H' b=none
 there:∀b o,h.get? b=some o->b∉ex->∃o',h'.get? b=some o'
 tups:∀b xs,H b=some (.tup xs)->H' b=some (.tup xs)
 frzs:∀b o u,H b=some (.frz o u)->H' b=some (.frz o u)
 tbls:∀b ps,H b=some (.tbl ps)->∃more,H' b=some (.tbl (ps++more))
section
variable {fs fs' ex ex':List Addr}{H H1 H2:Hp}{h h1 h2 h':Heap}{a x e:Addr}{o:HO}
theorem Un.any (u:Un fs ex H H1 h h1){b:Addr}{ob:Obj}(q:h.get? b=some ob)(n:H b=none)(hx:b∉ex):∃sl,h1.get? b=some { ob with slots:=sl }:=by
 by_cases hb:b∈fs
 ·exact u.slot b ob q n hb hx
 ·exact⟨ob.slots,u.keep b ob q n hb hx⟩
theorem Un.kept (k:∀b u,h.get? b=some u->h'.get? b=some u):Un fs ex H H h h':=
 ⟨λb ob q _ _ _=>k b ob q,λb ob q _ _ _=>⟨ob.slots,k b ob q⟩,λ_ _ _ n _=>n,λb ob q _=>⟨ob,k b ob q⟩,λ_ _ q=>q,λ_ _ _ q=>q,λ_ ps q=>⟨#[],by rw[q];simp⟩⟩
theorem Un.refl:Un fs ex H H h h:=Un.kept λ_ _ q=>q
theorem Un.laid (k:∀b u,h.get? b=some u->h'.get? b=some u)(hp:h.objs.size<=a)(hn:H a=none):Un fs ex H (upd H a o) h h' where
 keep:=λb u q _ _ _=>k b u q
 slot:=λb u q _ _ _=>⟨u.slots,k b u q⟩
 free:=λb u q n _=>by rw[aH (My (LC (Lw q) hp))];exact n
 there:=λb u q _=>⟨u,k b u q⟩
 tups:=λb xs q=>by rw[aH (bS q hn)];exact q
 frzs:=λb u xs q=>by rw[aH (bS q hn)];exact q
 tbls:=λb ps q=>⟨#[],by rw[aH (bS q hn),q];simp⟩
theorem Un.write (mu:JT (H x))(he:e=x\/H e=some (.own x))(k:∀b u,b≠e->h.get? b=some u->h'.get? b=some u)(heo:∃u,h'.get? e=some u):Un fs ex H (upd H x o) h h':=by
 have hx:∀b,H b=none->b≠x:=λb n z=>by subst z;rw[n]at mu;exact mu
 have hb:∀b,H b=none->b≠e:=λb n z=>by
  subst z;rcases he with r | r
  ·exact hx b n r
  ·rw[n]at r;cases r
 have hm:∀b u,H b=some u->¬ JT (some u)->b≠x:=λb u q nm z=>by subst z;rw[q]at mu;exact nm mu
 refine⟨λb u q n _ _=>k b u (hb b n) q,λb u q n _ _=>⟨u.slots,k b u (hb b n) q⟩,λb u q n _=>by rw[aH (hx b n)];exact n,λb u q _=> ?_,
  λb xs q=>by rw[aH (hm b _ q λz=>z)];exact q,λb u xs q=>by rw[aH (hm b _ q λz=>z)];exact q,λb ps q=>⟨#[],by rw[aH (hm b _ q λz=>z),q];simp⟩⟩
 by_cases hbe:b=e
 ·subst hbe;exact heo
 ·exact⟨u,k b u hbe q⟩
end
def trk (h:Heap)(H:Hp):List Addr:=(L6 h.objs.size).filter λa=>(H a).isSome
def rP (h:Heap)(H:Hp):Heap:=P4 h (trk h H)
theorem yC (h:Heap)(H:Hp):(rP h H).objs.size=h.objs.size:=PySem.W.hideAll_size _ _
theorem AV {h:Heap}{H:Hp}{b:Addr}{o:Obj}(e:h.get? b=some o)(n:H b=none):(rP h H).get? b=some o:=
 Nv _ e λhm=>by
  have q:(H b).isSome=true:=(R4.mp hm).2;rw[n]at q;simp at q
theorem Dy {h:Heap}{H:Hp}{b:Addr}{o:Obj}(e:(rP h H).get? b=some o):h.get? b=some o/\H b=none:=by
 have e':h.get? b=some o:=O9 (trk h H) e;refine⟨e',?_⟩
 cases q:H b with
 | none=>rfl
 | some x=>
  have hm:b∈trk h H:=R4.mpr ⟨Mp.mpr (Lw e'),by simp[q]⟩
  have z:(rP h H).get? b=none:=OK (trk h H) hm;rw[z]at e;cases e
def Eo (g h:Heap)(L:Addr):List (Addr×Obj):=(L6 h.objs.size).filterMap λa=>if a=L\/(g.get? a).isSome=true then none else(h.get? a).map λo=>(a,o)
def bN (g h:Heap)(L d:Addr):List (Addr×Obj):=(Eo g h L).filter λp=>decide (p.1≠d)
structure Mod (K:Ld)(mg:Str->Option Lh)(base:Heap):Prop where
 kin:K.In base
 glob:base.Ns LX mg
 blt:∃mb,base.Ns Py mb/\∀x:Str,x≠ "__name__"->mb x=Ma x
 nolimit:base.NoLimit
structure Cx where
 prog:LP
 w:Mh
 K:Ld
 mg:Str->Option Lh
 base:Heap
 A:L3
 N:List Str
 s₀:Lj
 H₀:Hp
 env:Env
 outer:List Env
 stack:List Env
 ex:List Addr
 fn:Str->Bool
 calm:Bool
 pn:List (Addr×Obj)
 xe:Lh->Lj->Prop
def nN (l:List Env):List Addr:=l.filterMap (·.frame)
abbrev Cx.fs (X:Cx):List Addr:=nN X.outer
def oo (sc:OI)(x:Str):Prop:=sc.names.lookup x=some .local\/sc.names.lookup x=some .cell\/sc.names.lookup x=some .free
def Loc (sc:OI)(x:Str):Prop:=sc.names.lookup x=some .local\/sc.names.lookup x=some .cell
def Look (env:Env)(h:Heap)(m:Str->Option Lh)(x:Str)(u:Lh):Prop:=
 (env.kindOf x=some .local/\m x=some u)\/((env.kindOf x=some .cell\/env.kindOf x=some .free)/\∃c,env.cells.lookup x=some c/\h.IsCell c (some u))
structure Cx.Ok (X:Cx):Prop where
 mod:Mod X.K X.mg X.base
 kind:X.env.scope.kind= .function
 glob:X.env.globals=LX
 blt:X.env.builtins=Py
 above:X.s₀.heap.objs.size<=X.env.locals
 inj:∀x y c,X.env.cells.lookup x=some c->X.env.cells.lookup y=some c->x=y
 has:∀x,(X.env.kindOf x=some .cell\/X.env.kindOf x=some .free)->∃c,X.env.cells.lookup x=some c
 cab:∀x c,X.fn x=true->X.env.cells.lookup x=some c->X.s₀.heap.objs.size<=c
 hd:X.calm=true->X.A.handled=none
 frames:X.A.frames=some X.stack
 stk:X.stack=X.outer\/(X.stack=X.env::X.outer/\X.env.frame=some X.env.locals)
 exf:∀b∈X.ex,b≠X.env.locals/\∀x c,X.env.cells.lookup x=some c->c≠b
 bs:∀b o,X.base.get? b=some o->X.s₀.heap.get? b=some o/\X.H₀ b=none
 bsz:X.base.objs.size<=X.s₀.heap.objs.size
 noex:∀b o,X.base.get? b=some o->b∉X.ex
 exfs:∀b∈X.ex,b∉X.fs
 funs:X.s₀.heap.FunFrames X.base X.outer
 frf:∀b∈X.fs,X.H₀ b=none
structure Inv (X:Cx)(pins:List (Addr×Obj))(σ:List (Option V))(H:Hp)(s:Lj):Prop where
 ok:X.Ok
 os:s.os=X.s₀.os
 bare:PP s.gens
 base:Un X.fs X.ex X.H₀ H X.s₀.heap s.heap
 loc:∃m,s.heap.Ns X.env.locals m/\∀(i:Nat) (x:Str) (v:V),X.N[i]? =some x->σ[i]? =some (some v)->oo X.env.scope x->∃u,RelV v u/\Look X.env s.heap m x u
 cell:∀x c,X.env.cells.lookup x=some c->∃v,s.heap.IsCell c v
 free:H X.env.locals=none
 freeC:∀x c,X.env.cells.lookup x=some c->H c=none
 pin:∀p∈X.pn++pins,s.heap.get? p.1=some p.2/\H p.1=none/\p.1≠X.env.locals/\p.1∉X.fs/\∀v,p.2.data≠ .cell v
 hok:HOk X.prog X.w H s.heap
 len:σ.length=X.N.length
section
variable {X:Cx}{pins:List (Addr×Obj)}{σ:List (Option V)}{H H':Hp}{s:Lj}{h':Heap}
theorem Cx.Ok.K6 (ok:X.Ok){b:Addr}{o:Obj}(e:X.base.get? b=some o):b∉X.fs:=λhb=>by
 have:=(ok.funs.mem hb).1;rw[e]at this;cases this
theorem Inv.bs (I:Inv X pins σ H s):∀b o,X.base.get? b=some o->s.heap.get? b=some o/\H b=none:=λb o e=>
 ⟨I.base.keep b o (I.ok.bs b o e).1 (I.ok.bs b o e).2 (I.ok.K6 e) (I.ok.noex b o e),I.base.free b o (I.ok.bs b o e).1 (I.ok.bs b o e).2 (I.ok.noex b o e)⟩
theorem Inv.bk (I:Inv X pins σ H s):∀b o,X.base.get? b=some o->s.heap.get? b=some o:=λb o e=>(I.bs b o e).1
theorem Inv.mod (I:Inv X pins σ H s):Mod X.K X.mg X.base:=I.ok.mod
theorem Inv.kIn (I:Inv X pins σ H s):X.K.In s.heap:=I.ok.mod.kin.keeps I.bk
theorem Inv.lt (I:Inv X pins σ H s):X.env.locals<s.heap.objs.size:=let ⟨_,hn,_⟩:=I.loc;hn.lt
theorem Inv.sz (I:Inv X pins σ H s):X.s₀.heap.objs.size<=s.heap.objs.size:=Mf I.ok.above (N4 I.lt)
theorem Inv.Lc (I:Inv X pins σ H s){a:Addr}(h:s.heap.objs.size<=a):a∉X.fs:=λhb=>by
 obtain⟨_,o,ho,_⟩:=I.ok.funs.mem hb;exact absurd (LC (Lw ho) (Mf I.sz h)) (LV _)
theorem Inv.cne (I:Inv X pins σ H s):∀x c,X.env.cells.lookup x=some c->c≠X.env.locals:=λx c e z=>by
 obtain⟨v,o,ho,hd⟩:=I.cell x c e;obtain⟨m,⟨o',es,ep,ho',hd',_⟩,_⟩:=I.loc;rw[z,ho']at ho;cases ho;rw[hd']at hd;cases hd
theorem Inv.funs (I:Inv X pins σ H s):s.heap.FunFrames X.base X.outer:=by
 have all:∀(l:List Env),(∀b∈nN l,b∈X.fs)->X.s₀.heap.FunFrames X.base l->s.heap.FunFrames X.base l:=by
  intro l
  induction l with
  | nil=>intro _ _;trivial
  | cons env r ih=>
   intro hs hl;obtain⟨hk,⟨L,o,hf,hn,ho,hd⟩,hr⟩:=hl
   have hL:L∈X.fs:=hs L (by unfold nN;rw[MC,hf];exact Ll)
   obtain⟨sl,e⟩:=I.base.slot L o ho (I.ok.frf L hL) hL λz=>I.ok.exfs L z hL
   exact⟨hk,⟨L,_,hf,hn,e,hd⟩,ih (λb hb=>hs b (by unfold nN;rw[MC,hf];exact Lg _ hb)) hr⟩
 exact all X.outer (λ_ hb=>hb) I.ok.funs
theorem Inv.stack (I:Inv X pins σ H s):s.heap.FunFrames X.base X.stack:=by
 rcases I.ok.stk with e | ⟨e,hf⟩
 ·rw[e];exact I.funs
 ·rw[e]
  obtain⟨m,hn,_⟩:=I.loc;refine .cons (by rw[I.ok.kind];decide) hf hn ?_ I.funs
  exact Heap.get?_none_of_le (Mf I.ok.bsz I.ok.above)
theorem Inv.Kp (I:Inv X pins σ H s):∀b∈nN X.stack,b∈X.env.locals::X.fs:=λb hb=>by
 rcases I.ok.stk with e | ⟨e,hf⟩
 ·rw[e]at hb;exact Lg _ hb
 ·rw[e]at hb
  unfold nN at hb;rw[MC,hf]at hb;exact hb
theorem Inv.Kd (I:Inv X pins σ H s):∀b∈nN X.stack,H b=none:=λb hb=>by
 rcases Lp.mp (I.Kp b hb)with e | hb
 ·rw[e];exact I.free
 ·obtain⟨_,o,ho,_⟩:=I.ok.funs.mem hb
  exact I.base.free b o ho (I.ok.frf b hb) λz=>I.ok.exfs b z hb
theorem Inv.step {g':Array GenState}{t':Nat}{d':Drawn}{ch:List Addr}(I:Inv X pins σ H s)
  (hch:∀b∈ch,(b∈X.ex\/X.s₀.heap.objs.size<=b)/\b≠X.env.locals/\(∀x c,X.env.cells.lookup x=some c->c≠b)/\∀p∈X.pn++pins,p.1≠b)
  (keep:∀b o,b≠X.env.locals->b∉X.fs->b∉ch->s.heap.get? b=some o->H b=none->h'.get? b=some o)
  (slot:∀b o,b≠X.env.locals->b∈X.fs->b∉ch->s.heap.get? b=some o->H b=none->∃sl,h'.get? b=some { o with slots:=sl }) (free:∀b o,b∉ch->s.heap.get? b=some o->H b=none->H' b=none)
  (there:∀b o,b∉ch->s.heap.get? b=some o->∃o',h'.get? b=some o')
  (tups:∀b xs,H b=some (.tup xs)->H' b=some (.tup xs)) (frzs:∀b o u,H b=some (.frz o u)->H' b=some (.frz o u)) (tbls:∀b ps,H b=some (.tbl ps)->∃more,H' b=some (.tbl (ps++more)))
  (ns:∀m,s.heap.Ns X.env.locals m->h'.Ns X.env.locals m) (hok:HOk X.prog X.w H' h') (hg:PP g') :
  Inv X pins σ H' { s with heap:=h',gens:=g',drawn:=d',toks:=t' }:=by
 have neL:∀b o,X.s₀.heap.get? b=some o->b≠X.env.locals:=λb o e=>My (LC (Lw e) I.ok.above)
 have neC:∀b o,X.s₀.heap.get? b=some o->b∉X.ex->b∉ch:=λb o e hx hb=>by
  rcases(hch b hb).1 with z | z
  ·exact hx z
  ·exact absurd (LC (Lw e) z) (LV _)
 have cellK:∀x c,X.env.cells.lookup x=some c->∀v,s.heap.IsCell c v->h'.IsCell c v:=λx c e v hh_=>by
  obtain⟨o,ho,hd⟩:=hh_
  have nch:c∉ch:=λz=>(hch c z).2.2.1 x c e rfl
  by_cases hc:c∈X.fs
  ·obtain⟨sl,q⟩:=slot c o (I.cne x c e) hc nch ho (I.freeC x c e)
   exact⟨_,q,hd⟩
  ·exact⟨o,keep c o (I.cne x c e) hc nch ho (I.freeC x c e),hd⟩
 refine⟨I.ok,I.os,hg,⟨λb o e n hb hx=> ?_,λb o e n hb hx=> ?_,λb o e n hx=> ?_,λb o e hx=> ?_,λb xs e=>tups b xs (I.base.tups b xs e),λb o xs e=>frzs b o xs (I.base.frzs b o xs e),λb ps e=> ?_⟩,?_,λx c e=> ?_,?_,λx c e=> ?_,λp hp=> ?_,hok,I.len⟩
 ·exact keep b o (neL b o e) hb (neC b o e hx) (I.base.keep b o e n hb hx) (I.base.free b o e n hx)
 ·obtain⟨sl,e1⟩:=I.base.slot b o e n hb hx
  obtain⟨sl',e2⟩:=slot b _ (neL b o e) hb (neC b o e hx) e1 (I.base.free b o e n hx);exact⟨sl',e2⟩
 ·obtain⟨o',e1⟩:=I.base.there b o e hx
  exact free b o' (neC b o e hx) e1 (I.base.free b o e n hx)
 ·obtain⟨o',e1⟩:=I.base.there b o e hx
  exact there b o' (neC b o e hx) e1
 ·obtain⟨m1,e1⟩:=I.base.tbls b ps e
  obtain⟨m2,e2⟩:=tbls b _ e1;exact⟨m1++m2,by rw[e2,Array.append_assoc]⟩
 ·obtain⟨m,hn,hl⟩:=I.loc
  refine⟨m,ns m hn,λi x v e1 e2 e3=> ?_⟩
  obtain⟨u,r,l⟩:=hl i x v e1 e2 e3;refine⟨u,r,?_⟩
  rcases l with l | ⟨k,c,e,z⟩
  ·exact .inl l
  ·exact .inr ⟨k,c,e,cellK x c e _ z⟩
 ·obtain⟨v,z⟩:=I.cell x c e
  exact⟨v,cellK x c e v z⟩
 ·obtain⟨m,⟨o,_,_,ho,_⟩,_⟩:=I.loc
  exact free _ o (λz=>(hch _ z).2.1 rfl) ho I.free
 ·obtain⟨v,o,ho,hd⟩:=I.cell x c e
  exact free c o (λz=>(hch c z).2.2.1 x c e rfl) ho (I.freeC x c e)
 ·obtain⟨e,n,ne,nf,d⟩:=I.pin p hp
  have nch:p.1∉ch:=λz=>(hch p.1 z).2.2.2 p hp rfl
  exact⟨keep p.1 p.2 ne nf nch e n,free p.1 p.2 nch e n,ne,nf,d⟩
theorem Inv.un {t':Nat}(I:Inv X pins σ H s)(u:Un X.fs [] H H' s.heap h')(hok:HOk X.prog X.w H' h'):Inv X pins σ H' { s with heap:=h',toks:=t' }:=by
 obtain⟨m,⟨o,es,ep,ho,r⟩,_⟩:=id I.loc;obtain⟨sl,hL⟩:=u.any ho I.free (by simp)
 exact I.step (g':=s.gens) (d':=s.drawn) (ch:=[]) (λ_ z=>nomatch z) (λb o _ hb _ e n=>u.keep b o e n hb (by simp)) (λb o _ hb _ e n=>u.slot b o e n hb (by simp)) (λb o _ e n=>u.free b o e n (by simp)) (λb o _ e=>u.there b o e (by simp)) u.tups u.frzs u.tbls (λm' hm=>by
  obtain⟨o',es',ep',ho',r'⟩:=hm;rw[ho]at ho';cases ho';exact⟨_,es',ep',hL,r'⟩) hok I.bare
theorem Inv.call {g':Array GenState}{t':Nat}{d':Drawn}{ch:List Addr}(I:Inv X pins σ H s)(u:Un (nN X.stack) ch H H' s.heap h')(hok:HOk X.prog X.w H' h')(hg:PP g')
  (hch:∀b∈ch,(b∈X.ex\/X.s₀.heap.objs.size<=b)/\b≠X.env.locals/\(∀x c,X.env.cells.lookup x=some c->c≠b)/\∀p∈X.pn++pins,p.1≠b) :
  Inv X pins σ H' { s with heap:=h',gens:=g',drawn:=d',toks:=t' }:=by
 obtain⟨m,⟨o,es,ep,ho,r⟩,_⟩:=id I.loc;obtain⟨sl,hL⟩:=u.any ho I.free λz=>(hch _ z).2.1 rfl
 exact I.step (ch:=ch) hch (λb o hL hb hc e n=>u.keep b o e n (λz=>(Lp.mp (I.Kp b z)).elim hL hb) hc) (λb o _ _ hc e n=>u.any e n hc) (λb o hc e n=>u.free b o e n hc) (λb o hc e=>u.there b o e hc) u.tups u.frzs u.tbls (λm' hm=>by
  obtain⟨o',es',ep',ho',r'⟩:=hm;rw[ho]at ho';cases ho';exact⟨_,es',ep',hL,r'⟩) hok hg
theorem Inv.turned {t':Nat}{it:Addr}(I:Inv X pins σ H s)(k:∀b o,b≠it->s.heap.get? b=some o->h'.get? b=some o)(hn:H it=none)(hL:it≠X.env.locals)
  (h1:it∈X.ex\/X.s₀.heap.objs.size<=it) (h2:∀x c,X.env.cells.lookup x=some c->c≠it) (h3:∀p∈X.pn++pins,p.1≠it):Inv X pins σ H { s with heap:=h',toks:=t' }:=by
 have nit:∀b u,H b=some u->b≠it:=λb u e z=>by rw[z,hn]at e;cases e
 refine I.step (g':=s.gens) (d':=s.drawn) (ch:=[it]) (λb hb=> ?_) (λb o _ _ hc e _=>k b o (λz=>hc (by simp[z])) e) (λb o _ _ hc e _=>⟨o.slots,k b o (λz=>hc (by simp[z])) e⟩) (λ_ _ _ _ n=>n)
  (λb o hc e=>⟨o,k b o (λz=>hc (by simp[z])) e⟩) (λ_ _ e=>e) (λ_ _ _ e=>e) (λb ps e=>⟨#[],by rw[e];simp⟩) (λm hm=> ?_) (λb u e=> ?_) I.bare
 ·have e:b=it:=by simpa using hb
  subst e;exact⟨h1,hL,h2,h3⟩
 ·obtain⟨o,es,ep,ho,r⟩:=hm
  exact⟨o,es,ep,k _ o (NZ hL) ho,r⟩
 ·refine(I.hok b u e).Ki (λc v hc q=>k c v ?_ q) (λ_ q=>q) λ_ _ q=>q
  rcases hc with z | z
  ·rw[z];exact nit b u e
  ·exact nit c _ z
theorem Inv.tok (I:Inv X pins σ H s)(t:Nat):Inv X pins σ H { s with toks:=t }:=I.un (h':=s.heap) (t':=t) Un.refl I.hok
theorem Inv.kept {t':Nat}(I:Inv X pins σ H s)(k:∀b u,s.heap.get? b=some u->h'.get? b=some u):Inv X pins σ H { s with heap:=h',toks:=t' }:=I.un (Un.kept k) (I.hok.kept k)
theorem Inv.laid {a:Addr}{o:HO}{t':Nat}(I:Inv X pins σ H s)(k:∀b u,s.heap.get? b=some u->h'.get? b=some u)(hp:s.heap.objs.size<=a)(new:ObjOk X.prog X.w (upd H a o) h' a o) :
  Inv X pins σ (upd H a o) { s with heap:=h',toks:=t' }:=I.un (Un.laid k hp (I.hok.fresh hp)) (I.hok.laid k hp new)
theorem Inv.write {x e:Addr}{o:HO}{t':Nat}(I:Inv X pins σ H s)(mu:JT (H x))(he:e=x\/H e=some (.own x))(k:∀b u,b≠e->s.heap.get? b=some u->h'.get? b=some u)(heo:∃u,h'.get? e=some u)
  (new:ObjOk X.prog X.w (upd H x o) h' x o):Inv X pins σ (upd H x o) { s with heap:=h',toks:=t' }:=I.un (Un.write mu he k heo) (I.hok.write mu he k heo new)
theorem Inv.Ks {pins':List (Addr×Obj)}(I:Inv X pins σ H s)(h:∀p∈pins',s.heap.get? p.1=some p.2/\H p.1=none/\p.1≠X.env.locals/\p.1∉X.fs/\∀v,p.2.data≠ .cell v):Inv X pins' σ H s:=
 ⟨I.ok,I.os,I.bare,I.base,I.loc,I.cell,I.free,I.freeC,λp hp=>(LH.mp hp).elim (λz=>I.pin p (LW _ z)) (h p),I.hok,I.len⟩
theorem tN {N:List Str}(hN:N.Nodup){i j:Nat}{x:Str}(a:N[i]? =some x)(b:N[j]? =some x):i=j:=by
 obtain⟨h1,e1⟩:=Lz.mp a
 obtain⟨h2,e2⟩:=Lz.mp b
 exact(List.getElem_inj hN).mp (e1.trans e2.symm)
theorem pz {M:Model}{A:L3}{E:Lh->Lj->Prop}{i:Nat}{x:Str}{v:V}{u:Lh}{Q:Unit->Lj->Prop}(I:Inv X pins σ H s)(hN:X.N.Nodup)(hi:X.N[i]? =some x)(hx:Loc X.env.scope x)(r:RelV v u)
  (h:∀s',Inv X pins (σ.set i (some v)) H s'->(∃a,Oy a s.heap s'.heap/\(a=X.env.locals\/X.env.cells.lookup x=some a))->Q () s') (hf:autoParam (X.fn x=true\/X.env.scope.names.lookup x=some .local) aqa._auto_1):wpAny M A (storeName X.env x u) Q E s:=by
 obtain⟨m,hn,hl⟩:=id I.loc
 have hcls:(X.env.scope.kind == .class||(X.env.scope.kind == .module&&X.env.locals != X.env.globals))=false:=by rw[I.ok.kind];rfl
 have hiσ:i<σ.length:=by rw[I.len];exact(Lz.mp hi).1
 have cne:=I.cne
 have tracked:∀{a:Addr} {h':Heap},(∃o,s.heap.get? a=some o/\H a=none)->Oy a s.heap h'->HOk X.prog X.w H h':=λ{a h'} ha hs b ob e=>by
  obtain⟨_,_,hfree⟩:=ha;refine(I.hok b ob e).Ki (λc w' hc q=>(hs.2 c ?_).trans q) (λ_ q=>q) λ_ _ q=>q
  rintro rfl
  rcases hc with rfl | hc
  ·rw[hfree]at e;cases e
  ·rw[hfree]at hc;cases hc
 rcases hx with hk | hk
 ·refine wpAny_storeName_local hk hn (λh' hn' hs=> ?_) hcls
  obtain⟨oL,_,_,hoL,_⟩:=id hn;refine h _ ⟨I.ok,I.os,I.bare,⟨λb o e n hb hx=> ?_,λb o e n hb hx=> ?_,I.base.free,λb o e hx=> ?_,I.base.tups,I.base.frzs,I.base.tbls⟩,⟨_,hn',λj y v' e1 e2 e3=> ?_⟩,λy c e=> ?_,I.free,I.freeC,λp hp=> ?_,tracked ⟨oL,hoL,I.free⟩ hs,by simpa using I.len⟩ ⟨_,hs,.inl rfl⟩
  ·exact(hs.2 b (My (LC (Lw e) I.ok.above))).trans (I.base.keep b o e n hb hx)
  ·obtain⟨sl,e1⟩:=I.base.slot b o e n hb hx
   exact⟨sl,(hs.2 b (My (LC (Lw e) I.ok.above))).trans e1⟩
  ·obtain⟨o',e1⟩:=I.base.there b o e hx
   exact⟨o',(hs.2 b (My (LC (Lw e) I.ok.above))).trans e1⟩
  ·by_cases hj:j=i
   ·subst hj
    rw[hi]at e1;cases e1;rw[LN hiσ]at e2
    cases e2;exact⟨u,r,.inl ⟨hk,by simp⟩⟩
   ·rw[LL (NZ hj)]at e2
    obtain⟨u',r',q⟩:=hl j y v' e1 e2 e3;refine⟨u',r',?_⟩
    rcases q with⟨k,e⟩ | ⟨k,c,e,z⟩
    ·refine .inl ⟨k,?_⟩
     have:y≠x:=λe=>hj (tN hN e1 (e▸hi))
     simp[this,e]
    ·exact .inr ⟨k,c,e,z.sameBut hs (cne y c e)⟩
  ·obtain⟨w',z⟩:=I.cell y c e
   exact⟨w',z.sameBut hs (cne y c e)⟩
  ·obtain⟨e,n,ne,nf,d⟩:=I.pin p hp
   exact⟨(hs.2 p.1 ne).trans e,n,ne,nf,d⟩
 ·have hfn:X.fn x=true:=by
   rcases hf with z | z
   ·exact z
   ·rw[z]at hk;cases hk
  obtain⟨c,hc⟩:=I.ok.has x (.inl hk);obtain⟨w',z⟩:=I.cell x c hc;refine wpAny_storeName_cell I.ok.kind hk hc z (λh' hc' hs=> ?_)
  obtain⟨oc,hoc,hocd⟩:=id z;refine h { s with heap:=h' } ⟨I.ok,I.os,I.bare,⟨λb o e n hb hx=> ?_,λb o e n hb hx=> ?_,I.base.free,λb o e hx=> ?_,I.base.tups,I.base.frzs,I.base.tbls⟩,⟨m,hn.sameBut hs (NZ (cne x c hc)),λj y v' e1 e2 e3=> ?_⟩,λy c' e=> ?_,I.free,I.freeC,λp hp=> ?_,tracked ⟨oc,hoc,I.freeC x c hc⟩ hs,by simpa using I.len⟩ ⟨c,hs,.inr hc⟩
  ·exact(hs.2 b (My (LC (Lw e) (I.ok.cab x c hfn hc)))).trans (I.base.keep b o e n hb hx)
  ·obtain⟨sl,e1⟩:=I.base.slot b o e n hb hx
   exact⟨sl,(hs.2 b (My (LC (Lw e) (I.ok.cab x c hfn hc)))).trans e1⟩
  ·obtain⟨o',e1⟩:=I.base.there b o e hx
   exact⟨o',(hs.2 b (My (LC (Lw e) (I.ok.cab x c hfn hc)))).trans e1⟩
  ·by_cases hj:j=i
   ·subst hj
    rw[hi]at e1;cases e1;rw[LN hiσ]at e2
    cases e2;exact⟨u,r,.inr ⟨.inl hk,c,hc,hc'⟩⟩
   ·rw[LL (NZ hj)]at e2
    obtain⟨u',r',q⟩:=hl j y v' e1 e2 e3;refine⟨u',r',?_⟩
    rcases q with q | ⟨k,c',e,z'⟩
    ·exact .inl q
    ·refine .inr ⟨k,c',e,z'.sameBut hs ?_⟩
     rintro rfl
     exact hj (tN hN e1 (I.ok.inj _ _ _ e hc▸hi))
  ·by_cases hcc:c'=c
   ·subst hcc;exact⟨_,hc'⟩
   ·obtain⟨w2,z2⟩:=I.cell y c' e
    exact⟨w2,z2.sameBut hs hcc⟩
  ·obtain⟨e,n,ne,nf,d⟩:=I.pin p hp
   refine⟨(hs.2 p.1 ?_).trans e,n,ne,nf,d⟩
   intro q;rw[q,hoc]at e
   have q':oc=p.2:=LY e;exact d w' (by rw[<-q'];exact hocd)
theorem sS {M:Model}{A:L3}{E:Lh->Lj->Prop}{i:Nat}{x:Str}{v:V}{u:Lh}{Q:Unit->Lj->Prop}(I:Inv X pins σ H s)(hN:X.N.Nodup)(hi:X.N[i]? =some x)(hx:Loc X.env.scope x)(r:RelV v u)
  (h:∀s',Inv X pins (σ.set i (some v)) H s'->Q () s') (hf:autoParam (X.fn x=true\/X.env.scope.names.lookup x=some .local) aqa._auto_1):wpAny M A (storeName X.env x u) Q E s:=
 pz I hN hi hx r (λs' I' _=>h s' I') hf
theorem Inv.Kq {s':Lj}{ch:List Addr}(I:Inv X pins σ H s)(ho:s'.os=s.os)(u:Un (nN X.stack) ch H H' s.heap s'.heap)(hok:HOk X.prog X.w H' s'.heap)(hg:PP s'.gens)
  (hch:∀b∈ch,(b∈X.ex\/X.s₀.heap.objs.size<=b)/\b≠X.env.locals/\(∀x c,X.env.cells.lookup x=some c->c≠b)/\∀p∈X.pn++pins,p.1≠b):Inv X pins σ H' s':=by
 obtain⟨h',g',d',t',o'⟩:=s'
 have e:o'=s.os:=ho;subst e;exact I.call (g':=g') (t':=t') (d':=d') u hok hg hch
end
abbrev XK:=Lh->Option Addr->Hp->Prop
abbrev St:=List (Option V)
abbrev VK:=V->Hp->Prop
abbrev TE:=St->Hp->VK->Prop
abbrev TT:=St->Hp->(Bool->Hp->Prop)->Prop
abbrev TA:=St->Hp->(List V->Hp->Prop)->Prop
structure lY where
 nx:St->Hp->Prop
 rt:VK
 bk:St->Hp->Prop:=λ_ _=>False
 ct:St->Hp->Prop:=λ_ _=>False
abbrev TS:=lY->St->Hp->Prop
def EP (X:Cx)(pins:List (Addr×Obj))(σ:St)(Q:VK)(u:Lh)(s':Lj):Prop:=∃v H',Inv X pins σ H' s'/\RelV v u/\Q v H'
def TP (X:Cx)(pins:List (Addr×Obj))(σ:St)(Q:Bool->Hp->Prop)(b:Bool)(s':Lj):Prop:=∃H',Inv X pins σ H' s'/\Q b H'
def AP (X:Cx)(pins:List (Addr×Obj))(σ:St)(Q:List V->Hp->Prop)(us:List Lh)(s':Lj):Prop:=∃vs H',Inv X pins σ H' s'/\Vals vs us/\Q vs H'
def SP (X:Cx)(pins:List (Addr×Obj))(D:lY)(f:Flow)(s':Lj):Prop:=
 match f with
 | .next=> ∃σ' H',Inv X pins σ' H' s'/\D.nx σ' H'
 | .brk=> ∃σ' H',Inv X pins σ' H' s'/\D.bk σ' H'
 | .cont=> ∃σ' H',Inv X pins σ' H' s'/\D.ct σ' H'
 | .ret u=> ∃v σ' H',Inv X pins σ' H' s'/\RelV v u/\D.rt v H'
def PE (X:Cx)(e:Expr)(t:TE):Prop:=
 ∀(pins:List (Addr×Obj)) (s:Lj) (σ:St) (H:Hp) (Q:VK),Inv X pins σ H s->t σ H Q->wpAny (model X.prog X.w) X.A (eval e X.env) (EP X pins σ Q) X.xe s
def PT (X:Cx)(e:Expr)(t:TT):Prop:=
 ∀(pins:List (Addr×Obj)) (s:Lj) (σ:St) (H:Hp) (Q:Bool->Hp->Prop),Inv X pins σ H s->t σ H Q->wpAny (model X.prog X.w) X.A (isTrue e X.env (eval e X.env)) (TP X pins σ Q) X.xe s
def PW (X:Cx)(e:Expr)(t:TT):Prop:=
 ∀(whole:Sem Lh) (pins:List (Addr×Obj)) (s:Lj) (σ:St) (H:Hp) (Q:Bool->Hp->Prop),Inv X pins σ H s->t σ H Q->wpAny (model X.prog X.w) X.A (isTrue e X.env whole) (TP X pins σ Q) X.xe s
theorem PW.pt {X:Cx}{e:Expr}{t:TT}(h:PW X e t):PT X e t:=h _
def PA (X:Cx)(es:List Expr)(t:TA):Prop:=
 ∀(pos:Pos) (pins:List (Addr×Obj)) (s:Lj) (σ:St) (H:Hp) (Q:List V->Hp->Prop),Inv X pins σ H s->t σ H Q->wpAny (model X.prog X.w) X.A (spliced (backTo pos (LA es X.env))) (AP X pins σ Q) X.xe s
def PS (X:Cx)(st:Stmt)(t:TS):Prop:=
 ∀(pins:List (Addr×Obj)) (s:Lj) (σ:St) (H:Hp) (D:lY),Inv X pins σ H s->t D σ H->wpAny (model X.prog X.w) X.A (exec st X.env) (SP X pins D) X.xe s
def PSs (X:Cx)(st:List Stmt)(t:TS):Prop:=
 ∀(pins:List (Addr×Obj)) (s:Lj) (σ:St) (H:Hp) (D:lY),Inv X pins σ H s->t D σ H->wpAny (model X.prog X.w) X.A (execs st X.env) (SP X pins D) X.xe s
theorem bR {α:Type}{t:Sem α}{Q Q':α->Lj->Prop}{M:Model}{A:L3}{E:Lh->Lj->Prop}{s:Lj}(h:wpAny M A t Q E s)(hQ:∀a s,Q a s->Q' a s):wpAny M A t Q' E s:=Nh h hQ λ_ _ x=>x
section
variable {X:Cx}
def tVar (i:Nat):TE:=λσ H Q=> ∃v,σ[i]? =some (some v)/\Q v H
def tC (v:V):TE:=λ_ H Q=>Q v H
theorem fY {i:Nat}{x:Str}{pos:Pos}(hN:X.N[i]? =some x)(hv:oo X.env.scope x)(hd:autoParam ((x == ("__debug__" : Str))=false) aqb._auto_1)(hcd:autoParam ((x == ("__classdict__" : Str))=false) aqb._auto_1):PE X (.Name x pos) (tVar i):=by
 intro pins s σ H Q I h;obtain⟨v,e,h⟩:=h;obtain⟨m,hn,hl⟩:=I.loc;obtain⟨u,r,l⟩:=hl i x v hN e hv
 have fin:EP X pins σ Q u s:=⟨v,H,I,r,h⟩;rcases l with⟨hk,hm⟩ | ⟨hk,c,hc,hcell⟩
 ·exact wpAny_Name (wpAny_loadName_local I.ok.kind hk hn hm fin) hd
 ·rcases hk with hk | hk
  ·exact wpAny_Name (wpAny_loadName_cell I.ok.kind hk hc hcell fin) hd
  ·exact wpAny_Name (wpAny_loadName_free I.ok.kind hk hc hcell fin hcd) hd
theorem zU {i j pos}:PE X (.Constant (.int i) j pos) (tC (.int i)):=λ_ _ _ H _ I h=>wpAny_Constant_int ⟨.int i,H,I.tok _,⟨_,rfl⟩,h⟩
theorem IK {b j pos}:PE X (.Constant (.bool b) j pos) (tC (.bl b)):=λ_ _ _ H _ I h=>Constant_bool ⟨.bl b,H,I,rfl,h⟩
theorem Gk {j pos}:PE X (.Constant .none j pos) (tC .non):=λ_ _ _ H _ I h=>Constant_none ⟨.non,H,I,rfl,h⟩
def Gl (X:Cx)(x:Str):Prop:=X.env.kindOf x=some .globalImplicit
theorem gL {E:Lh->Lj->Prop}{pins:List (Addr×Obj)}{s:Lj}{σ:St}{H:Hp}{x:Str}{u:Lh}{pos:Pos}{Q:Lh->Lj->Prop}(I:Inv X pins σ H s)(hg:Gl X x)(hm:X.mg x=some u)(h:Q u s)
  (hd:autoParam ((x == ("__debug__" : Str))=false) aqb._auto_1):wpAny (model X.prog X.w) X.A (eval (.Name x pos) X.env) Q E s:=
 O7 I.ok.kind hg (Calls.loadGlobal_global (by rw[I.ok.glob];exact I.mod.glob.keeps I.bk) hm h) hd
theorem jB {E:Lh->Lj->Prop}{pins:List (Addr×Obj)}{s:Lj}{σ:St}{H:Hp}{x:Str}{u:Lh}{pos:Pos}{Q:Lh->Lj->Prop}(I:Inv X pins σ H s)(hg:Gl X x)(hm:X.mg x=none)(hv:Ma x=some u)(h:Q u s)
  (hn:autoParam (x≠ "__name__") aqb._auto_1) (hd:autoParam ((x == ("__debug__" : Str))=false) aqb._auto_1):wpAny (model X.prog X.w) X.A (eval (.Name x pos) X.env) Q E s:=by
 obtain⟨mb,h1,h2⟩:=I.mod.blt;exact O7 I.ok.kind hg (Calls.loadGlobal_builtin (by rw[I.ok.glob];exact I.mod.glob.keeps I.bk) hm (by rw[I.ok.blt];exact h1.keeps I.bk) ((h2 x hn).trans hv) h) hd
theorem Dn {x:Str}{v:V}{u:Lh}{pos:Pos}(hg:Gl X x)(hm:X.mg x=some u)(r:RelV v u)(hd:autoParam ((x == ("__debug__" : Str))=false) aqb._auto_1):PE X (.Name x pos) (tC v):=
 λ_ _ _ H _ I h=>gL I hg hm ⟨v,H,I,r,h⟩ hd
theorem Dq {x:Str}{v:V}{u:Lh}{pos:Pos}(hg:Gl X x)(hm:X.mg x=none)(hv:Ma x=some u)(r:RelV v u)(hn:autoParam (x≠ "__name__") aqb._auto_1)(hd:autoParam ((x == ("__debug__" : Str))=false) aqb._auto_1):PE X (.Name x pos) (tC v):=
 λ_ _ _ H _ I h=>jB I hg hm hv ⟨v,H,I,r,h⟩ hn hd
variable {a b:Expr}{ta tb:TE}{pos:Pos}
def tB (t:TE):TT:=λσ H Q=>t σ H λx H1=> ∃c,x= .bl c/\Q c H1
theorem zI {e:Expr}{t:TE}(h:PE X e t)(he:autoParam (∀whole,isTrue e X.env whole=(do let v <-whole;standAt e.pos;holding [v] (truthy v))) aqc._auto_1):PT X e (tB t):=by
 intro pins s σ H Q I hw;refine isTrue_plain (bR (h pins s σ H _ I hw) λv s1 ⟨x,H1,I1,r1,q1⟩=> ?_) (he _)
 obtain⟨d,rfl,q⟩:=q1;cases r1;exact MR ⟨H1,I1,q⟩
variable {tA tB':TT}{bN:List Expr}
def tAnd (t u:TT):TT:=λσ H Q=>t σ H λc H1=>if c=true then u σ H1 Q else Q false H1
def tOr (t u:TT):TT:=λσ H Q=>t σ H λc H1=>if c=true then Q true H1 else u σ H1 Q
def tNot (t:TT):TT:=λσ H Q=>t σ H λc H1=>Q (!c) H1
theorem wu (ha:PT X a tA):PW X (.BoolOp .And [a] pos) tA:=by
 intro wh pins s σ H Q I h;refine isTrue_and (bR (ha pins s σ H Q I h) λc s1 e=> ?_)
 cases c with
 | true=>exact isTrue_and_nil e
 | false=>exact e
theorem Gb (ha:PT X a tA):PW X (.BoolOp .Or [a] pos) tA:=by
 intro wh pins s σ H Q I h;refine isTrue_or (bR (ha pins s σ H Q I h) λc s1 e=> ?_)
 cases c with
 | false=>exact isTrue_or_nil e
 | true=>exact e
theorem zH (ha:PT X a tA)(hb:PW X (.BoolOp .And (b::bN) pos) tB'):PW X (.BoolOp .And (a::b::bN) pos) (tAnd tA tB'):=by
 intro wh pins s σ H Q I h;refine isTrue_and (bR (ha pins s σ H _ I h) λc s1 hh_=> ?_)
 obtain⟨H1,I1,q1⟩:=hh_
 cases c with
 | true=>exact hb wh pins s1 σ H1 Q I1 q1
 | false=>exact⟨H1,I1,q1⟩
theorem IG (ha:PT X a tA)(hb:PW X (.BoolOp .Or (b::bN) pos) tB'):PW X (.BoolOp .Or (a::b::bN) pos) (tOr tA tB'):=by
 intro wh pins s σ H Q I h;refine isTrue_or (bR (ha pins s σ H _ I h) λc s1 hh_=> ?_)
 obtain⟨H1,I1,q1⟩:=hh_
 cases c with
 | true=>exact⟨H1,I1,q1⟩
 | false=>exact hb wh pins s1 σ H1 Q I1 q1
theorem zJ (ha:PT X a tA):PT X (.UnaryOp .Not a pos) (tNot tA):=by
 intro pins s σ H Q I h;exact isTrue_not (ha pins s σ H (λc H1=>Q (!c) H1) I h)
def HY (ta tb:TE):TE:=λσ H Q=>ta σ H λx H1=> ∃c,x= .bl c/\if c=true then tb σ H1 Q else Q (.bl false) H1
def tOrV (ta tb:TE):TE:=λσ H Q=>ta σ H λx H1=> ∃c,x= .bl c/\if c=true then Q (.bl true) H1 else tb σ H1 Q
def HN (ta:TE):TE:=λσ H Q=>ta σ H λx H1=> ∃c,x= .bl c/\Q (.bl (!c)) H1
theorem Gi {op}{t:TE}(h:PE X a t):PE X (.BoolOp op [a] pos) t:=λpins s σ H Q I hw=>BoolOp_one (h pins s σ H Q I hw)
theorem Gp (ha:PE X a ta)(hb:PE X (.BoolOp .And (b::bN) pos) tb):PE X (.BoolOp .And (a::b::bN) pos) (HY ta tb):=by
 intro pins s σ H Q I h;refine BoolOp_and (bR (ha pins s σ H _ I h) λv s1 hh_=> ?_)
 obtain⟨x,H1,I1,r1,q1⟩:=hh_;obtain⟨c,rfl,q1⟩:=q1;cases r1;refine MR ?_
 cases c with
 | true=>exact hb pins s1 σ H1 Q I1 q1
 | false=>exact⟨.bl false,H1,I1,rfl,q1⟩
theorem IJ (ha:PE X a ta)(hb:PE X (.BoolOp .Or (b::bN) pos) tb):PE X (.BoolOp .Or (a::b::bN) pos) (tOrV ta tb):=by
 intro pins s σ H Q I h;refine BoolOp_or (bR (ha pins s σ H _ I h) λv s1 hh_=> ?_)
 obtain⟨x,H1,I1,r1,q1⟩:=hh_;obtain⟨c,rfl,q1⟩:=q1;cases r1;refine MR ?_
 cases c with
 | false=>exact hb pins s1 σ H1 Q I1 q1
 | true=>exact⟨.bl true,H1,I1,rfl,q1⟩
theorem Gj (ha:PE X a ta):PE X (.UnaryOp .Not a pos) (HN ta):=by
 intro pins s σ H Q I h;refine UnaryOp_ (bR (ha pins s σ H _ I h) λv s1 hh_=> ?_)
 obtain⟨x,H1,I1,r1,q1⟩:=hh_;obtain⟨c,rfl,q1⟩:=q1;cases r1;exact not_of (MR ⟨.bl (!c),H1,I1,rfl,q1⟩)
def tIf (t:TT)(ta tb:TE):TE:=λσ H Q=>t σ H λc H1=>if c=true then ta σ H1 Q else tb σ H1 Q
theorem zV {c:Expr}(hc:PT X c tA)(ha:PE X a ta)(hb:PE X b tb):PE X (.IfExp c a b pos) (tIf tA ta tb):=by
 intro pins s σ H Q I h;refine wpAny_IfExp (bR (hc pins s σ H _ I h) λd s1 hh_=> ?_)
 obtain⟨H1,I1,q1⟩:=hh_
 cases d with
 | true=>exact ha pins s1 σ H1 Q I1 q1
 | false=>exact hb pins s1 σ H1 Q I1 q1
end
def SqL (K:Ld)(H:Hp)(a:Addr)(xs:List V):Prop:=
 Rd H a (.lst xs) ∨
  ∃(o:Obj) (its:Array Lh) (n:Nat),K.lookup a=some o/\o.cls= .type "list"/\o.dict=none/\o.data= .seq its n/\its.size<=sizeLine/\Vals xs its.toList
def SqT (K:Ld)(H:Hp)(a:Addr)(xs:List V):Prop:=
 Rd H a (.tup xs) ∨
  ∃(o:Obj) (its:Array Lh) (n:Nat),K.lookup a=some o/\o.cls= .type "tuple"/\o.data= .seq its n/\its.size<=sizeLine/\Vals xs its.toList
def absV:Lh->Option V
 | .none=>some .non
 | .bool b=>some (.bl b)
 | .int i _=>some (.int i)
 | .str x _=>some (.str x)
 | .bytes b _=>some (.byt b)
 | .float b _=>some (.flt b)
 | .ref a=>some (.ref a)
 | .type n=>some (.ty n)
 | _=>none
theorem RelV.abs {x:V}{u:Lh}(r:RelV x u):absV u=some x:=by
 cases x with
 | non=>cases r;rfl
 | bl _=>cases r;rfl
 | int _=>obtain⟨t,rfl⟩:=r;rfl
 | str _=>obtain⟨t,rfl⟩:=r;rfl
 | byt _=>obtain⟨t,rfl⟩:=r;rfl
 | flt _=>obtain⟨t,rfl⟩:=r;rfl
 | ref _=>cases r;rfl
 | ty _=>cases r;rfl
theorem RelV.inj {x y:V}{u:Lh}(r:RelV x u)(q:RelV y u):x=y:=LY (r.abs.symm.trans q.abs)
theorem Vals.inj:∀{xs ys:List V} {us:List Lh},Vals xs us->Vals ys us->xs=ys
 | _,_,_,.nil,.nil=>rfl
 | _,_,_,.cons r t,.cons r' t'=>by rw[r.inj r',Vals.inj t t']
section
variable {X:Cx}{pins:List (Addr×Obj)}{σ:St}{H:Hp}{s:Lj}{a:Addr}{xs ys:List V}
theorem SqL.of {K:Ld}(h:H a=some (.lst xs)):SqL K H a xs:=.inl (.inl h)
theorem SqT.of {K:Ld}(h:H a=some (.tup xs)):SqT K H a xs:=.inl (.inl h)
theorem Inv.list (I:Inv X pins σ H s)(h:SqL X.K H a xs):∃its:List Lh,Vals xs its/\PlainL s.heap a its.toArray/\xs.length<=sizeLine:=by
 rcases h with h | ⟨o,its,n,hk,hc,hd,hs,hz,r⟩
 ·obtain⟨z,its,n,r,e⟩:=h.ok I.hok
  exact⟨its,r,⟨_,n,e,rfl,rfl,rfl⟩,z⟩
 ·refine⟨its.toList,r,⟨o,n,I.kIn a o hk,hc,hd,by simpa using hs⟩,?_⟩
  have e:=r.length;simp only[OS]at e;omega
theorem Inv.tuple (I:Inv X pins σ H s)(h:SqT X.K H a xs):∃its:List Lh,Vals xs its/\Sk s.heap a its.toArray/\xs.length<=sizeLine:=by
 rcases h with h | ⟨o,its,n,hk,hc,hs,hz,r⟩
 ·obtain⟨z,its,r,p⟩:=h.ok I.hok
  exact⟨its,r,p,z⟩
 ·refine⟨its.toList,r,⟨o,I.kIn a o hk,hc,n,by simpa using hs⟩,?_⟩
  have e:=r.length;simp only[OS]at e;omega
theorem Inv.Ko (I:Inv X pins σ H s)(h:SqL X.K H a xs)(h':SqL X.K H a ys):xs=ys:=by
 obtain⟨its,r,⟨o,n,e,_,_,d⟩,_⟩:=I.list h;obtain⟨its',r',⟨o',n',e',_,_,d'⟩,_⟩:=I.list h';rw[e]at e';cases e';rw[d]at d';injection d' with d1 _
 have:its=its':=by simpa using congrArg P6 d1
 subst this;exact r.inj r'
theorem Inv.Kj (I:Inv X pins σ H s)(h:SqT X.K H a xs)(h':SqT X.K H a ys):xs=ys:=by
 obtain⟨its,r,⟨o,e,_,n,d⟩,_⟩:=I.tuple h;obtain⟨its',r',⟨o',e',_,n',d'⟩,_⟩:=I.tuple h';rw[e]at e';cases e';rw[d]at d';injection d' with d1 _
 have:its=its':=by simpa using congrArg P6 d1
 subst this;exact r.inj r'
end
abbrev Cx.FB (X:Cx)(E:Lh->Lj->Prop):Cx:={ X with xe:=E }
abbrev Cx.nox (X:Cx):Cx:=X.FB λ_ _=>False
theorem Cx.Ok.FB {X:Cx}(ok:X.Ok)(E:Lh->Lj->Prop):(X.FB E).Ok:=
 ⟨ok.mod,ok.kind,ok.glob,ok.blt,ok.above,ok.inj,ok.has,ok.cab,ok.hd,ok.frames,ok.stk,ok.exf,ok.bs,ok.bsz,ok.noex,ok.exfs,ok.funs,ok.frf⟩
theorem Cx.Ok.IR {X:Cx}{E:Lh->Lj->Prop}(ok:(X.FB E).Ok):X.Ok:=
 ⟨ok.mod,ok.kind,ok.glob,ok.blt,ok.above,ok.inj,ok.has,ok.cab,ok.hd,ok.frames,ok.stk,ok.exf,ok.bs,ok.bsz,ok.noex,ok.exfs,ok.funs,ok.frf⟩
section
variable {X:Cx}{pins:List (Addr×Obj)}{σ:St}{H:Hp}{s:Lj}{E:Lh->Lj->Prop}
theorem Inv.FB (I:Inv X pins σ H s)(E:Lh->Lj->Prop):Inv (X.FB E) pins σ H s:=⟨I.ok.FB E,I.os,I.bare,I.base,I.loc,I.cell,I.free,I.freeC,I.pin,I.hok,I.len⟩
theorem Inv.IR (I:Inv (X.FB E) pins σ H s):Inv X pins σ H s:=⟨I.ok.IR,I.os,I.bare,I.base,I.loc,I.cell,I.free,I.freeC,I.pin,I.hok,I.len⟩
theorem SP.IR {D:lY}{f:Flow}{s':Lj}(h:SP (X.FB E) pins D f s'):SP X pins D f s':=by
 cases f with
 | next=>obtain⟨σ',H',I,q⟩:=h;exact⟨σ',H',I.IR,q⟩
 | brk=>obtain⟨σ',H',I,q⟩:=h;exact⟨σ',H',I.IR,q⟩
 | cont=>obtain⟨σ',H',I,q⟩:=h;exact⟨σ',H',I.IR,q⟩
 | ret u=>obtain⟨v,σ',H',I,r,q⟩:=h;exact⟨v,σ',H',I.IR,r,q⟩
theorem PSs.nox {st:List Stmt}{t:TS}(h:PSs X.nox st t):PSs X st t:=λpins s σ H D I hw=>
 Nh (h pins s σ H D (I.FB _) hw) (λ_ _ q=>q.IR) λ_ _ z=>Nf z
end
section
variable {X:Cx}{st:Stmt}{bN:List Stmt}{t u:TS}{e:Expr}{te:TE}{pos:Pos}
def HQ:TS:=λD σ H=>D.nx σ H
def tSeq (t u:TS):TS:=λD σ H=>t { D with nx:=u D } σ H
theorem wA:PSs X [] HQ:=λ_ _ σ H _ I h=>Oe ⟨σ,H,I,h⟩
theorem tD (h1:PS X st t)(h2:PSs X bN u):PSs X (st::bN) (tSeq t u):=by
 intro pins s σ H D I h;refine RW (bR (h1 pins s σ H { D with nx:=u D } I h) λf s1 q=> ?_)
 cases f with
 | next=>
  obtain⟨σ',H',I',q⟩:=q
  exact h2 pins s1 σ' H' D I' q
 | ret v=>exact q
 | brk=>exact q
 | cont=>exact q
theorem wz (h1:PS X st t):PSs X [st] t:=by
 intro pins s σ H D I h;refine RW (bR (h1 pins s σ H D I h) λf s1 q=> ?_)
 cases f with
 | next=>exact Oe q
 | ret v=>exact q
 | brk=>exact q
 | cont=>exact q
def HW:TS:=λD σ H=>D.ct σ H
theorem tE:PS X (.Continue pos) HW:=λ_ _ σ H _ I h=>wpAny_Continue ⟨σ,H,I,h⟩
theorem Inv.quiet {pins:List (Addr×Obj)}{σ:St}{H:Hp}{s:Lj}(I:Inv X pins σ H s):interactive X.env=false:=by simp[interactive,I.ok.kind]
def HU (te:TE):TS:=λD σ H=>te σ H λ_ H1=>D.nx σ H1
theorem j6 (he:PE X e te)(hs:autoParam (Me e none pos.line X.env=pure false) aqd._auto_1):PS X (.Expr e pos) (HU te):=by
 intro pins s σ H D I h;exact wpAny_Expr_any (bR (he pins s σ H _ I h) λv s1 ⟨x,H1,I1,r1,q1⟩=>⟨σ,H1,I1,q1⟩) I.quiet hs
def tRet (te:TE):TS:=λD σ H=>te σ H D.rt
theorem zL (he:PE X e te):PS X (.Return (some e) pos) (tRet te):=by
 intro pins s σ H D I h;exact wpAny_Return_some (bR (he pins s σ H _ I h) λv s1 ⟨x,H1,I1,r1,q1⟩=>⟨x,σ,H1,I1,r1,q1⟩)
def tIfS (c:TT)(t u:TS):TS:=λD σ H=>c σ H λb H1=>if b=true then t D σ H1 else u D σ H1
theorem zM {c:Expr}{a b:List Stmt}{tc:TT}(hc:PT X c tc)(ha:PSs X a t)(hb:PSs X b u):PS X (.If c a b pos) (tIfS tc t u):=by
 intro pins s σ H D I h;refine wpAny_If (bR (hc pins s σ H _ I h) λd s1 hh_=> ?_)
 obtain⟨H1,I1,q1⟩:=hh_
 cases d with
 | true=>exact ha pins s1 σ H1 D I1 q1
 | false=>exact hb pins s1 σ H1 D I1 q1
end
abbrev TG:=V->St->Hp->(St->Hp->Prop)->Prop
abbrev Ep:=List V->St->Hp->(St->Hp->Prop)->Prop
def PG (X:Cx)(target:Expr)(t:TG):Prop:=
 ∀(pins:List (Addr×Obj)) (s:Lj) (σ:St) (H:Hp) (v:V) (u:Lh) (Q:St->Hp->Prop),Inv X pins σ H s->RelV v u->t v σ H Q →
  wpAny (model X.prog X.w) X.A (assign target X.env u) (λ_ s'=> ∃σ' H',Inv X pins σ' H' s'/\Q σ' H') X.xe s
def PGs (X:Cx)(ts:List Expr)(t:Ep):Prop:=
 ∀(pins:List (Addr×Obj)) (s:Lj) (σ:St) (H:Hp) (vs:List V) (us:List Lh) (Q:St->Hp->Prop),Inv X pins σ H s->Vals vs us->t vs σ H Q →
  wpAny (model X.prog X.w) X.A (assignInOrder ((MS ts X.env).map (·.2)) us) (λ_ s'=> ∃σ' H',Inv X pins σ' H' s'/\Q σ' H') X.xe s
section
variable {X:Cx}{pos:Pos}
def A8 (i:Nat):TG:=λv σ H Q=>Q (σ.set i (some v)) H
theorem Dm {i:Nat}{x:Str}(hN:X.N.Nodup)(hi:X.N[i]? =some x)(hx:Loc X.env.scope x)(hf:autoParam (X.fn x=true\/X.env.scope.names.lookup x=some .local) aqa._auto_1):PG X (.Name x pos) (A8 i):=by
 intro pins s σ H v u Q I r h;exact Rp (sS I hN hi hx r (λs' I'=>⟨_,H,I',h⟩) hf)
def gNil:Ep:=λvs σ H Q=>vs= []/\Q σ H
def JD (t:TG)(u:Ep):Ep:=λvs σ H Q=> ∃v r,vs=v::r/\t v σ H λσ' H'=>u r σ' H' Q
theorem Dl:PGs X [] gNil:=by
 intro pins s σ H vs us Q I r h;obtain⟨e,h⟩:=h;subst e;cases r;exact assignInOrder_nil ⟨σ,H,I,h⟩
theorem zR {e:Expr}{es:List Expr}{t:TG}{u:Ep}(h1:PG X e t)(h2:PGs X es u)
  (hs:autoParam ((MS (e::es) X.env).map (·.2)=assign e X.env::(MS es X.env).map (·.2)) aqd._auto_1):PGs X (e::es) (JD t u):=by
 intro pins s σ H vs us Q I r h;obtain⟨v,vr,e1,h⟩:=h;subst e1
 cases r with
 | cons r rr=>
  rw[hs];refine assignInOrder_cons (bR (h1 pins s σ H _ _ _ I r h) λ_ s1 hh_=> ?_)
  obtain⟨σ1,H1,I1,q1⟩:=hh_;exact h2 pins s1 σ1 H1 _ _ Q I1 rr q1
def gTup (K:Ld)(n:Nat)(t:Ep):TG:=λv σ H Q=> ∃a xs,v= .ref a/\SqT K H a xs/\xs.length=n/\t xs σ H Q
theorem Gg {es:List Expr}{k:Nat}{t:Ep}{n:Nat}(hc:X.calm=true)(h:PGs X es t)
  (hn:autoParam ((MS es X.env).length=n) aqd._auto_1) (hst:autoParam ((MS es X.env).findIdx? (·.1)=none) aqd._auto_1):PG X (.Tuple es k pos) (gTup X.K n t):=by
 intro pins s σ H v u Q I r hw;obtain⟨a,xs,e1,hq,hl,hw⟩:=hw;subst e1;cases r;obtain⟨its,rv,ht,hz⟩:=I.tuple hq;refine assign_Tuple_tuple (I.ok.hd hc) ht (by simp[hn,<-hl,rv.length]) hst λh' hx=> ?_
 have I1:Inv X pins σ H { s with heap:=h' }:=I.kept (t':=s.toks) λb o e=>hx b o (My (Lw e)) e
 exact h pins _ σ H xs _ Q I1 (by simpa using rv) hw
def Cp (te:TE)(g:TG):TS:=λD σ H=>te σ H λx H1=>g x σ H1 D.nx
theorem Ge {tg e:Expr}{te:TE}{g:TG}(he:PE X e te)(hg:PG X tg g)(hs:autoParam (Q8 [tg] e pos.line X.env=pure false) aqd._auto_1)(hw:autoParam (Q9 [tg] e X.env=pure none) aqd._auto_1)
  (h1:autoParam ((MS [tg] X.env).map (·.2)= [assign tg X.env]) aqd._auto_1):PS X (.Assign [tg] e pos) (Cp te g):=by
 intro pins s σ H D I h;refine wpAny_Assign_stores (bR (he pins s σ H _ I h) λv s1 ⟨x,H1,I1,r1,q1⟩=> ?_) hs hw
 rw[h1];exact bR (hg pins s1 σ H1 x v _ I1 r1 q1) λ_ s2 q=>q
theorem qH {i:Nat}{x:Str}{e:Expr}{te:TE}{pos':Pos}(hN:X.N.Nodup)(hi:X.N[i]? =some x)(hx:Loc X.env.scope x)(he:PE X e te)(hs:autoParam (Me e (some (.Name x pos')) pos.line X.env=pure false) aqd._auto_1)(hf:autoParam (X.fn x=true\/X.env.scope.names.lookup x=some .local) aqa._auto_1) :
  PS X (.Assign [.Name x pos'] e pos) (Cp te (A8 i)):=by
 intro pins s σ H D I h;refine wpAny_Assign_Name (bR (he pins s σ H _ I h) λv s1 ⟨y,H1,I1,r1,q1⟩=> ?_) hs
 exact sS I1 hN hi hx r1 (λs2 I2=>⟨_,H1,I2,q1⟩) hf
end
section
variable {X:Cx}{pos:Pos}
def uO (c:TT)(tb:TS):TS:=λD σ H=> ∃W:Nat->St->Hp->Prop,(∃m,W m σ H)/\∀m σ H,W m σ H →
 c σ H λb H1=>if b=true then ∃N:St->Hp->Prop,(∀σ' H',N σ' H'->∃m',m'<m/\W m' σ' H')/\tb { D with nx:=N,ct:=N,bk:=D.nx } σ H1 else D.nx σ H1
theorem zK {c:Expr}{body:List Stmt}{tc:TT}{tb:TS}(hp:PassesOwn (model X.prog X.w) X.A X.env X.xe)(hc:PT X c tc)(hb:PSs X body tb):PS X (.While c body [] pos) (uO tc tb):=by
 intro pins s σ H D I h;obtain⟨W,⟨m0,w0⟩,turn⟩:=h;refine wpAny_While (codeAny_whileLoop (λn s'=> ∃σ' H',Inv X pins σ' H' s'/\W n σ' H') ?_ m0 ⟨σ,H,I,w0⟩)
 rintro n s1 ⟨σ1,H1,I1,w1⟩
 refine Sb hp (bR (hc pins s1 σ1 H1 _ I1 (turn n σ1 H1 w1)) λb s2 hh_=> ?_)
 obtain⟨H2,I2,q2⟩:=hh_
 cases b with
 | true=>
  obtain⟨N,hN,q2⟩:=q2;rw[if_pos rfl];refine Sb hp (bR (hb pins s2 σ1 H2 _ I2 q2) λf s3 q3=> ?_)
  cases f with
  | next=>
   obtain⟨σ3,H3,I3,n3⟩:=q3;obtain⟨m',hm,w3⟩:=hN σ3 H3 n3
   exact⟨m',hm,σ3,H3,I3,w3⟩
  | cont=>
   obtain⟨σ3,H3,I3,n3⟩:=q3;obtain⟨m',hm,w3⟩:=hN σ3 H3 n3
   exact⟨m',hm,σ3,H3,I3,w3⟩
  | brk=>exact q3
  | ret v=>exact q3
 | false=>
  rw[if_neg LM];exact Oe ⟨σ1,H2,I2,q2⟩
end
structure It where
 go:Nat->Hp->Prop
 yld:Nat->Hp->V->Hp->Prop
 stop:Nat->Hp->Prop
def ou (X:Cx)(pins:List (Addr×Obj))(H:Hp)(b:Addr):Prop:=
 H b=none/\b≠X.env.locals/\b∉X.fs/\(b∈X.ex\/X.s₀.heap.objs.size<=b)/\(∀x c,X.env.cells.lookup x=some c->c≠b)/\∀p∈X.pn++pins,p.1≠b
theorem Inv.Ku {X:Cx}{pins:List (Addr×Obj)}{σ:St}{H H':Hp}{s:Lj}{b:Addr}(I:Inv X pins σ H s)(hb:s.heap.objs.size<=b)(hn:H' b=none):ou X pins H' b:=by
 refine⟨hn,Pc (LC I.lt hb),I.Lc hb,.inr (Mf I.sz hb),λx c e z=> ?_,λp hp z=> ?_⟩
 ·obtain⟨v,q⟩:=I.cell x c e
  exact absurd (LC q.lt (by rw[z];exact hb)) (LV _)
 ·exact absurd (LC (Lw (I.pin p hp).1) (by rw[z];exact hb)) (LV _)
structure BN (P:LP)(w:Mh)(K:Ld)(tg:Expr)(J:It)(fp:List Addr)(it:Addr)(tn:Nat->Heap->Prop):Prop where
 mem:it∈fp
 obj:∀i h,tn i h->∀b∈fp,∃o,h.get? b=some o/\∀v,o.data≠ .cell v
 keep:∀i h h',tn i h->(∀b∈fp,∀o,h.get? b=some o->h'.get? b=some o)->tn i h'
 item:∀(X:Cx),X.prog=P->X.w=w->X.K=K->X.calm=true->∀(i:Nat) (pins:List (Addr×Obj)) (s:Lj) (σ:St) (H:Hp) (E:Lh->Lj->Prop),Inv X pins σ H s->(∀b∈fp,ou X pins H b)->tn i s.heap->J.go i H →
  wpAny (model P w) X.A (pyNext (.ref it)) (λr s1=> ∃u,r=some u ∧
   wpAny (model P w) X.A (Of tg (.ref it) u) (λ_ s2=> ∃x H',Inv X pins σ H' s2/\RelV x u/\J.yld i H x H'/\tn (i+1) s2.heap/\∀b∈fp,H' b=none) E s1) E s
 done:∀(X:Cx),X.prog=P->X.w=w->X.K=K->X.calm=true->∀(i:Nat) (pins:List (Addr×Obj)) (s:Lj) (σ:St) (H:Hp) (E:Lh->Lj->Prop),Inv X pins σ H s->(∀b∈fp,ou X pins H b)->tn i s.heap->J.stop i H →
  wpAny (model P w) X.A (pyNext (.ref it)) (λr s1=>r=none/\Inv X pins σ H s1) E s
 self:∀(A:L3) (i:Nat) (s:Lj) (Q:Lh->Lj->Prop) (E:Lh->Lj->Prop),tn i s.heap->Q (.ref it) s->wpAny (model P w) A (pyIter (.ref it)) Q E s
abbrev TI:=St->Hp->(It->Hp->Prop)->Prop
def PIE (X:Cx)(pins:List (Addr×Obj))(σ:St)(tg:Expr)(R:It->Hp->Prop)(itv:Lh)(s2:Lj):Prop:=
 ∃(it:Addr) (fp:List Addr) (tn:Nat->Heap->Prop) (J:It) (H':Hp),itv= .ref it/\Inv X pins σ H' s2/\BN X.prog X.w X.K tg J fp it tn/\tn 0 s2.heap/\(∀b∈fp,ou X pins H' b)/\R J H'
def PI (X:Cx)(tg iter:Expr)(wi:TI):Prop:=
 ∀(pins:List (Addr×Obj)) (s:Lj) (σ:St) (H:Hp) (R:It->Hp->Prop),Inv X pins σ H s->wi σ H R →
  wpAny (model X.prog X.w) X.A (eval iter X.env) (λv s1=>wpAny (model X.prog X.w) X.A (pyIter v) (PIE X pins σ tg R) X.xe s1) X.xe s
theorem AX {M:Model}{A:L3}{E:Lh->Lj->Prop}{s:Lj}{tg:Expr}{it:Addr}{u:Lh}{o:Obj}{n:String}{vs:Array Lh}{Q:Unit->Lj->Prop}(ho:s.heap.get? it=some o)(hc:o.cls= .type n)(hd:o.data= .fields vs)
  (hn:["enumerate","zip","dict_itemiterator","dict_reverseitemiterator","odict_iterator","itertools.zip_longest","itertools.pairwise"].contains n=false) (hQ:Q () s):wpAny M A (Of tg (.ref it) u) Q E s:=by
 unfold Of
 cases tg <;> first
  | exact Lr hQ
  | (cases u <;> first
    | exact Lr hQ
    | (refine Li (wpAny_load ho ?_)
       rw[hc,hd]
       show wpAny M A (if (["enumerate","zip","dict_itemiterator","dict_reverseitemiterator","odict_iterator","itertools.zip_longest","itertools.pairwise"].contains n&&vs[0]? == some (rawInt _))=true then _ else _) Q E s
       rw[if_neg (by intro h;rw[hn,Bool.false_and]at h;cases h)]
       exact Lr hQ))
def Itl (K:Ld)(a:Addr):It:=
 ⟨λi H=> ∃xs x,SqL K H a xs/\xs[i]? =some x,λi H x H'=>H'=H/\∀xs,SqL K H a xs->xs[i]? =some x,λi H=> ∃xs,SqL K H a xs/\xs.length<=i⟩
def Itt (K:Ld)(a:Addr):It:=
 ⟨λi H=> ∃xs x,SqT K H a xs/\xs[i]? =some x,λi H x H'=>H'=H/\∀xs,SqT K H a xs->xs[i]? =some x,λi H=> ∃xs,SqT K H a xs/\xs.length<=i⟩
def Itr (lo:Int)(n:Nat):It:=⟨λi _=>i<n,λi H x H'=>H'=H/\x= .int (lo+i),λi _=>n<=i⟩
theorem xV {P:LP}{w:Mh}{K:Ld}{tg:Expr}(a it:Addr):BN P w K tg (Itl K a) [it] it (λi h=>h.IsListIter it a i) where
 mem:=by simp
 obj:=λi h st b hb=>by
  have e:b=it:=by simpa using hb
  subst e;obtain⟨o,e,c,d⟩:=st;exact⟨o,e,λv z=>by rw[d]at z;cases z⟩
 keep:=λi h h' st k=>st.at λo e=>k it (by simp) o e
 item:=by
  intro X hP hw hK hc i pins s σ H E I hf st hg;subst hP hw hK;obtain⟨xs,x,hq,hx⟩:=hg;obtain⟨its,rv,p,hz⟩:=I.list hq;obtain⟨u,hu,ru⟩:=rv.get hx;obtain⟨f0,f1,f2,f3,f4,f5⟩:=hf it (by simp)
  refine PZ st p.isList (x:=u) (by simpa using hu) λh' st' sb=> ?_
  have I1:Inv X pins σ H { s with heap:=h' }:=I.turned (t':=s.toks) (λb o hb e=>(sb.2 b hb).trans e) f0 f1 f3 f4 f5
  obtain⟨o,e,c,d⟩:=id st';exact⟨u,rfl,AX (s:={ s with heap:=h' }) e c d (by decide) ⟨x,H,I1,ru,⟨rfl,λys hy=>by rw[I.Ko hy hq];exact hx⟩,st',λb hb=>(hf b hb).1⟩⟩
 done:=by
  intro X hP hw hK hc i pins s σ H E I hf st hg;subst hP hw hK;obtain⟨xs,hq,hx⟩:=hg;obtain⟨its,rv,p,hz⟩:=I.list hq;obtain⟨f0,f1,f2,f3,f4,f5⟩:=hf it (by simp)
  have hl:=rv.length;exact Ql (I.ok.hd hc) st p.isList (by simp;omega) λh' eb=>⟨rfl,I.turned (t':=s.toks) (λb o hb e=>eb b o hb e) f0 f1 f3 f4 f5⟩
 self:=λ_ _ _ _ _ st h=>wpAny_pyIter_listiter st h
theorem uL {P:LP}{w:Mh}{K:Ld}{tg:Expr}(a it:Addr):BN P w K tg (Itt K a) [it] it (λi h=>h.IsTupleIter it a i) where
 mem:=by simp
 obj:=λi h st b hb=>by
  have e:b=it:=by simpa using hb
  subst e;obtain⟨o,e,c,d⟩:=st;exact⟨o,e,λv z=>by rw[d]at z;cases z⟩
 keep:=λi h h' st k=>st.at λo e=>k it (by simp) o e
 item:=by
  intro X hP hw hK hc i pins s σ H E I hf st hg;subst hP hw hK;obtain⟨xs,x,hq,hx⟩:=hg;obtain⟨its,rv,p,hz⟩:=I.tuple hq;obtain⟨u,hu,ru⟩:=rv.get hx;obtain⟨f0,f1,f2,f3,f4,f5⟩:=hf it (by simp)
  refine wpAny_pyNext_tuple_item st (show s.heap.IsTuple a its.toArray from p) (x:=u) (by simpa using hu) λh' st' sb=> ?_
  have I1:Inv X pins σ H { s with heap:=h' }:=I.turned (t':=s.toks) (λb o hb e=>(sb.2 b hb).trans e) f0 f1 f3 f4 f5
  obtain⟨o,e,c,d⟩:=id st';exact⟨u,rfl,AX (s:={ s with heap:=h' }) e c d (by decide) ⟨x,H,I1,ru,⟨rfl,λys hy=>by rw[I.Kj hy hq];exact hx⟩,st',λb hb=>(hf b hb).1⟩⟩
 done:=by
  intro X hP hw hK hc i pins s σ H E I hf st hg;subst hP hw hK;obtain⟨xs,hq,hx⟩:=hg;obtain⟨its,rv,p,hz⟩:=I.tuple hq;obtain⟨f0,f1,f2,f3,f4,f5⟩:=hf it (by simp)
  have hl:=rv.length;exact wpAny_pyNext_tuple_end (I.ok.hd hc) st (show s.heap.IsTuple a its.toArray from p) (by simp;omega) λh' eb=>⟨rfl,I.turned (t':=s.toks) (λb o hb e=>eb b o hb e) f0 f1 f3 f4 f5⟩
 self:=λ_ _ _ _ _ st h=>wpAny_pyIter_tupleiter st h
theorem uM {P:LP}{w:Mh}{K:Ld}{tg:Expr}(it:Addr)(lo:Int)(n:Nat):BN P w K tg (Itr lo n) [it] it (λi h=>IsRangeIter h it (lo+(i:Nat)*1) ((n:Int) - (i:Nat)) 1) where
 mem:=by simp
 obj:=λi h st b hb=>by
  have e:b=it:=by simpa using hb
  subst e
  exact⟨_,st,λv z=>by
   have z':Data.fields _=Data.cell v:=z;cases z'⟩
 keep:=λi h h' st k=>k it (by simp) _ st
 item:=by
  intro X hP hw hK hc i pins s σ H E I hf st hg;subst hP hw hK;obtain⟨f0,f1,f2,f3,f4,f5⟩:=hf it (by simp)
  have W:=Walks.range (prog:=X.prog) (w:=X.w) (I.ok.hd hc) it lo 1 n;refine W.item i s _ _ hg st λv h' tk hv st' kk=> ?_
  obtain⟨t,rfl⟩:=hv
  have I1:Inv X pins σ H { s with heap:=h',toks:=tk }:=I.turned (λb o hb e=>kk b o (by simpa using hb) e) f0 f1 f3 f4 f5
  refine⟨_,rfl,AX (s:={ s with heap:=h',toks:=tk }) (n:="range_iterator") st' rfl rfl (by decide) ⟨.int (lo+i),H,I1,⟨t,?_⟩,⟨rfl,rfl⟩,st',λb hb=>(hf b hb).1⟩⟩
  rw[Int.mul_one]
 done:=by
  intro X hP hw hK hc i pins s σ H E I hf st hg;subst hP hw hK;obtain⟨f0,f1,f2,f3,f4,f5⟩:=hf it (by simp)
  exact wpAny_pyNext_range_end (I.ok.hd hc) st (by have:n<=i:=hg;omega) λh' eb=>⟨rfl,I.turned (t':=s.toks) (λb o hb e=>eb b o hb e) f0 f1 f3 f4 f5⟩
 self:=λ_ _ _ _ _ st h=>wpAny_pyIter_rangeiter st h
section
variable {X:Cx}{tg:Expr}
def JA (K:Ld)(tl:TE):TI:=λσ H R=>tl σ H λx H1=> ∃a,x= .ref a/\(∃xs,SqL K H1 a xs)/\R (Itl K a) H1
def iTup (K:Ld)(tl:TE):TI:=λσ H R=>tl σ H λx H1=> ∃a,x= .ref a/\(∃xs,SqT K H1 a xs)/\R (Itt K a) H1
theorem Dj {l:Expr}{tl:TE}(hl:PE X l tl):PI X tg l (JA X.K tl):=by
 intro pins s σ H R I h;refine bR (hl pins s σ H _ I h) λv s1 hh_=> ?_
 obtain⟨x,H1,I1,r1,q1⟩:=hh_;obtain⟨a,e,⟨xs,hq⟩,q⟩:=q1;subst e;cases r1;obtain⟨its,rv,p,hz⟩:=I1.list hq;refine PB p.isList ?_
 refine⟨s1.heap.objs.size,[s1.heap.objs.size],_,_,H1,rfl,I1.kept (t':=s1.toks) λb o e=>Lq _ e,xV a _,⟨_,LB _ rfl,rfl,rfl⟩,λb hb=> ?_,q⟩
 have e:b=s1.heap.objs.size:=by simpa using hb
 subst e;exact I1.Ku (Lv _) (I1.hok.fresh (Lv _))
theorem Gf {l:Expr}{tl:TE}(hl:PE X l tl):PI X tg l (iTup X.K tl):=by
 intro pins s σ H R I h;refine bR (hl pins s σ H _ I h) λv s1 hh_=> ?_
 obtain⟨x,H1,I1,r1,q1⟩:=hh_;obtain⟨a,e,⟨xs,hq⟩,q⟩:=q1;subst e;cases r1;obtain⟨its,rv,p,hz⟩:=I1.tuple hq;refine NH (show s1.heap.IsTuple a its.toArray from p) ?_
 refine⟨s1.heap.objs.size,[s1.heap.objs.size],_,_,H1,rfl,I1.kept (t':=s1.toks) λb o e=>Lq _ e,uL a _,⟨_,LB _ rfl,rfl,rfl⟩,λb hb=> ?_,q⟩
 have e:b=s1.heap.objs.size:=by simpa using hb
 subst e;exact I1.Ku (Lv _) (I1.hok.fresh (Lv _))
theorem tw {pins:List (Addr×Obj)}{σ:St}{H:Hp}{s:Lj}{R:It->Hp->Prop}{E:Lh->Lj->Prop}{lo hi:Int}{t u v:Tok}{tk:Nat}(I:Inv X pins σ H s)(h1 : -(2 ^ 62)<=lo)(h2:lo<2 ^ 62)(h3 : -(2 ^ 62)<=hi)(h4:hi<2 ^ 62)
  (q:R (Itr lo (hi - lo).toNat) H):wpAny (model X.prog X.w) X.A (pyIter (.ref s.heap.objs.size)) (PIE X pins σ tg R) E { s with heap:=s.heap.push { cls:=.type "range",data:=.fields #[.int lo t,.int hi u,.int 1 v] },toks:=tk }:=by
 refine wpAny_pyIter_range (IsRange.new ..) (small_one h1 h2 h3 h4) ?_
 have I1:Inv X pins σ H { s with heap:=s.heap.push { cls:=.type "range",data:=.fields #[.int lo t,.int hi u,.int 1 v] },toks:=tk }:=I.kept λb o e=>Lq _ e
 refine⟨(s.heap.push { cls:=.type "range",data:=.fields #[.int lo t,.int hi u,.int 1 v] }).objs.size,[(s.heap.push { cls:=.type "range",data:=.fields #[.int lo t,.int hi u,.int 1 v] }).objs.size],_,_,H,rfl,
  I1.kept (t':=tk) λb o e=>Lq _ e,uM _ lo (hi - lo).toNat,?_,λb hb=> ?_,q⟩
 ·have e1:lo+((0:Nat):Int)*1=lo:=by simp
  have e2:(((hi - lo).toNat:Nat):Int) - ((0:Nat):Int)=Builtin.Range.rangeSize lo hi 1:=by rw[rangeSize_one];split <;> omega
  show IsRangeIter _ _ (lo+((0:Nat):Int)*1) ((((hi - lo).toNat:Nat):Int) - ((0:Nat):Int)) 1
  rw[e1,e2];exact LB _ rfl
 ·have e:b=(s.heap.push { cls:=.type "range",data:=.fields #[.int lo t,.int hi u,.int 1 v] }).objs.size:=by simpa using hb
  subst e;exact I1.Ku (Lv _) (I1.hok.fresh (Lv _))
def tFor (wi:TI)(g:TG)(tb:TS):TS:=λD σ H=>wi σ H λJ H1=> ∃W:Nat->Nat->St->Hp->Prop,(∃m,W 0 m σ H1)/\∀i m σ H,W i m σ H →
 (J.stop i H/\D.nx σ H)\/(J.go i H/\∃N:St->Hp->Prop,(∀σ' H',N σ' H'->∃m',m'<m/\W (i+1) m' σ' H')/\∀x H',J.yld i H x H'->g x σ H' λσ2 H2=>tb { D with nx:=N,ct:=N,bk:=D.nx } σ2 H2)
def mU (fp:List Addr)(h:Heap):List (Addr×Obj):=fp.filterMap λb=>(h.get? b).map λo=>(b,o)
theorem gJ {fp:List Addr}{h:Heap}{b:Addr}{o:Obj}(hb:b∈fp)(e:h.get? b=some o):(b,o)∈mU fp h:=N8.mpr ⟨b,hb,by rw[e];rfl⟩
theorem yi {fp:List Addr}{h:Heap}{p:Addr×Obj}(hp:p∈mU fp h):p.1∈fp/\h.get? p.1=some p.2:=by
 obtain⟨b,hb,e⟩:=N8.mp hp
 cases q:h.get? b with
 | none=>rw[q]at e;cases e
 | some o=>
  rw[q]at e
  have e':(b,o)=p:=LY e;subst e';exact⟨hb,q⟩
theorem Inv.pinned {pins:List (Addr×Obj)}{σ:St}{H:Hp}{s:Lj}{fp:List Addr}(I:Inv X pins σ H s)(hf:∀b∈fp,ou X pins H b)(ho:∀b∈fp,∃o,s.heap.get? b=some o/\∀v,o.data≠ .cell v):Inv X (pins++mU fp s.heap) σ H s:=
 I.Ks λp hp=>(LH.mp hp).elim (λz=>I.pin p (LF _ z)) λz=>by
  obtain⟨hb,e⟩:=yi z;obtain⟨f0,f1,f2,_⟩:=hf p.1 hb;obtain⟨o,e',d⟩:=ho p.1 hb;rw[e]at e';cases e';exact⟨e,f0,f1,f2,d⟩
theorem Inv.Kc {pins pl:List (Addr×Obj)}{σ:St}{H:Hp}{s:Lj}(I:Inv X (pins++pl) σ H s):Inv X pins σ H s:=I.Ks λp hp=>I.pin p (LF _ (LW _ hp))
end
abbrev R2:=V->V->Hp->VK->Prop
def pf (X:Cx)(f:Lh->Lh->Sem Lh)(r:R2):Prop:=
 ∀(pins:List (Addr×Obj)) (s:Lj) (σ:St) (H:Hp) (x y:V) (v u:Lh) (Q:VK),Inv X pins σ H s->RelV x v->RelV y u->r x y H Q →
  wpAny (model X.prog X.w) X.A (f v u) (EP X pins σ Q) X.xe s
def UnR (X:Cx)(f:Lh->Sem Lh)(r:V->Hp->VK->Prop):Prop:=
 ∀(pins:List (Addr×Obj)) (s:Lj) (σ:St) (H:Hp) (x:V) (v:Lh) (Q:VK),Inv X pins σ H s->RelV x v->r x H Q →
  wpAny (model X.prog X.w) X.A (f v) (EP X pins σ Q) X.xe s
def CallR (X:Cx)(f:Lh)(r:List V->Hp->VK->Prop):Prop:=
 ∀(pins:List (Addr×Obj)) (s:Lj) (σ:St) (H:Hp) (xs:List V) (us:List Lh) (Q:VK),Inv X pins σ H s->Vals xs us->r xs H Q →
  wpAny (model X.prog X.w) X.A (call f us) (EP X pins σ Q) X.xe s
def tUn (r:V->Hp->VK->Prop)(ta:TE):TE:=λσ H Q=>ta σ H λx H1=>r x H1 Q
def rI (C:Int->Int->Prop)(g:Int->Int->V):R2:=λx y H Q=> ∃i j,x= .int i/\y= .int j/\C i j/\Q (g i j) H
def CG (g:Int->Int->V):R2:=λx y H Q=> ∃i j,x= .int i/\y= .int j/\Q (g i j) H
def rU (g:Int->V):V->Hp->VK->Prop:=λx H Q=> ∃i,x= .int i/\Q (g i) H
section
variable {X:Cx}{a b c:Expr}{ta tb tc:TE}{pos:Pos}
theorem EJ {op:UnaryOp}{r:V->Hp->VK->Prop}(ho:UnR X (unaryOp op) r)(ha:PE X a ta):PE X (.UnaryOp op a pos) (tUn r ta):=by
 intro pins s σ H Q I h;exact UnaryOp_ (bR (ha pins s σ H _ I h) λv s1 ⟨x,H1,I1,r1,q1⟩=>ho pins s1 σ H1 x v Q I1 r1 q1)
theorem opI {f:Lh->Lh->Sem Lh}{C:Int->Int->Prop}{g:Int->Int->Int}
  (rule:∀(i j:Int) (t u:Tok) (s:Lj) (Q:Lh->Lj->Prop) (E:Lh->Lj->Prop),C i j->Q (.int (g i j) s.toks) { s with toks:=s.toks+1 }->wpAny (model X.prog X.w) X.A (f (.int i t) (.int j u)) Q E s) :
  pf X f (rI C λi j=> .int (g i j)):=by
 intro pins s σ H x y v u Q I rx ry h;obtain⟨i,j,rfl,rfl,hc,q⟩:=h;obtain⟨t,rfl⟩:=rx;obtain⟨t',rfl⟩:=ry;exact rule i j t t' s _ _ hc ⟨.int (g i j),H,I.tok _,⟨_,rfl⟩,q⟩
theorem IU {f:Lh->Lh->Sem Lh}{g:Int->Int->Int}
  (rule:∀(i j:Int) (t u:Tok) (s:Lj) (Q:Lh->Lj->Prop) (E:Lh->Lj->Prop),Q (.int (g i j) s.toks) { s with toks:=s.toks+1 }->wpAny (model X.prog X.w) X.A (f (.int i t) (.int j u)) Q E s) :
  pf X f (CG λi j=> .int (g i j)):=by
 intro pins s σ H x y v u Q I rx ry h;obtain⟨i,j,rfl,rfl,q⟩:=h;obtain⟨t,rfl⟩:=rx;obtain⟨t',rfl⟩:=ry;exact rule i j t t' s _ _ ⟨.int (g i j),H,I.tok _,⟨_,rfl⟩,q⟩
theorem Dw {f:Lh->Lh->Sem Lh}{g:Int->Int->Bool}
  (rule:∀(i j:Int) (t u:Tok) (s:Lj) (Q:Lh->Lj->Prop) (E:Lh->Lj->Prop),Q (.bool (g i j)) s->wpAny (model X.prog X.w) X.A (f (.int i t) (.int j u)) Q E s) :
  pf X f (CG λi j=> .bl (g i j)):=by
 intro pins s σ H x y v u Q I rx ry h;obtain⟨i,j,rfl,rfl,q⟩:=h;obtain⟨t,rfl⟩:=rx;obtain⟨t',rfl⟩:=ry;exact rule i j t t' s _ _ ⟨.bl (g i j),H,I,rfl,q⟩
def CDiv (i j:Int):Prop:=0<j/\j<1073741824
def CMul (i j:Int):Prop:=(-(2 ^ 64)<i/\i<2 ^ 64)\/(-(2 ^ 64)<j/\j<2 ^ 64)
theorem CMul.ok {i j:Int}(h:CMul i j):IntMulOk i j:=by
 rcases h with⟨h1,h2⟩ | ⟨h1,h2⟩
 ·exact .of_left (intBits_le_64 h1 h2)
 ·exact .of_right (intBits_le_64 h1 h2)
theorem GA:pf X (MZ .Add) (CG λi j=> .int (i+j)):=IU λ_ _ _ _ _ _ _ q=>add_int q
theorem Gu:pf X (MZ .Sub) (CG λi j=> .int (i - j)):=IU λ_ _ _ _ _ _ _ q=>sub_int q
theorem Gw:pf X (MZ .Mult) (rI CMul λi j=> .int (i*j)):=opI λ_ _ _ _ _ _ _ hc q=>mul_int q hc.ok
theorem Du:pf X (MZ .FloorDiv) (rI CDiv λi j=> .int (i / j)):=opI λi j _ _ _ _ _ hc q=>by
 have h1:(0:Int)<j:=hc.1
 have h2:j<1073741824:=hc.2;exact floordiv_int (by omega) (by rw[Int.fdiv_eq_ediv_of_nonneg i (by omega)];exact q) (.inl (PyProof.noPylong_small (by omega)))
theorem Gx:pf X (MZ .Mod) (rI (λ_ j=>0<j) λi j=> .int (i % j)):=opI λi j _ _ _ _ _ hc q=>by
 have h1:(0:Int)<j:=hc;exact mod_int' (by omega) (by rw[Int.fmod_eq_emod_of_nonneg i (by omega)];exact q)
theorem unI {f:Lh->Sem Lh}{g:Int->Int}
  (rule:∀(i:Int) (t:Tok) (s:Lj) (Q:Lh->Lj->Prop) (E:Lh->Lj->Prop),Q (.int (g i) s.toks) { s with toks:=s.toks+1 }->wpAny (model X.prog X.w) X.A (f (.int i t)) Q E s) :
  UnR X f (rU λi=> .int (g i)):=by
 intro pins s σ H x v Q I rx h;obtain⟨i,rfl,q⟩:=h;obtain⟨t,rfl⟩:=rx;exact rule i t s _ _ ⟨.int (g i),H,I.tok _,⟨_,rfl⟩,q⟩
theorem zj:UnR X (unaryOp .USub) (rU λi=> .int (-i)):=unI λ_ _ _ _ _ q=>neg_int q
end
section
variable {X:Cx}{a b c:Expr}{ta tb tc:TE}{pos:Pos}
theorem Bg {pins:List (Addr×Obj)}{σ:St}{H:Hp}{s:Lj}{Q:VK}{k k':Bool}(I:Inv X pins σ H s)(q:Q (.bl k) H)(e:k=k'):EP X pins σ Q (.bool k') s:=by
 subst e;exact⟨.bl k,H,I,rfl,q⟩
theorem IP:pf X (L7 .Lt) (CG λi j=> .bl (decide (i<j))):=Dw λ_ _ _ _ _ _ _ q=>lt_int q
theorem IQ:pf X (L7 .LtE) (CG λi j=> .bl (decide (i<=j))):=Dw λ_ _ _ _ _ _ _ q=>le_int q
theorem IS:pf X (L7 .Gt) (CG λi j=> .bl (decide (j<i))):=Dw λ_ _ _ _ _ _ _ q=>gt_int q
theorem IT:pf X (L7 .GtE) (CG λi j=> .bl (decide (j<=i))):=Dw λ_ _ _ _ _ _ _ q=>ge_int q
theorem Gy:pf X (L7 .Is) (λx y H Q=>y= .non/\Q (.bl (decide (x= .non))) H):=by
 intro pins s σ H x y v u Q I rx ry h;obtain⟨rfl,q⟩:=h;cases ry;refine is_none_gen (Bg I q ?_)
 cases x <;> first
  | (cases rx;rfl)
  | (obtain⟨t,rfl⟩:=rx;rfl)
theorem Dt:pf X (L7 .IsNot) (λx y H Q=>y= .non/\Q (.bl (!decide (x= .non))) H):=by
 intro pins s σ H x y v u Q I rx ry h;obtain⟨rfl,q⟩:=h;cases ry;refine isnot_none_gen (Bg I q ?_)
 cases x <;> first
  | (cases rx;rfl)
  | (obtain⟨t,rfl⟩:=rx;rfl)
theorem nB:(sizeLine:Nat)<2 ^ 63:=by rw[OZ];decide
theorem vc:pf X (MZ .Add) (λx y H Q=> ∃i j,x= .str i/\y= .str j/\i.length+j.length<=sizeLine/\Q (.str (i++j)) H):=by
 intro pins s σ H x y v u Q I rx ry h;obtain⟨i,j,rfl,rfl,hz,q⟩:=h;obtain⟨t,rfl⟩:=rx;obtain⟨t',rfl⟩:=ry;exact add_str (λt' tk=>⟨.str (i++j),H,I.tok _,⟨_,rfl⟩,q⟩) hz
theorem jN {x:V}{us:List Lh}(r:Vals [x] us):∃u,us= [u]/\RelV x u:=by
 cases r with
 | cons r1 r2=>cases r2;exact⟨_,rfl,r1⟩
theorem HK {x y:V}{us:List Lh}(r:Vals [x,y] us):∃u w',us= [u,w']/\RelV x u/\RelV y w':=by
 cases r with
 | cons r1 r2=>
  cases r2 with
  | cons r3 r4=>cases r4;exact⟨_,_,rfl,r1,r3⟩
theorem yM:CallR X (.type "int") (λxs H Q=>(∃i,xs= [.int i]/\Q (.int i) H)\/∃k,xs= [.bl k]/\Q (.int (if k then 1 else 0)) H):=by
 intro pins s σ H xs us Q I r h;rcases h with⟨i,rfl,q⟩ | ⟨k,rfl,q⟩
 ·obtain⟨u,rfl,t,rfl⟩:=jN r
  exact call_int_int ⟨.int i,H,I,⟨_,rfl⟩,q⟩
 ·obtain⟨u,rfl,r1⟩:=jN r
  cases r1;exact call_int_bool ⟨.int (if k then 1 else 0),H,I.tok _,⟨_,rfl⟩,q⟩
end
structure ObjM (h:Heap)(x dx C:Addr)(mA:Str->Option Lh):Prop where
 obj:h.get? x=some (M6 C dx)
 ns:h.Ns1 dx mA
 ne:dx≠x
theorem yr {h:Heap}{dx:Addr}{mA:Str->Option Lh}(n:h.Ns1 dx mA):∃od,h.get? dx=some od/\∀name,Ph name od=some (mA name):=by
 obtain⟨o,es,ep,ho,hd,hk,_,hm⟩:=n;refine⟨o,ho,λname=> ?_⟩
 have e:=hm name;unfold nsFind findBy at e;rw[<-QQ]at e
 unfold Ph;rw[hd]
 dsimp only
 split
 ·rename_i y q
  rw[q]at e;exact congrArg some e
 ·rename_i q
  rw[q]at e
  have a:es.toList.any (·.refKey)=false:=by
   rw[List.any_eq_false];intro y hy;obtain⟨z,t,hkey⟩:=hk y (Array.mem_toList_iff.mp hy);simp[DictEntry.refKey,hkey]
  have a':¬ es.toList.any (·.refKey)=true:=by rw[a];exact LM
  rw[if_neg a'];exact congrArg some e
theorem ObjM.look {h:Heap}{x dx C:Addr}{mA:Str->Option Lh}(I:ObjM h x dx C mA):∃od,PySem.W.InstAt h x (M6 C dx) C (some od)/\∀name,Ph name od=some (mA name):=
 let ⟨od,ho,hl⟩:=yr I.ns
 ⟨od,⟨I.obj,rfl,rfl,ho⟩,hl⟩
section
variable {prog:LP}{w:Mh}{A:L3}{E:Lh->Lj->Prop}{s:Lj}{K:Ld}{x dx C f:Addr}{mA:Str->Option Lh}{name:Str}{v:Lh}
theorem mm {expr:Bool}{Q:Lh->Lj->Prop}(X:K.In s.heap)(I:ObjM s.heap x dx C mA)(hg:OD K C name=true)(hh:Po K C=true)
  (ha:MU K (.ref C) name=some none) (hv:mA name=some v) (hv':RN v=true) (h:Q v { s with toks:=s.toks+1 }) :
  wpAny (model prog w) A (getAttr (.ref x) name expr) Q E s:=by
 obtain⟨od,J,hl⟩:=I.look;exact PySem.W.get_value X J (OR hg).1 (PySem.W.findObj_own hh ha rfl (by rw[hl,hv])) hv' h
theorem AY {pl:Sem Bool}{Q:Lh×List Lh->Lj->Prop}(X:K.In s.heap)(I:ObjM s.heap x dx C mA)(hg:OD K C name=true)
  (hf:MU K (.ref C) name=some (some (.ref f))) (ht:Rw K (.ref f)=true) (hv:mA name=none) (h:Q (.ref f,[.ref x]) s) :
  wpAny (model prog w) A (O0 (.ref x) name pl) Q E s:=by
 obtain⟨od,J,hl⟩:=I.look;exact PySem.W.method_fn X J (OR hg).1 (OR hg).2 hf (beq_iff_eq.mp ht) (by show(Ph name od).map (·.isSome)=some false;rw[hl,hv];rfl) h
theorem Cw {ns:List Str}{Q:Unit->Lj->Prop}(X:K.In s.heap)(I:ObjM s.heap x dx C mA)
  (hs:MU K (.ref C) "__setattr__" =some (some (.builtin "object.__setattr__"))) (hp:Rh K C=true) (ht:P5 K C name=some none) (hh:Po K C=true)
  (hw:Rx mA ns) (hsz:ns.length<=sizeLine)
  (h:∀h',ObjM h' x dx C (λy=>if y=name then some v else mA y)->Oy dx s.heap h'->Q () { s with heap:=h',toks:=s.toks+2 }) :
  wpAny (model prog w) A (setAttr (.ref x) name v) Q E s:=by
 obtain⟨od,J,hl⟩:=I.look;refine PySem.W.set_plain X J hs (PySem.W.osa_open (s:={ s with toks:=s.toks+1 }) (r:=none) X J hp ht λb=> ?_)
 obtain⟨cd,hc,hd'⟩:=PySem.W.any_some hh
 have hx:s.heap.get? x=some ⟨.ref C,some dx,.plain,#[]⟩:=I.obj;refine Li (Lr (Li (Li (wpAny_loadPart hx (Li (PySem.W.Looks.here (s:={ s with toks:=s.toks+1 }) (PySem.W.looks_clsIn X hc) ?_))))))
 rw[hd'];refine Lr (a:=some dx) (Li (Lr (Li ?_)))
 refine wpAny_nsSet1 (s:={ s with toks:=s.toks+1 }) I.ns λh' hn2 hs2=> ?_
 obtain⟨oD,esD,epD,hoD,hdD,hcD⟩:=hn2.count (PySem.Within.cons name v hw);refine Li (wpAny_lookBehind hoD (by rw[hdD];exact pastItsLine_dict (Mf hcD (by rw[Lm];omega))) ?_)
 exact Lr (h _ ⟨(hs2.2 _ (NZ I.ne)).trans I.obj,hn2,I.ne⟩ hs2)
theorem Am {R:Sd->Lj->Prop}{vs:List Lh}{kw:List (Str×Lh)}(X:K.In s.heap)(hm:R0 K C=true)
  (hi:MU K (.ref C) "__init__" =some (some (.ref f))) (hf:PySem.W.typeIn K (.ref f)=some (.type "function"))
  (h:codeAny (model prog w) (A.under (.builtin "type.__call__" ⟨.ref C::vs,kw⟩)) (.call (.ref f) ⟨.ref (s.heap.objs.size+1)::vs,kw⟩) (PySem.W.InitBack (s.heap.objs.size+1) R)
   { s with heap:=(s.heap.push MD).push (M6 C s.heap.objs.size) }) :
  codeAny (model prog w) A (.call (.ref C) ⟨vs,kw⟩) R s:=by
 obtain⟨hh,g,d,t,os⟩:=s;exact PySem.W.make_core (PySem.W.makes_of X hm) (PySem.W.looks_findIn X hi) (λself=>PySem.W.bind_fn X self hf) (.inl rfl) h
end
def putF (f:Str)(v:V):List (Str×V)->List (Str×V)
 | [] => [(f,v)]
 | (g,x)::r=>if g=f then(g,v)::r else(g,x)::putF f v r
theorem lH (f g:Str)(v:V):∀fs:List (Str×V),(putF f v fs).lookup g=if g=f then some v else fs.lookup g
 | [] =>by
  show MN g [(f,v)] =_
  by_cases h:g=f
  ·have hb:(g == f)=true:=beq_iff_eq.mpr h
   simp only[MN,hb,if_pos h]
  ·have hb:(g == f)=false:=beq_eq_false_iff_ne.mpr h
   simp only[MN,hb,if_neg h]
 | (k,x)::r=>by
  have ih:=lH f g v r;rw[show putF f v ((k,x)::r)=(if k=f then(k,v)::r else(k,x)::putF f v r)from rfl]
  by_cases hk:k=f
  ·rw[if_pos hk]
   by_cases h:g=k
   ·have hb:(g == k)=true:=beq_iff_eq.mpr h
    simp only[MN,hb,if_pos (h.trans hk)]
   ·have hb:(g == k)=false:=beq_eq_false_iff_ne.mpr h
    simp only[MN,hb,if_neg (λe:g=f=>h (e.trans hk.symm))]
  ·rw[if_neg hk]
   by_cases h:g=k
   ·have hb:(g == k)=true:=beq_iff_eq.mpr h
    simp only[MN,hb,if_neg (λe:g=f=>hk (h.symm.trans e))]
   ·have hb:(g == k)=false:=beq_eq_false_iff_ne.mpr h
    simp only[MN,hb];exact ih
theorem k8 (f:Str)(v:V):∀fs:List (Str×V),f∈(putF f v fs).map (·.1)/\∀g,g∈fs.map (·.1)->g∈(putF f v fs).map (·.1)
 | [] =>⟨by simp[putF],λg h=>by simp at h⟩
 | (k,x)::r=>by
  obtain⟨i1,i2⟩:=k8 f v r;rw[show putF f v ((k,x)::r)=(if k=f then(k,v)::r else(k,x)::putF f v r)from rfl]
  by_cases hk:k=f
  ·rw[if_pos hk]
   subst hk;exact⟨by simp,λg h=>by simpa using h⟩
  ·rw[if_neg hk]
   refine⟨?_,λg h=> ?_⟩
   ·rw[Lk]
    exact Lg _ i1
   ·rw[Lk]at h ⊢
    rcases Lp.mp h with e | e
    ·exact Lp.mpr (.inl e)
    ·exact Lg _ (i2 g e)
theorem lI (f:Str)(v:V):∀fs:List (Str×V),(putF f v fs).length<=fs.length+1
 | [] =>by simp[putF]
 | (k,x)::r=>by
  have ih:=lI f v r;rw[show putF f v ((k,x)::r)=(if k=f then(k,v)::r else(k,x)::putF f v r)from rfl]
  by_cases hk:k=f
  ·rw[if_pos hk,Lm,Lm];omega
  ·rw[if_neg hk,Lm,Lm];omega
theorem RelO.some_of {v:V}{o:Option Lh}(r:RelO (some v) o):∃u,o=some u/\RelV v u:=by
 cases o with
 | none=>exact(show False from r).elim
 | some u=>exact⟨u,rfl,r⟩
theorem RelO.none_of {o:Option Lh}(r:RelO none o):o=none:=by
 cases o with
 | none=>rfl
 | some u=>exact(show False from r).elim
theorem yD {v:V}{u:Lh}(r:RelV v u):RN u=true:=by
 cases v with
 | non=>cases (show u=L1 from r);rfl
 | bl b=>cases (show u=Mu b from r);rfl
 | int i=>obtain⟨t,e⟩:=(show ∃t,u=ML i t from r);cases e;rfl
 | str x=>obtain⟨t,e⟩:=(show ∃t,u=MM x t from r);cases e;rfl
 | byt b=>obtain⟨t,e⟩:=(show ∃t,u=Value.bytes b t from r);cases e;rfl
 | flt b=>obtain⟨t,e⟩:=(show ∃t,u=R3 b t from r);cases e;rfl
 | ref a=>cases (show u=LR a from r);rfl
 | ty n=>cases (show u=OP n from r);rfl
section
variable {P:LP}{w:Mh}{H H':Hp}{h h':Heap}{a C dx:Addr}{fs fs':List (Str×V)}
theorem ml (hok:HOk P w H h)(e:H a=some (.ins C dx fs)):∃mA,ObjM h a dx C mA/\(∀f,RelO (fs.lookup f) (mA f))/\Rx mA (fs.map (·.1))/\fs.length<=1000/\H dx=some (.own a):=by
 obtain⟨d,z,ne,ob,mA,n,r,q⟩:=(show ObjOk P w H h a (.ins C dx fs)from hok a _ e)
 exact⟨mA,⟨ob,n,ne⟩,r,q,z,d⟩
end
structure Cls (K:Ld)(C:Addr):Prop where
 pg:OD K C Str.empty=true
 hd:Po K C=true
 po:Rh K C=true
 sa:MU K (.ref C) "__setattr__" =some (some (.builtin "object.__setattr__"))
theorem Cls.get {K:Ld}{C:Addr}(c:Cls K C)(f:Str):OD K C f=true:=c.pg
def NoAttr (K:Ld)(C:Addr)(f:Str):Prop:=MU K (.ref C) f=some none
theorem NoAttr.KS {K:Ld}{C:Addr}{f:Str}(n:NoAttr K C f):P5 K C f=some none:=by
 unfold P5;rw[show MU K (.ref C) f=some none from n]
 rfl
structure uD (K:Ld)(C:Addr)(m:Str)(f:Addr):Prop where
 at_:MU K (.ref C) m=some (some (.ref f))
 fn:Rw K (.ref f)=true
 kp:Ni K (.ref f)=true
section
variable {X:Cx}{pins:List (Addr×Obj)}{σ:St}{H:Hp}{s:Lj}{a C dx:Addr}{fs:List (Str×V)}{f:Str}{v:V}{A:L3}{E:Lh->Lj->Prop}
theorem vK {b:Bool}{Q:Lh->Lj->Prop}(I:Inv X pins σ H s)(e:H a=some (.ins C dx fs))(c:Cls X.K C)(n:NoAttr X.K C f)(l:fs.lookup f=some v)
  (h:∀u s',Inv X pins σ H s'->RelV v u->Q u s'):wpAny (model X.prog X.w) A (getAttr (.ref a) f b) Q E s:=by
 obtain⟨mA,O,r,_,_,_⟩:=ml I.hok e;obtain⟨u,hu,ru⟩:=RelO.some_of (v:=v) (o:=mA f) (by rw[<-l];exact r f)
 exact mm I.kIn O (c.get f) c.hd n hu (yD ru) (h u _ (I.tok _) ru)
theorem jD {m:Str}{g:Addr}{pl:Sem Bool}{Q:Lh×List Lh->Lj->Prop}(I:Inv X pins σ H s)(e:H a=some (.ins C dx fs))(c:Cls X.K C)(k:uD X.K C m g)(l:fs.lookup m=none)
  (h:Q (.ref g,[.ref a]) s):wpAny (model X.prog X.w) A (O0 (.ref a) m pl) Q E s:=by
 obtain⟨mA,O,r,_,_,_⟩:=ml I.hok e
 have hn:mA m=none:=RelO.none_of (by rw[<-l];exact r m)
 exact AY I.kIn O (c.get m) k.at_ k.fn hn h
theorem uS {y:V}{u:Lh}{Q:Unit->Lj->Prop}(I:Inv X pins σ H s)(e:H a=some (.ins C dx fs))(c:Cls X.K C)(n:NoAttr X.K C f)(hl:fs.length<1000)(ry:RelV y u)
  (h:∀s',Inv X pins σ (upd H a (.ins C dx (putF f y fs))) s'->Q () s'):wpAny (model X.prog X.w) A (setAttr (.ref a) f u) Q E s:=by
 obtain⟨mA,O,r,wi,_,ho⟩:=ml I.hok e
 have hz:(fs.map (·.1)).length<=sizeLine:=by rw[Ln,OZ];omega
 refine Cw I.kIn O c.sa c.po n.KS c.hd wi hz λh' O' sb=>h _ ?_
 have hd:∃o,h'.get? dx=some o:=let ⟨o,_,_,e',_⟩:=O'.ns;⟨o,e'⟩
 refine I.write (x:=a) (e:=dx) (by rw[e];exact Nn) (.inr ho) (λb q hb z=>(sb.2 b hb).trans z) hd ?_
 refine⟨by rw[aH O.ne];exact ho,?_,O.ne,O'.obj,_,O'.ns,λg=> ?_,λg hg=> ?_⟩
 ·have:=lI f y fs;omega
 ·show RelO ((putF f y fs).lookup g) (if g=f then some u else mA g)
  rw[lH]
  by_cases q:g=f
  ·rw[if_pos q,if_pos q];exact ry
  ·rw[if_neg q,if_neg q];exact r g
 ·by_cases q:g=f
  ·rw[q];exact(k8 f y fs).1
  ·refine(k8 f y fs).2 g (wi g λz=>hg ?_)
   show(if g=f then some u else mA g)=none
   rw[if_neg q];exact z
theorem Inv.made (I:Inv X pins σ H s):Inv X pins σ (upd (upd H s.heap.objs.size (.own (s.heap.objs.size+1))) (s.heap.objs.size+1) (.ins C s.heap.objs.size []))
  { s with heap:=(s.heap.push MD).push (M6 C s.heap.objs.size) }:=by
 have e1:(s.heap.push MD).get? s.heap.objs.size=some MD:=LB s.heap rfl
 have e2:((s.heap.push MD).push (M6 C s.heap.objs.size)).get? (s.heap.objs.size+1)=some (M6 C s.heap.objs.size):=by
  have:=LB (s.heap.push MD) (o:=M6 C s.heap.objs.size) rfl
  rwa [M5]at this
 have e3:(s.heap.push MD).Ns s.heap.objs.size (λ_=>none):=⟨MD,#[],_,e1,rfl,(λe he=>absurd he (by simp)),λ_=>rfl⟩
 have I1:=I.laid (a:=s.heap.objs.size) (o:=.own (s.heap.objs.size+1)) (h':=s.heap.push MD) (t':=s.toks) (λb u q=>Lq _ q) (Lv _) ⟨_,e1⟩
 refine I1.laid (a:=s.heap.objs.size+1) (o:=.ins C s.heap.objs.size []) (t':=s.toks) (λb u q=>Lq _ q) (Oz (M5 _ _)) ?_
 have ne:s.heap.objs.size≠s.heap.objs.size+1:=My (OF _);refine⟨by rw[aH ne,aQ],Nk _,ne,e2,λ_=>none,(Heap.Ns1.of_empty e3).at λo q=>Lq _ q,λ_=>Nn,λy hy=>absurd rfl hy⟩
theorem Em {prog:LP}{w:Mh}{env:Env}{e:Expr}{f:Str}{pos:Pos}{s:Lj}{Q:Lh->Lj->Prop}(hb:LU e f env (eval e env)=eval e env)
  (h:wpAny (model prog w) A (eval e env) (λo s₁=>wpAny (model prog w) A (getAttr o f true) Q E s₁) E s):wpAny (model prog w) A (eval (.Attribute e f pos) env) Q E s:=
 Attribute_any_ h (by rw[arm_eval_Attribute,hb])
end
def tFld (K:Ld)(ta:TE)(f:Str):TE:=λσ H Q=>ta σ H λx H1=> ∃a C dx fs v,x= .ref a/\H1 a=some (.ins C dx fs)/\Cls K C/\NoAttr K C f/\fs.lookup f=some v/\Q v H1
def sFld (K:Ld)(ta tv:TE)(f:Str):TS:=λD σ H=>tv σ H λy H1=>ta σ H1 λx H2=> ∃a C dx fs,x= .ref a/\H2 a=some (.ins C dx fs)/\Cls K C/\NoAttr K C f/\fs.length<1000 ∧
 D.nx σ (upd H2 a (.ins C dx (putF f y fs)))
section
variable {X:Cx}{o e value:Expr}{f:Str}{pos pos' tpos:Pos}{ta tv:TE}
theorem u9 (he:PE X e ta)(hb:LU e f X.env (eval e X.env)=eval e X.env):PE X (.Attribute e f pos) (tFld X.K ta f):=by
 intro pins s σ H Q I h;refine Em hb (bR (he pins s σ H _ I h) λu s1 hh_=> ?_)
 obtain⟨x,H1,I1,rx,a,C,dx,fs,v,ex,ea,c,n,l,q⟩:=hh_;subst ex;obtain rfl:u=LR a:=rx;exact vK I1 ea c n l λu' s2 I2 ru=>⟨v,H1,I2,ru,q⟩
theorem Gd (ha:PE X o ta)(hv:PE X value tv)(hs:Me value (some (.Attribute o f pos')) pos.line X.env=pure false):PS X (.Assign [.Attribute o f pos'] value pos) (sFld X.K ta tv f):=by
 intro pins s σ H D I h;refine plainObj_wpAny_Assign_Attribute (bR (hv pins s σ H _ I h) λu s1 ⟨y,H1,I1,ry,q⟩=>bR (ha pins s1 σ H1 _ I1 q) λov s2 ⟨x,H2,I2,rx,a,C,dx,fs,ex,ea,c,n,l,q2⟩=> ?_) hs
 subst ex;obtain rfl:ov=LR a:=rx;exact uS I2 ea c n l ry λs3 I3=>⟨σ,_,I3,q2⟩
end
section
variable {X:Cx}{pins:List (Addr×Obj)}{σ:St}{H:Hp}{s:Lj}{A:L3}{E:Lh->Lj->Prop}{Q:Lh->Lj->Prop}{c:Lh}{b:Bool}
inductive ly (K:Ld) (H:Hp):V->Lh->Prop where
 | non:ly K H .non (.type "NoneType")
 | bl (x:Bool):ly K H (.bl x) (.type "bool")
 | int (i:Int):ly K H (.int i) (.type "int")
 | str (x:Str):ly K H (.str x) (.type "str")
 | flt (x:UInt64):ly K H (.flt x) (.type "float")
 | lst {a:Addr} {xs:List V} (e:H a=some (.lst xs)):ly K H (.ref a) (.type "list")
 | frz {a:Addr} {o:Obj} {xs:List V} (e:H a=some (.frz o (.lst xs))):ly K H (.ref a) (.type "list")
 | tup {a:Addr} {xs:List V} (e:H a=some (.tup xs)):ly K H (.ref a) (.type "tuple")
 | dK {a:Addr} {kvs:List (Key×V)} (e:H a=some (.dK kvs)):ly K H (.ref a) (.type "dict")
 | dT {a:Addr} {kvs:List (List Key×V)} (e:H a=some (.dT kvs)):ly K H (.ref a) (.type "dict")
 | ins {a C dx:Addr} {fs:List (Str×V)} (e:H a=some (.ins C dx fs)) (cl:Cls K C) (ha:MU K (.ref C) "__class__" =some (some (.builtin "object.__class__")))
   (hn:PySem.W.specialIn K (.builtin "object.__class__") "__get__" =some (some (.builtin "getset_descriptor.__get__"))) (htk:PySem.W.takesIn K (.builtin "object.__class__")=some true)
   (hm:PySem.W.mroIn K C (.type "object")=some true):ly K H (.ref a) (.ref C)
theorem yA {x:V}{u t:Lh}(I:Inv X pins σ H s)(rx:RelV x u)(ty:ly X.K H x t)(e:PySem.W.kitOne X.K t c=some b)(h:∀tk,Q (.bool b) { s with toks:=tk }) :
  wpAny (model X.prog X.w) A (call (.builtin "isinstance") [u,c]) Q E s:=by
 cases ty with
 | non=>cases (show u=L1 from rx);exact Mz PySem.W.kitx_none I.kIn Nn e (λz=>nomatch z) h
 | bl y=>cases (show u=Mu y from rx);exact Mz PySem.W.kitx_bool I.kIn Nn e (λz=>nomatch z) h
 | int i=>obtain⟨t,q⟩:=(show ∃t,u=ML i t from rx);cases q;exact Mz PySem.W.kitx_int I.kIn Nn e (λz=>nomatch z) h
 | str y=>obtain⟨t,q⟩:=(show ∃t,u=MM y t from rx);cases q;exact Mz PySem.W.kitx_str I.kIn Nn e (λz=>nomatch z) h
 | flt y=>obtain⟨t,q⟩:=(show ∃t,u=R3 y t from rx);cases q;exact Mz PySem.W.kitx_float I.kIn Nn e (λz=>nomatch z) h
 | @lst a xs ea=>
  cases (show u=LR a from rx)
  obtain⟨_,_,n,_,h1⟩:=(show ObjOk X.prog X.w H s.heap a (.lst xs)from I.hok a _ ea)
  exact Mz Ri I.kIn ⟨_,h1,rfl⟩ e (λz=>nomatch z) h
 | @frz a ob xs ea=>
  cases (show u=LR a from rx)
  obtain⟨_,_,_,n,_,h1⟩:=(show ObjOk X.prog X.w H s.heap a (.frz ob (.lst xs))from I.hok a _ ea)
  exact Mz Ri I.kIn ⟨_,h1,rfl⟩ e (λz=>nomatch z) h
 | @tup a xs ea=>
  cases (show u=LR a from rx)
  obtain⟨_,_,_,p⟩:=(show ObjOk X.prog X.w H s.heap a (.tup xs)from I.hok a _ ea)
  obtain⟨o,h1,h2,_⟩:=p
  exact Mz PySem.W.kitx_tuple I.kIn ⟨o,h1,h2⟩ e (λz=>nomatch z) h
 | @dK a kvs ea=>
  cases (show u=LR a from rx)
  obtain⟨_,_,vs,_,p⟩:=(show ObjOk X.prog X.w H s.heap a (.dK kvs)from I.hok a _ ea)
  obtain⟨o,es,ep,h1,h2,_⟩:=p
  exact Mz Rj I.kIn ⟨o,h1,h2.1⟩ e (λz=>nomatch z) h
 | @dT a kvs ea=>
  cases (show u=LR a from rx)
  obtain⟨_,_,xs,_,o,es,ep,h1,h2,_⟩:=(show ObjOk X.prog X.w H s.heap a (.dT kvs)from I.hok a _ ea)
  exact Mz Rj I.kIn ⟨o,h1,h2.1⟩ e (λz=>nomatch z) h
 | @ins a C dx fs ea cl ha hn htk hm=>
  cases (show u=LR a from rx)
  obtain⟨mA,O,_⟩:=ml I.hok ea;obtain⟨od,J,_⟩:=O.look;exact Mz (PySem.W.kitx_own (cl.get _) cl.hd ha hn htk hm) I.kIn J e (λz=>nomatch z) h
end
structure Room (k:Nat)(A:L3):Prop where
 hd:A.handled=none
 dp:A.depth+3*k+5<recursionLimit
 un:A.units+16*k+200<cLine
theorem Room.mono {j k:Nat}{A:L3}(r:Room k A)(h:j<=k):Room j A:=⟨r.hd,by have:=r.dp;omega,by have:=r.un;omega⟩
theorem Room.deeper {k:Nat}{A:L3}(r:Room (k+1) A)(env:Env):Room k (A.deeper env):=
 ⟨r.hd,by have:=r.dp;show A.depth+1+3*k+5<_;omega,by have:=r.un;show A.units+3+16*k+200<_;omega⟩
theorem vq {A:L3}{C:Addr}{us:List Lh}{kw:List (Str×Lh)}:(A.under (.builtin "type.__call__" ⟨.ref C::us,kw⟩)).depth=A.depth+1:=by
 first | rfl | simp[Ry,Code.weight,Code.isCreation,Code.isGuard,Code.isCaller,Code.frames,RA,guardIds]
theorem vp {A:L3}{C:Addr}{us:List Lh}{kw:List (Str×Lh)}:(A.under (.builtin "type.__call__" ⟨.ref C::us,kw⟩)).units=A.units+1:=by
 first | rfl | simp[Ry,Code.cUnits,Code.frames,RA]
theorem Room.make {k:Nat}{A:L3}(r:Room (k+1) A)(C:Addr)(us:List Lh)(kw:List (Str×Lh)):Room k (A.under (.builtin "type.__call__" ⟨.ref C::us,kw⟩)):=
 ⟨r.hd,by have:=r.dp;rw[vq];omega,by have:=r.un;rw[vp];omega⟩
theorem Room.depth {k:Nat}{A:L3}(r:Room k A):A.depth<recursionLimit:=by have:=r.dp;omega
def HP:TA:=λ_ H Q=>Q [] H
def zm (ta:TE)(tr:TA):TA:=λσ H Q=>ta σ H λx H1=>tr σ H1 λxs H2=>Q (x::xs) H2
section
variable {X:Cx}{e:Expr}{es:List Expr}{te:TE}{t:TA}{pos:Pos}
theorem kI:PA X [] HP:=λ_ _ _ _ H Q I h=>Om ⟨[],H,I,.nil,h⟩
theorem fM (ha:PE X e te)(hr:PA X es t)(hs:autoParam (LA (e::es) X.env=(false,eval e X.env)::LA es X.env) aqd._auto_1):PA X (e::es) (zm te t):=by
 intro pos pins s σ H Q I h;rw[hs]
 show wpAny _ _ (spliced ((false,eval e X.env)::backTo pos (LA es X.env))) _ _ s
 refine N9 (bR (ha pins s σ H _ I h) λu s1 hh_=> ?_)
 obtain⟨x,H1,I1,r1,q1⟩:=hh_;exact bR (hr pos pins s1 σ H1 _ I1 q1) λus s2 ⟨xs,H2,I2,r2,q2⟩=>⟨x::xs,H2,I2,.cons r1 r2,q2⟩
def tTup (t:TA):TE:=λσ H Q=>t σ H λxs H1=>xs.length<=sizeLine/\∀p,H1 p=none->Q (.ref p) (upd H1 p (.tup xs))
def tLst (t:TA):TE:=λσ H Q=>t σ H λxs H1=>xs.length<=sizeLine/\∀p,H1 p=none->Q (.ref p) (upd H1 p (.lst xs))
theorem Gh {x1}(h:PA X es t):PE X (.Tuple es x1 pos) (tTup t):=by
 intro pins s σ H Q I hq;refine wpAny_Tuple_spliced (bR (h pos pins s σ H _ I hq) λus s1 ⟨xs,H1,I1,r,z,q⟩=>⟨by rw[<-r.length];exact z,?_⟩)
 have hf:H1 s1.heap.objs.size=none:=I1.hok.fresh (Lv _);refine⟨.ref s1.heap.objs.size,upd H1 s1.heap.objs.size (.tup xs),I1.laid (t':=s1.toks) (λb u e=>Lq _ e) (Lv _) ?_,rfl,q _ hf⟩
 exact⟨z,us,r,⟨_,LB _ rfl,rfl,_,rfl⟩⟩
theorem Gm (h:PA X es t):PE X (.List es pos) (tLst t):=by
 intro pins s σ H Q I hq;refine Ra (bR (h pos pins s σ H _ I hq) λus s1 ⟨xs,H1,I1,r,z,q⟩=>⟨by rw[<-r.length];exact z,?_⟩)
 have hf:H1 s1.heap.objs.size=none:=I1.hok.fresh (Lv _);refine⟨.ref s1.heap.objs.size,upd H1 s1.heap.objs.size (.lst xs),I1.laid (t':=s1.toks) (λb u e=>Lq _ e) (Lv _) ?_,rfl,q _ hf⟩
 exact⟨z,us,0,r,LB _ rfl⟩
end
abbrev Sp:=List V->Hp->VK->XK->Prop
abbrev B7:=List Env->Hp->Lj->XK->Lh->Lj->Prop
structure Env0 (P:LP)(w:Mh)(K:Ld)(mg:Str->Option Lh)(base:Heap)(A:L3)(outer:List Env)(s:Lj)(H:Hp):Prop where
 frames:A.frames=some outer
 mod:Mod K mg base
 bs:∀b o,base.get? b=some o->s.heap.get? b=some o/\H b=none
 bsz:base.objs.size<=s.heap.objs.size
 funs:s.heap.FunFrames base outer
 frf:∀b∈nN outer,H b=none
 hok:HOk P w H s.heap
 bare:PP s.gens
def CE (outer:List Env)(P:LP)(w:Mh)(H:Hp)(s:Lj)(Q:VK)(u:Lh)(s':Lj):Prop:=
 ∃v H',s'.os=s.os/\PP s'.gens/\Un (nN outer) [] H H' s.heap s'.heap/\HOk P w H' s'.heap/\RelV v u/\Q v H'
def CR (CX:B7)(outer:List Env)(P:LP)(w:Mh)(H:Hp)(s:Lj)(Q:VK)(E:XK)(r:Sd)(s':Lj):Prop:=
 match r with
 | .ok (.ret u)=>CE outer P w H s Q u s'
 | .ok _=>False
 | .error e=>CX outer H s E e s'
structure ox (P:LP)(w:Mh)(K:Ld)(mg:Str->Option Lh)(base:Heap)(CX:B7)(k:Nat)(f:Addr)(fd:Mo)(ps:List Str)(sp:Sp):Prop where
 len:∀vs H Q E,sp vs H Q E->vs.length=ps.length
 run:∀(A:L3) (outer:List Env) (s:Lj) (H:Hp) (args:Args) (us:List Lh) (vs:List V) (Q:VK) (E:XK),Room k A->Env0 P w K mg base A outer s H->Qm s fd args (ps.zip us)->Vals vs us->sp vs H Q E →
  codeAny (model P w) A (.call (.ref f) args) (CR CX outer P w H s Q E) s
theorem Env0.make {P:LP}{w:Mh}{K:Ld}{mg:Str->Option Lh}{base:Heap}{A:L3}{outer:List Env}{s:Lj}{H:Hp}(e:Env0 P w K mg base A outer s H)(C:Addr)(us:List Lh)(kw:List (Str×Lh)) :
  Env0 P w K mg base (A.under (.builtin "type.__call__" ⟨.ref C::us,kw⟩)) outer s H:=⟨by first | exact e.frames | (simpa [Ry,Code.envs,RA,pushEnvs]using e.frames),e.mod,e.bs,e.bsz,e.funs,e.frf,e.hok,e.bare⟩
section
variable {X:Cx}{pins:List (Addr×Obj)}{σ:St}{H:Hp}{s s':Lj}
theorem Inv.Kw (I:Inv X pins σ H s):Env0 X.prog X.w X.K X.mg X.base X.A X.stack s H:=
 ⟨I.ok.frames,I.ok.mod,I.bs,Mf I.ok.bsz I.sz,I.stack,I.Kd,I.hok,I.bare⟩
theorem Inv.after {Q:VK}{u:Lh}(I:Inv X pins σ H s)(h:CE X.stack X.prog X.w H s Q u s'):EP X pins σ Q u s':=by
 obtain⟨v,H',os,bare,un,hok,r,q⟩:=h;obtain⟨hh,g,d,t,os'⟩:=s';obtain rfl:os'=s.os:=os;exact⟨v,H',I.call (h':=hh) (g':=g) (d':=d) (t':=t) (ch:=[]) un hok bare (λb z=>absurd z (by simp)),r,q⟩
end
def HX (sp:Sp)(dvs:List V)(E:XK)(t:TA):TE:=λσ H Q=>t σ H λvs H1=>sp (vs++dvs) H1 Q E
def Binds (K:Ld)(fd:Mo)(ps:List Str)(ds:List Lh):Prop:=
 ∀(s:Lj) (us:List Lh),K.In s.heap->(us++ds).length=ps.length->Qm s fd ⟨us,[]⟩ (ps.zip (us++ds))
theorem Binds.all {K:Ld}{fd:Mo}{ps:List Str}(h:∀us:List Lh,us.length=ps.length->RY fd ⟨us,[]⟩=pure (ps.zip us)):Binds K fd ps []:=λs us _ hl=>by
 rw[LZ]at hl ⊢;exact .of_eq (h us hl)
def vX (CX:B7)(X:Cx)(E:XK):Prop:=∀(pins:List (Addr×Obj)) (σ:St) (H:Hp) (s:Lj) (e:Lh) (s':Lj),Inv X pins σ H s->CX X.stack H s E e s'->X.xe e s'
section
variable {X:Cx}{CX:B7}{k:Nat}{f C:Addr}{fd:Mo}{ps:List Str}{sp:Sp}{dvs:List V}{ds:List Lh}{E:XK}{x m:Str}{p pos apos:Pos}{e o:Expr}{es:List Expr}{ta:TE}{t:TA}
theorem u4 {pins:List (Addr×Obj)}{σ:St}{H:Hp}{s:Lj}{Q:VK}{us:List Lh}{vs:List V}(F:ox X.prog X.w X.K X.mg X.base CX k f fd ps sp)(hr:Room k X.A)(hb:Binds X.K fd ps ds)(hd:Vals dvs ds)(hx:vX CX X E)
  (I:Inv X pins σ H s) (r:Vals vs us) (h:sp (vs++dvs) H Q E):wpAny (model X.prog X.w) X.A (call (.ref f) us) (EP X pins σ Q) X.xe s:=by
 have r2:Vals (vs++dvs) (us++ds):=r.append hd
 have hl:(us++ds).length=ps.length:=by rw[<-r2.length];exact F.len _ _ _ _ h
 refine Qr (N6 (F.run X.A X.stack s H ⟨us,[]⟩ (us++ds) (vs++dvs) Q E hr I.Kw (hb s us I.kIn hl) r2 h) λr s' hq=> ?_)
 cases r with
 | error e=>exact hx pins σ H s e s' I hq
 | ok fl=>
  cases fl with
  | ret u=>exact I.after hq
  | next=>exact Nf hq
  | brk=>exact Nf hq
  | cont=>exact Nf hq
theorem wH (F:ox X.prog X.w X.K X.mg X.base CX k f fd ps sp)(hr:Room k X.A)(hg:Gl X x)(hm:X.mg x=some (.ref f))(hk:Ni X.K (.ref f)=true)(hb:Binds X.K fd ps ds)(hd:Vals dvs ds)(hx:vX CX X E)
  (ha:PA X (e::es) t) (hdb:autoParam ((x == ("__debug__" : Str))=false) aqb._auto_1) (he:autoParam (LA (e::es) X.env=(false,eval e X.env)::LA es X.env) aqd._auto_1) (hpl:autoParam ((backTo pos (LA es X.env)).any (·.1)=false) aqd._auto_1) :
  PE X (.Call (.Name x p) (e::es) [] pos) (HX sp dvs E t):=by
 intro pins s σ H Q I h;refine MH (gL I hg hm ?_ hdb)
 refine NG (h₀:=X.base) I.ok.mod.kin hk (bR (ha pos pins s σ H _ I h) λus s1 ⟨vs,H1,I1,r,q⟩=>⟨I1.kIn,?_⟩) he hpl
 exact u4 F hr hb hd hx I1 r q
structure Mk (K:Ld)(C f:Addr):Prop where
 makes:R0 K C=true
 init:MU K (.ref C) "__init__" =some (some (.ref f))
 fn:Rw K (.ref f)=true
 kp:Ni K (.ref C)=true
end
structure aw (N P:List Str)(sc:OI):Prop where
 kind:sc.kind= .function
 co:sc.isCoroutine=false
 gen:sc.isGenerator=false
 nd:N.Nodup
 pre:N.take P.length=P
 par:∀x∈P,sc.names.lookup x=some .local\/sc.names.lookup x=some .cell
 nofree:∀y∈sc.names,y.2≠ .free
theorem pZ {kindOf:Str->Option NQ}{x:Str}:∀{binds:List (Str×Lh)} {m:Str->Option Lh},(∀v,(x,v)∉binds)->bindL kindOf binds m x=m x
 | [],_,_=>rfl
 | (n,v)::r,m,h=>by
  unfold bindL;rw[pZ λw hw=>h w (Lg _ hw)]
  split
  ·have:x≠n:=by rintro rfl;exact h v Ll
   simp[this]
  ·rfl
theorem p6 {kindOf:Str->Option NQ}{x:Str}:∀{binds:List (Str×Lh)} {m:Str->Option Lh},(∀v,(x,v)∉binds)->bindC kindOf binds m x=m x
 | [],_,_=>rfl
 | (n,v)::r,m,h=>by
  unfold bindC;rw[p6 λw hw=>h w (Lg _ hw)]
  split
  ·rfl
  ·have:x≠n:=by rintro rfl;exact h v Ll
   simp[this]
theorem p0 {kindOf:Str->Option NQ}{x:Str}{v:Lh}:∀{P:List Str} {vs:List Lh} {i:Nat} {m:Str->Option Lh},P.Nodup->P[i]? =some x->vs[i]? =some v->kindOf x=some .local →
  bindL kindOf (P.zip vs) m x=some v
 | [],_,_,_,_,h,_,_=>by simp at h
 | _::_,[],_,_,_,_,h,_=>by simp at h
 | p::P,w::vs,0,m,nd,h1,h2,hk=>by
  simp at h1 h2;subst h1;subst h2
  show bindL kindOf ((p,w)::P.zip vs) m p=_
  unfold bindL;rw[pZ λv hv=>(LJ.mp nd).1 (Oa hv).1,if_pos hk]
  simp
 | p::P,w::vs,i+1,m,nd,h1,h2,hk=>by
  show bindL kindOf ((p,w)::P.zip vs) m x=_
  unfold bindL;exact p0 (i:=i) (LJ.mp nd).2 (by simpa using h1) (by simpa using h2) hk
theorem p7 {kindOf:Str->Option NQ}{x:Str}{v:Lh}:∀{P:List Str} {vs:List Lh} {i:Nat} {m:Str->Option Lh},P.Nodup->P[i]? =some x->vs[i]? =some v->kindOf x≠some .local →
  bindC kindOf (P.zip vs) m x=some v
 | [],_,_,_,_,h,_,_=>by simp at h
 | _::_,[],_,_,_,_,h,_=>by simp at h
 | p::P,w::vs,0,m,nd,h1,h2,hk=>by
  simp at h1 h2;subst h1;subst h2
  show bindC kindOf ((p,w)::P.zip vs) m p=_
  unfold bindC;rw[p6 λv hv=>(LJ.mp nd).1 (Oa hv).1,if_neg hk]
  simp
 | p::P,w::vs,i+1,m,nd,h1,h2,hk=>by
  show bindC kindOf ((p,w)::P.zip vs) m x=_
  unfold bindC;exact p7 (i:=i) (LJ.mp nd).2 (by simpa using h1) (by simpa using h2) hk
def start (N:List Str)(vs:List V):St:=vs.map some++LG (N.length - vs.length) none
def fI (CX:B7)(P:LP)(w:Mh)(K:Ld)(mg:Str->Option Lh)(base:Heap)(N:List Str)(qual:Str)(scope:OI)(f:Addr)(cd:Lh)(A:L3)(outer:List Env)(s:Lj)(H:Hp)(E:XK):Cx where
 prog:=P
 w:=w
 K:=K
 mg:=mg
 base:=base
 A:=A.deeper (envOfC qual scope s.heap.objs.size f cd)
 N:=N
 s₀:=s
 H₀:=H
 env:=envOfC qual scope s.heap.objs.size f cd
 outer:=outer
 stack:=envOfC qual scope s.heap.objs.size f cd::outer
 ex:=[]
 calm:=true
 fn:=λ_=>true
 pn:=[]
 xe:=λe s'=>wpAny (model P w) (A.deeper (envOfC qual scope s.heap.objs.size f cd)) (leaving (envOfC qual scope s.heap.objs.size f cd) e) (λ_ s''=>CX outer H s E e s'') (λe' s''=>CX outer H s E e' s'') s'
theorem uB {sc:OI}{n:Nat}{x:Str}(h:sc.names.lookup x=some .cell):∃c,(Nt n sc.names []).lookup x=some c:=by
 have q:=NC sc.names n [] (.inl h);exact Option.isSome_iff_exists.mp q
theorem lh {CX:B7}{P:LP}{w:Mh}{K:Ld}{mg:Str->Option Lh}{base:Heap}{N ps:List Str}{qual:Str}{scope:OI}{f:Addr}{cd:Lh}{A:L3}{outer:List Env}{s s1:Lj}{H:Hp}{E:XK}{us:List Lh}{vs:List V}
  (S:aw N ps scope) (hd:A.handled=none) (e0:Env0 P w K mg base A outer s H) (hl:vs.length=ps.length) (r:Vals vs us)
  (x:InCallC s s.heap.objs.size (bindL (envOfC qual scope s.heap.objs.size f cd).kindOf (ps.zip us) λ_=>none) (Nt (s.heap.objs.size+1) scope.names []) (bindC (envOfC qual scope s.heap.objs.size f cd).kindOf (ps.zip us) λ_=>none) s1) :
  Inv (fI CX P w K mg base N qual scope f cd A outer s H E) [] (start N vs) H s1:=by
 have hpl:ps.length<=N.length:=by have:=congrArg M8 S.pre;rw[Ng]at this;omega
 obtain⟨h1,tk,rfl,hk⟩:=x.done
 have noA:∀b:Addr,b∉(fI CX P w K mg base N qual scope f cd A outer s H E).ex:=λb z=>absurd (show b∈([]:List Addr)from z) (by simp)
 refine⟨⟨e0.mod,S.kind,rfl,rfl,Lv _,λy z c h1 h2=> ?_,λy hy=> ?_,λy c _ h=> ?_,λ_=>hd,Around.frames_deeper e0.frames,.inr ⟨rfl,rfl⟩,λb z=>absurd z (noA b),e0.bs,e0.bsz,λb _ _=>noA b,λb z=>absurd z (noA b),e0.funs,e0.frf⟩,
  rfl,e0.bare,Un.kept hk,⟨_,x.toInCall.ns,λi y v h1 h2 h3=> ?_⟩,λy c h=>⟨_,x.cell y c h⟩,e0.hok.fresh (Lv _),λy c h=> ?_,λp hp=>absurd (show p∈([]:List (Addr×Obj))from hp) (by simp),e0.hok.kept hk,?_⟩
 ·exact name_of_addr x.apart (M9 h1) (M9 h2)
 ·have hy:scope.names.lookup y=some .cell\/scope.names.lookup y=some .free:=hy
  rcases hy with hy | hy
  ·exact uB hy
  ·exact absurd rfl (S.nofree _ (M9 hy))
 ·exact N4 (x.above y c (M9 h))
 ·have hi:i<vs.length:=by
   unfold start at h2
   by_cases hi:i<vs.length
   ·exact hi
   ·rw[Nc (by simpa using hi)]at h2
    rw[Mi]at h2
    split at h2 <;> cases h2
  have ha:vs[i]? =some v:=by
   unfold start at h2;rw[Mq (by simpa using hi),LI]at h2
   cases e:vs[i]? with
   | none=>rw[e]at h2;cases h2
   | some a=>rw[e]at h2;cases h2;rfl
  obtain⟨u,hu,rv⟩:=r.get ha
  have hp:ps[i]? =some y:=by
   rw[<-S.pre,List.getElem?_take_of_lt (by omega)];exact h1
  have ndP:ps.Nodup:=by rw[<-S.pre];exact S.nd.sublist (List.take_sublist _ _)
  refine⟨u,rv,?_⟩
  rcases S.par y (Mw hp)with k | k
  ·exact .inl ⟨k,p0 ndP hp hu k⟩
  ·obtain⟨c,e⟩:=uB (n:=s.heap.objs.size+1) k
   refine .inr ⟨.inl k,c,e,?_⟩
   have q:=x.cell y c e;rw[p7 ndP hp hu (by show scope.names.lookup y≠_;rw[k];decide)]at q
   exact q
 ·exact e0.hok.fresh (N4 (x.above y c (M9 h)))
 ·unfold start
  show _=N.length
  rw[Lo,Ln,List.length_replicate];omega
theorem JG {CX:B7}{P:LP}{w:Mh}{K:Ld}{mg:Str->Option Lh}{base:Heap}{k:Nat}{f:Addr}{name qual:Str}{params:Qj}{body:List Stmt}{scope:OI}{dV kV doc pm cdv ct oc:Lh}{an od:Option Addr}
  {osl:Array (Option Lh)} {N ps:List Str} {sp:Sp} (lk:K.lookup f=some ⟨oc,od,.func (Ot name qual params body scope dV kV doc pm an cdv ct),osl⟩) (hcd:Qw K cdv qual=true) (S:aw N ps scope)
  (len:∀vs H Q E,sp vs H Q E->vs.length=ps.length)
  (hbody:∀(A:L3) (outer:List Env) (s:Lj) (H:Hp) (vs:List V) (Q:VK) (E:XK),Room k (A.deeper (envOfC qual scope s.heap.objs.size f cdv))->sp vs H Q E →
   ∃t,PSs (fI CX P w K mg base N qual scope f cdv A outer s H E) body t/\t { nx:=λ_ H'=>Q .non H',rt:=Q } (start N vs) H) :
  ox P w K mg base CX (k+1) f (Ot name qual params body scope dV kV doc pm an cdv ct) ps sp:=by
 refine⟨len,λA outer s H args us vs Q E hr e0 hb r hsp=> ?_⟩
 have hl:=len _ _ _ _ hsp
 have KX:K.In s.heap:=e0.mod.kin.keeps λb o e=>(e0.bs b o e).1
 have lim:s.heap.NoLimit:=e0.mod.nolimit.keeps λb o e=>(e0.bs b o e).1
 have hkind:∀y∈ps.zip us,scope.names.lookup y.1=some .local\/(scope.names.lookup y.1=some .cell/\((Nt (s.heap.objs.size+1) scope.names []).lookup y.1).isSome=true):=λ⟨n,v⟩ hy=>by
  rcases S.par n (Oa hy).1 with q | q
  ·exact .inl q
  ·exact .inr ⟨q,NC _ _ _ (.inl q)⟩
 refine OA hr.depth (KX _ _ lk) rfl S.co S.gen rfl (Pa KX hcd) (hb _ _ _ _ ?_)
 refine NU S.kind hkind λenv he s1 x=> ?_
 subst he;refine⟨lim.keeps x.toInCall.keep,RI ?_⟩
 obtain⟨t,ht,hq⟩:=hbody A outer s H vs Q E (hr.deeper _) hsp
 have I:Inv (fI CX P w K mg base N qual scope f cdv A outer s H E) [] (start N vs) H s1:=lh S hr.hd e0 hl r x;refine Nh (ht [] s1 (start N vs) H _ I hq) (λfl s' hs=> ?_) λe s' hs=>hs
 have fin:∀{σ':St} {H':Hp} {v:V} {u:Lh},Inv (fI CX P w K mg base N qual scope f cdv A outer s H E) [] σ' H' s'->RelV v u->Q v H'->CE outer P w H s Q u s':=
  λ{σ' H' v u} J rv q=>⟨v,H',J.os,J.bare,J.base,J.hok,rv,q⟩
 cases fl with
 | ret u=>
  obtain⟨v,σ',H',J,rv,q⟩:=hs
  exact fin J rv q
 | next=>
  obtain⟨σ',H',J,q⟩:=hs
  exact fin (v:=V.non) (u:=L1) J rfl q
 | brk=>
  obtain⟨_,_,_,q⟩:=hs
  exact Nf q
 | cont=>
  obtain⟨_,_,_,q⟩:=hs;exact Nf q
end L2
namespace HT
open PySem PyProof.Rows
section
variable {prog:LP}{w:Mh}{A:L3}{E:Lh->Lj->Prop}{s:Lj}
theorem cat_tup {t b:Addr}{vs ws:List Lh}{Q:Lh->Lj->Prop}(ht:Sk s.heap t vs.toArray)(hb:Sk s.heap b ws.toArray)(hv:vs≠ [])
  (h1:ws= []->Q (.ref t) s) (h2:ws≠ []->Q (.ref s.heap.objs.size) { s with heap:=s.heap.push { cls:=.type "tuple",data:=.seq (vs++ws).toArray } })
  (hsz:vs.length+ws.length<=sizeLine):wpAny (model prog w) A (MZ .Add (.ref t) (.ref b)) Q E s:=by
 obtain⟨⟨cls,dd,data,sl⟩,ho,hc,n,hd⟩:=id ht;obtain⟨⟨cls2,dd2,data2,sl2⟩,ho2,hc2,n2,hd2⟩:=id hb;simp only at hc hd hc2 hd2;subst hc hd hc2 hd2
 have e:vs.toArray++ws.toArray=(vs++ws).toArray:=by simp
 by_cases hw:ws= []
 ·exact RJ ⟨_,ho,rfl⟩ ⟨_,ho2,rfl⟩ PV Rb Oh N7 (N1 _ _)
   (tuple_addW1 t b vs.toArray ws.toArray n n2 dd dd2 sl sl2 (by simpa using hv) (by simp[hw])) ⟨ho,ho2,h1 hw⟩
 ·refine RJ ⟨_,ho,rfl⟩ ⟨_,ho2,rfl⟩ PV Rb Oh N7 (N1 _ _)
   (tuple_addW2 t b vs.toArray ws.toArray n n2 dd dd2 sl sl2 (by simpa using hv) (by simpa using hw) (by rw[Lx,Lx];exact hsz)) ⟨ho,ho2,?_⟩
  rw[e];exact h2 hw
def sIx (n d:Nat):Option Int->Nat
 | none=>d
 | some v=>if v<0 then(v+(n:Int)).toNat else min v.toNat n
theorem sIx_none (n d:Nat):sIx n d none=d:=rfl
theorem sIx_nat (n d k:Nat):sIx n d (some (k:Int))=min k n:=by
 show(if (k:Int)<0 then((k:Int)+(n:Int)).toNat else min (k:Int).toNat n)=min k n
 rw[if_neg (by omega),Mr]
theorem FH (n d:Nat)(hd:d<=n)(o:Option Int):sIx n d o<=n:=by
 cases o with
 | none=>exact hd
 | some v=>
  show(if v<0 then(v+(n:Int)).toNat else min v.toNat n)<=n
  by_cases hv:v<0
  ·rw[if_pos hv];omega
  ·rw[if_neg hv];exact Nat.min_le_right _ _
theorem xE (v:Int)(n d:Nat):(if v<0 then max (v+(n:Int)) 0 else min v (n:Int))=((sIx n d (some v):Nat):Int):=by
 show(if v<0 then max (v+(n:Int)) 0 else min v (n:Int))=(((if v<0 then(v+(n:Int)).toNat else min v.toNat n):Nat):Int)
 by_cases hv:v<0
 ·simp only[if_pos hv];omega
 ·simp only[if_neg hv];omega
theorem vV (lo hi:Option Int)(n:Nat):MA lo hi 1 (n:Int)=(((sIx n 0 lo:Nat):Int),((sIx n n hi:Nat):Int)):=by
 have h1:¬ ((1:Int)<0):=by omega
 unfold MA;simp only[h1,if_false];refine Prod.ext ?_ ?_
 ·cases lo with
  | none=>rfl
  | some v=>exact xE v n 0
 ·cases hi with
  | none=>rfl
  | some v=>exact xE v n n
theorem u7 (i j:Nat):Mc (i:Int) (j:Int) 1=j - i:=by
 unfold Mc
 have h1:(1:Int) > 0:=by omega
 simp only[h1,if_true,RB]
 split <;> omega
theorem mK {v:Lh}{o:Option Int}{Q:Option Int->Lj->Prop}(p:Rc v o)(h:Q o s):wpAny (model prog w) A (RX v) Q E s:=by
 cases p with
 | none=>exact Pl h
 | int i t=>exact slicePart_int h
theorem gB {sl:Addr}{vl vu:Lh}{lo hi:Option Int}{n:Nat}{Q:Int×Int×Nat->Lj->Prop}(hs:s.heap.IsSliceOf sl vl vu .none)(pl:Rc vl lo)(pu:Rc vu hi)
  (h:Q (((sIx n 0 lo:Nat):Int),1,sIx n n hi - sIx n 0 lo) s):wpAny (model prog w) A (Nb (.ref sl) (pure (n:Int))) Q E s:=by
 obtain⟨os,hos,hcs,hds⟩:=id hs;unfold Nb Pj;refine Li (Li (MT hos hds (x:=vl) rfl (Li (MT hos hds (x:=vu) rfl (Li (MT hos hds (x:=.none) rfl (Lr ?_)))))))
 refine Li (Pl ?_)
 show wpAny _ _ (if ((1:Int) == 0)=true then _ else _) _ _ s
 rw[if_neg (by decide)]
 refine Li (mK pl (Li (mK pu (Li (Lr ?_)))))
 show wpAny _ _ (match MA lo hi 1 (n:Int)with | (lo,hi)=>pure (lo,(1:Int),Mc lo hi 1)) _ _ s
 rw[vV lo hi n]
 show wpAny _ _ (pure (((sIx n 0 lo:Nat):Int),(1:Int),Mc ((sIx n 0 lo:Nat):Int) ((sIx n n hi:Nat):Int) 1)) _ _ s
 rw[u7];exact Lr h
theorem zQ (xs:Array Lh)(i k:Nat):((L6 k).filterMap λ(m:Nat)=>xs[((i:Int)+(m:Int)*1).toNat]?).toArray=((xs.toList.drop i).take k).toArray:=by
 have e:(λ(m:Nat)=>xs[((i:Int)+(m:Int)*1).toNat]?)=λm=>xs[i+m]?:=by
  funext m
  have:((i:Int)+(m:Int)*1).toNat=i+m:=by omega
  rw[this]
 rw[e]
 have:=pick_run xs i k;rw[QR]at this
 have e2:((λx=>xs[x]?)∘λx=>i+x)=λm=>xs[i+m]?:=rfl
 rw[e2]at this;rw[this]
theorem getItem_tuple_cut {t sl:Addr}{items:Array Lh}{vl vu:Lh}{lo hi:Option Int}{Q:Lh->Lj->Prop}(ht:Sk s.heap t items)(hs:s.heap.IsSliceOf sl vl vu .none)(pl:Rc vl lo)(pu:Rc vu hi)
  (hw:¬ (sIx items.size 0 lo=0/\sIx items.size items.size hi=items.size))
  (h:Q (.ref s.heap.objs.size) { s with heap:=s.heap.push { cls:=.type "tuple",data:=.seq ((items.toList.drop (sIx items.size 0 lo)).take (sIx items.size items.size hi - sIx items.size 0 lo)).toArray } })
  (hsz:items.size<=sizeLine):wpAny (model prog w) A (getItem (.ref t) (.ref sl)) Q E s:=by
 have htake:sizeOk (.seq ((items.toList.drop (sIx items.size 0 lo)).take (sIx items.size items.size hi - sIx items.size 0 lo)).toArray):=by
  show((items.toList.drop (sIx items.size 0 lo)).take (sIx items.size items.size hi - sIx items.size 0 lo)).toArray.size<=sizeLine
  rw[Lx,Ng,OG,OS];omega
 have hj:sIx items.size items.size hi<=items.size:=FH _ _ (Lv _) hi;obtain⟨os,hos,hcs,hds⟩:=id hs
 have hTs:s.TypeIs (.ref sl) "slice":=⟨os,hos,hcs⟩;unfold getItem
 try with_reducible refine ON ?_
 first | refine Li (Lr ?_) | skip
 refine Li (PC ht.typeIs (by decide) ?_)
 refine Li (MI (name:=Lu "__getitem__") ht.typeIs LS
  (NA LS ht.typeIs O4 ?_ (Pf _ _)))
 show wpAny _ _ (NS (.ref t) >>= _) _ _ s
 refine Li (PQ ht ?_)
 refine Li (OB hTs ?_)
 rw[if_pos (by decide)]
 refine Li (gB hs pl pu ?_)
 have hno:¬ ((((sIx items.size 0 lo:Nat):Int) == 0&&(1:Int) == 1&&(sIx items.size items.size hi - sIx items.size 0 lo) == items.size)=true):=by
  intro q;rw[Lf,Lf]at q
  have q1:((sIx items.size 0 lo:Nat):Int)=0:=eq_of_beq q.1.1
  have q2:sIx items.size items.size hi - sIx items.size 0 lo=items.size:=eq_of_beq q.2;exact hw ⟨by omega,by omega⟩
 show wpAny _ _ (if (((sIx items.size 0 lo:Nat):Int) == 0&&(1:Int) == 1&&(sIx items.size items.size hi - sIx items.size 0 lo) == items.size)=true then _ else _) _ _ s
 rw[if_neg hno,zQ]
 first
  | exact Li (m:=L5 _) (Mg (Lr ⟨_,rfl,Lr h⟩) htake)
  | exact Li (m:=L5 _) (Mg (Li (Lr (Lr ⟨_,rfl,Lr h⟩))) htake)
  | exact Li (Li (m:=L5 _) (Mg (Lr (Lr ⟨_,rfl,Lr h⟩)) htake))
  | exact Li (Li (m:=L5 _) (Mg (Lr ⟨_,rfl,Lr h⟩) htake))
end
end HT
namespace L2
open PySem PySem.Spec PyProof.Rows
abbrev TO:=St->Hp->(Option Int->Hp->Prop)->Prop
def PO (X:Cx)(e:Option Expr)(t:TO):Prop:=
 ∀(pins:List (Addr×Obj)) (s:Lj) (σ:St) (H:Hp) (Q:Option Int->Hp->Prop),Inv X pins σ H s->t σ H Q →
  wpAny (model X.prog X.w) X.A (evalPart e X.env) (λu s'=> ∃o H',Inv X pins σ H' s'/\Rc u o/\Q o H') X.xe s
def Co:TO:=λ_ H Q=>Q none H
def HM (t:TE):TO:=λσ H Q=>t σ H λx H1=> ∃i,x= .int i/\Q (some i) H1
theorem vI {ns:List Int}:∀{us:List Lh},Vals (ns.map V.int) us->OJ us ns:=by
 induction ns with
 | nil=>intro us r;rw[P7]at r;cases r;exact .nil
 | cons n ns ih=>
  intro us r;rw[Lk]at r
  cases r with
  | cons r1 r2=>
   obtain⟨t,e⟩:=r1;subst e;exact .cons n t (ih r2)
section
variable {X:Cx}{e:Expr}{te:TE}{lo hi:Option Expr}{tl th:TO}{pos p2:Pos}
theorem Dg:PO X none Co:=by
 intro pins s σ H Q I h;rw[Re];exact Lr ⟨none,H,I,.none,h⟩
theorem Df (h:PE X e te):PO X (some e) (HM te):=by
 intro pins s σ H Q I hw;rw[evalPart_some];refine bR (h pins s σ H _ I hw) λu s1 hh_=> ?_
 obtain⟨x,H1,I1,r1,q1⟩:=hh_;obtain⟨i,rfl,q⟩:=q1;obtain⟨t,rfl⟩:=r1;exact⟨some i,H1,I1,.int i t,q⟩
def SlR (X:Cx)(r:V->Option Int->Option Int->Hp->VK->Prop):Prop:=
 ∀(pins:List (Addr×Obj)) (s:Lj) (σ:St) (H:Hp) (x:V) (v vl vu:Lh) (lo hi:Option Int) (sl:Addr) (Q:VK),Inv X pins σ H s->RelV x v->s.heap.IsSliceOf sl vl vu .none->Rc vl lo->Rc vu hi->r x lo hi H Q →
  ∃T id,Rq (.type T) "__getitem__" =pure (some (.builtin id))/\s.TypeIs v T/\wpAny (model X.prog X.w) X.A (getItem v (.ref sl)) (EP X pins σ Q) X.xe s
theorem SlR.or {r r':V->Option Int->Option Int->Hp->VK->Prop}(h:SlR X r)(h':SlR X r'):SlR X (λx lo hi H Q=>r x lo hi H Q\/r' x lo hi H Q):=by
 intro pins s σ H x v vl vu lo hi sl Q I rx hs pl pu q;rcases q with q | q
 ·exact h pins s σ H x v vl vu lo hi sl Q I rx hs pl pu q
 ·exact h' pins s σ H x v vl vu lo hi sl Q I rx hs pl pu q
def tSl (r:V->Option Int->Option Int->Hp->VK->Prop)(te:TE)(tl th:TO):TE:=λσ H Q=>te σ H λx H1=>tl σ H1 λl H2=>th σ H2 λu H3=>r x l u H3 Q
theorem zS {r:V->Option Int->Option Int->Hp->VK->Prop}(hr:SlR X r)(he:PE X e te)(hl:PO X lo tl)(hu:PO X hi th):PE X (.Subscript e (.Slice lo hi none p2) pos) (tSl r te tl th):=by
 intro pins s σ H Q I h;refine Rr (bR (he pins s σ H _ I h) λv s1 hh_=> ?_)
 obtain⟨x,H1,I1,r1,q1⟩:=hh_;refine wpAny_Slice (bR (hl pins s1 σ H1 _ I1 q1) λvl s2 ⟨l,H2,I2,pl,q2⟩=>bR (hu pins s2 σ H2 _ I2 q2) λvu s3 hh_=> ?_)
 obtain⟨u,H3,I3,pu,q3⟩:=hh_;rw[Re];refine Lr ?_
 have I4:Inv X pins σ H3 { s3 with heap:=s3.heap.push { cls:=.type "slice",data:=.fields #[vl,vu,.none] } }:=I3.kept (t':=s3.toks) λb ob q=>Lq _ q
 obtain⟨T,id,hT,ht,hg⟩:=hr pins { s3 with heap:=s3.heap.push { cls:=.type "slice",data:=.fields #[vl,vu,.none] } } σ H3 x v vl vu l u s3.heap.objs.size Q I4 r1 (Pb ..) pl pu q3
 show wpAny (model X.prog X.w) X.A (Rf e (.Slice lo hi none p2) v (.ref s3.heap.objs.size)) (EP X pins σ Q) X.xe { s3 with heap:=s3.heap.push { cls:=.type "slice",data:=.fields #[vl,vu,.none] } }
 exact tail_any (ops:=[.ref s3.heap.objs.size,v]) ht hT hg (by with_unfolding_all rfl)
def uw (xs:List V)(lo hi:Option Int):List V:=(xs.drop (HT.sIx xs.length 0 lo)).take (HT.sIx xs.length xs.length hi - HT.sIx xs.length 0 lo)
theorem lK (xs:List V)(lo hi:Option Int):(uw xs lo hi).length<=xs.length:=by
 unfold uw;rw[Ng,OG];omega
def rSlT (K:Ld):V->Option Int->Option Int->Hp->VK->Prop:=λx lo hi H Q=> ∃a xs,x= .ref a/\SqT K H a xs ∧
 ¬(HT.sIx xs.length 0 lo=0/\HT.sIx xs.length xs.length hi=xs.length)/\∀p,H p=none->Q (.ref p) (upd H p (.tup (uw xs lo hi)))
theorem sl_tup:SlR X (rSlT X.K):=by
 intro pins s σ H x v vl vu lo hi sl Q I rx hs pl pu h;obtain⟨a,xs,rfl,hx,hw,q⟩:=h;cases rx;obtain⟨its,r,ht,hz⟩:=I.tuple hx
 have hlen:its.toArray.size=xs.length:=by rw[Lx];exact r.length.symm
 refine⟨"tuple",_,LS.lookup,ht.typeIs,?_⟩
 refine HT.getItem_tuple_cut ht hs pl pu (by rw[hlen];exact hw) ?_ (by rw[hlen];exact hz)
 rw[hlen];refine⟨.ref s.heap.objs.size,_,I.laid (t':=s.toks) (o:=.tup (uw xs lo hi)) (λb ob q=>Lq _ q) (Lv _) ?_,rfl,q _ (I.hok.fresh (Lv _))⟩
 exact⟨Mf (lK xs lo hi) hz,_,(r.drop (HT.sIx xs.length 0 lo)).take (HT.sIx xs.length xs.length hi - HT.sIx xs.length 0 lo),QU _ _⟩
def Ig (K:Ld):R2:=λx y H Q=> ∃a b xs ys,x= .ref a/\y= .ref b/\SqT K H a xs/\SqT K H b ys/\xs≠ []/\xs.length+ys.length<=sizeLine ∧
 (ys= []->Q (.ref a) H)/\(ys≠ []->∀p,H p=none->Q (.ref p) (upd H p (.tup (xs++ys))))
theorem Vals.AC {xs:List V}{us:List Lh}(r:Vals xs us):us= [] ↔xs= []:=by
 cases r with
 | nil=>simp
 | cons _ _=>simp
theorem Dv:pf X (MZ .Add) (Ig X.K):=by
 intro pins s σ H x y v u Q I rx ry h;obtain⟨a,b,xs,ys,rfl,rfl,ha,hb,hx,hz,q1,q2⟩:=h;cases rx;cases ry;obtain⟨its,r1,p1,_⟩:=I.tuple ha;obtain⟨its2,r2,p2,_⟩:=I.tuple hb;refine HT.cat_tup p1 p2 (λz=>hx (r1.AC.mp z)) (λz=>⟨.ref a,H,I,rfl,q1 (r2.AC.mp z)⟩) (λz=> ?_) (by rw[<-r1.length,<-r2.length];exact hz)
 refine⟨.ref s.heap.objs.size,_,I.laid (t':=s.toks) (o:=.tup (xs++ys)) (λb ob q=>Lq _ q) (Lv _) ?_,rfl,q2 (λw=>z (r2.AC.mpr w)) _ (I.hok.fresh (Lv _))⟩
 exact⟨by rw[Lo];exact hz,_,r1.append r2,QU _ _⟩
end
def ixN (n:Nat)(i:Int):Option Nat:=if 0<=i then(if i<n then some i.toNat else none)else if -(n:Int)<=i then some (i+n).toNat else none
def atI {α:Type}(xs:List α)(i:Int):Option α:=(ixN xs.length i).bind λj=>xs[j]?
theorem DQ {n:Nat}{i:Int}{j:Nat}(h:ixN n i=some j):seqIndex? i n=some j/\j<n/\-(n:Int)<=i/\i<n:=by
 unfold ixN at h
 by_cases h0:0<=i
 ·rw[if_pos h0]at h
  by_cases h1:i<n
  ·rw[if_pos h1]at h
   have e:i.toNat=j:=LY h;exact⟨by rw[seqIndex_of h0 h1,e],by omega,by omega,h1⟩
  ·rw[if_neg h1]at h;cases h
 ·rw[if_neg h0]at h
  by_cases h1 : -(n:Int)<=i
  ·rw[if_pos h1]at h
   have e:(i+n).toNat=j:=LY h;exact⟨by rw[seqIndex_neg (by omega) h1,e],by omega,h1,by omega⟩
  ·rw[if_neg h1]at h;cases h
theorem sj {α:Type}{xs:List α}{i:Int}{v:α}(h:atI xs i=some v):∃j,seqIndex? i xs.length=some j/\xs[j]? =some v/\j<xs.length/\-(xs.length:Int)<=i/\i<xs.length:=by
 unfold atI at h
 cases e:ixN xs.length i with
 | none=>rw[e]at h;cases h
 | some j=>
  rw[e]at h;obtain⟨h1,h2,h3,h4⟩:=DQ e;exact⟨j,h1,h,h2,h3,h4⟩
def xO (b:Expr):Prop:=∀o i,QN b false o i=operate [o,i] (getItem o i)
def IxR (X:Cx)(r:R2):Prop:=
 ∀(value slice:Expr) (pins:List (Addr×Obj)) (s:Lj) (σ:St) (H:Hp) (x y:V) (v u:Lh) (Q:VK),Inv X pins σ H s->RelV x v->RelV y u->r x y H Q →
  QN slice false v u=operate [v,u] (getItem v u)->wpAny (model X.prog X.w) X.A (Rf value slice v u) (EP X pins σ Q) X.xe s
def MtR (X:Cx)(id:String)(r:V->List V->Hp->VK->Prop):Prop:=
 ∀(pins:List (Addr×Obj)) (s:Lj) (σ:St) (H:Hp) (x:V) (xs:List V) (v:Lh) (us:List Lh) (Q:VK),Inv X pins σ H s->RelV x v->Vals xs us->r x xs H Q →
  wpAny (model X.prog X.w) X.A (call (.builtin id) (v::us)) (EP X pins σ Q) X.xe s
section
variable {X:Cx}{a b:Expr}{ta tb:TE}{pos:Pos}
theorem IxR.or {r r':R2}(h:IxR X r)(h':IxR X r'):IxR X (λx y H Q=>r x y H Q\/r' x y H Q):=by
 intro value slice pins s σ H x y v u Q I rx ry q hs;rcases q with q | q
 ·exact h value slice pins s σ H x y v u Q I rx ry q hs
 ·exact h' value slice pins s σ H x y v u Q I rx ry q hs
def Ie (K:Ld):R2:=λx y H Q=> ∃p xs i v,x= .ref p/\y= .int i/\SqL K H p xs/\atI xs i=some v/\Q v H
def Ib (K:Ld):R2:=λx y H Q=> ∃p xs i v,x= .ref p/\y= .int i/\SqT K H p xs/\atI xs i=some v/\Q v H
def Ic:R2:=λx y H Q=> ∃z i c,x= .str z/\y= .int i/\z.length<=sizeLine/\atI z.cps.toList i=some c/\Q (.str ⟨#[c]⟩) H
theorem ix_list:IxR X (Ie X.K):=by
 intro value slice pins s σ H x y v u Q I rx ry h hs;obtain⟨p,xs,i,z,rfl,rfl,hq,he,q⟩:=h;cases rx;obtain⟨t,rfl⟩:=ry;obtain⟨its,r,pl,hz⟩:=I.list hq;obtain⟨j,h1,h2,h3,h4,h5⟩:=sj he;obtain⟨w,ew,rw'⟩:=r.get h2
 have hl:=r.length
 have hn:=nB
 have fin:EP X pins σ Q w s:=⟨z,H,I,rw',q⟩
 by_cases h0:0<=i
 ·have hj:i.toNat=j:=by
   rw[seqIndex_of h0 h5]at h1;exact LY h1
  exact item_listR pl.isList h0 (by omega) (by rw[hj];simpa using ew) fin hs
 ·have hj:(i+(its.toArray.size:Int)).toNat=j:=by
   rw[seqIndex_neg (by omega) h4]at h1
   rw[Lx,<-hl];exact LY h1
  exact P2 (x:=w) pl.isList.typeIs slot_list_getitem.lookup
   (wpAny_getItem_list_neg (Q:=λr s'=>r=w/\EP X pins σ Q r s') pl.isList (by omega) (by rw[Lx] <;> omega) (by omega) (by rw[hj];simpa using ew) ⟨rfl,fin⟩) hs
theorem ix_tup:IxR X (Ib X.K):=by
 intro value slice pins s σ H x y v u Q I rx ry h hs;obtain⟨p,xs,i,z,rfl,rfl,hq,he,q⟩:=h;cases rx;obtain⟨t,rfl⟩:=ry;obtain⟨its,r,pl,hz⟩:=I.tuple hq;obtain⟨j,h1,h2,h3,h4,h5⟩:=sj he;obtain⟨w,ew,rw'⟩:=r.get h2
 have hl:=r.length
 have hn:=nB
 have fin:EP X pins σ Q w s:=⟨z,H,I,rw',q⟩
 exact P2 (x:=w) pl.typeIs slot_tuple_getitem.lookup
  (getItem_tuple (j:=j) (Q:=λr s'=>r=w/\EP X pins σ Q r s') pl (by omega) (by omega) (by rw[Lx,<-hl];exact h1) (by simpa using ew) ⟨rfl,fin⟩) hs
theorem G6:IxR X Ic:=by
 intro value slice pins s σ H x y v u Q I rx ry h hs;obtain⟨z,i,c,rfl,rfl,hz,he,q⟩:=h;obtain⟨t,rfl⟩:=rx;obtain⟨t',rfl⟩:=ry;obtain⟨j,h1,h2,h3,h4,h5⟩:=sj he
 have hl:z.cps.toList.length=z.length:=by simp[Str.length]
 rw[hl]at h1 h4 h5
 have hn:=nB
 exact tail_any (typeIs_str s z t) slot_str_getitem.lookup (getItem_str (c:=c) (by
  have e1:decide (i< -(2 ^ 63:Int))=false:=decide_eq_false (by omega)
  have e2:decide (i ≥ 2 ^ 63)=false:=decide_eq_false (by omega)
  rw[e1,e2,Bool.or_false]) (by rw[h1];simpa using h2) ⟨.str ⟨#[c]⟩,H,I.tok _,⟨_,rfl⟩,q⟩) hs
def rIx (K:Ld):R2:=λx y H Q=>Ie K x y H Q\/Ib K x y H Q\/Ic x y H Q
theorem G7:IxR X (rIx X.K):=ix_list.or (ix_tup.or G6)
theorem ql (lo hi:Option Int)(n:Nat):(Oq lo hi none n).1=((HT.sIx n 0 lo:Nat):Int)/\(Oq lo hi none n).2.1=((HT.sIx n n hi:Nat):Int)/\(Oq lo hi none n).2.2=1:=by
 refine⟨?_,?_,rfl⟩
 ·cases lo with
  | none=>simp[Oq,HT.sIx]
  | some i=>
   simp only[Oq,HT.sIx,RO,show(1:Int) > 0 by decide,if_true]
   by_cases h:i<0
   ·simp only[h,if_true] <;> omega
   ·simp only[h,if_false] <;> omega
 ·cases hi with
  | none=>simp[Oq,HT.sIx]
  | some i=>
   simp only[Oq,HT.sIx,RO,show(1:Int) > 0 by decide,if_true]
   by_cases h:i<0
   ·simp only[h,if_true] <;> omega
   ·simp only[h,if_false] <;> omega
theorem oC (its:List Lh)(lo hi:Option Int):Se its.toArray lo hi none=((its.drop (HT.sIx its.length 0 lo)).take (HT.sIx its.length its.length hi - HT.sIx its.length 0 lo)).toArray:=by
 obtain⟨h1,h2,h3⟩:=ql lo hi its.toArray.size;unfold Se;rw[h1,h2,h3];simp only[sliceRange_one,pick_run,Lx] <;> rfl
def rSlL (K:Ld):V->Option Int->Option Int->Hp->VK->Prop:=λx lo hi H Q=> ∃a xs,x= .ref a/\SqL K H a xs/\∀p,H p=none->Q (.ref p) (upd H p (.lst (uw xs lo hi)))
theorem Cu:SlR X (rSlL X.K):=by
 intro pins s σ H x v vl vu lo hi sl Q I rx hs pl pu h;obtain⟨a,xs,rfl,hx,q⟩:=h;cases rx;obtain⟨its,r,ht,hz⟩:=I.list hx
 have hlen:=r.length;refine⟨"list",_,slot_list_getitem.lookup,ht.isList.typeIs,?_⟩
 refine PD ht.isList hs pl pu .none (by simp) ?_ (by rw[Lx] <;> omega)
 rw[oC,<-hlen];refine⟨.ref s.heap.objs.size,_,I.laid (t':=s.toks) (o:=.lst (uw xs lo hi)) (λb ob q=>Lq _ q) (Lv _) ?_,rfl,q _ (I.hok.fresh (Lv _))⟩
 exact⟨Mf (lK xs lo hi) hz,_,0,(r.drop (HT.sIx xs.length 0 lo)).take (HT.sIx xs.length xs.length hi - HT.sIx xs.length 0 lo),LB _ rfl⟩
theorem call_len_seq:CallR X (.builtin "len") (λxs H Q=> ∃p ys,xs= [.ref p]/\(SqL X.K H p ys\/SqT X.K H p ys)/\Q (.int ys.length) H):=by
 intro pins s σ H xs us Q I r h;obtain⟨p,ys,rfl,hq,q⟩:=h;obtain⟨u,rfl,rx⟩:=jN r;cases rx
 have hn:=nB;rcases hq with hq | hq
 ·obtain⟨its,r',pl,hz⟩:=I.list hq
  have hlen:=r'.length;exact Calls.call_len_list pl.isList (by simp only[Lx] <;> omega) ⟨.int ys.length,H,I.tok _,⟨s.toks+1,by rw[Lx,hlen]⟩,q⟩
 ·obtain⟨its,r',pl,hz⟩:=I.tuple hq
  have hlen:=r'.length;exact len_tuple pl (by simp only[Lx] <;> omega) ⟨.int ys.length,H,I.tok _,⟨s.toks+1,by rw[Lx,hlen]⟩,q⟩
theorem sg:CallR X (.builtin "len") (λxs H Q=> ∃z,xs= [.str z]/\z.length<=sizeLine/\Q (.int z.length) H):=by
 intro pins s σ H xs us Q I r h;obtain⟨z,rfl,hz,q⟩:=h;obtain⟨u,rfl,t,rfl⟩:=jN r
 have hn:=nB;exact len_str (by omega) ⟨.int z.length,H,I.tok _,⟨_,rfl⟩,q⟩
theorem CallR.or {f:Lh}{r r':List V->Hp->VK->Prop}(h:CallR X f r)(h':CallR X f r'):CallR X f (λxs H Q=>r xs H Q\/r' xs H Q):=by
 intro pins s σ H xs us Q I rs q;rcases q with q | q
 ·exact h pins s σ H xs us Q I rs q
 ·exact h' pins s σ H xs us Q I rs q
theorem o9:CallR X (.type "tuple") (λxs H Q=> ∃p ys,xs= [.ref p]/\((SqL X.K H p ys/\∀l,H l=none->Q (.ref l) (upd H l (.tup ys)))\/(SqT X.K H p ys/\Q (.ref p) H))):=by
 intro pins s σ H xs us Q I r h;obtain⟨p,ys,rfl,h⟩:=h;obtain⟨u,rfl,rx⟩:=jN r;cases rx;rcases h with⟨hq,q⟩ | ⟨hq,q⟩
 ·obtain⟨its,r',pl,hz⟩:=I.list hq
  have hlen:=r'.length;refine call_tuple_list pl.isList (λh' kp=> ?_) (by simp only[Lx] <;> omega)
  have I1:Inv X pins σ H { s with heap:=h' }:=I.kept (t':=s.toks) kp
  have I2:Inv X pins σ (upd H h'.objs.size (.tup ys)) { s with heap:=h'.push { cls:=.type "tuple",data:=.seq its.toArray } }:=
   I1.laid (t':=s.toks) (λb o e=>Lq _ e) (Lv _) (show ObjOk X.prog X.w _ _ _ (.tup ys)from⟨hz,its,r',QU _ _⟩)
  exact⟨.ref h'.objs.size,_,I2,rfl,q _ (I1.hok.fresh (Lv _))⟩
 ·obtain⟨its,r',pl,hz⟩:=I.tuple hq
  exact call_tuple_same pl ⟨.ref p,H,I,rfl,q⟩
def tyV (K:Ld)(T:String)(x:V)(H:Hp):Prop:=match x with
 | .str _=>T= "str"
 | .int _=>T= "int"
 | .ref p=>(T= "list"/\∃xs,SqL K H p xs)\/(T= "tuple"/\∃o,K.lookup p=some o/\o.cls= .type "tuple"/\o.dict=none) ∨
   (T= "dict"/\((∃kvs,H p=some (.dK kvs))\/∃kvs,H p=some (.dT kvs)))\/(T= "set"/\∃S n,H p=some (.set S n))
 | _=>False
theorem uK {pins:List (Addr×Obj)}{σ:St}{H:Hp}{s:Lj}{T:String}{x:V}{v:Lh}(I:Inv X pins σ H s)(r:RelV x v)(ty:tyV X.K T x H) :
  s.TypeIs v T/\∀a,v= .ref a->∃ob,s.heap.get? a=some ob/\ob.dict=none:=by
 cases x with
 | str z=>
  obtain⟨t,rfl⟩:=r;cases (show T= "str" from ty)
  exact⟨typeIs_str s z t,λ_ e=>nomatch e⟩
 | int i=>
  obtain⟨t,rfl⟩:=r;cases (show T= "int" from ty)
  exact⟨Qs s i t,λ_ e=>nomatch e⟩
 | ref p=>
  cases r;rcases ty with⟨rfl,xs,hq⟩ | ⟨rfl,o,hk,hc,hd⟩ | ⟨rfl,hk⟩ | ⟨rfl,S,n,hk⟩
  ·obtain⟨its,_,pl,_⟩:=I.list hq
   refine⟨pl.isList.typeIs,λa e=> ?_⟩
   cases e;obtain⟨o,n,e,c,hd,_⟩:=pl;exact⟨o,e,hd⟩
  ·refine⟨⟨o,I.kIn p o hk,hc⟩,λa e=> ?_⟩
   cases e;exact⟨o,I.kIn _ o hk,hd⟩
  ·have z:∃o,s.heap.get? p=some o/\o.ExactDict:=by
    rcases hk with⟨kvs,hk⟩ | ⟨kvs,hk⟩
    ·obtain⟨_,_,_,_,o,_,_,e,ex,_⟩:=I.hok p _ hk
     exact⟨o,e,ex⟩
    ·obtain⟨_,_,_,_,o,_,_,e,ex,_⟩:=I.hok p _ hk
     exact⟨o,e,ex⟩
   obtain⟨o,e,ex⟩:=z;refine⟨⟨o,e,ex.1⟩,λa e2=> ?_⟩
   cases e2;exact⟨o,e,ex.2.1⟩
  ·obtain⟨o,_,_,_,e,ex,_⟩:=I.hok p _ hk
   refine⟨⟨o,e,ex.1⟩,λa e2=> ?_⟩
   cases e2
   exact⟨o,e,ex.2.1⟩
 | _=>exact Nf ty
def tBM0 (K:Ld)(T:String)(r:V->List V->Hp->VK->Prop)(to:TE):TE:=λσ H Q=>to σ H λx H1=>tyV K T x H1/\r x [] H1 Q
def tBM (K:Ld)(T:String)(r:V->List V->Hp->VK->Prop)(to:TE)(t:TA):TE:=λσ H Q=>to σ H λx H1=>tyV K T x H1/\t σ H1 λxs H2=>r x xs H2 Q
variable {o e:Expr}{es:List Expr}{to:TE}{t:TA}{name:Str}{apos cpos:Pos}{T id:String}{r:V->List V->Hp->VK->Prop}
theorem Gn (pa:PlainAttrs T)(slot:Slot T name id)(hty:typeOf (.builtin id)=pure (.type "method_descriptor"))(hm:MtR X id r)(ho:PE X o to)
  (hbase:autoParam (LU o name X.env (eval o X.env)=eval o X.env) aqd._auto_1) (hline:autoParam ((apos.endLine == cpos.line)=true) aqd._auto_1):PE X (.Call (.Attribute o name apos) [] [] cpos) (tBM0 X.K T r to):=by
 intro pins s σ H Q I h;refine wpAny_Call_method0_late hbase hline (bR (ho pins s σ H _ I h) λv s1 hh_=> ?_)
 obtain⟨x,H1,I1,r1,ty,q1⟩:=hh_;obtain⟨h1,h2⟩:=uK I1 r1 ty;exact⟨T,id,pa,slot,hty,h1,h2,ND rfl (PySem.evalArgs_none (hm pins s1 σ H1 x [] v [] Q I1 r1 .nil q1))⟩
theorem zY (pa:PlainAttrs T)(slot:Slot T name id)(hty:typeOf (.builtin id)=pure (.type "method_descriptor"))(hm:MtR X id r)(ho:PE X o to)(ha:PA X (e::es) t)
  (hbase:autoParam (LU o name X.env (eval o X.env)=eval o X.env) aqd._auto_1)
  (hfew:((backTo cpos (LA (e::es) X.env)).all (λx=> !x.1)&&(Pg cpos (NN [] X.env)).all (λx=>x.1.isSome)
   &&decide ((e::es).length+([]:List Sf).length+(if ([]:List Sf).isEmpty then 0 else 1)<30))=true:=by rfl)
  (hline:autoParam ((apos.endLine == cpos.line)=true) aqd._auto_1) (hs:autoParam (LA (e::es) X.env=(false,eval e X.env)::LA es X.env) aqd._auto_1) (hplain:autoParam ((backTo cpos (LA es X.env)).any (·.1)=false) aqd._auto_1) :
  PE X (.Call (.Attribute o name apos) (e::es) [] cpos) (tBM X.K T r to t):=by
 intro pins s σ H Q I h;refine P3 hbase hfew hline rfl (bR (ho pins s σ H _ I h) λv s1 hh_=> ?_)
 obtain⟨x,H1,I1,r1,ty,q1⟩:=hh_;obtain⟨h1,h2⟩:=uK I1 r1 ty;refine⟨T,id,pa,slot,hty,h1,h2,?_⟩
 have hA:=ha cpos pins s1 σ H1 _ I1 q1;rw[hs]at hA ⊢;refine ND (by show(false||(backTo cpos (LA es X.env)).any (·.1))=false;rw[hplain] <;> rfl) (NV ?_)
 exact bR hA λus s2 ⟨vs,H2,I2,r2,q2⟩=>hm pins s2 σ H2 x vs v us Q I2 r1 r2 q2
end
def MtM (X:Cx)(id:String)(r:V->List V->Hp->VK->Prop):Prop:=
 ∀(pins:List (Addr×Obj)) (s:Lj) (σ:St) (H:Hp) (x:V) (xs:List V) (v:Lh) (us:List Lh) (Q:VK),Inv X pins σ H s->RelV x v->Vals xs us->r x xs H Q →
  wpAny (model X.prog X.w) X.A (call (.builtin id) (v::us)) (EP X pins σ Q) X.xe s
theorem Vals.one:∀{x:V} {us:List Lh},Vals [x] us->∃u,us= [u]/\RelV x u
 | _,_,.cons r .nil=>⟨_,rfl,r⟩
theorem Vals.zero:∀{us:List Lh},Vals [] us->us= []
 | _,.nil=>rfl
theorem Vals.dropLast {xs:List V}{us:List Lh}(h:Vals xs us):Vals xs.dropLast us.dropLast:=by
 induction h with
 | nil=>exact .nil
 | cons r t ih=>
  cases t with
  | nil=>exact .nil
  | cons q t'=>exact .cons r ih
theorem Vals.reverse {xs:List V}{us:List Lh}(h:Vals xs us):Vals xs.reverse us.reverse:=by
 induction h with
 | nil=>exact .nil
 | cons r t ih=>rw[On,On];exact Vals.append ih (.cons r .nil)
theorem Vals.rep {xs:List V}{us:List Lh}(h:Vals xs us):∀k:Nat,Vals (LG k xs).flatten (LG k us).flatten
 | 0=> .nil
 | k+1=>by
  rw[MO,MO,Np,Np];exact Vals.append h (Vals.rep h k)
theorem vN {α:Type}(l:List α):l.eraseIdx (l.length - 1)=l.dropLast:=by
 induction l with
 | nil=>rfl
 | cons a r ih=>
  cases r with
  | nil=>rfl
  | cons b r=>
   have e:(a::b::r).length - 1=((b::r).length - 1)+1:=by
    have h1:(a::b::r).length=r.length+2:=rfl
    have h2:(b::r).length=r.length+1:=rfl;omega
   rw[e,List.eraseIdx_cons_succ,ih]
   all_goals rfl
theorem foldl_rep (its:List Lh):∀(k:Nat) (acc:List Lh),
  Pt (λx1 x2=>x1++x2) acc.toArray (LG k its.toArray)=(acc++(LG k its).flatten).toArray
 | 0,acc=>by simp
 | k+1,acc=>by
  have e:acc.toArray++its.toArray=(acc++its).toArray:=by simp
  have e2:(acc++its)++(LG k its).flatten=acc++(LG (k+1) its).flatten:=by
   rw[MO,Np,Ms]
  rw[<-e2,<-foldl_rep its k (acc++its),<-e,MO,List.foldl_cons]
section
variable {X:Cx}{pins:List (Addr×Obj)}{σ:St}{H:Hp}{s:Lj}{l b:Addr}{xs ys zs:List V}
theorem Inv.KM {its its':List Lh}{n:Nat}{f:Array Lh->Array Lh}{t':Nat}(I:Inv X pins σ H s)(hH:H l=some (.lst xs))
  (e:s.heap.get? l=some { cls:=.type "list",data:=.seq its.toArray n }) (hf:f its.toArray=its'.toArray) (hv:Vals ys its') (hz:ys.length<=sizeLine) :
  Inv X pins σ (upd H l (.lst ys)) { s with heap:=s.heap.update l (Obj.mapSeq f),toks:=t' }:=by
 have q:=PySem.IsL.update e f;rw[hf]at q;refine I.write (x:=l) (e:=l) (by rw[hH];exact trivial) (.inl rfl) (λb' u hb hu=>(Oi s.heap (Obj.mapSeq f) (NZ hb)).trans hu) ⟨_,q⟩ ?_
 exact⟨hz,its',_,hv,q⟩
theorem Inv.KL {its:List Lh}{t':Nat}(I:Inv X pins σ H s)(hv:Vals ys its)(hz:ys.length<=sizeLine) :
  Inv X pins σ (upd H s.heap.objs.size (.lst ys)) { s with heap:=s.heap.push { cls:=.type "list",data:=.seq its.toArray },toks:=t' }:=
 I.laid (λ_ _ q=>Lq _ q) (Lv _) ⟨hz,its,0,hv,LB _ rfl⟩
theorem Inv.fresh (I:Inv X pins σ H s):H s.heap.objs.size=none:=I.hok.fresh (Lv _)
theorem Inv.Kf (I:Inv X pins σ H s)(hH:H l=some (.lst xs)):xs.length<=sizeLine/\∃(its:List Lh) (n:Nat),Vals xs its/\xs.length=its.length/\s.heap.get? l=some { cls:=.type "list",data:=.seq its.toArray n }:=by
 obtain⟨z,its,n,r,e⟩:=I.hok l _ hH;exact⟨z,its,n,r,r.length,e⟩
theorem tM {n:Nat}(h:n<=sizeLine):Nm n=false:=by
 unfold Nm;exact decide_eq_false (by omega)
end
section
variable {X:Cx}
def CI:V->List V->Hp->VK->Prop:=λx vs H Q=> ∃l xs y,x= .ref l/\vs= [y]/\H l=some (.lst xs)/\xs.length<sizeLine/\Q .non (upd H l (.lst (xs++ [y])))
theorem kU:MtM X "list.append" CI:=by
 intro pins s σ H x vs v us Q I rx rv h;obtain⟨l,xs,y,rfl,rfl,hH,hz,q⟩:=h;cases rx;obtain⟨u,rfl,ru⟩:=rv.one;obtain⟨z,its,n,r,hl,e⟩:=I.Kf hH;refine Os F.slot_list_append ⟨_,e,rfl⟩ F.entry_list_append (F.args_list_append_2 _ _) (PySem.list_append l its.toArray n u (by rw[Lx];omega)) ⟨e,?_⟩
 refine⟨.non,_,I.KM (its':=its++ [u]) hH e (by simp) (r.append (.cons ru .nil)) ?_,rfl,q⟩
 rw[Lo,MW];omega
def CH:V->List V->Hp->VK->Prop:=λx vs H Q=> ∃l b xs zs,x= .ref l/\vs= [.ref b]/\H l=some (.lst xs)/\H b=some (.lst zs)/\xs.length+zs.length<=sizeLine/\Q .non (upd H l (.lst (xs++zs)))
theorem yo:MtM X "list.extend" CH:=by
 intro pins s σ H x vs v us Q I rx rv h;obtain⟨l,b,xs,zs,rfl,rfl,hH,hB,hz,q⟩:=h;cases rx;obtain⟨u,rfl,ru⟩:=rv.one;cases ru;obtain⟨z,its,n,r,hl,e⟩:=I.Kf hH;obtain⟨z2,its2,n2,r2,hl2,e2⟩:=I.Kf hB
 have hsz:its.toArray.size+its2.toArray.size<=sizeLine:=by rw[Lx,Lx];omega
 have hlong:¬ (!its.toArray.isEmpty&&Nm (its.toArray.size+its2.toArray.size))=true:=by
  rw[tM hsz,Bool.and_false];exact LM
 refine Os F.slot_list_extend ⟨_,e,rfl⟩ F.entry_list_extend (F.args_list_extend_2 _ _)
  (AutoSeq1.list_extend_list_list_0 l its.toArray n b its2.toArray n2 hlong (by rw[Lx];omega) (by omega)) ⟨e,e2,?_⟩
 refine⟨.non,_,I.KM (its':=its++its2) hH e (by simp) (r.append r2) ?_,rfl,q⟩
 rw[Lo];omega
def rPop:V->List V->Hp->VK->Prop:=λx vs H Q=> ∃l xs y,x= .ref l/\vs= []/\H l=some (.lst xs)/\xs[xs.length - 1]? =some y/\Q y (upd H l (.lst xs.dropLast))
theorem GH:MtM X "list.pop" rPop:=by
 intro pins s σ H x vs v us Q I rx rv h;obtain⟨l,xs,y,rfl,rfl,hH,hy,q⟩:=h;cases rx
 have hus:=rv.zero;subst hus;obtain⟨z,its,n,r,hl,e⟩:=I.Kf hH;obtain⟨u,hu,ru⟩:=r.get hy
 have hy':its.toArray[its.toArray.size - 1]? =some u:=by
  show its.toArray[its.length - 1]? =some u
  rw[<-Array.getElem?_toList,<-hl]
  exact hu
 refine Os F.slot_list_pop ⟨_,e,rfl⟩ F.entry_list_pop (F.args_list_pop_1 _) (MeetsSeq.list_pop_last l its.toArray n u hy' (by rw[Lx];omega)) ⟨e,?_⟩
 refine⟨y,_,I.KM (its':=its.dropLast) hH e ?_ r.dropLast ?_,ru,q⟩
 ·show its.toArray.eraseIdxIfInBounds (its.toArray.size - 1)=its.dropLast.toArray
  rw[Lx,List.eraseIdxIfInBounds_toArray,vN]
 ·rw[List.length_dropLast]
  omega
def rCat:R2:=λx y H Q=> ∃l b xs zs,x= .ref l/\y= .ref b/\H l=some (.lst xs)/\H b=some (.lst zs)/\xs.length+zs.length<=sizeLine/\∀p,H p=none->Q (.ref p) (upd H p (.lst (xs++zs)))
theorem Gz:pf X (MZ .Add) rCat:=by
 intro pins s σ H x y v u Q I rx ry h;obtain⟨l,b,xs,zs,rfl,rfl,hH,hB,hz,q⟩:=h;cases rx;cases ry;obtain⟨z,its,n,r,hl,e⟩:=I.Kf hH;obtain⟨z2,its2,n2,r2,hl2,e2⟩:=I.Kf hB;refine PySem.P.add_list e e2 ?_ (by rw[Lx,Lx];omega)
 have ea:its.toArray++its2.toArray=(its++its2).toArray:=by simp
 rw[ea];exact⟨.ref _,_,I.KL (t':=s.toks) (r.append r2) (by rw[Lo];omega),rfl,q _ I.fresh⟩
def rRep:R2:=λx y H Q=> ∃l k xs,x= .ref l/\y= .int k/\H l=some (.lst xs)/\-(2 ^ 63)<=k/\k<2 ^ 63/\xs.length*k.toNat<=sizeLine ∧
 ∀p,H p=none->Q (.ref p) (upd H p (.lst (LG k.toNat xs).flatten))
theorem len_rep {α:Type}(xs:List α)(k:Nat):(LG k xs).flatten.length=k*xs.length:=by
 induction k with
 | zero=>simp
 | succ k ih=>rw[MO,Np,Lo,ih,Nat.succ_mul,RC]
theorem Gv:pf X (MZ .Mult) rRep:=by
 intro pins s σ H x y v u Q I rx ry h;obtain⟨l,k,xs,rfl,rfl,hH,h1,h2,hz,q⟩:=h;cases rx;obtain⟨t,rfl⟩:=ry;obtain⟨z,its,n,r,hl,e⟩:=I.Kf hH
 have hlen:its.toArray.size*k.toNat<=sizeLine:=by rw[Lx,<-hl];exact hz
 have hcap:¬ its.toArray.size*k.toNat > (2 ^ 63 - 1) / 8:=by
  have:(sizeLine:Nat)<=(2 ^ 63 - 1) / 8:=by decide
  omega
 have hfit:¬ (!Builtin.List.listFitsIndex k)=true:=by
  rw[fitsIndex_both h1 h2];exact LM
 have hlong:¬ Nm (its.toArray.size*k.toNat)=true:=by
  rw[tM hlen];exact LM
 have hnew:Pt (λx1 x2=>x1++x2) #[] (LG (if its.toArray.isEmpty=true then 0 else k.toNat) its.toArray)=(LG k.toNat its).flatten.toArray:=by
  have f0:∀m:Nat,Pt (λx1 x2=>x1++x2) #[] (LG m its.toArray)=(LG m its).flatten.toArray:=λm=>by
   have:=foldl_rep its m [];rw[OU]at this;exact this
  rw[f0]
  cases its with
  | nil=>simp
  | cons a r'=>rw[if_neg (by simp)]
 refine Pm (T:="list") (U:="int") (by decide) ⟨_,e,rfl⟩ (λs'=>Qs s' k t) noFill_list_mul R5 OV repeat_list RP.lookup
  (Os OV (Qs s k t) RQ (Rk _ _) (int___rmul___int_list k t l its.toArray n)
   ⟨e,rfl,⟨_,e,rfl⟩,Os F.slot_list_mul ⟨_,e,rfl⟩ F.entry_list_mul (F.args_list_mul_2 _ _) (QV l its.toArray n k t hfit hcap hlong) ⟨e,?_⟩⟩)
 rw[hnew];exact⟨.ref _,_,I.KL (t':=s.toks) (r.rep k.toNat) (by rw[len_rep,RD];exact hz),rfl,q _ I.fresh⟩
end
end L2
namespace Att
open PySem PySem.W PySem.Calls PyProof.Rows
theorem lU {P:Params}{h:Heap}:∀(ns:List Int) (vs:List Lh),WellAll P h vs (ns.map WData.int)->OJ vs ns:=by
 intro ns
 induction ns with
 | nil=>
  intro vs w;rw[P7]at w;cases w
  exact .nil
 | cons n ns ih=>
  intro vs w;rw[Lk]at w
  cases w with
  | cons a b=>
   cases a;exact .cons _ _ (ih _ b)
theorem x8 {l:OpenLaw}{n:Nat}(hn:l.most=some n){P:Params}{h:Heap}{args:List WData}{vals:List Lh}
  (hpre:l.row.toRowW.claim.pre args=true) (hwl:WellAll P h vals args) :
  ∃a vs ns,vals= [LR a]/\args= [WData.list (ns.map WData.int)]/\h.get? a=some { cls:=.type "list",data:=.seq vs.toArray }/\OJ vs ns/\ns.length<=n:=by
 have hsh:WShape.hasAll [] args [.list .int] =true:=(pre_splitW hpre).1
 have hc:l.pre.holds [] { args:=args }=true:=(pre_splitW hpre).2;obtain⟨d,r,rfl,h1,h2⟩:=hasAllW_cons hsh;obtain rfl:=hasAllW_nil h2;obtain⟨xs,rfl,h3⟩:=hasW_list h1;obtain⟨ns,rfl⟩:=items_int h3
 have hlen:ns.length<=n:=by
  unfold OpenLaw.pre at hc
  have h4:(WTm.not (.lt (.lit (.int (n:Int))) (.len (.arg 0)))).holds [] { args:=[.list (ns.map .int)] }=true:=by
   have h4:=(holds_andW hc).1;rw[hn]at h4;exact h4
  have h5:=condW_of h4 (w_not (w_lt w_lit (w_len_list (w_arg rfl))));rw[Ln]at h5;refine Nat.le_of_not_lt λq=> ?_
  have q':(n:Int)<((ns.length:Nat):Int):=by omega
  first
   | (rw[decide_eq_true q']at h5;exact absurd h5 (by decide))
   | (simp at h5;omega)
 cases hwl with
 | cons w1 w2=>
  cases w2
  cases w1 with
  | list ho hall=>exact⟨_,_,ns,rfl,rfl,ho,lU ns _ hall,hlen⟩
theorem yd (l:OpenLaw)(args:List WData):l.row.toRowW.claim.post args (.bool true) args=true:=
 postW_of (r:=l.row.toRowW) (X:=(true == true))
  (show WShape.has [] (.bool true) .bool=true by first | rfl | decide | simp[WShape.has,WShape.arms,WShape.armsAll])
  (show(WTm.eq .res (.lit (.bool true))).value [] { args:=args,res:=some (.bool true),after:=args }=some (.bool (true == true))from w_eq_bool (w_res rfl) w_lit) rfl
theorem attach_call {l:OpenLaw}{n:Nat}{q:LP}{loose:List Str}{XP:(Str->Option Lh)->Heap->Prop}{YP:Mh->Heap->Prop}{d:DefRec}
  (hn:l.most=some n) (hdf:d.params.defaults= [])
  (call:∀(w:Mh) (s₀ s₁:Lj) (mg mb:Str->Option Lh) (fa:Addr) (o:Obj) (pm cd doc:Lh) (a:Addr) (vs:List Lh) (ns:List Int),
   Ground q loose [] XP w s₀ mg mb s₁.heap->YP w s₁.heap →
   s₁.heap.get? fa=some o->o.data= .func (docDef d.name d.params d.body d.scope pm cd doc)->s₁.heap.CodeRec cd d.name->mg d.name=some (.ref fa) →
   s₁.heap.get? a=some { cls:=.type "list",data:=.seq vs.toArray }->OJ vs ns->ns.length<=n->s₁.gens= #[] →
   codeAny (model l.prog w) callerA (.call (.ref fa) ⟨[.ref a],[]⟩) (λr s'=>r= .ok (.ret (.bool true))/\OldK s₁.heap s'.heap/\s'.os=s₁.os/\PP s'.gens) s₁) :
  WalkO q loose XP YP l.row.toRowW d [] (λf vs=>PySem.call f vs):=by
 intro w s₀ s₁ mg mb G Y fa o pm cd doc dV kV ho hd hcd hD hmg hg args vals as hpre hlay hrd hwl hlo;obtain rfl:dV= .none:=Dflts.none hD hdf;obtain rfl:kV= .none:=Dflts.noKw hD;obtain⟨a,vs,ns,rfl,rfl,hobj,hints,hlen⟩:=x8 hn hpre hwl;refine enter_call (N6 (call w s₀ s₁ mg mb fa o pm cd doc a vs ns G Y ho (fd_plain hd) hcd hmg hobj hints hlen hg) λr s' hq=> ?_)
 obtain⟨rfl,h2,h3,h4⟩:=hq;exact⟨.inl ⟨.bool true,.bool true,[],rfl,λ_=>rfl,.bool true,yd l _,λ_=>⟨List.Pairwise.nil,λ_ hm=>(nomatch hm)⟩⟩,h2,h3,h4⟩
end Att
namespace L2
open PySem PySem.Spec PyProof.Rows
theorem pw:∀{vs:List Lh} {ns:List Int},OJ vs ns->Vals (ns.map V.int) vs
 | _,_,.nil=> .nil
 | _,_,.cons n t h=> .cons ⟨t,rfl⟩ (pw h)
def Hy (H:Hp):Prop:=∀b,H b=none\/∃o xs,H b=some (.frz o (.lst xs))
theorem AA {P:LP}{w:Mh}{K:Ld}{mg mb:Str->Option Lh}{CX:B7}{k:Nat}{fa a:Addr}{fd:Mo}{x:Str}{sp:Sp}{s₁:Lj}{vs:List Lh}{ns:List Int}
  (KX:K.In s₁.heap) (hns:s₁.heap.Ns LX mg) (hb:s₁.heap.Ns Py mb) (hbb:∀x:Str,x≠ "__name__"->mb x=Ma x) (hlim:s₁.heap.NoLimit) (hg:s₁.gens= #[])
  (ha:s₁.heap.get? a=some { cls:=.type "list",data:=.seq vs.toArray }) (hi:OJ vs ns) (hl:ns.length<=sizeLine) (hr:Room k callerA)
  (F:∀base:Heap,K.In base->base.Ns LX mg->ox P w K mg base CX k fa fd [x] sp) (hbind:∀(s:Lj) (u:Lh),Qm s fd ⟨[u],[]⟩ [(x,u)])
  (hsp:∀H:Hp,Hy H->SqL K H a (ns.map V.int)->sp [.ref a] H (λv _=>v= .bl true) λ_ _ _=>False)
  (hCX:∀H e s',CX [] H s₁ (λ_ _ _=>False) e s'->False) :
  codeAny (model P w) callerA (.call (.ref fa) ⟨[.ref a],[]⟩) (λr s'=>r= .ok (.ret (.bool true))/\OldK s₁.heap s'.heap/\s'.os=s₁.os/\PP s'.gens) s₁:=by
 have rv:=pw hi
 have lenV:=hi.length
 -- from an abstract heap in which nothing but the script may be tracked
 have core:∀H:Hp,Hy H->SqL K H a (ns.map V.int)->HOk P w H s₁.heap->(∀b,H b≠none->b=a)->(H a≠none->K.lookup a=none) →
   codeAny (model P w) callerA (.call (.ref fa) ⟨[.ref a],[]⟩) (λr s'=>r= .ok (.ret (.bool true))/\OldK s₁.heap s'.heap/\s'.os=s₁.os/\PP s'.gens) s₁:=by
  intro H hO hS hok hA hK
  have base_of:∀{b:Addr} {o:Obj},s₁.heap.get? b=some o->H b=none->(rP s₁.heap H).get? b=some o:=λe n=>AV e n
  have noA:∀{b:Addr} {o:Obj} {es:Array DictEntry} {ep:Nat},s₁.heap.get? b=some o->o.data= .dict es ep->H b=none:=λ{b o es ep} e d=>by
   cases q:H b with
   | none=>rfl
   | some u=>
    have e':b=a:=hA b (by rw[q];simp)
    subst e';rw[ha]at e;cases e
    have d':Data.seq vs.toArray _=Data.dict es ep:=d;cases d'
  have nsK:∀{b:Addr} {m:Str->Option Lh},s₁.heap.Ns b m->(rP s₁.heap H).Ns b m:=λ{b m} ⟨o,es,ep,e,d,r⟩=>⟨o,es,ep,base_of e (noA e d),d,r⟩
  have hKb:K.In (rP s₁.heap H):=λb o e=>base_of (KX b o e) (by
   cases q:H b with
   | none=>rfl
   | some u=>
    have e':b=a:=hA b (by rw[q];simp)
    subst e';rw[hK (by rw[q];simp)]at e;cases e)
  have hM:Mod K mg (rP s₁.heap H):=⟨hKb,nsK hns,⟨mb,nsK hb,hbb⟩,let ⟨mc,h1,h2⟩:=hlim;⟨mc,nsK h1,h2⟩⟩
  have e0:Env0 P w K mg (rP s₁.heap H) callerA [] s₁ H:=⟨rfl,hM,λb o e=>Dy e,Oz (yC _ _),trivial,λb hb=>absurd (show b∈([]:List Addr)from hb) (by simp),hok,.of_eq hg⟩
  refine N6 ((F _ hKb (nsK hns)).run callerA [] s₁ H ⟨[.ref a],[]⟩ [.ref a] [.ref a] _ _ hr e0 (hbind s₁ (.ref a)) (.cons rfl .nil) (hsp H hO hS)) λr s' h=> ?_
  cases r with
  | error e=>exact(hCX H e s' h).elim
  | ok fl=>
   cases fl with
   | next=>exact Nf h
   | brk=>exact Nf h
   | cont=>exact Nf h
   | ret u=>
    obtain⟨v,H',os,bare,un,hok',r',q⟩:=h
    have q':v= .bl true:=q;subst q';obtain rfl:u=Mu true:=r';refine⟨rfl,OldK.of_keep λb o e=> ?_,os,bare⟩
    cases q:H b with
    | none=>exact un.keep b o e q (by intro z;exact absurd (show b∈([]:List Addr)from z) (by simp)) (by simp)
    | some u=>
     rcases hO b with z | ⟨ob,xs,z⟩
     ·rw[q]at z;cases z
     ·have z2:=un.frzs b ob _ z
      obtain⟨e1,_⟩:=hok b _ z;obtain⟨e2,_⟩:=hok' b _ z2;rw[e]at e1;cases e1;exact e2
 cases hk:K.lookup a with
 | some o=>
  -- the script is one of the module's own objects
  have e:=KX a o hk;rw[ha]at e;cases e
  refine core (λ_=>none) (λ_=> .inl rfl) (.inr ⟨_,vs.toArray,_,hk,rfl,rfl,rfl,by rw[Lx,lenV];exact hl,by simpa using rv⟩) (λb u z=>by have z':(none:Option HO)=some u:=z;cases z') (λb z=>absurd rfl z) λz=>absurd rfl z
 | none=>
  refine core (λb=>if b=a then some (.frz { cls:=.type "list",data:=.seq vs.toArray } (.lst (ns.map V.int)))else none) (λb=> ?_) (.inl (.inr ⟨{ cls:=.type "list",data:=.seq vs.toArray },if_pos rfl⟩)) (λb u z=> ?_) (λb z=> ?_) λ_=>hk
  ·by_cases hb:b=a
   ·exact .inr ⟨_,_,if_pos hb⟩
   ·exact .inl (if_neg hb)
  ·by_cases hb:b=a
   ·have z':=(if_pos hb).symm.trans z
    cases z';subst hb;exact⟨ha,by rw[Ln];exact hl,vs,_,rv,ha⟩
   ·have z':=(if_neg hb).symm.trans z
    cases z'
  ·by_cases hb:b=a
   ·exact hb
   ·exact absurd (if_neg hb) z
abbrev CX0:B7:=λ_ _ _ _ _ _=>False
abbrev E0:XK:=λ_ _ _=>False
theorem wI {X:Cx}:vX CX0 X E0:=λ_ _ _ _ _ _ _ h=>h.elim
structure Fun (K:Ld)(x qual:Str)(st:Stmt)(f:Addr)(fd:Mo):Prop where
 ex:∃(oc:Lh) (od:Option Addr) (kV doc pm:Lh) (an:Option Addr) (cdv ct:Lh) (osl:Array (Option Lh)),
  fd=Ot x qual (eK st) (bF st) (ai st) .none kV doc pm an cdv ct/\K.lookup f=some ⟨oc,od,.func fd,osl⟩/\Qw K cdv qual=true
 kp:Ni K (.ref f)=true
section
variable {P:LP}{w:Mh}{K:Ld}{mg:Str->Option Lh}{base:Heap}
theorem Fun.ok {x qual:Str}{st:Stmt}{f:Addr}{fd:Mo}{N ps:List Str}{k:Nat}{sp:Sp}(F:Fun K x qual st f fd)(S:aw N ps (ai st))(len:∀vs H Q E,sp vs H Q E->vs.length=ps.length)
  (hbody:∀(cdv:Lh) (A:L3) (outer:List Env) (s:Lj) (H:Hp) (vs:List V) (Q:VK) (E:XK),Room k (A.deeper (envOfC qual (ai st) s.heap.objs.size f cdv))->sp vs H Q E →
   ∃t,PSs (fI CX0 P w K mg base N qual (ai st) f cdv A outer s H E).nox (bF st) t/\t { nx:=λ_ H'=>Q .non H',rt:=Q } (start N vs) H):ox P w K mg base CX0 (k+1) f fd ps sp:=by
 obtain⟨oc,od,kV,doc,pm,an,cdv,ct,osl,rfl,lk,hcd⟩:=F.ex;refine JG lk hcd S len λA outer s H vs Q E hr hsp=> ?_
 obtain⟨t,h,q⟩:=hbody cdv A outer s H vs Q E hr hsp;exact⟨t,h.nox,q⟩
theorem Fun.binds {x qual:Str}{st:Stmt}{f:Addr}{fd:Mo}{ps:List Str}(F:Fun K x qual st f fd)
  (h:∀(kV doc pm:Lh) (an:Option Addr) (cdv ct:Lh) (us:List Lh),us.length=ps.length->RY (Ot x qual (eK st) (bF st) (ai st) .none kV doc pm an cdv ct) ⟨us,[]⟩=pure (ps.zip us)):Binds K fd ps []:=by
 obtain⟨oc,od,kV,doc,pm,an,cdv,ct,osl,rfl,lk,hcd⟩:=F.ex;exact .all (h kV doc pm an cdv ct)
theorem A9 {x qual:Str}{st:Stmt}{f:Addr}{oc:Lh}{od an:Option Addr}{osl:Array (Option Lh)}{kV doc pm cdv ct:Lh}(l:K.lookup f=some ⟨oc,od,.func (Ot x qual (eK st) (bF st) (ai st) .none kV doc pm an cdv ct),osl⟩)
  (c:Qw K cdv qual=true) (k:Ni K (.ref f)=true):Fun K x qual st f (Ot x qual (eK st) (bF st) (ai st) .none kV doc pm an cdv ct):=⟨⟨oc,od,kV,doc,pm,an,cdv,ct,osl,rfl,l,c⟩,k⟩
end
theorem iteF {A B:Prop}(h:B):if false=true then A else B:=by
 rw[if_neg LM];exact h
theorem iteT {A B:Prop}(h:A):if true=true then A else B:=by
 rw[if_pos rfl];exact h
def Same (H H':Hp):Prop:=∀b o,H b=some o->H' b=some o
theorem Same.refl (H:Hp):Same H H:=λ_ _ h=>h
theorem Same.trans {H H1 H2:Hp}(a:Same H H1)(b:Same H1 H2):Same H H2:=λc o h=>b c o (a c o h)
theorem jG {env:Env}:∀(names:List (Str×NQ)) (acc:List (Str×Addr)),
  (∀x,(x,L4)∈names->∃c,env.cells.lookup x=some c) →
  (∀x c,acc.lookup x=some c->env.cells.lookup x=some c) →
  ∃cl,(forIn (m:=Sem) names acc (λx cs=>(if (x.2 == L4)=true then do let a <-cellOf env x.1;pure (NK ((x.1,a)::cs))else pure (NK cs))))=pure cl ∧
   (∀x c,cl.lookup x=some c->env.cells.lookup x=some c) ∧
   (∀x,(x,L4)∈names->∃c,cl.lookup x=some c)/\(∀x c,acc.lookup x=some c->∃c',cl.lookup x=some c')
 | [],acc,_,h=>⟨acc,rfl,h,λx hx=>by simp at hx,λx c e=>⟨c,e⟩⟩
 | (n,k)::r,acc,hf,h=>by
  by_cases hk:k=L4
  ·subst hk
   obtain⟨c,hc⟩:=hf n (by simp)
   have h':∀x c',((n,c)::acc).lookup x=some c'->env.cells.lookup x=some c':=λx c' e=>by
    rw[L8]at e
    cases q:x == n with
    | true=>
     rw[q]at e
     have e2:c=c':=LY e
     have e3:x=n:=by simpa using q
     rw[<-e2,e3];exact hc
    | false=>rw[q]at e;exact h x c' e
   obtain⟨cl,e1,e2,e3,e4⟩:=jG r ((n,c)::acc) (λx hx=>hf x (Lg _ hx)) h'
   refine⟨cl,?_,e2,λx hx=> ?_,λx c' e=> ?_⟩
   ·rw[R6]
    simp only[beq_self_eq_true,if_true,cellOf,hc,pure_bind];exact e1
   ·rcases Lp.mp hx with z | z
    ·have z1:x=n:=by injection z
     subst z1;exact e4 x c (by simp[L8])
    ·exact e3 x z
   ·cases q:x == n with
    | true=>exact e4 x c (by simp[L8,q])
    | false=>exact e4 x c' (by simp[L8,q,e])
  ·have hb:(k == L4)=false:=by simpa using hk
   obtain⟨cl,e1,e2,e3,e4⟩:=jG r acc (λx hx=>hf x (Lg _ hx)) h
   refine⟨cl,?_,e2,λx hx=> ?_,e4⟩
   ·rw[R6]
    simp only[hb,Bool.false_eq_true,if_false,pure_bind];exact e1
   ·rcases Lp.mp hx with z | z
    ·have z1:L4=k:=by injection z
     exact absurd z1.symm hk
    ·exact e3 x z
theorem vP {env:Env}{scope:OI}(hf:∀x,(x,L4)∈scope.names->∃c,env.cells.lookup x=some c) :
  ∃cl,closureFor scope env=pure cl/\(∀x c,cl.lookup x=some c->env.cells.lookup x=some c)/\(∀x,(x,L4)∈scope.names->∃c,cl.lookup x=some c):=by
 obtain⟨cl,e1,e2,e3,_⟩:=jG scope.names [] hf (λx c e=>by simp at e)
 refine⟨cl,?_,e2,e3⟩
 unfold closureFor;refine Eq.trans ?_ (congrArg (λz=>z >>= pure) e1|>.trans (by simp))
 rfl
theorem se {pr:LP}{wd:Mh}{Ar:L3}{Rz:Sd->Lj->Prop}{s0:Lj}{el tg it0:Expr}{cs:List Expr}{sc:OI}{ps:Pos}{itv av:Lh}{ev:Env}(W:Nat->Lj->Prop)
  (go:∀k st,W k st->wpAny (model pr wd) Ar (pyNext itv) (λr s1=>match r with
   | none=>Rz (.ok .next) s1
   | some v=>wpAny (model pr wd) Ar (Of tg itv v) (λ_ s2=>wpAny (model pr wd) Ar (assign tg ev v) (λ_ s3=>
     wpAny (model pr wd) Ar (forIn cs true λc b=>if b=true then do let z <-isTrue c ev (eval c ev);pure (NK z)else pure (NK b)) (λz s4=>
      if z=true then wpAny (model pr wd) Ar (eval el ev) (λy s5=>
       wpAny (model pr wd) Ar (call (.builtin "list.append") [av,y]) (λ_ s6=> ∃m,m<k/\W m s6) (λ_ _=>False) s5) (λ_ _=>False) s4
      else ∃m,m<k/\W m s4) (λ_ _=>False) s3) (λ_ _=>False) s2) (λ_ _=>False) s1) (λ_ _=>False) st)
  (k:Nat) (hk:W k s0):codeAny (model pr wd) Ar (.compLoop (.ListComp el [⟨tg,it0,cs,0⟩] sc ps) 0 itv av ev) Rz s0:=by
 refine codeAny_loop rfl W (λk st hw=> ?_) k hk
 show wpAny (model pr wd) Ar ((compTurn (.ListComp el [⟨tg,it0,cs,0⟩] sc ps) 0 itv av ev).onRaise (λz=>do Sg z ev;theTreesLotGoes z)) _ _ st
 refine wpAny_noted ?_
 rw[compTurn_list]
 have no:∀{α:Type} {t:Sem α} {Q Q':α->Lj->Prop} {E':Lh->Lj->Prop} {x:Lj},wpAny (model pr wd) Ar t Q (λ_ _=>False) x->(∀y z,Q y z->Q' y z)->wpAny (model pr wd) Ar t Q' E' x:=λh f=>Nh h f λ_ _ z=>z.elim
 refine Li (wpAny_standAt (Li (no (go k st hw) λr s1 g1=> ?_)))
 cases r with
 | none=>exact Lr g1
 | some v=>
  refine Li (no g1 λ_ s2 g2=>Li (no g2 λ_ s3 g3=>Li (no g3 λz s4 g4=> ?_)))
  cases z with
  | false=>exact Lr (And.intro rfl g4)
  | true=>exact Li (Li (no g4 λy s5 g5=>Li (no g5 λ_ s6 g6=>Lr (Lr (And.intro rfl g6)))))
def cy (X:Cx)(scope:OI)(cl:List (Str×Addr))(N':List Str)(C:Addr)(s₀:Lj)(H₀:Hp)(fp:List Addr):Cx:=
 { X with N:=N',s₀:=s₀,H₀:=H₀,env:=compEnvC scope cl C X.env,outer:=X.stack,stack:=X.stack,ex:=fp,fn:=λx=>scope.names.lookup x == some .cell,xe:=λ_ _=>False }
def eJ (src:List (Option Nat))(σ:St):St:=src.map λo=>match o with
 | some i=>(σ[i]?).join
 | none=>none
theorem iD {env:Env}:∀{names:List (Str×NQ)} {x:Str} {k:NQ},
  (names.map λ(n,k)=>if (k == L4&&env.scope.kind == .function&&env.kindOf n == some .cell)then(n,ME)else(n,k)).lookup x=some k →
  ∃k',names.lookup x=some k'/\(k=k'\/k'= .free)
 | [],_,_,h=>by simp at h
 | (n,k0)::r,x,k,h=>by
  have ih:=@iD env r x k
  have h':MN x ((if (k0 == L4&&env.scope.kind == .function&&env.kindOf n == some .cell)=true then(n,ME)else(n,k0))::(r.map λ(n,k)=>if (k == L4&&env.scope.kind == .function&&env.kindOf n == some .cell)then(n,ME)else(n,k)))=some k:=h
  by_cases hc:(k0 == L4&&env.scope.kind == .function&&env.kindOf n == some .cell)=true
  ·rw[if_pos hc]at h'
   rw[L8]at h' ⊢
   cases hx:x == n with
   | true=>
    refine⟨k0,rfl,.inr ?_⟩
    have:=Mx.mp hc|>.1
    have:=Mx.mp this|>.1
    simpa using this
   | false=>rw[hx]at h';exact ih h'
  ·rw[if_neg hc]at h'
   rw[L8]at h' ⊢
   cases hx:x == n with
   | true=>rw[hx]at h';exact⟨k0,rfl,.inl (LY h').symm⟩
   | false=>rw[hx]at h';exact ih h'
theorem iX {names:List (Str×NQ)}{x:Str}{k:NQ}(h:names.lookup x=some k):(x,k)∈names:=M9 h
theorem g7 {env:Env}:∀{names:List (Str×NQ)} {x:Str},names.lookup x=some .free →
  (names.map λ(n,k)=>if (k == L4&&env.scope.kind == .function&&env.kindOf n == some .cell)then(n,ME)else(n,k)).lookup x=some .cell ∨
  (names.map λ(n,k)=>if (k == L4&&env.scope.kind == .function&&env.kindOf n == some .cell)then(n,ME)else(n,k)).lookup x=some .free
 | [],_,h=>by simp at h
 | (n,k0)::r,x,h=>by
  have ih:=@g7 env r x
  show MN x ((if (k0 == L4&&env.scope.kind == .function&&env.kindOf n == some .cell)=true then(n,ME)else(n,k0))::_)=_\/MN x ((if (k0 == L4&&env.scope.kind == .function&&env.kindOf n == some .cell)=true then(n,ME)else(n,k0))::_)=_
  rw[L8]at h
  by_cases hc:(k0 == L4&&env.scope.kind == .function&&env.kindOf n == some .cell)=true
  ·rw[if_pos hc]
   rw[L8]
   cases hx:x == n with
   | true=>exact .inl rfl
   | false=>rw[hx]at h;exact ih h
  ·rw[if_neg hc]
   rw[L8]
   cases hx:x == n with
   | true=>rw[hx]at h;exact .inr h
   | false=>rw[hx]at h;exact ih h
section
variable {X:Cx}
structure LcScope (X:Cx)(scope:OI)(N':List Str)(src:List (Option Nat)):Prop where
 kind:scope.kind= .function
 cel:∀y∈scope.names,y.2= .cell->scope.names.lookup y.1=some .cell
 loc:∀y∈scope.names,y.2= .local->scope.names.lookup y.1=some .local
 len:src.length=N'.length
 from_:∀(j i:Nat) (x:Str),src[j]? =some (some i)->N'[j]? =some x->X.N[i]? =some x/\scope.names.lookup x=some .free
 free:∀x,(x,L4)∈scope.names->X.env.kindOf x=some .cell\/X.env.kindOf x=some .free
def HS (K:Ld)(wi:TI)(src:List (Option Nat))(g:TG)(tc:TT)(te:TE):TE:=λσ H Q=>wi σ H λJ H1=> ∀D,H1 D=none->K.lookup D=none →
 ∃W:Nat->Nat->St->List V->Hp->Prop,(∃m,W 0 m (eJ src σ) [] (upd H1 D (.lst [])))/\∀i m σ ys H,W i m σ ys H->H D=some (.lst ys) ∧
  ((J.stop i H/\Q (.ref D) H)\/(J.go i H/\ys.length<sizeLine/\∀x H',J.yld i H x H'->g x σ H' λσ2 H2=>tc σ2 H2 λb H3=>
   if b=true then te σ2 H3 λv H4=>H4 D=some (.lst ys)/\∃m',m'<m/\W (i+1) m' σ2 (ys++ [v]) (upd H4 D (.lst (ys++ [v])))else ∃m',m'<m/\W (i+1) m' σ2 ys H3))
def B5 (X:Cx)(ifs:List Expr)(t:TT):Prop:=
 ∀(pins:List (Addr×Obj)) (s:Lj) (σ:St) (H:Hp) (Q:Bool->Hp->Prop),Inv X pins σ H s->t σ H Q →
  wpAny (model X.prog X.w) X.A (forIn ifs true λc r=>if r=true then do let ok <-isTrue c X.env (eval c X.env);pure (NK ok)else pure (NK r)) (TP X pins σ Q) X.xe s
def HL:TT:=λ_ H Q=>Q true H
theorem Dh:B5 X [] HL:=λ_ _ _ H _ I h=>wpAny_tests_nil ⟨H,I,h⟩
theorem lr:∀(names:List (Str×NQ)) (h:Heap) (acc:List (Str×Addr)),(∀x y c,acc.lookup x=some c->acc.lookup y=some c->x=y)->(∀x c,acc.lookup x=some c->c<h.objs.size) →
  (∀x c,(Nt h.objs.size names acc).lookup x=some c->acc.lookup x=some c\/(h.objs.size<=c/\(Qn h names).IsCell c none)) ∧
  (∀x y c,(Nt h.objs.size names acc).lookup x=some c->(Nt h.objs.size names acc).lookup y=some c->x=y) ∧
  (∀x,(x,ME)∉names->(Nt h.objs.size names acc).lookup x=acc.lookup x) ∧
  (∀x,((x,ME)∈names\/∃c,acc.lookup x=some c)->∃c,(Nt h.objs.size names acc).lookup x=some c) ∧
  (∀x c,(x,ME)∈names->(Nt h.objs.size names acc).lookup x=some c->h.objs.size<=c)
 | [],h,acc,hi,_=>⟨λ_ _ e=> .inl e,hi,λ_ _=>rfl,λx e=>e.elim (λz=>absurd z Mj) id,λ_ _ z=>absurd z Mj⟩
 | (n,k)::r,h,acc,hi,hl=>by
  unfold Nt Qn
  by_cases hk:k= .cell
  ·subst hk
   rw[if_pos (by rfl),if_pos (by rfl)]
   have hz:(h.push { cls:=.type "cell",data:=.cell none }).objs.size=h.objs.size+1:=M5 ..
   have lk:∀x,((n,h.objs.size)::acc).lookup x=if x=n then some h.objs.size else acc.lookup x:=λx=>by
    rw[L8]
    by_cases e:x=n
    ·rw[if_pos e,beq_iff_eq.mpr e]
    ·rw[if_neg e,beq_eq_false_iff_ne.mpr e]
   obtain⟨c1,c2,c3,c4,c5⟩:=lr r (h.push { cls:=.type "cell",data:=.cell none }) ((n,h.objs.size)::acc) (λx y c e1 e2=>by
     rw[lk]at e1 e2
     by_cases q1:x=n
     ·by_cases q2:y=n
      ·rw[q1,q2]
      ·rw[if_pos q1]at e1;rw[if_neg q2]at e2
       cases e1;exact absurd (hl _ _ e2) (LV _)
     ·rw[if_neg q1]at e1
      by_cases q2:y=n
      ·rw[if_pos q2]at e2
       cases e2;exact absurd (hl _ _ e1) (LV _)
      ·rw[if_neg q2]at e2;exact hi x y c e1 e2) (λx c e=>by
     rw[lk]at e;rw[hz]
     by_cases q:x=n
     ·rw[if_pos q]at e;cases e;exact OF _
     ·rw[if_neg q]at e;exact Pu (hl x c e))
   rw[hz]at c1 c2 c3 c4 c5;refine⟨λx c e=> ?_,c2,λx hx=> ?_,λx hx=> ?_,λx c hx e=> ?_⟩
   ·rcases c1 x c e with z | z
    ·rw[lk]at z
     by_cases q:x=n
     ·rw[if_pos q]at z;cases z
      exact .inr ⟨Lv _,_,Qo r _ _ _ (LB _ rfl),rfl⟩
     ·rw[if_neg q]at z;exact .inl z
    ·exact .inr ⟨Pv z.1,z.2⟩
   ·rw[c3 x λz=>hx (Lg _ z),lk,if_neg λz=>hx (by rw[z];exact Ll)]
   ·refine c4 x ?_
    rcases hx with hx | hx
    ·rcases Lp.mp hx with z | z
     ·cases z
      exact .inr ⟨_,by rw[lk,if_pos rfl]⟩
     ·exact .inl z
    ·by_cases q:x=n
     ·exact .inr ⟨_,by rw[lk,if_pos q]⟩
     ·exact .inr (by rw[lk,if_neg q];exact hx)
   ·rcases Lp.mp hx with z | z
    ·have q:x=n:=(R1 z).1
     rcases c1 x c e with y | y
     ·rw[lk,if_pos q]at y;cases y;exact Lv _
     ·exact Pv y.1
    ·exact Pv (c5 x c z e)
  ·have hb:¬ (k == ME)=true:=λz=>hk (by simpa using z)
   rw[if_neg hb,if_neg hb];obtain⟨c1,c2,c3,c4,c5⟩:=lr r h acc hi hl;exact⟨c1,c2,λx hx=>c3 x λz=>hx (Lg _ z),λx hx=>c4 x (hx.imp (λz=>(Lp.mp z).resolve_left λz=>hk (R1 z).2.symm) id),λx c hx=>c5 x c ((Lp.mp hx).resolve_left λz=>hk (R1 z).2.symm)⟩
theorem ym {M:Model}{A:L3}{E:Lh->Lj->Prop}{s:Lj}{scope:OI}{globals:Addr}{cl:List (Str×Addr)}{qual:Str}{env:Env}{Q:Env->Lj->Prop}
  (q:Q (newEnv scope s.heap.objs.size globals (Nt (s.heap.objs.size+1) scope.names cl) qual none .none (some env) Py) { s with heap:=Qn (s.heap.push { cls:=.type "dict",data:=.dict #[] }) scope.names }) :
  wpAny M A (newFunctionEnv scope globals cl [] qual none .none (some env)) Q E s:=by
 simp only[newFunctionEnv,QY,if_true];refine Li (wpAny_alloc (Li (wpAny_layCells _ (λname kind cells=>by cases hkc:kind == ME <;> simp[hkc]) _ _ _ _ ?_)))
 rw[show({ s with heap:=s.heap.push { cls:=.type "dict",data:=.dict #[] } }:Lj).heap.objs.size=s.heap.objs.size+1 from M5 ..]
 rw[List.forIn_nil];exact Li (Lr (Lr q))
theorem wY {elt tg iter:Expr}{ifs:List Expr}{scope:OI}{pos fpos:Pos}{N':List Str}{src:List (Option Nat)}{wi:TI}{g:TG}{tc:TT}{te:TE}{use:Option (Lh->Sem Unit)}{Qf:Lh->Lj->Prop}
  {pins:List (Addr×Obj)} {s:Lj} {σ:St} {H:Hp} {Q:VK}
  (hc:X.calm=true) (S:LcScope X scope N' src) (hi:PI X tg iter wi)
  (block:∀cl C s₀ H₀ fp,PG (cy X scope cl N' C s₀ H₀ fp) tg g/\B5 (cy X scope cl N' C s₀ H₀ fp) ifs tc/\PE (cy X scope cl N' C s₀ H₀ fp) elt te)
  (hs:∀x,Mv iter X.env x=pure x) (I:Inv X pins σ H s) (h:HS X.K wi src g tc te σ H Q)
  (hend:∀(D C:Addr) (H':Hp) (s':Lj),(∃m,s'.heap.Ns C m)->(∀h',Oy C s'.heap h'->Inv X pins σ H' { s' with heap:=h' })->(H' C=none/\C≠X.env.locals/\X.s₀.heap.objs.size<=C/\(∀x c,X.env.cells.lookup x=some c->c≠C)/\∀p∈X.pn++pins,p.1≠C)->Q (.ref D) H' →
   compPost (model X.prog X.w) X.A X.xe use Qf (.ref D) C (.ok .next) s') :
  wpAny (model X.prog X.w) X.A (comprehension (.ListComp elt [⟨tg,iter,ifs,0⟩] scope pos) scope X.env fpos (newList []) false (eval iter X.env) use) Qf X.xe s:=by
 have hcell:∀x,(x,L4)∈scope.names->∃c,X.env.cells.lookup x=some c:=λx hx=>I.ok.has x (S.free x hx)
 obtain⟨cl0,hcl,cl01,cl02⟩:=vP (env:=X.env) (scope:=scope) hcell;refine wpAny_comprehension_free (use:=use) rfl hs hcl S.kind S.loc (bR (hi pins s σ H _ I h) λv s1 h1=>bR h1 λitv s2 h2=> ?_)
 obtain⟨it,fp,tn,J,H2,e,I2,T,st2,f2,hq⟩:=h2;subst e
 -- the new list
 refine Mg ?_
 have hD:H2 s2.heap.objs.size=none:=I2.hok.fresh (Lv _)
 have hDK:X.K.lookup s2.heap.objs.size=none:=by
  cases q:X.K.lookup s2.heap.objs.size with
  | none=>rfl
  | some o=>exact absurd (Lw (I2.kIn _ o q)) (LV _)
 obtain⟨W,⟨m0,w0⟩,turn⟩:=hq s2.heap.objs.size hD hDK
 have I3:=I2.KL (its:=[]) (ys:=[]) (t':=s2.toks) .nil (Nk _)
 generalize hs3:({ s2 with heap:=s2.heap.push { cls:=.type "list",data:=.seq ([]:List Lh).toArray },toks:=s2.toks }:Lj)=s3 at I3
 generalize hH3:upd H2 s2.heap.objs.size (.lst [])=H3 at I3 w0
 have hDsz:s2.heap.objs.size<s3.heap.objs.size:=by rw[<-hs3];simp[M5]
 have fr3:∀b∈fp,H3 b=none:=λb hb=>by
  obtain⟨o,eo,_⟩:=T.obj _ _ st2 b hb;rw[<-hH3,aH (My (Lw eo))];exact(f2 b hb).1
 have st3:tn 0 s3.heap:=T.keep _ _ _ st2 λb hb o e=>by rw[<-hs3];exact Lq _ e
 have f3:∀b∈fp,ou X pins H3 b:=λb hb=>⟨fr3 b hb,(f2 b hb).2⟩
 have D3:H3 s2.heap.objs.size=some (.lst []):=by rw[<-hH3];exact aQ
 generalize s2.heap.objs.size=D at*
 clear hs3 hH3 hD hDK
 -- the block's frame
 refine ym ?_
 have old:∀b o,s3.heap.get? b=some o->(Qn (s3.heap.push { cls:=.type "dict",data:=.dict #[] }) scope.names).get? b=some o:=λb o e=>Qo _ _ b o (Lq _ e)
 have hns₁:(Qn (s3.heap.push { cls:=.type "dict",data:=.dict #[] }) scope.names).Ns s3.heap.objs.size (λ_=>none):=(Heap.Ns.new s3.heap (.type "dict")).keeps (Qo _ _)
 have hz3:(s3.heap.push { cls:=.type "dict",data:=.dict #[] }).objs.size=s3.heap.objs.size+1:=M5 ..
 have lt0:∀x c,cl0.lookup x=some c->c<s3.heap.objs.size:=λx c e=>let ⟨_,ic⟩:=I3.cell x c (cl01 x c e);ic.lt
 obtain⟨c1,c2,c3,c4,c5⟩:=lr scope.names (s3.heap.push { cls:=.type "dict",data:=.dict #[] }) cl0 (λx y c e1 e2=>I3.ok.inj x y c (cl01 x c e1) (cl01 y c e2)) λx c e=>by rw[hz3];exact Pu (lt0 x c e)
 rw[hz3]at c1 c2 c3 c4 c5
 generalize hcl':Nt (s3.heap.objs.size+1) scope.names cl0=cl at*
 generalize hh₁:Qn (s3.heap.push { cls:=.type "dict",data:=.dict #[] }) scope.names=h₁ at*
 have below:∀b o,s3.heap.get? b=some o->b≠s3.heap.objs.size:=λb o e=>My (Lw e)
 -- a cell of the block's: one from around,or a new one
 have cl1:∀x c,cl.lookup x=some c->X.env.cells.lookup x=some c\/(s3.heap.objs.size<c/\h₁.IsCell c none):=λx c e=>(c1 x c e).imp (cl01 x c) id
 generalize hC:s3.heap.objs.size=C at*
 have stk:∀b,b≠X.env.locals->b∉X.fs->b∉nN X.stack:=λb h1 h2 z=>(Lp.mp (I3.Kp b z)).elim h1 h2
 have apart:∀b∈fp,∀x c,cl.lookup x=some c->c≠b:=λb hb x c e=>by
  rcases cl1 x c e with z | z
  ·exact(f3 b hb).2.2.2.2.1 x c z
  ·obtain⟨o,eo,_⟩:=T.obj _ _ st3 b hb
   have h1:=Lw eo;rw[hC]at h1;exact Pc (Nat.lt_trans h1 z.1)
 have I4:Inv (cy X scope cl N' C s3 H3 fp) pins (eJ src σ) H3 { s3 with heap:=h₁ }:=by
  refine⟨⟨I3.ok.mod,S.kind,I3.ok.glob,I3.ok.blt,Oz hC,c2,λx hx=> ?_,λx c hx e=>N4 (hC▸c5 x c (iX (beq_iff_eq.mp hx)) e),I3.ok.hd,I3.ok.frames,.inl rfl,
    λb hb=>⟨?_,λx c e=>apart b hb x c e⟩,I3.bs,Mf I3.ok.bsz I3.sz,λb o e z=> ?_,λb hb=>stk b (f3 b hb).2.1 (f3 b hb).2.2.1,I3.stack,I3.Kd⟩,
   rfl,I3.bare,Un.kept old,⟨_,hns₁,λj x v e1 e2 e3=> ?_⟩,λx c e=> ?_,I3.hok.fresh (Oz hC),λx c e=>(cl1 x c e).elim (I3.freeC x c) λz=>I3.hok.fresh (by rw[hC];exact N4 z.1),λp hp=> ?_,I3.hok.kept old,?_⟩
  ·have key:∀k,(relabel scope X.env).names.lookup x=some k->(k= .cell\/k= .free)->∃c,cl.lookup x=some c:=λk e hk=>by
    obtain⟨k',e',z⟩:=iD e
    have hk':k'= .cell\/k'= .free:=z.elim (λz=>z▸hk) .inr
    rcases hk' with q | q
    ·exact c4 x (.inl (q▸iX e'))
    ·exact c4 x (.inr (cl02 x (q▸iX e')))
   rcases hx with hx | hx
   ·exact key _ hx (.inl rfl)
   ·exact key _ hx (.inr rfl)
  ·obtain⟨o,eo,_⟩:=T.obj _ _ st3 b hb
   show b≠C
   exact below b o eo
  ·have z':b∈fp:=z
   obtain⟨_,_,_,z1,_⟩:=f3 b z';rcases z1 with z1 | z1
   ·exact I3.ok.noex b o e z1
   ·exact absurd (LC (Lw (I3.ok.bs b o e).1) z1) (LV _)
  ·unfold eJ at e2
   rw[LI]at e2
   cases q:src[j]? with
   | none=>rw[q]at e2;simp at e2
   | some o=>
    rw[q]at e2
    cases o with
    | none=>simp at e2
    | some i=>
     have e2':(σ[i]?).join=some v:=by simpa using e2
     have e2'':σ[i]? =some (some v):=by
      cases q2:σ[i]? with
      | none=>rw[q2]at e2';simp at e2'
      | some z=>rw[q2]at e2';simp at e2';rw[e2']
     obtain⟨hN,hfree⟩:=S.from_ j i x q e1
     have hm:=iX hfree
     have hk:=S.free x hm;obtain⟨m,hn,hl⟩:=I3.loc
     have hv:oo X.env.scope x:=by
      rcases hk with z | z
      ·exact .inr (.inl z)
      ·exact .inr (.inr z)
     obtain⟨u,r,l⟩:=hl i x v hN e2'' hv;refine⟨u,r,.inr ⟨?_,?_⟩⟩
     ·exact g7 hfree
     ·rcases l with⟨z,_⟩ | ⟨_,c,ec,ic⟩
      ·rcases hk with z' | z' <;> rw[z']at z <;> cases z
      ·obtain⟨c',ec0⟩:=cl02 x hm
       have ec':cl.lookup x=some c':=(c3 x λz=>by have:=S.cel _ z rfl;rw[hfree]at this;cases this).trans ec0
       have:=cl01 x c' ec0;rw[ec]at this;cases this;obtain⟨o,ho,hd⟩:=ic;exact⟨c,ec',o,old _ _ ho,hd⟩
  ·rcases cl1 x c e with z | z
   ·obtain⟨v,o,ho,hd⟩:=I3.cell x c z
    exact⟨v,o,old _ _ ho,hd⟩
   ·exact⟨none,z.2⟩
  ·obtain⟨e,n,ne,nf,d⟩:=I3.pin p hp
   exact⟨old _ _ e,n,below _ _ e,stk _ ne nf,d⟩
  ·show(eJ src σ).length=N'.length
   unfold eJ;rw[Ln];exact S.len
 obtain⟨bG,bI,bE⟩:=block cl C s3 H3 fp
 have stat:∀{H':Hp},(∀b∈fp,H' b=none)->∀b∈fp,ou (cy X scope cl N' C s3 H3 fp) pins H' b:=λhn b hb=>by
  obtain⟨o,eo,_⟩:=T.obj _ _ st3 b hb;exact⟨hn b hb,below b o eo,stk b (f3 b hb).2.1 (f3 b hb).2.2.1,.inl hb,apart b hb,(f3 b hb).2.2.2.2.2⟩
 have st4:tn 0 h₁:=T.keep _ _ _ st3 λb hb o e=>old b o e
 -- behind the block
 have after:∀(H':Hp) (s':Lj) (σ':St),Inv (cy X scope cl N' C s3 H3 fp) pins σ' H' s'->Q (.ref D) H' →
   compPost (model X.prog X.w) X.A X.xe use Qf (.ref D) C (.ok .next) s':=λH' s' σ' I' q=>by
  obtain⟨m,hn,_⟩:=id I'.loc
  have fC:X.s₀.heap.objs.size<=C:=by rw[<-hC];exact I3.sz
  have ltC:∀b o,s3.heap.get? b=some o->b<C:=λb o e=>by rw[<-hC];exact Lw e
  refine hend D C H' s' ⟨m,hn⟩ (λh' hsb=> ?_) ⟨I'.free,?_,fC,λx c e z=> ?_,λp hp z=> ?_⟩ q
  rotate_left
  ·have:=I3.lt;rw[hC]at this;exact Pc this
  ·obtain⟨v,ic⟩:=I3.cell x c e
   have:=ic.lt;rw[hC,z]at this;exact LV _ this
  ·have:=ltC _ _ (I3.pin p hp).1;rw[z]at this;exact LV _ this
  have u:Un (nN X.stack) fp H3 H' s3.heap s'.heap:=I'.base
  have lift:∀b o,s3.heap.get? b=some o->∀o',s'.heap.get? b=some o'->h'.get? b=some o':=λb o e o' e'=>hsb.extBut b o' (below b o e) e'
  have u':Un (nN X.stack) fp H3 H' s3.heap h':=
   ⟨λb o e n hb hx=>lift b o e o (u.keep b o e n hb hx),λb o e n hb hx=>by
     obtain⟨sl,z⟩:=u.slot b o e n hb hx;exact⟨sl,lift b o e _ z⟩,u.free,λb o e hx=>by
     obtain⟨o',z⟩:=u.there b o e hx;exact⟨o',lift b o e _ z⟩,u.tups,u.frzs,u.tbls⟩
  have hCn:H' C=none:=I'.free
  have hok':HOk X.prog X.w H' h':=λb ob e=>by
   refine(I'.hok b ob e).Ki (λc w' hc' q'=>(hsb.2 c ?_).trans q') (λ_ q=>q) λ_ _ q=>q
   rintro rfl
   rcases hc' with rfl | hc'
   ·rw[hCn]at e;cases e
   ·rw[hCn]at hc';cases hc'
  have I5:Inv X pins σ H' { s' with heap:=h' }:=I3.Kq (s':={ s' with heap:=h' }) (ch:=fp) I'.os u' hok' I'.bare λb hb=>⟨(f3 b hb).2.2.2.1,(f3 b hb).2.1,(f3 b hb).2.2.2.2.1,(f3 b hb).2.2.2.2.2⟩
  exact I5
 have loop:codeAny (model X.prog X.w) X.A (.compLoop (.ListComp elt [⟨tg,iter,ifs,0⟩] scope pos) 0 (.ref it) (.ref D) (compEnvC scope cl C X.env))
   (compPost (model X.prog X.w) X.A X.xe use Qf (.ref D) C) { s3 with heap:=h₁ }:=by
  refine se (λn s'=> ∃i σ' ys H',Inv (cy X scope cl N' C s3 H3 fp) pins σ' H' s'/\tn i s'.heap/\(∀b∈fp,H' b=none)/\W i n σ' ys H') ?_ m0 ⟨0,_,[],H3,I4,st4,fr3,w0⟩
  rintro n s5 ⟨i,σ5,ys,H5,I5,st5,fr5,w5⟩
  obtain⟨hDl,alt⟩:=turn i n σ5 ys H5 w5;rcases alt with⟨stop,qn⟩ | ⟨go,hlen,step⟩
  ·refine bR (T.done (cy X scope cl N' C s3 H3 fp) rfl rfl rfl hc i pins s5 σ5 H5 _ I5 (stat fr5) st5 stop) λr s6 ⟨hr,I6⟩=> ?_
   subst hr;exact after H5 s6 σ5 I6 qn
  ·refine bR (T.item (cy X scope cl N' C s3 H3 fp) rfl rfl rfl hc i pins s5 σ5 H5 _ I5 (stat fr5) st5 go) λr s6 ⟨u,hr,h6⟩=> ?_
   subst hr;refine bR h6 λ_ s7 hh_=> ?_
   obtain⟨x,H7,I7,r7,y7,st7,fr7⟩:=hh_
   have I7':=I7.pinned (stat fr7) (T.obj _ _ st7);refine bR (bG _ s7 σ5 H7 x u _ I7' r7 (step x H7 y7)) λ_ s8 hh_=> ?_
   obtain⟨σ8,H8,I8,q8⟩:=hh_;refine bR (bI _ s8 σ8 H8 _ I8 q8) λok s9 hh_=> ?_
   obtain⟨H9,I9,q9⟩:=hh_
   have again:∀{σx:St} {Hx:Hp} {sx:Lj} {ys':List V},Inv (cy X scope cl N' C s3 H3 fp) (pins++mU fp s7.heap) σx Hx sx->(∃m',m'<n/\W (i+1) m' σx ys' Hx) →
     ∃m,m<n/\∃i σ' ys H',Inv (cy X scope cl N' C s3 H3 fp) pins σ' H' sx/\tn i sx.heap/\(∀b∈fp,H' b=none)/\W i m σ' ys H':=λ{σx Hx sx ys'} Ix nx=>by
    obtain⟨m',hm,wx⟩:=nx;refine⟨m',hm,i+1,σx,ys',Hx,Ix.Kc,T.keep _ _ _ st7 λb hb o e=>(Ix.pin (b,o) (LF _ (LF _ (gJ hb e)))).1,λb hb=> ?_,wx⟩
    obtain⟨o,e,d⟩:=T.obj _ _ st7 b hb;exact(Ix.pin (b,o) (LF _ (LF _ (gJ hb e)))).2.1
   cases ok with
   | false=>
    rw[if_neg LM]at q9 ⊢
    exact again I9 q9
   | true=>
    rw[if_pos rfl]at q9 ⊢;refine bR (bE _ s9 σ8 H9 _ I9 q9) λv s10 hh_=> ?_
    obtain⟨y,H10,I10,r10,hD10,q10⟩:=hh_;refine bR (kU _ s10 σ8 H10 (.ref D) [y] (.ref D) [v] (λ_ H'=>H'=upd H10 D (.lst (ys++ [y]))) I10 rfl (.cons r10 .nil) ⟨D,ys,y,rfl,rfl,hD10,hlen,rfl⟩) λ_ s11 hh_=> ?_
    obtain⟨_,H11,I11,_,e11⟩:=hh_;subst e11;exact again I11 q10
 exact codeAny_compStart_list loop (T.self _ 0 _ _ _ st4 loop)
theorem zT {elt tg iter:Expr}{ifs:List Expr}{scope:OI}{pos:Pos}{N':List Str}{src:List (Option Nat)}{wi:TI}{g:TG}{tc:TT}{te:TE}
  (hc:X.calm=true) (S:LcScope X scope N' src) (hi:PI X tg iter wi)
  (block:∀cl C s₀ H₀ fp,PG (cy X scope cl N' C s₀ H₀ fp) tg g/\B5 (cy X scope cl N' C s₀ H₀ fp) ifs tc/\PE (cy X scope cl N' C s₀ H₀ fp) elt te)
  (hs:autoParam (∀x,Mv iter X.env x=pure x) aqc._auto_1) :
  PE X (.ListComp elt [⟨tg,iter,ifs,0⟩] scope pos) (HS X.K wi src g tc te):=by
 intro pins s σ H Q I h;rw[eval_ListComp];exact wY (use:=none) hc S hi block hs I h λD C H' s' ⟨m,hn⟩ inv _ q=>⟨m,hn,λh' hsb=>⟨.ref D,H',inv h' hsb,rfl,q⟩⟩
theorem IH {elt tg iter:Expr}{ifs:List Expr}{scope:OI}{pos py spos:Pos}{N':List Str}{src:List (Option Nat)}{wi:TI}{g:TG}{tc:TT}{te:TE}{i:Nat}{y:Str}
  (hc:X.calm=true) (S:LcScope X scope N' src) (hi:PI X tg iter wi)
  (block:∀cl C s₀ H₀ fp,PG (cy X scope cl N' C s₀ H₀ fp) tg g/\B5 (cy X scope cl N' C s₀ H₀ fp) ifs tc/\PE (cy X scope cl N' C s₀ H₀ fp) elt te)
  (hN:X.N.Nodup) (hiy:X.N[i]? =some y) (hy:Loc X.env.scope y) (hsw:Me (.ListComp elt [⟨tg,iter,ifs,0⟩] scope pos) (some (.Name y py)) spos.line X.env=pure true)
  (hf:X.fn y=true\/X.env.scope.names.lookup y=some .local) (hs:autoParam (∀x,Mv iter X.env x=pure x) aqc._auto_1) :
  PS X (.Assign [.Name y py] (.ListComp elt [⟨tg,iter,ifs,0⟩] scope pos) spos) (Cp (HS X.K wi src g tc te) (A8 i)):=by
 intro pins s σ H D I h;rw[exec_Assign_Name_used _ _ _ _ hsw];refine Li (wpAny_standAt (Li ?_))
 show wpAny (model X.prog X.w) X.A (do let _ <-comprehension (.ListComp elt [⟨tg,iter,ifs,0⟩] scope pos) scope X.env _ (newList []) false (eval iter X.env) (some (assign (.Name y py) X.env))) _ _ s
 refine Li (bR (wY (use:=some (assign (.Name y py) X.env)) (Qf:=λ_ s'=>SP X pins D .next s') (Q:=λv H'=>D.nx (σ.set i (some v)) H') hc S hi block hs I h λL C H' s' ⟨m,hn⟩ inv ⟨c0,c1,c2,c3,c4⟩ q=> ?_) λ_ s' hq=>Lr (Lr hq))
 have I0:Inv X pins σ H' s':=inv s'.heap (Heap.SameBut.refl ..)
 show wpAny (model X.prog X.w) X.A (assign (.Name y py) X.env (.ref L)) _ _ s'
 refine Rp (pz I0 hN hiy hy (v:=.ref L) rfl (λs2 I2 ⟨b,sb,hb⟩=> ?_) hf)
 have hbC:C≠b:=by
  rcases hb with z | z
  ·rw[z];exact c1
  ·exact λw=>c3 y b z w.symm
 refine⟨m,hn.sameBut sb hbC,λh' hsb=> ?_⟩
 exact⟨_,H',I2.turned (t':=s2.toks) (λb' o hb' e=>(hsb.2 b' hb').trans e) c0 c1 (.inr c2) c3 c4,q⟩
end
end L2
namespace Tr
open PySem PySem.Spec PyProof.Rows L2
def bK (K:Ld)(c:Str):Addr:=match N3 K LX c with
 | some (some (.ref C))=>C
 | _=>0
def ER:T->Option Key
 | .int i=>some (.inl i)
 | .str x=>some (.inr x)
 | _=>none
def nH:List T->Option (List Key)
 | [] =>some []
 | t::l=>match ER t,nH l with
  | some k,some r=>some (k::r)
  | _,_=>none
def keyOf:T->Option (List Key)
 | .tup l=>nH l
 | _=>none
inductive Rs (α:Type) where
 | ok (a:α) | err (c:Str) | bad
def Rs.bind {α β:Type}(x:Rs α)(f:α->Rs β):Rs β:=match x with
 | .ok a=>f a
 | .err c=> .err c
 | .bad=> .bad
instance:Monad Rs where
 pure:=Rs.ok
 bind:=Rs.bind
@[simp] theorem az {α β:Type} (a:α) (f:α->Rs β):(Rs.ok a >>= f)=f a:=rfl
@[simp] theorem JZ {α:Type} (a:α):(pure a:Rs α)=Rs.ok a:=rfl
@[simp] theorem JQ {α β:Type} (f:α->Rs β):((Rs.bad:Rs α) >>= f)= .bad:=rfl
@[simp] theorem JJ {α β:Type} (c:Str) (f:α->Rs β):((Rs.err c:Rs α) >>= f)= .err c:=rfl
abbrev Ow:=Addr->Prop
mutual
def Rep (K:Ld)(O:Ow)(H:Hp):T->V->Prop
 | .non,v=>v= .non
 | .bl b,v=>v= .bl b
 | .int i,v=>v= .int i
 | .str x,v=>v= .str x
 | .tup l,v=> ∃a vs,v= .ref a/\¬ O a/\H a=some (.tup vs)/\Reps K O H l vs
 | .lst l,v=> ∃a vs,v= .ref a/\¬ O a/\H a=some (.lst vs)/\Reps K O H l vs
 | .scr l,v=> ∃a,v= .ref a/\¬ O a/\SqL K H a (l.map V.int)
 | .dct ks ts,v=> ∃a kvs,v= .ref a/\¬ O a/\Rd H a (.dT kvs)/\ks.map keyOf=kvs.map (λp=>some p.1)/\Reps K O H ts (kvs.map (·.2))
 | .ob C ns ts,v=> ∃a dx fs,v= .ref a/\¬ O a/\H a=some (.ins (bK K C) dx fs)/\fs.map (·.1)=ns/\Reps K O H ts (fs.map (·.2))
def Reps (K:Ld)(O:Ow)(H:Hp):List T->List V->Prop
 | [],vs=>vs= []
 | t::r,vs=> ∃v ws,vs=v::ws/\Rep K O H t v/\Reps K O H r ws
end
def SameO (P:Ow)(H H':Hp):Prop:=∀b o,H b=some o->¬ P b->H' b=some o
theorem SameO.of {P:Ow}{H H':Hp}(h:Same H H'):SameO P H H':=λb o e _=>h b o e
theorem Rd.KB {P:Ow}{H H':Hp}{a:Addr}{u:HO}(h:SameO P H H')(n:¬ P a)(q:Rd H a u):Rd H' a u:=q.elim (λe=> .inl (h _ _ e n)) λ⟨o,e⟩=> .inr ⟨o,h _ _ e n⟩
theorem SqL.keep {K:Ld}{P:Ow}{H H':Hp}{a:Addr}{vs:List V}(h:SameO P H H')(n:¬ P a)(q:SqL K H a vs):SqL K H' a vs:=by
 rcases q with(q | ⟨o,q⟩) | q
 ·exact .inl (.inl (h _ _ q n))
 ·exact .inl (.inr ⟨o,h _ _ q n⟩)
 ·exact .inr q
mutual
theorem Rep.keep {K:Ld}{O P:Ow}{H H':Hp}(h:SameO P H H')(sub:∀a,P a->O a):∀{t:T} {v:V},Rep K O H t v->Rep K O H' t v
 | .non,_,r=>by unfold Rep at r ⊢;exact r
 | .bl _,_,r=>by unfold Rep at r ⊢;exact r
 | .int _,_,r=>by unfold Rep at r ⊢;exact r
 | .str _,_,r=>by unfold Rep at r ⊢;exact r
 | .tup l,_,r=>by
  unfold Rep at r ⊢;obtain⟨a,vs,e,n,q,z⟩:=r
  exact⟨a,vs,e,n,h _ _ q (λp=>n (sub a p)),Reps.keep h sub z⟩
 | .lst l,_,r=>by
  unfold Rep at r ⊢;obtain⟨a,vs,e,n,q,z⟩:=r
  exact⟨a,vs,e,n,h _ _ q (λp=>n (sub a p)),Reps.keep h sub z⟩
 | .scr l,_,r=>by
  unfold Rep at r ⊢;obtain⟨a,e,n,q⟩:=r
  exact⟨a,e,n,SqL.keep h (λp=>n (sub a p)) q⟩
 | .dct ks ts,_,r=>by
  unfold Rep at r ⊢;obtain⟨a,kvs,e,n,q,k,z⟩:=r
  exact⟨a,kvs,e,n,Rd.KB h (λp=>n (sub a p)) q,k,Reps.keep h sub z⟩
 | .ob C ns ts,_,r=>by
  unfold Rep at r ⊢;obtain⟨a,dx,fs,e,n,q,k,z⟩:=r;exact⟨a,dx,fs,e,n,h _ _ q (λp=>n (sub a p)),k,Reps.keep h sub z⟩
theorem Reps.keep {K:Ld}{O P:Ow}{H H':Hp}(h:SameO P H H')(sub:∀a,P a->O a):∀{l:List T} {vs:List V},Reps K O H l vs->Reps K O H' l vs
 | [],_,r=>by unfold Reps at r ⊢;exact r
 | t::l,_,r=>by
  unfold Reps at r ⊢;obtain⟨v,ws,e,p,q⟩:=r;exact⟨v,ws,e,Rep.keep h sub p,Reps.keep h sub q⟩
end
mutual
theorem Rep.less {K:Ld}{O O':Ow}{H:Hp}(sub:∀a,O' a->O a):∀{t:T} {v:V},Rep K O H t v->Rep K O' H t v
 | .non,_,r=>by unfold Rep at r ⊢;exact r
 | .bl _,_,r=>by unfold Rep at r ⊢;exact r
 | .int _,_,r=>by unfold Rep at r ⊢;exact r
 | .str _,_,r=>by unfold Rep at r ⊢;exact r
 | .tup l,_,r=>by
  unfold Rep at r ⊢;obtain⟨a,vs,e,n,q,z⟩:=r
  exact⟨a,vs,e,λp=>n (sub a p),q,Reps.less sub z⟩
 | .lst l,_,r=>by
  unfold Rep at r ⊢;obtain⟨a,vs,e,n,q,z⟩:=r
  exact⟨a,vs,e,λp=>n (sub a p),q,Reps.less sub z⟩
 | .scr l,_,r=>by
  unfold Rep at r ⊢;obtain⟨a,e,n,z⟩:=r
  exact⟨a,e,λp=>n (sub a p),z⟩
 | .dct ks ts,_,r=>by
  unfold Rep at r ⊢;obtain⟨a,kvs,e,n,q,k,z⟩:=r
  exact⟨a,kvs,e,λp=>n (sub a p),q,k,Reps.less sub z⟩
 | .ob C ns ts,_,r=>by
  unfold Rep at r ⊢;obtain⟨a,dx,fs,e,n,q,k,z⟩:=r;exact⟨a,dx,fs,e,λp=>n (sub a p),q,k,Reps.less sub z⟩
theorem Reps.less {K:Ld}{O O':Ow}{H:Hp}(sub:∀a,O' a->O a):∀{l:List T} {vs:List V},Reps K O H l vs->Reps K O' H l vs
 | [],_,r=>by unfold Reps at r ⊢;exact r
 | t::l,_,r=>by
  unfold Reps at r ⊢;obtain⟨v,ws,e,p,q⟩:=r;exact⟨v,ws,e,Rep.less sub p,Reps.less sub q⟩
end
section
variable {K:Ld}{O:Ow}{H H':Hp}{t:T}{v:V}{l:List T}{vs:List V}
theorem Rep.same (h:Same H H')(r:Rep K O H t v):Rep K O H' t v:=Rep.keep (P:=λ_=>False) (SameO.of h) (λ_ z=>z.elim) r
theorem Reps.same (h:Same H H')(r:Reps K O H l vs):Reps K O H' l vs:=Reps.keep (P:=λ_=>False) (SameO.of h) (λ_ z=>z.elim) r
theorem Rep.Kx:Rep K O H .non .non:=by unfold Rep;rfl
theorem Rep.bl_ (b:Bool):Rep K O H (.bl b) (.bl b):=by unfold Rep;rfl
theorem Rep.GT (i:Int):Rep K O H (.int i) (.int i):=by unfold Rep;rfl
theorem Rep.K5 (x:Str):Rep K O H (.str x) (.str x):=by unfold Rep;rfl
theorem Rep.Fk:Rep K O H (.tup l) v↔ ∃a vs,v= .ref a/\¬ O a/\H a=some (.tup vs)/\Reps K O H l vs:=by unfold Rep;exact Oo
theorem Rep.Do:Rep K O H (.lst l) v↔ ∃a vs,v= .ref a/\¬ O a/\H a=some (.lst vs)/\Reps K O H l vs:=by unfold Rep;exact Oo
theorem Rep.GM {ks ts:List T}:Rep K O H (.dct ks ts) v↔ ∃a kvs,v= .ref a/\¬ O a/\Rd H a (.dT kvs)/\ks.map keyOf=kvs.map (λp=>some p.1)/\Reps K O H ts (kvs.map (·.2)):=by unfold Rep;exact Oo
theorem Rep.Km {C:Str}{ns:List Str}{ts:List T}:Rep K O H (.ob C ns ts) v↔ ∃a dx fs,v= .ref a/\¬ O a/\H a=some (.ins (bK K C) dx fs)/\fs.map (·.1)=ns/\Reps K O H ts (fs.map (·.2)):=by unfold Rep;exact Oo
theorem Rep.Da {i:Int}:Rep K O H (.int i) v↔v= .int i:=by unfold Rep;exact Oo
theorem Rep.FM {b:Bool}:Rep K O H (.bl b) v↔v= .bl b:=by unfold Rep;exact Oo
theorem Rep.GE {b:Str}:Rep K O H (.str b) v↔v= .str b:=by unfold Rep;exact Oo
theorem Rep.Ka:Rep K O H .non v↔v= .non:=by unfold Rep;exact Oo
theorem Reps.Gc:Reps K O H [] []:=by unfold Reps;rfl
theorem Reps.FS (r:Rep K O H t v)(q:Reps K O H l vs):Reps K O H (t::l) (v::vs):=by unfold Reps;exact⟨v,vs,rfl,r,q⟩
theorem Reps.AC:Reps K O H [] vs↔vs= []:=by unfold Reps;exact Oo
theorem Reps.me:Reps K O H (t::l) vs↔ ∃v ws,vs=v::ws/\Rep K O H t v/\Reps K O H l ws:=by
 constructor
 ·intro h;unfold Reps at h;exact h
 ·intro h;unfold Reps;exact h
end
section
variable {K:Ld}{O:Ow}{H H':Hp}
theorem Reps.length:∀{l:List T} {vs:List V},Reps K O H l vs->l.length=vs.length
 | [],vs,r=>by rw[Reps.AC.mp r];rfl
 | t::l,vs,r=>by
  obtain⟨v,ws,rfl,_,q⟩:=Reps.me.mp r;simp[q.length]
theorem Reps.get:∀{l:List T} {vs:List V} {i:Nat} {t:T},Reps K O H l vs->l[i]? =some t->∃v,vs[i]? =some v/\Rep K O H t v
 | [],_,_,_,_,e=>by simp at e
 | t::l,vs,i,u,r,e=>by
  obtain⟨v,ws,rfl,p,q⟩:=Reps.me.mp r
  cases i with
  | zero=>simp at e;subst e;exact⟨v,rfl,p⟩
  | succ i=>
   obtain⟨z,e1,e2⟩:=q.get (i:=i) (t:=u) (by simpa using e)
   exact⟨z,by simpa using e1,e2⟩
theorem Reps.append:∀{l m:List T} {vs ws:List V},Reps K O H l vs->Reps K O H m ws->Reps K O H (l++m) (vs++ws)
 | [],_,vs,_,r,s=>by rw[Reps.AC.mp r];exact s
 | t::l,m,vs,ws,r,s=>by
  obtain⟨v,us,rfl,p,q⟩:=Reps.me.mp r;exact Reps.FS p (q.append s)
theorem Reps.take:∀{l:List T} {vs:List V} (n:Nat),Reps K O H l vs->Reps K O H (l.take n) (vs.take n)
 | _,_,0,_=>Reps.Gc
 | [],vs,n+1,r=>by rw[Reps.AC.mp r];exact Reps.Gc
 | t::l,vs,n+1,r=>by
  obtain⟨v,us,rfl,p,q⟩:=Reps.me.mp r;exact Reps.FS p (q.take n)
theorem Reps.drop:∀{l:List T} {vs:List V} (n:Nat),Reps K O H l vs->Reps K O H (l.drop n) (vs.drop n)
 | _,_,0,r=>r
 | [],vs,n+1,r=>by rw[Reps.AC.mp r];exact Reps.Gc
 | t::l,vs,n+1,r=>by
  obtain⟨v,us,rfl,p,q⟩:=Reps.me.mp r;exact q.drop n
theorem Reps.ints:∀{ns:List Int},Reps K O H (ns.map T.int) (ns.map V.int)
 | [] =>Reps.Gc
 | n::r=>Reps.FS (Rep.GT n) Reps.ints
end
def RowsR (K:Ld)(O:Ow)(H:Hp):List (List T×List T)->List Addr->Prop
 | [],as=>as= []
 | r::rs,as=> ∃b bs kvs,as=b::bs/\H b=some (.dT kvs)/\r.1.map keyOf=kvs.map (λp=>some p.1)/\Reps K O H r.2 (kvs.map (·.2))/\RowsR K O H rs bs
def LsR (K:Ld)(O:Ow)(H:Hp):List (List T)->List Addr->Prop
 | [],as=>as= []
 | l::ls,as=> ∃b bs vs,as=b::bs/\H b=some (.lst vs)/\Reps K O H l vs/\LsR K O H ls bs
def ORep (K:Ld)(O M:Ow)(H:Hp):OT->V->Prop
 | .lst l,v=> ∃a vs,v= .ref a/\(∀b,M b↔b=a)/\H a=some (.lst vs)/\Reps K O H l vs
 | .dct ks ts,v=> ∃a kvs,v= .ref a/\(∀b,M b↔b=a)/\H a=some (.dT kvs)/\ks.map keyOf=kvs.map (λp=>some p.1)/\Reps K O H ts (kvs.map (·.2))
 | .dd ks rows,v=> ∃a kvs as,v= .ref a/\(∀b,M b↔b=a\/b∈as)/\a∉as/\as.Nodup/\H a=some (.dT kvs)/\ks.map keyOf=kvs.map (λp=>some p.1)/\kvs.map (·.2)=as.map V.ref/\RowsR K O H rows as
 | .ob C ns ls,v=> ∃a dx as,v= .ref a/\(∀b,M b↔b=a\/b=dx\/b∈as)/\(a∉as/\dx∉as/\dx≠a/\as.Nodup)/\H a=some (.ins (bK K C) dx (ns.zip (as.map V.ref)))/\H dx=some (.own a)/\ns.length=as.length/\ns.Nodup/\LsR K O H ls as
inductive Sl where
 | em | va (t:T) | ow (o:OT)
abbrev En:=List Sl
abbrev Mn:=Nat->Ow
def Mn.u (M:Mn):Ow:=λa=> ∃i,M i a
def isO:HO->Bool
 | .ins _ _ _=>true
 | .own _=>true
 | _=>false
def Mtb (H:Hp)(a:Addr):Prop:=(∃vs,H a=some (.lst vs))\/(∃kvs,H a=some (.dT kvs))\/∃o,H a=some o/\isO o=true
theorem Mtb.some {H:Hp}{a:Addr}(h:Mtb H a):∃o,H a=some o:=by
 rcases h with⟨_,e⟩ | ⟨_,e⟩ | ⟨_,e,_⟩ <;> exact⟨_,e⟩
theorem Mtb.at {H H':Hp}{a:Addr}(s:∀o,H a=Md o->H' a=Md o)(h:Mtb H a):Mtb H' a:=by
 rcases h with⟨vs,e⟩ | ⟨k,e⟩ | ⟨o,e,q⟩
 ·exact .inl ⟨vs,s _ e⟩
 ·exact .inr (.inl ⟨k,s _ e⟩)
 ·exact .inr (.inr ⟨o,s _ e,q⟩)
theorem Mtb.same {H H':Hp}(s:Same H H'){a:Addr}(h:Mtb H a):Mtb H' a:=h.at λo e=>s a o e
structure EnvM (K:Ld)(O:Ow)(M:Mn)(H:Hp)(Z:En)(σ:L2.St):Prop where
 len:Z.length=σ.length
 val:∀(i:Nat) (t:T),Z[i]? =some (.va t)->∃v,σ[i]? =some (some v)/\Rep K O H t v
 own:∀(i:Nat) (o:OT),Z[i]? =some (.ow o)->∃v,σ[i]? =some (some v)/\ORep K O (M i) H o v
 sub:∀(i:Nat) (a:Addr),M i a->O a
 dis:∀(i j:Nat) (a:Addr),M i a->M j a->i=j
 trk:∀(a:Addr),O a->Mtb H a
theorem RowsR.same {K:Ld}{O:Ow}{H H':Hp}(h:Same H H'):∀{rs:List (List T×List T)} {as:List Addr},RowsR K O H rs as->RowsR K O H' rs as
 | [],_,r=>r
 | _::_,_,⟨b,bs,kvs,e1,e2,e3,e4,e5⟩=>⟨b,bs,kvs,e1,h _ _ e2,e3,e4.same h,e5.same h⟩
theorem LsR.same {K:Ld}{O:Ow}{H H':Hp}(h:Same H H'):∀{ls:List (List T)} {as:List Addr},LsR K O H ls as->LsR K O H' ls as
 | [],_,r=>r
 | _::_,_,⟨b,bs,vs,e1,e2,e3,e4⟩=>⟨b,bs,vs,e1,h _ _ e2,e3.same h,e4.same h⟩
theorem ORep.same {K:Ld}{O M:Ow}{H H':Hp}(h:Same H H'){o:OT}{v:V}(r:ORep K O M H o v):ORep K O M H' o v:=by
 cases o with
 | lst l=>obtain⟨a,vs,e1,e2,e3,e4⟩:=r;exact⟨a,vs,e1,e2,h _ _ e3,e4.same h⟩
 | dct ks ts=>obtain⟨a,kvs,e1,e2,e3,e4,e5⟩:=r;exact⟨a,kvs,e1,e2,h _ _ e3,e4,e5.same h⟩
 | dd ks rows=>obtain⟨a,kvs,as,e1,e2,e3,e4,e5,e6,e7,e8⟩:=r;exact⟨a,kvs,as,e1,e2,e3,e4,h _ _ e5,e6,e7,e8.same h⟩
 | ob C ns ls=>obtain⟨a,dx,as,e1,e2,e3,e4,e5,e6,e7,e8⟩:=r;exact⟨a,dx,as,e1,e2,e3,h _ _ e4,h _ _ e5,e6,e7,e8.same h⟩
theorem EnvM.same {K:Ld}{O:Ow}{M:Mn}{H H':Hp}{Z:En}{σ:L2.St}(h:Same H H')(e:EnvM K O M H Z σ):EnvM K O M H' Z σ where
 len:=e.len
 val:=λi t q=>let ⟨v,e1,e2⟩:=e.val i t q;⟨v,e1,e2.same h⟩
 own:=λi o q=>let ⟨v,e1,e2⟩:=e.own i o q;⟨v,e1,e2.same h⟩
 sub:=e.sub
 dis:=e.dis
 trk:=λa q=>(e.trk a q).same h
def EnvO (K:Ld)(O:Ow)(H:Hp)(Z:En)(σ:L2.St):Prop:=∃M,EnvM K O M H Z σ
section
variable {K:Ld}{O:Ow}{H H':Hp}{Z:En}{σ:L2.St}
theorem EnvO.val (e:EnvO K O H Z σ)(i:Nat)(t:T)(q:Z[i]? =some (.va t)):∃v,σ[i]? =some (some v)/\Rep K O H t v:=e.elim λ_ e=>e.val i t q
theorem EnvO.mtb (e:EnvO K O H Z σ):∀a,O a->Mtb H a:=e.elim λ_ e=>e.trk
theorem EnvO.trk (e:EnvO K O H Z σ)(a:Addr)(z:O a):∃o,H a=some o:=(e.mtb a z).some
theorem EnvO.same (h:Same H H')(e:EnvO K O H Z σ):EnvO K O H' Z σ:=e.elim λM e=>⟨M,e.same h⟩
theorem EnvO.fresh (e:EnvO K O H Z σ){p:Addr}(h:H p=none):¬ O p:=λz=>by
 obtain⟨o,q⟩:=e.trk p z;rw[h]at q;cases q
end
def JU (h:Heap)(C e:Addr):Option Addr->Prop
 | none=> ∃oe vs,h.get? e=some oe/\oe.cls= .ref C/\oe.data= .fields vs/\vs[1]? =some .none
 | some T=>T≠e/\∃oe vs,h.get? e=some oe/\oe.cls= .ref C/\oe.data= .fields vs/\vs[1]? =some (.ref T)/\∃oT ts,h.get? T=some oT/\oT.data= .fields ts/\ts[3]? =some .none
def RzP (X:Cx)(pins:List (Addr×Obj))(P:Ow)(H:Hp)(c:Str)(ev:Lh)(s':Lj):Prop:=
 ∃e T C σ' H',ev= .ref e/\X.mg c=some (.ref C)/\Inv X pins σ' H' s'/\SameO P H H'/\H' e=none/\(X.ex= []->X.s₀.heap.get? e=none)/\JU s'.heap C e T/\(∀t,T=some t->H' t=none/\(X.ex= []->X.s₀.heap.get? t=none))/\∀p∈X.pn++pins,p.1≠e/\T≠some p.1
def Nw (K:Ld)(H:Hp):Ow:=λa=>H a=none/\K.lookup a=none
theorem eG {K:Ld}{P:Ow}{H H1:Hp}(h:SameO P H H1){a:Addr}(n:Nw K H1 a):P a\/Nw K H a:=by
 by_cases hp:P a
 ·exact .inl hp
 ·refine .inr ⟨?_,n.2⟩
  cases q:H a with
  | none=>rfl
  | some o=>have:=h a o q hp;rw[n.1]at this;cases this
theorem SameO.trans {K:Ld}{P P1:Ow}{H H1 H2:Hp}(h:SameO P H H1)(h1:SameO P1 H1 H2)(sub:∀a,P1 a->P a\/Nw K H a):SameO P H H2:=λb o e n=>
 h1 b o (h b o e n) λz=>(sub b z).elim n λw=>by rw[w.1]at e;cases e
def XA (X:Cx)(P:Ow)(H:Hp)(c:Str):Prop:=∀pins ev s',RzP X pins P H c ev s'->X.xe ev s'
theorem XA.later {X:Cx}{P P1:Ow}{H H1:Hp}{c:Str}(h:XA X P H c)(s:SameO P H H1)(sub:∀a,P1 a->P a\/Nw X.K H a):XA X P1 H1 c:=λpins ev s' ⟨e,T,C,σ',H',a1,a2,a3,a4,a5⟩=>
 h pins ev s' ⟨e,T,C,σ',H',a1,a2,a3,s.trans a4 sub,a5⟩
abbrev kB:Ow:=λ_=>False
def Post {α:Type}(X:Cx)(H:Hp)(r:Rs α)(k:α->Hp->Prop):Prop:=match r with
 | .ok t=> ∀H',Same H H'->k t H'
 | .err c=>XA X kB H c
 | .bad=>False
theorem Post.mono {α:Type}{X:Cx}{H:Hp}{r:Rs α}{k k':α->Hp->Prop}(h:Post X H r k)(f:∀t H',Same H H'->k t H'->k' t H'):Post X H r k':=by
 cases r with
 | ok t=>exact λH' s=>f t H' s (h H' s)
 | err c=>exact h
 | bad=>exact h
theorem Post.later {α:Type}{X:Cx}{H H1:Hp}{r:Rs α}{k:α->Hp->Prop}(h:Post X H r k)(s:Same H H1):Post X H1 r k:=by
 cases r with
 | ok t=>exact λH' s'=>h H' (s.trans s')
 | err c=>exact XA.later h (SameO.of s) λ_ z=>z.elim
 | bad=>exact h
theorem Post.bind {α β:Type}{X:Cx}{H:Hp}{r:Rs α}{f:α->Rs β}{k:β->Hp->Prop}(h:Post X H (r >>= f) k):Post X H r λt H'=>Post X H' (f t) k:=by
 cases r with
 | ok t=>exact λH' s=>Post.later h s
 | err c=>exact h
 | bad=>exact h
def tP (X:Cx)(f:En->Rs T):TE:=λσ H Q=> ∃Z O,EnvO X.K O H Z σ/\Post X H (f Z) λt H'=> ∀v,Rep X.K O H' t v->Q v H'
def tPA (X:Cx)(f:En->Rs (List T)):TA:=λσ H Q=> ∃Z O,EnvO X.K O H Z σ/\Post X H (f Z) λt H'=> ∀v,Reps X.K O H' t v->Q v H'
def BX (X:Cx)(f:En->Rs Bool):TT:=λσ H Q=> ∃Z O,EnvO X.K O H Z σ/\Post X H (f Z) λb H'=>Q b H'
abbrev b6 (X:Cx)(e:Expr)(f:En->Rs T):Prop:=PE X e (tP X f)
abbrev pd (X:Cx)(e:List Expr)(f:En->Rs (List T)):Prop:=PA X e (tPA X f)
abbrev uC (X:Cx)(e:Expr)(f:En->Rs Bool):Prop:=PT X e (BX X f)
theorem PE.imp {X:Cx}{e:Expr}{t t':TE}(h:PE X e t)(w:∀σ H Q,t' σ H Q->t σ H Q):PE X e t':=λpins s σ H Q I q=>h pins s σ H Q I (w σ H Q q)
theorem PA.imp {X:Cx}{e:List Expr}{t t':TA}(h:PA X e t)(w:∀σ H Q,t' σ H Q->t σ H Q):PA X e t':=λpos pins s σ H Q I q=>h pos pins s σ H Q I (w σ H Q q)
theorem PT.imp {X:Cx}{e:Expr}{t t':TT}(h:PT X e t)(w:∀σ H Q,t' σ H Q->t σ H Q):PT X e t':=λpins s σ H Q I q=>h pins s σ H Q I (w σ H Q q)
theorem PS.imp {X:Cx}{e:Stmt}{t t':TS}(h:PS X e t)(w:∀D σ H,t' D σ H->t D σ H):PS X e t':=λpins s σ H D I q=>h pins s σ H D I (w D σ H q)
theorem PSs.imp {X:Cx}{e:List Stmt}{t t':TS}(h:PSs X e t)(w:∀D σ H,t' D σ H->t D σ H):PSs X e t':=λpins s σ H D I q=>h pins s σ H D I (w D σ H q)
section
variable {X:Cx}
theorem aT {σ:L2.St}{H:Hp}{Z:En}{O:Ow}{α:Type}{f:En->Rs T}{k:T->Rs α}{Q:α->Hp->Prop}(E:EnvO X.K O H Z σ)(h:Post X H (f Z >>= k) Q) :
  tP X f σ H λv H'=> ∃t,Rep X.K O H' t v/\Same H H'/\EnvO X.K O H' Z σ/\Post X H' (k t) Q:=
 ⟨Z,O,E,Post.mono h.bind λt H' s q v r=>⟨t,r,s,E.same s,q⟩⟩
theorem gy {σ:L2.St}{H:Hp}{Z:En}{O:Ow}{α:Type}{f:En->Rs (List T)}{k:List T->Rs α}{Q:α->Hp->Prop}(E:EnvO X.K O H Z σ)(h:Post X H (f Z >>= k) Q) :
  tPA X f σ H λv H'=> ∃t,Reps X.K O H' t v/\Same H H'/\EnvO X.K O H' Z σ/\Post X H' (k t) Q:=
 ⟨Z,O,E,Post.mono h.bind λt H' s q v r=>⟨t,r,s,E.same s,q⟩⟩
theorem jQ {σ:L2.St}{H:Hp}{Z:En}{O:Ow}{α:Type}{f:En->Rs Bool}{k:Bool->Rs α}{Q:α->Hp->Prop}(E:EnvO X.K O H Z σ)(h:Post X H (f Z >>= k) Q) :
  BX X f σ H λb H'=>Same H H'/\EnvO X.K O H' Z σ/\Post X H' (k b) Q:=
 ⟨Z,O,E,Post.mono h.bind λt H' s q=>⟨s,E.same s,q⟩⟩
noncomputable def vr (i:Nat)(Z:En):Rs T:=match Z[i]? with
 | some (.va t)=> .ok t
 | _=> .bad
def cn (t:T)(_:En):Rs T:=.ok t
theorem Im (i:Nat){x:Str}{pos:Pos}(hN:autoParam (X.N[i]? =some x) aqd._auto_1)(hv:autoParam (oo X.env.scope x) aqe._auto_1)(hd:autoParam ((x == ("__debug__" : Str))=false) aqb._auto_1)
  (hcd:autoParam ((x == ("__classdict__" : Str))=false) aqb._auto_1):b6 X (.Name x pos) (vr i):=PE.imp (fY hN hv hd hcd) λσ H Q hh_=>by
 obtain⟨Z,O,E,h⟩:=hh_;unfold vr at h
 split at h
 ·rename_i t e
  obtain⟨v,e1,e2⟩:=E.val i t e;exact⟨v,e1,h H (Same.refl H) v e2⟩
 ·exact h.elim
theorem IA {i j pos}:b6 X (.Constant (.int i) j pos) (cn (.int i)):=PE.imp zU λσ H Q ⟨Z,O,E,h⟩=>h H (Same.refl H) _ (Rep.GT i)
theorem q_bl {i j pos}:b6 X (.Constant (.bool i) j pos) (cn (.bl i)):=PE.imp IK λσ H Q ⟨Z,O,E,h⟩=>h H (Same.refl H) _ (Rep.bl_ i)
theorem Iu {j pos}:b6 X (.Constant .none j pos) (cn .non):=PE.imp Gk λσ H Q ⟨Z,O,E,h⟩=>h H (Same.refl H) _ Rep.Kx
theorem F8 {x:Str}{i:Int}{u:Lh}{pos:Pos}(hm:X.mg x=some u)(r:RelV (.int i) u)(hg:autoParam (Gl X x) aqd._auto_1)(hd:autoParam ((x == ("__debug__" : Str))=false) aqb._auto_1):b6 X (.Name x pos) (cn (.int i)):=
 PE.imp (Dn hg hm r hd) λσ H Q ⟨Z,O,E,h⟩=>h H (Same.refl H) _ (Rep.GT i)
def aj (_:En):Rs (List T):=.ok []
def ae (f:En->Rs T)(g:En->Rs (List T))(Z:En):Rs (List T):=do
 let t <-f Z
 let r <-g Z
 .ok (t::r)
theorem F7:pd X [] aj:=PA.imp kI λσ H Q ⟨Z,O,E,h⟩=>h H (Same.refl H) _ Reps.Gc
theorem CW {e:Expr}{es:List Expr}{f:En->Rs T}{g:En->Rs (List T)}(he:b6 X e f)(hr:pd X es g)(hs:autoParam (LA (e::es) X.env=(false,eval e X.env)::LA es X.env) aqd._auto_1):pd X (e::es) (ae f g):=by
 intro pos pins s σ H Q I h;obtain⟨Z,O,E,h⟩:=h;refine fM he hr hs pos pins s σ H Q I ?_
 obtain⟨Z1,O1,E1,h1⟩:=aT E h;refine⟨Z1,O1,E1,Post.mono h1 λt H' s q v r=> ?_⟩
 obtain⟨t',r',s',E',q'⟩:=q v r;refine⟨Z,O,E',Post.mono q'.bind λts H2 s2 q2 vs rs=> ?_⟩
 exact q2 H2 (Same.refl H2) _ (Reps.FS (r'.same s2) rs)
end
section
variable {X:Cx}
def jq (l:List T):Rs T:=if l.length<=sizeLine then .ok (.tup l)else .bad
def jr (l:List T):Rs T:=if l.length<=sizeLine then .ok (.lst l)else .bad
def bJ (f:En->Rs (List T))(Z:En):Rs T:=f Z >>= jq
def eM (f:En->Rs (List T))(Z:En):Rs T:=f Z >>= jr
theorem aZ {H:Hp}{p:Addr}(h:H p=none)(o:HO):Same H (upd H p o):=λb u q=>by rw[aH (bS q h)];exact q
theorem fg {K:Ld}{O:Ow}{H:Hp}{p:Addr}{l:List T}{vs:List V}(h:H p=none)(n:¬ O p)(r:Reps K O H l vs):Rep K O (upd H p (.tup vs)) (.tup l) (.ref p):=
 Rep.Fk.mpr ⟨p,vs,rfl,n,aQ,r.same (aZ h _)⟩
theorem iu {K:Ld}{O:Ow}{H:Hp}{p:Addr}{l:List T}{vs:List V}(h:H p=none)(n:¬ O p)(r:Reps K O H l vs):Rep K O (upd H p (.lst vs)) (.lst l) (.ref p):=
 Rep.Do.mpr ⟨p,vs,rfl,n,aQ,r.same (aZ h _)⟩
theorem Io {es:List Expr}{x1:Nat}{pos:Pos}{f:En->Rs (List T)}(h:pd X es f):b6 X (.Tuple es x1 pos) (bJ f):=by
 intro pins s σ H Q I ⟨Z,O,E,hq⟩;refine Gh h pins s σ H Q I ?_
 obtain⟨Z1,O1,E1,h1⟩:=gy E hq;refine⟨Z1,O1,E1,Post.mono h1 λts H1 s1 q vs r=> ?_⟩
 obtain⟨t',r',s',E',q'⟩:=q vs r;unfold jq at q'
 split at q'
 ·rename_i hz
  refine⟨by rw[<-r'.length];exact hz,λp hp=> ?_⟩
  exact q' _ (aZ hp _) _ (fg hp (E'.fresh hp) r')
 ·exact q'.elim
theorem Iy {es:List Expr}{pos:Pos}{f:En->Rs (List T)}(h:pd X es f):b6 X (.List es pos) (eM f):=by
 intro pins s σ H Q I ⟨Z,O,E,hq⟩;refine Gm h pins s σ H Q I ?_
 obtain⟨Z1,O1,E1,h1⟩:=gy E hq;refine⟨Z1,O1,E1,Post.mono h1 λts H1 s1 q vs r=> ?_⟩
 obtain⟨t',r',s',E',q'⟩:=q vs r;unfold jr at q'
 split at q'
 ·rename_i hz
  refine⟨by rw[<-r'.length];exact hz,λp hp=> ?_⟩
  exact q' _ (aZ hp _) _ (iu hp (E'.fresh hp) r')
 ·exact q'.elim
def OpT (X:Cx)(f:Lh->Lh->Sem Lh)(g:T->T->Rs T):Prop:=
 ∀(pins:List (Addr×Obj)) (s:Lj) (σ:L2.St) (H:Hp) (O:Ow) (x y:T) (vx vy:V) (ux uy:Lh) (Q:VK),Inv X pins σ H s->(∀p,H p=none->¬ O p)->Rep X.K O H x vx->Rep X.K O H y vy->RelV vx ux->RelV vy uy →
  Post X H (g x y) (λt H'=> ∀v,Rep X.K O H' t v->Q v H')->wpAny (model X.prog X.w) X.A (f ux uy) (EP X pins σ Q) X.xe s
def o2 (g:T->T->Rs T)(fa fb:En->Rs T)(Z:En):Rs T:=do
 let x <-fa Z
 let y <-fb Z
 g x y
variable {a b c:Expr}{fa fb fc:En->Rs T}{pos:Pos}
theorem IE {op:Operator}{g:T->T->Rs T}(ho:OpT X (MZ op) g)(ha:b6 X a fa)(hb:b6 X b fb):b6 X (.BinOp a op b pos) (o2 g fa fb):=by
 intro pins s σ H Q I ⟨Z,O,E,hq⟩
 have h1:=aT E hq;refine wpAny_BinOp (bR (ha pins s σ H _ I h1) λv s1 hh_=> ?_)
 obtain⟨x,H1,I1,r1,t,rt,s',E',q1⟩:=hh_
 have h2:=aT (f:=fb) E' q1;refine bR (hb pins s1 σ H1 _ I1 h2) λu s2 hh_=> ?_
 obtain⟨y,H2,I2,r2,t2,rt2,s'',E'',q2⟩:=hh_;exact ho pins s2 σ H2 O t t2 x y v u Q I2 (λp=>E''.fresh) (rt.same s'') rt2 r1 r2 q2
theorem ID {op:Sm}{g:T->T->Rs T}(ho:OpT X (L7 op) g)(ha:b6 X a fa)(hb:b6 X b fb)(hm:autoParam (Og op b=false) aqd._auto_1):b6 X (.Compare a [op] [b] pos) (o2 g fa fb):=by
 intro pins s σ H Q I ⟨Z,O,E,hq⟩
 have h1:=aT E hq;refine wpAny_Compare1 (bR (ha pins s σ H _ I h1) λv s1 ⟨x,H1,I1,r1,t,rt,s',E',q1⟩=> ?_) hm
 have h2:=aT (f:=fb) E' q1;refine bR (hb pins s1 σ H1 _ I1 h2) λu s2 hh_=> ?_
 obtain⟨y,H2,I2,r2,t2,rt2,s'',E'',q2⟩:=hh_;exact ho pins s2 σ H2 O t t2 x y v u Q I2 (λp=>E''.fresh) (rt.same s'') rt2 r1 r2 q2
theorem OpT.of {f:Lh->Lh->Sem Lh}{r:R2}(h:pf X f r){g:T->T->Rs T}
  (w:∀(H:Hp) (O:Ow) (x y:T) (vx vy:V) (Q:VK),(∀p,H p=none->¬ O p)->Rep X.K O H x vx->Rep X.K O H y vy->Post X H (g x y) (λt H'=> ∀v,Rep X.K O H' t v->Q v H')->r vx vy H Q):OpT X f g:=
 λpins s σ H O x y vx vy ux uy Q I hf rx ry r1 r2 hp=>h pins s σ H vx vy ux uy Q I r1 r2 (w H O x y vx vy Q hf rx ry hp)
def hV:T->T->Rs T
 | .int i,.int j=> .ok (.int (i - j))
 | _,_=> .bad
theorem fZ:OpT X (MZ .Sub) hV:=OpT.of Gu λH O x y vx vy Q hf rx ry hp=>by
 unfold hV at hp
 split at hp
 ·exact⟨_,_,Rep.Da.mp rx,Rep.Da.mp ry,hp H (Same.refl H) _ (Rep.GT _)⟩
 ·exact hp.elim
def km:T->T->Rs T
 | .int i,.int j=>if 0<j/\j<1073741824 then .ok (.int (i / j))else .bad
 | _,_=> .bad
def kc:T->T->Rs T
 | .int i,.int j=>if 0<j then .ok (.int (i % j))else .bad
 | _,_=> .bad
theorem l8:OpT X (MZ .FloorDiv) km:=OpT.of Du λH O x y vx vy Q hf rx ry hp=>by
 unfold km at hp
 split at hp
 ·split at hp
  ·rename_i h
   exact⟨_,_,Rep.Da.mp rx,Rep.Da.mp ry,h,hp H (Same.refl H) _ (Rep.GT _)⟩
  ·exact hp.elim
 ·exact hp.elim
theorem jw:OpT X (MZ .Mod) kc:=OpT.of Gx λH O x y vx vy Q hf rx ry hp=>by
 unfold kc at hp
 split at hp
 ·split at hp
  ·rename_i h
   exact⟨_,_,Rep.Da.mp rx,Rep.Da.mp ry,h,hp H (Same.refl H) _ (Rep.GT _)⟩
  ·exact hp.elim
 ·exact hp.elim
theorem z5:pf X (MZ .Add) (λx y H Q=> ∃a b ys,x= .ref a/\y= .ref b/\SqT X.K H a []/\SqT X.K H b ys/\Q (.ref b) H):=by
 intro pins s σ H x y v u Q I rx ry h;obtain⟨a,b,ys,rfl,rfl,ha,hb,q⟩:=h;cases rx;cases ry;obtain⟨its,r1,p1,_⟩:=I.tuple ha;obtain⟨its2,r2,p2,_⟩:=I.tuple hb;obtain⟨⟨cls,dd,data,sl⟩,ho,hc,n,hd⟩:=id p1;obtain⟨⟨cls2,dd2,data2,sl2⟩,ho2,hc2,n2,hd2⟩:=id p2;simp only at hc hd hc2 hd2;subst hc hd hc2 hd2
 have e:its= []:=by cases r1;rfl
 subst e;exact HT_concat0 ho ho2 ⟨.ref b,H,I,rfl,q⟩
where
 HT_concat0 {prog:LP} {w:Mh} {A:L3} {E:Lh->Lj->Prop} {s:Lj} {t b:Addr} {ws:Array Lh} {n n2:Nat} {dd dd2:Option Addr} {sl sl2:Array (Option Lh)} {Q:Lh->Lj->Prop}
   (ho:s.heap.get? t=some { cls:=.type "tuple",dict:=dd,data:=.seq (([]:List Lh).toArray) n,slots:=sl }) (ho2:s.heap.get? b=some { cls:=.type "tuple",dict:=dd2,data:=.seq ws n2,slots:=sl2 }) (h:Q (.ref b) s) :
   wpAny (model prog w) A (MZ .Add (.ref t) (.ref b)) Q E s:=
  RJ ⟨_,ho,rfl⟩ ⟨_,ho2,rfl⟩ PV Rb Oh N7 (N1 _ _)
   (tuple_addW0 t b _ _ n n2 dd dd2 sl sl2 (by simp)) ⟨ho,ho2,h⟩
def aX:T->T->Rs T
 | .int i,.int j=> .ok (.int (i+j))
 | .str i,.str j=>if i.length+j.length<=sizeLine then .ok (.str (i++j))else .bad
 | .tup l,.tup m=>jq (l++m)
 | .lst l,.lst m=>jr (l++m)
 | _,_=> .bad
theorem aR:OpT X (MZ .Add) aX:=by
 intro pins s σ H O x y vx vy ux uy Q I hf rx ry r1 r2 hp;unfold aX at hp
 split at hp
 ·exact GA pins s σ H vx vy ux uy Q I r1 r2 ⟨_,_,Rep.Da.mp rx,Rep.Da.mp ry,hp H (Same.refl H) _ (Rep.GT _)⟩
 ·split at hp
  ·rename_i h
   exact vc pins s σ H vx vy ux uy Q I r1 r2 ⟨_,_,Rep.GE.mp rx,Rep.GE.mp ry,h,hp H (Same.refl H) _ (Rep.K5 _)⟩
  ·exact hp.elim
 ·rename_i l m
  unfold jq at hp
  split at hp
  ·rename_i h
   obtain⟨a,vs,e1,n1,q1,z1⟩:=Rep.Fk.mp rx;obtain⟨b,ws,e2,n2,q2,z2⟩:=Rep.Fk.mp ry
   have hl1:=z1.length
   have hl2:=z2.length;rw[Lo]at h
   cases vs with
   | nil=>
    have e:l= []:=by cases l with
     | nil=>rfl
     | cons _ _=>simp at hl1
    subst e
    exact z5 pins s σ H vx vy ux uy Q I r1 r2 ⟨a,b,ws,e1,e2,SqT.of q1,SqT.of q2,hp H (Same.refl H) _ (Rep.Fk.mpr ⟨b,ws,rfl,n2,q2,z2⟩)⟩
   | cons v0 vr=>
    refine Dv pins s σ H vx vy ux uy Q I r1 r2 ⟨a,b,v0::vr,ws,e1,e2,SqT.of q1,SqT.of q2,by simp,by omega,λhw=> ?_,λ_ p hpn=> ?_⟩
    ·subst hw
     have e:m= []:=by cases m with
      | nil=>rfl
      | cons _ _=>simp at hl2
     subst e;rw[LZ]at hp;exact hp H (Same.refl H) _ (Rep.Fk.mpr ⟨a,_,rfl,n1,q1,z1⟩)
    ·exact hp _ (aZ hpn _) _ (fg hpn (hf p hpn) (z1.append z2))
  ·exact hp.elim
 ·rename_i l m
  unfold jr at hp
  split at hp
  ·rename_i h
   obtain⟨a,vs,e1,n1,q1,z1⟩:=Rep.Do.mp rx;obtain⟨b,ws,e2,n2,q2,z2⟩:=Rep.Do.mp ry
   have hl1:=z1.length
   have hl2:=z2.length;rw[Lo]at h;exact Gz pins s σ H vx vy ux uy Q I r1 r2 ⟨a,b,vs,ws,e1,e2,q1,q2,by omega,λp hpn=>hp _ (aZ hpn _) _ (iu hpn (hf p hpn) (z1.append z2))⟩
  ·exact hp.elim
 ·exact hp.elim
def vo:T->T->Rs T
 | .int i,.int j=>if (-(2 ^ 64)<i/\i<2 ^ 64)\/(-(2 ^ 64)<j/\j<2 ^ 64)then .ok (.int (i*j))else .bad
 | .lst l,.int k=>if -(2 ^ 63)<=k/\k<2 ^ 63/\l.length*k.toNat<=sizeLine then .ok (.lst (LG k.toNat l).flatten)else .bad
 | _,_=> .bad
theorem Reps.rep {K:Ld}{O:Ow}{H:Hp}{l:List T}{vs:List V}(h:Reps K O H l vs):∀k:Nat,Reps K O H (LG k l).flatten (LG k vs).flatten
 | 0=>Reps.Gc
 | k+1=>by rw[MO,MO,Np,Np];exact h.append (h.rep k)
theorem Gq:OpT X (MZ .Mult) vo:=by
 intro pins s σ H O x y vx vy ux uy Q I hf rx ry r1 r2 hp;unfold vo at hp
 split at hp
 ·split at hp
  ·rename_i h
   exact Gw pins s σ H vx vy ux uy Q I r1 r2 ⟨_,_,Rep.Da.mp rx,Rep.Da.mp ry,h,hp H (Same.refl H) _ (Rep.GT _)⟩
  ·exact hp.elim
 ·split at hp
  ·rename_i l k h
   obtain⟨a,vs,e1,n1,q1,z1⟩:=Rep.Do.mp rx
   have hl1:=z1.length;exact Gv pins s σ H vx vy ux uy Q I r1 r2 ⟨a,k,vs,e1,Rep.Da.mp ry,q1,h.1,h.2.1,by rw[<-hl1];exact h.2.2,λp hpn=>hp _ (aZ hpn _) _ (iu hpn (hf p hpn) (z1.rep _))⟩
  ·exact hp.elim
 ·exact hp.elim
def o7:T->Rs T
 | .int i=> .ok (.int (-i))
 | _=> .bad
def o1 (g:T->Rs T)(fa:En->Rs T)(Z:En):Rs T:=fa Z >>= g
theorem Iw (ha:b6 X a fa):b6 X (.UnaryOp .USub a pos) (o1 o7 fa):=by
 intro pins s σ H Q I ⟨Z,O,E,hq⟩;refine EJ zj ha pins s σ H Q I ?_
 obtain⟨Z1,O1,E1,h1⟩:=aT E hq;refine⟨Z1,O1,E1,Post.mono h1 λts H1 s1 q vs r=> ?_⟩
 obtain⟨t',r',s',E',q'⟩:=q vs r;unfold o7 at q'
 split at q'
 ·exact⟨_,Rep.Da.mp r',q' H1 (Same.refl H1) _ (Rep.GT _)⟩
 ·exact q'.elim
def sf (p:Int->Int->Bool):T->T->Rs T
 | .int i,.int j=> .ok (.bl (p i j))
 | _,_=> .bad
theorem l9 {op:Sm}{p:Int->Int->Bool}(h:pf X (L7 op) (CG λi j=> .bl (p i j))):OpT X (L7 op) (sf p):=OpT.of h λH O x y vx vy Q hf rx ry hp=>by
 unfold sf at hp
 split at hp
 ·exact⟨_,_,Rep.Da.mp rx,Rep.Da.mp ry,hp H (Same.refl H) _ (Rep.bl_ _)⟩
 ·exact hp.elim
abbrev DI:=sf λi j=>decide (i<j)
abbrev Jh:=sf λi j=>decide (i<=j)
abbrev JC:=sf λi j=>decide (j<i)
abbrev J3:=sf λi j=>decide (j<=i)
theorem tG:OpT X (L7 .Lt) DI:=l9 IP
theorem wK:OpT X (L7 .LtE) Jh:=l9 IQ
theorem EK:OpT X (L7 .Gt) JC:=l9 IS
theorem IM:OpT X (L7 .GtE) J3:=l9 IT
def T.isN:T->Bool
 | .non=>true
 | _=>false
theorem Rep.isN {K:Ld}{O:Ow}{H:Hp}{t:T}{v:V}(r:Rep K O H t v):decide (v= .non)=t.isN:=by
 cases t with
 | non=>rw[Rep.Ka.mp r];rfl
 | bl _=>rw[Rep.FM.mp r];rfl
 | int _=>rw[Rep.Da.mp r];rfl
 | str _=>rw[Rep.GE.mp r];rfl
 | tup _=>obtain⟨a,vs,e,_⟩:=Rep.Fk.mp r;rw[e];rfl
 | lst _=>obtain⟨a,vs,e,_⟩:=Rep.Do.mp r;rw[e];rfl
 | scr _=>unfold Rep at r;obtain⟨a,e,_⟩:=r;rw[e];rfl
 | dct _ _=>obtain⟨a,_,e,_⟩:=Rep.GM.mp r;rw[e];rfl
 | ob _ _ _=>obtain⟨a,_,_,e,_⟩:=Rep.Km.mp r;rw[e];rfl
def jC:T->T->Rs T
 | x,.non=> .ok (.bl x.isN)
 | _,_=> .bad
def fh:T->T->Rs T
 | x,.non=> .ok (.bl (!x.isN))
 | _,_=> .bad
theorem pG:OpT X (L7 .Is) jC:=OpT.of Gy λH O x y vx vy Q hf rx ry hp=>by
 unfold jC at hp
 split at hp
 ·exact⟨Rep.Ka.mp ry,hp H (Same.refl H) _ (by rw[rx.isN];exact Rep.bl_ _)⟩
 ·exact hp.elim
theorem gD:OpT X (L7 .IsNot) fh:=OpT.of Dt λH O x y vx vy Q hf rx ry hp=>by
 unfold fh at hp
 split at hp
 ·exact⟨Rep.Ka.mp ry,hp H (Same.refl H) _ (by rw[rx.isN];exact Rep.bl_ _)⟩
 ·exact hp.elim
end
end Tr
namespace Tr
open PySem PySem.Spec PyProof.Rows L2
open PySem.SeqAt
mutual
def ReV (s:Lj):T->Lh->Prop
 | .non,u=>u= .none
 | .bl b,u=>u= .bool b
 | .int i,u=> ∃t,u= .int i t
 | .str x,u=> ∃t,u= .str x t
 | .tup l,u=> ∃a its,u= .ref a/\s.heap.IsTuple a (RE its)/\ReVs s l its
 | .lst l,u=> ∃a its,u= .ref a/\s.heap.IsList a (RE its)/\ReVs s l its
 | .scr l,u=> ∃a its,u= .ref a/\s.heap.IsList a (RE its)/\OJ its l
 | .dct _ _,_=>False
 | .ob _ _ _,_=>False
def ReVs (s:Lj):List T->List Lh->Prop
 | [],us=>us= []
 | t::r,us=> ∃u ws,us=u::ws/\ReV s t u/\ReVs s r ws
end
theorem ReVs.AC {s:Lj}{us:List Lh}:ReVs s [] us↔us= []:=by unfold ReVs;exact Oo
theorem ReVs.me {s:Lj}{t:T}{l:List T}{us:List Lh}:ReVs s (t::l) us↔ ∃u ws,us=u::ws/\ReV s t u/\ReVs s l ws:=by
 constructor
 ·intro h;unfold ReVs at h;exact h
 ·intro h;unfold ReVs;exact h
theorem ReVs.length {s:Lj}:∀{l:List T} {us:List Lh},ReVs s l us->l.length=us.length
 | [],us,r=>by rw[ReVs.AC.mp r];rfl
 | t::l,us,r=>by
  obtain⟨v,ws,rfl,_,q⟩:=ReVs.me.mp r;simp[q.length]
theorem ReVs.get {s:Lj}:∀{l:List T} {us:List Lh} {i:Nat} {t:T},ReVs s l us->l[i]? =some t->∃v,us[i]? =some v/\ReV s t v
 | [],_,_,_,_,e=>by simp at e
 | t::l,vs,i,u,r,e=>by
  obtain⟨v,ws,rfl,p,q⟩:=ReVs.me.mp r
  cases i with
  | zero=>simp at e;subst e;exact⟨v,rfl,p⟩
  | succ i=>
   obtain⟨z,e1,e2⟩:=q.get (i:=i) (t:=u) (by simpa using e)
   exact⟨z,by simpa using e1,e2⟩
mutual
def T.nd:T->Bool
 | .dct _ _=>false
 | .ob _ _ _=>false
 | .tup l=>nds l
 | .lst l=>nds l
 | _=>true
def nds:List T->Bool
 | [] =>true
 | t::l=>t.nd&&nds l
end
theorem tV {t:T}{l:List T}(h:nds (t::l)=true):t.nd=true/\nds l=true:=by unfold nds at h;exact Mx.mp h
section
variable {X:Cx}{pins:List (Addr×Obj)}{σ:L2.St}{H:Hp}{s:Lj}{O:Ow}
mutual
theorem Rep.val (I:Inv X pins σ H s):∀{t:T} {v:V} {u:Lh},t.nd=true->Rep X.K O H t v->RelV v u->ReV s t u
 | .non,v,u,hn,r,q=>by cases Rep.Ka.mp r;unfold ReV;exact q
 | .bl b,v,u,hn,r,q=>by cases Rep.FM.mp r;unfold ReV;exact q
 | .int b,v,u,hn,r,q=>by cases Rep.Da.mp r;unfold ReV;exact q
 | .str b,v,u,hn,r,q=>by cases Rep.GE.mp r;unfold ReV;exact q
 | .tup l,v,u,hn,r,q=>by
  obtain⟨a,vs,rfl,_,z,w⟩:=Rep.Fk.mp r;cases q;obtain⟨its,rv,p,_⟩:=I.tuple (SqT.of z);unfold ReV
  exact⟨a,its,rfl,p,Reps.val I (by unfold T.nd at hn;exact hn) w rv⟩
 | .lst l,v,u,hn,r,q=>by
  obtain⟨a,vs,rfl,_,z,w⟩:=Rep.Do.mp r;cases q;obtain⟨its,rv,p,_⟩:=I.list (SqL.of z);unfold ReV
  exact⟨a,its,rfl,p.isList,Reps.val I (by unfold T.nd at hn;exact hn) w rv⟩
 | .scr l,v,u,hn,r,q=>by
  unfold Rep at r;obtain⟨a,rfl,_,z⟩:=r;cases q;obtain⟨its,rv,p,_⟩:=I.list z;unfold ReV
  exact⟨a,its,rfl,p.isList,vI rv⟩
 | .dct _ _,v,u,hn,r,q=>by cases hn
 | .ob _ _ _,v,u,hn,r,q=>by cases hn
theorem Reps.val (I:Inv X pins σ H s):∀{l:List T} {vs:List V} {us:List Lh},nds l=true->Reps X.K O H l vs->Vals vs us->ReVs s l us
 | [],vs,us,hn,r,q=>by
  cases Reps.AC.mp r;cases q
  exact ReVs.AC.mpr rfl
 | t::l,vs,us,hn,r,q=>by
  obtain⟨v,ws,rfl,p,z⟩:=Reps.me.mp r
  cases q with
  | cons q1 q2=>exact ReVs.me.mpr ⟨_,_,rfl,Rep.val I (tV hn).1 p q1,Reps.val I (tV hn).2 z q2⟩
end
end
mutual
def T.dep:T->Nat
 | .tup l=>deps l+1
 | .lst l=>deps l+1
 | .scr _=>1
 | _=>0
def deps:List T->Nat
 | [] =>0
 | t::l=>max t.dep (deps l)
end
def Ei (i:Int):T->Bool
 | .int j=>i == j
 | .bl b=>i == (if b then 1 else 0)
 | _=>false
def jt:List Int->List T->Bool
 | [],[] =>true
 | i::r,t::l=>Ei i t&&jt r l
 | _,_=>false
mutual
def aV:T->T->Bool
 | .non,.non=>true
 | .bl a,.bl b=>a == b
 | .bl a,.int b=>(if a then 1 else 0) == b
 | .int a,.bl b=>a == (if b then 1 else 0)
 | .int a,.int b=>a == b
 | .str a,.str b=>a == b
 | .tup l,.tup m=>beqTs l m
 | .lst l,.lst m=>beqTs l m
 | .lst l,.scr m=>beqTs l (m.map .int)
 | .scr l,.lst m=>jt l m
 | .scr l,.scr m=>l == m
 | _,_=>false
def beqTs:List T->List T->Bool
 | [],[] =>true
 | t::l,u::m=>aV t u&&beqTs l m
 | _,_=>false
end
theorem oj (n:Nat)(e:Nat->Bool):(L6 (n+1)).all e=(e 0&&(L6 n).all λj=>e (j+1)):=by
 rw[List.range_succ_eq_map,List.all_cons,List.all_map];rfl
theorem lu:∀(l m:List T) (e:Nat->Bool),(∀(j:Nat) t u,l[j]? =some t->m[j]? =some u->e j=aV t u) →
  beqTs l m=((L6 (min l.length m.length)).all e&&l.length == m.length)
 | [],[],_,_=>by simp[beqTs]
 | [],_::_,_,_=>by simp[beqTs]
 | _::_,[],_,_=>by simp[beqTs]
 | t::l,u::m,e,h=>by
  have ih:=lu l m (λj=>e (j+1)) λj t' u' h1 h2=>h (j+1) t' u' (by simpa using h1) (by simpa using h2)
  rw[beqTs,ih]
  have h0:=h 0 t u rfl rfl;simp only[Lm];rw[Nat.succ_min_succ,oj,h0,Bool.and_assoc]
  congr 2
  simp
theorem p8:∀{l m:List T},l.length≠m.length->beqTs l m=false
 | [],[],h=>absurd rfl h
 | [],_::_,_=>by simp[beqTs]
 | _::_,[],_=>by simp[beqTs]
 | t::l,u::m,h=>by
  rw[beqTs,p8 (l:=l) (m:=m) (by intro z;exact h (by simp[z]))]
  simp
theorem iI:∀{l:List T} {i:Nat} {t:T},l[i]? =some t->t.dep<=deps l
 | [],_,_,e=>by simp at e
 | t::l,0,u,e=>by simp at e;subst e;unfold deps;exact Nat.le_max_left _ _
 | t::l,i+1,u,e=>by
  have:=iI (l:=l) (i:=i) (t:=u) (by simpa using e)
  unfold deps;exact Mf this (Nat.le_max_right _ _)
theorem iF {s:Lj}{a:Addr}{x y:List Lh}(h:s.heap.IsTuple a x.toArray)(h':s.heap.IsTuple a y.toArray):x=y:=by
 obtain⟨o,e,_,n,d⟩:=h;obtain⟨o',e',_,n',d'⟩:=h';rw[e]at e';cases e';rw[d]at d';injection d' with d1 _
 simpa using congrArg P6 d1
theorem cE {s:Lj}{a:Addr}{x y:List Lh}(h:s.heap.IsList a x.toArray)(h':s.heap.IsList a y.toArray):x=y:=by
 obtain⟨o,e,_,n,d⟩:=h;obtain⟨o',e',_,n',d'⟩:=h';rw[e]at e';cases e';rw[d]at d';injection d' with d1 _
 simpa using congrArg P6 d1
theorem yN {s:Lj}{i:Int}{t:T}{k:Tok}(r:ReV s t (.int i k)):Ei i t=true:=by
 cases t with
 | non=>unfold ReV at r;cases r
 | bl b=>unfold ReV at r;cases r
 | int j=>unfold ReV at r;obtain⟨t,e⟩:=r;injection e with e1 _;subst e1;simp[Ei]
 | str x=>unfold ReV at r;obtain⟨t,e⟩:=r;cases e
 | tup l=>unfold ReV at r;obtain⟨a,its,e,_⟩:=r;cases e
 | lst l=>unfold ReV at r;obtain⟨a,its,e,_⟩:=r;cases e
 | scr l=>unfold ReV at r;obtain⟨a,its,e,_⟩:=r;cases e
 | dct _ _=>unfold ReV at r;exact r.elim
 | ob _ _ _=>unfold ReV at r;exact r.elim
theorem oh {s:Lj}:∀{ns:List Int} {us:List Lh} {l:List T},OJ us ns->ReVs s l us->jt ns l=true
 | [],us,l,h,r=>by
  cases h
  cases l with
  | nil=>rfl
  | cons t l=>obtain⟨_,_,e,_⟩:=ReVs.me.mp r;cases e
 | n::ns,us,l,h,r=>by
  cases h with
  | cons a b hh=>
   cases l with
   | nil=>have:=ReVs.AC.mp r;cases this
   | cons t l=>
    obtain⟨u,ws,e,p,q⟩:=ReVs.me.mp r;injection e with e1 e2
    subst e1 e2;rw[jt,yN p,oh hh q];rfl
theorem du {s:Lj}:∀{us:List Lh} {ns:List Int},OJ us ns->ReVs s (ns.map T.int) us
 | _,_,.nil=>ReVs.AC.mpr rfl
 | _,_,.cons n t h=>ReVs.me.mpr ⟨_,_,rfl,by unfold ReV;exact⟨_,rfl⟩,du h⟩
theorem iG:∀{us:List Lh} {ns ms:List Int},OJ us ns->OJ us ms->ns=ms
 | _,_,_,.nil,.nil=>rfl
 | _,_,_,.cons n t h,.cons _ _ h'=>by rw[iG h h']
mutual
theorem ReV.refl {s:Lj}:∀{t u:T} {v:Lh},ReV s t v->ReV s u v->aV t u=true
 | .non,u,v,r,q=>by
  unfold ReV at r;subst r
  cases u <;> (unfold ReV at q) <;> first | rfl | (cases q;done) | (obtain⟨_,e⟩:=q;cases e;done) | (obtain⟨_,_,e,_⟩:=q;cases e;done)
 | .bl b,u,v,r,q=>by
  unfold ReV at r;subst r
  cases u <;> (unfold ReV at q) <;> first | (cases q;done) | (cases q;simp[aV];done) | (obtain⟨_,e⟩:=q;cases e;done) | (obtain⟨_,_,e,_⟩:=q;cases e;done)
 | .int b,u,v,r,q=>by
  unfold ReV at r;obtain⟨k,rfl⟩:=r
  cases u <;> (unfold ReV at q) <;> first | (cases q;done) | (obtain⟨_,e⟩:=q;cases e;simp[aV];done) | (obtain⟨_,e⟩:=q;cases e;done) | (obtain⟨_,_,e,_⟩:=q;cases e;done)
 | .str b,u,v,r,q=>by
  unfold ReV at r;obtain⟨k,rfl⟩:=r
  cases u <;> (unfold ReV at q) <;> first | (cases q;done) | (obtain⟨_,e⟩:=q;cases e;simp[aV];done) | (obtain⟨_,e⟩:=q;cases e;done) | (obtain⟨_,_,e,_⟩:=q;cases e;done)
 | .tup l,u,v,r,q=>by
  unfold ReV at r;obtain⟨a,its,rfl,h1,h2⟩:=r
  cases u with
  | non=>unfold ReV at q;cases q
  | dct _ _=>unfold ReV at q;exact q.elim
  | ob _ _ _=>unfold ReV at q;exact q.elim
  | bl _=>unfold ReV at q;cases q
  | int _=>unfold ReV at q;obtain⟨_,e⟩:=q;cases e
  | str _=>unfold ReV at q;obtain⟨_,e⟩:=q;cases e
  | tup m=>
   unfold ReV at q;obtain⟨a',its',e,h1',h2'⟩:=q;injection e with e;subst e
   have:=iF h1 h1';subst this;unfold aV
   exact ReVs.refl h2 h2'
  | lst m=>unfold ReV at q;obtain⟨a',its',e,h1',h2'⟩:=q;injection e with e;subst e;exact absurd rfl (ne_of_list_tuple h1' h1)
  | scr m=>unfold ReV at q;obtain⟨a',its',e,h1',h2'⟩:=q;injection e with e;subst e;exact absurd rfl (ne_of_list_tuple h1' h1)
 | .lst l,u,v,r,q=>by
  unfold ReV at r;obtain⟨a,its,rfl,h1,h2⟩:=r
  cases u with
  | non=>unfold ReV at q;cases q
  | dct _ _=>unfold ReV at q;exact q.elim
  | ob _ _ _=>unfold ReV at q;exact q.elim
  | bl _=>unfold ReV at q;cases q
  | int _=>unfold ReV at q;obtain⟨_,e⟩:=q;cases e
  | str _=>unfold ReV at q;obtain⟨_,e⟩:=q;cases e
  | lst m=>
   unfold ReV at q;obtain⟨a',its',e,h1',h2'⟩:=q;injection e with e;subst e
   have:=cE h1 h1';subst this;unfold aV
   exact ReVs.refl h2 h2'
  | tup m=>unfold ReV at q;obtain⟨a',its',e,h1',h2'⟩:=q;injection e with e;subst e;exact absurd rfl (ne_of_list_tuple h1 h1')
  | scr m=>
   unfold ReV at q;obtain⟨a',its',e,h1',h2'⟩:=q;injection e with e;subst e
   have:=cE h1 h1';subst this;unfold aV
   exact ReVs.refl h2 (du h2')
 | .scr l,u,v,r,q=>by
  unfold ReV at r;obtain⟨a,its,rfl,h1,h2⟩:=r
  cases u with
  | non=>unfold ReV at q;cases q
  | dct _ _=>unfold ReV at q;exact q.elim
  | ob _ _ _=>unfold ReV at q;exact q.elim
  | bl _=>unfold ReV at q;cases q
  | int _=>unfold ReV at q;obtain⟨_,e⟩:=q;cases e
  | str _=>unfold ReV at q;obtain⟨_,e⟩:=q;cases e
  | lst m=>
   unfold ReV at q;obtain⟨a',its',e,h1',h2'⟩:=q;injection e with e;subst e
   have:=cE h1 h1';subst this;unfold aV
   exact oh h2 h2'
  | tup m=>unfold ReV at q;obtain⟨a',its',e,h1',h2'⟩:=q;injection e with e;subst e;exact absurd rfl (ne_of_list_tuple h1 h1')
  | scr m=>
   unfold ReV at q;obtain⟨a',its',e,h1',h2'⟩:=q;injection e with e;subst e
   have:=cE h1 h1';subst this;unfold aV
   have:=iG h2 h2'
   simp[this]
 | .dct _ _,u,v,r,q=>by unfold ReV at r;exact r.elim
 | .ob _ _ _,u,v,r,q=>by unfold ReV at r;exact r.elim
theorem ReVs.refl {s:Lj}:∀{l m:List T} {us:List Lh},ReVs s l us->ReVs s m us->beqTs l m=true
 | [],m,us,r,q=>by
  cases ReVs.AC.mp r
  cases m with
  | nil=>simp[beqTs]
  | cons _ _=>obtain⟨_,_,e,_⟩:=ReVs.me.mp q;cases e
 | t::l,m,us,r,q=>by
  obtain⟨v,ws,rfl,p,z⟩:=ReVs.me.mp r
  cases m with
  | nil=>cases ReVs.AC.mp q
  | cons u m=>
   obtain⟨v',ws',e,p',z'⟩:=ReVs.me.mp q;injection e with e1 e2
   subst e1 e2;rw[beqTs,ReV.refl p p',ReVs.refl z z'];rfl
end
theorem og:∀(l:List Int) (m:List T),jt l m=beqTs (l.map T.int) m
 | [],[] =>by simp[jt,beqTs]
 | [],_::_=>by simp[jt,beqTs]
 | _::_,[] =>by simp[jt,beqTs]
 | i::l,t::m=>by
  rw[jt,Lk,beqTs,og l m]
  congr 1
  cases t <;> simp[Ei,aV]
theorem qo:∀(l m:List Int),(l == m)=beqTs (l.map T.int) (m.map T.int)
 | [],[] =>by simp[beqTs]
 | [],_::_=>by simp[beqTs]
 | _::_,[] =>by simp[beqTs]
 | i::l,t::m=>by
  rw[Lk,Lk,beqTs,<-qo l m];simp[aV]
theorem eR:∀(l:List Int),deps (l.map T.int)=0
 | [] =>rfl
 | i::l=>by rw[Lk,deps,eR l];simp[T.dep]
def iV:T->T->Prop
 | .tup _,.tup _=>False
 | .lst _,.lst _=>False
 | .lst _,.scr _=>False
 | .scr _,.lst _=>False
 | .scr _,.scr _=>False
 | _,_=>True
theorem uq (A:L3)(s:Lj)(x y:T)(u v:Lh)(hn:iV x y)(hu:A.units<cLine)(rx:ReV s x u)(ry:ReV s y v):EqAt A s u v (aV x y)/\RcAt A s u v (aV x y)/\RcNeAt A s u v (!aV x y):=by
 match x,y,hn,rx,ry with
 | .dct _ _,_,_,rx,_=>exact(by unfold ReV at rx;exact rx:False).elim
 | .ob _ _ _,_,_,rx,_=>exact(by unfold ReV at rx;exact rx:False).elim
 | _,.dct _ _,_,_,ry=>exact(by unfold ReV at ry;exact ry:False).elim
 | _,.ob _ _ _,_,_,ry=>exact(by unfold ReV at ry;exact ry:False).elim
 | .non,.non,hn,rx,ry=>
  obtain rfl:u=L1:=by unfold ReV at rx;exact rx
  obtain rfl:v=L1:=by unfold ReV at ry;exact ry
  exact⟨EqAt.same _,RcAt.none_none ,RcNeAt.none_none ⟩
 | .non,.bl b2,hn,rx,ry=>
  obtain rfl:u=L1:=by unfold ReV at rx;exact rx
  obtain rfl:v=Mu b2:=by unfold ReV at ry;exact ry
  exact⟨EqAt.none_bool b2,RcAt.none_bool b2,RcNeAt.none_bool b2⟩
 | .non,.int i2,hn,rx,ry=>
  obtain rfl:u=L1:=by unfold ReV at rx;exact rx
  obtain⟨k2,rfl⟩:∃k,v=ML i2 k:=by unfold ReV at ry;exact ry
  exact⟨EqAt.none_int i2 k2,RcAt.none_int i2 k2,RcNeAt.none_int i2 k2⟩
 | .non,.str x2,hn,rx,ry=>
  obtain rfl:u=L1:=by unfold ReV at rx;exact rx
  obtain⟨k2,rfl⟩:∃k,v=MM x2 k:=by unfold ReV at ry;exact ry
  exact⟨EqAt.none_str x2 k2,RcAt.none_str x2 k2,RcNeAt.none_str x2 k2⟩
 | .non,.tup l2,hn,rx,ry=>
  obtain rfl:u=L1:=by unfold ReV at rx;exact rx
  unfold ReV at ry;obtain⟨a2,us2,rfl,h2,q2⟩:=ry
  exact⟨EqAt.none_tuple h2 hu,RcAt.none_tuple h2 hu,RcNeAt.none_tuple h2 hu⟩
 | .non,.lst l2,hn,rx,ry=>
  obtain rfl:u=L1:=by unfold ReV at rx;exact rx
  unfold ReV at ry;obtain⟨a2,us2,rfl,h2,q2⟩:=ry
  exact⟨EqAt.none_list h2 hu,RcAt.none_list h2 hu,RcNeAt.none_list h2 hu⟩
 | .non,.scr l2,hn,rx,ry=>
  obtain rfl:u=L1:=by unfold ReV at rx;exact rx
  unfold ReV at ry;obtain⟨a2,us2,rfl,h2,q2⟩:=ry
  exact⟨EqAt.none_list h2 hu,RcAt.none_list h2 hu,RcNeAt.none_list h2 hu⟩
 | .bl b1,.non,hn,rx,ry=>
  obtain rfl:u=Mu b1:=by unfold ReV at rx;exact rx
  obtain rfl:v=L1:=by unfold ReV at ry;exact ry
  exact⟨EqAt.bool_none b1,RcAt.bool_none b1,RcNeAt.bool_none b1⟩
 | .bl b1,.bl b2,hn,rx,ry=>
  obtain rfl:u=Mu b1:=by unfold ReV at rx;exact rx
  obtain rfl:v=Mu b2:=by unfold ReV at ry;exact ry
  exact⟨EqAt.bool_bool b1 b2,RcAt.bool_bool b1 b2,RcNeAt.bool_bool b1 b2⟩
 | .bl b1,.int i2,hn,rx,ry=>
  obtain rfl:u=Mu b1:=by unfold ReV at rx;exact rx
  obtain⟨k2,rfl⟩:∃k,v=ML i2 k:=by unfold ReV at ry;exact ry
  exact⟨EqAt.bool_int b1 i2 k2,RcAt.bool_int b1 i2 k2,RcNeAt.bool_int b1 i2 k2⟩
 | .bl b1,.str x2,hn,rx,ry=>
  obtain rfl:u=Mu b1:=by unfold ReV at rx;exact rx
  obtain⟨k2,rfl⟩:∃k,v=MM x2 k:=by unfold ReV at ry;exact ry
  exact⟨EqAt.bool_str b1 x2 k2,RcAt.bool_str b1 x2 k2,RcNeAt.bool_str b1 x2 k2⟩
 | .bl b1,.tup l2,hn,rx,ry=>
  obtain rfl:u=Mu b1:=by unfold ReV at rx;exact rx
  unfold ReV at ry;obtain⟨a2,us2,rfl,h2,q2⟩:=ry
  exact⟨EqAt.bool_tuple b1 h2 hu,RcAt.bool_tuple b1 h2 hu,RcNeAt.bool_tuple b1 h2 hu⟩
 | .bl b1,.lst l2,hn,rx,ry=>
  obtain rfl:u=Mu b1:=by unfold ReV at rx;exact rx
  unfold ReV at ry;obtain⟨a2,us2,rfl,h2,q2⟩:=ry
  exact⟨EqAt.bool_list b1 h2 hu,RcAt.bool_list b1 h2 hu,RcNeAt.bool_list b1 h2 hu⟩
 | .bl b1,.scr l2,hn,rx,ry=>
  obtain rfl:u=Mu b1:=by unfold ReV at rx;exact rx
  unfold ReV at ry;obtain⟨a2,us2,rfl,h2,q2⟩:=ry
  exact⟨EqAt.bool_list b1 h2 hu,RcAt.bool_list b1 h2 hu,RcNeAt.bool_list b1 h2 hu⟩
 | .int i1,.non,hn,rx,ry=>
  obtain⟨k1,rfl⟩:∃k,u=ML i1 k:=by unfold ReV at rx;exact rx
  obtain rfl:v=L1:=by unfold ReV at ry;exact ry
  exact⟨EqAt.int_none i1 k1,RcAt.int_none i1 k1,RcNeAt.int_none i1 k1⟩
 | .int i1,.bl b2,hn,rx,ry=>
  obtain⟨k1,rfl⟩:∃k,u=ML i1 k:=by unfold ReV at rx;exact rx
  obtain rfl:v=Mu b2:=by unfold ReV at ry;exact ry
  exact⟨EqAt.int_bool i1 k1 b2,RcAt.int_bool i1 k1 b2,RcNeAt.int_bool i1 k1 b2⟩
 | .int i1,.int i2,hn,rx,ry=>
  obtain⟨k1,rfl⟩:∃k,u=ML i1 k:=by unfold ReV at rx;exact rx
  obtain⟨k2,rfl⟩:∃k,v=ML i2 k:=by unfold ReV at ry;exact ry
  exact⟨EqAt.int_int i1 k1 i2 k2,RcAt.int_int i1 k1 i2 k2,RcNeAt.int_int i1 k1 i2 k2⟩
 | .int i1,.str x2,hn,rx,ry=>
  obtain⟨k1,rfl⟩:∃k,u=ML i1 k:=by unfold ReV at rx;exact rx
  obtain⟨k2,rfl⟩:∃k,v=MM x2 k:=by unfold ReV at ry;exact ry
  exact⟨EqAt.int_str i1 k1 x2 k2,RcAt.int_str i1 k1 x2 k2,RcNeAt.int_str i1 k1 x2 k2⟩
 | .int i1,.tup l2,hn,rx,ry=>
  obtain⟨k1,rfl⟩:∃k,u=ML i1 k:=by unfold ReV at rx;exact rx
  unfold ReV at ry;obtain⟨a2,us2,rfl,h2,q2⟩:=ry
  exact⟨EqAt.int_tuple i1 k1 h2 hu,RcAt.int_tuple i1 k1 h2 hu,RcNeAt.int_tuple i1 k1 h2 hu⟩
 | .int i1,.lst l2,hn,rx,ry=>
  obtain⟨k1,rfl⟩:∃k,u=ML i1 k:=by unfold ReV at rx;exact rx
  unfold ReV at ry;obtain⟨a2,us2,rfl,h2,q2⟩:=ry
  exact⟨EqAt.int_list i1 k1 h2 hu,RcAt.int_list i1 k1 h2 hu,RcNeAt.int_list i1 k1 h2 hu⟩
 | .int i1,.scr l2,hn,rx,ry=>
  obtain⟨k1,rfl⟩:∃k,u=ML i1 k:=by unfold ReV at rx;exact rx
  unfold ReV at ry;obtain⟨a2,us2,rfl,h2,q2⟩:=ry
  exact⟨EqAt.int_list i1 k1 h2 hu,RcAt.int_list i1 k1 h2 hu,RcNeAt.int_list i1 k1 h2 hu⟩
 | .str x1,.non,hn,rx,ry=>
  obtain⟨k1,rfl⟩:∃k,u=MM x1 k:=by unfold ReV at rx;exact rx
  obtain rfl:v=L1:=by unfold ReV at ry;exact ry
  exact⟨EqAt.str_none x1 k1,RcAt.str_none x1 k1,RcNeAt.str_none x1 k1⟩
 | .str x1,.bl b2,hn,rx,ry=>
  obtain⟨k1,rfl⟩:∃k,u=MM x1 k:=by unfold ReV at rx;exact rx
  obtain rfl:v=Mu b2:=by unfold ReV at ry;exact ry
  exact⟨EqAt.str_bool x1 k1 b2,RcAt.str_bool x1 k1 b2,RcNeAt.str_bool x1 k1 b2⟩
 | .str x1,.int i2,hn,rx,ry=>
  obtain⟨k1,rfl⟩:∃k,u=MM x1 k:=by unfold ReV at rx;exact rx
  obtain⟨k2,rfl⟩:∃k,v=ML i2 k:=by unfold ReV at ry;exact ry
  exact⟨EqAt.str_int x1 k1 i2 k2,RcAt.str_int x1 k1 i2 k2,RcNeAt.str_int x1 k1 i2 k2⟩
 | .str x1,.str x2,hn,rx,ry=>
  obtain⟨k1,rfl⟩:∃k,u=MM x1 k:=by unfold ReV at rx;exact rx
  obtain⟨k2,rfl⟩:∃k,v=MM x2 k:=by unfold ReV at ry;exact ry
  exact⟨EqAt.str_str x1 k1 x2 k2,RcAt.str_str x1 k1 x2 k2,RcNeAt.str_str x1 k1 x2 k2⟩
 | .str x1,.tup l2,hn,rx,ry=>
  obtain⟨k1,rfl⟩:∃k,u=MM x1 k:=by unfold ReV at rx;exact rx
  unfold ReV at ry;obtain⟨a2,us2,rfl,h2,q2⟩:=ry
  exact⟨EqAt.str_tuple x1 k1 h2 hu,RcAt.str_tuple x1 k1 h2 hu,RcNeAt.str_tuple x1 k1 h2 hu⟩
 | .str x1,.lst l2,hn,rx,ry=>
  obtain⟨k1,rfl⟩:∃k,u=MM x1 k:=by unfold ReV at rx;exact rx
  unfold ReV at ry;obtain⟨a2,us2,rfl,h2,q2⟩:=ry
  exact⟨EqAt.str_list x1 k1 h2 hu,RcAt.str_list x1 k1 h2 hu,RcNeAt.str_list x1 k1 h2 hu⟩
 | .str x1,.scr l2,hn,rx,ry=>
  obtain⟨k1,rfl⟩:∃k,u=MM x1 k:=by unfold ReV at rx;exact rx
  unfold ReV at ry;obtain⟨a2,us2,rfl,h2,q2⟩:=ry
  exact⟨EqAt.str_list x1 k1 h2 hu,RcAt.str_list x1 k1 h2 hu,RcNeAt.str_list x1 k1 h2 hu⟩
 | .tup l1,.non,hn,rx,ry=>
  unfold ReV at rx;obtain⟨a1,us1,rfl,h1,q1⟩:=rx;obtain rfl:v=L1:=by unfold ReV at ry;exact ry
  exact⟨EqAt.tuple_none h1 hu,RcAt.tuple_none h1 hu,RcNeAt.tuple_none h1 hu⟩
 | .tup l1,.bl b2,hn,rx,ry=>
  unfold ReV at rx;obtain⟨a1,us1,rfl,h1,q1⟩:=rx;obtain rfl:v=Mu b2:=by unfold ReV at ry;exact ry
  exact⟨EqAt.tuple_bool b2 h1 hu,RcAt.tuple_bool b2 h1 hu,RcNeAt.tuple_bool b2 h1 hu⟩
 | .tup l1,.int i2,hn,rx,ry=>
  unfold ReV at rx;obtain⟨a1,us1,rfl,h1,q1⟩:=rx;obtain⟨k2,rfl⟩:∃k,v=ML i2 k:=by unfold ReV at ry;exact ry
  exact⟨EqAt.tuple_int i2 k2 h1 hu,RcAt.tuple_int i2 k2 h1 hu,RcNeAt.tuple_int i2 k2 h1 hu⟩
 | .tup l1,.str x2,hn,rx,ry=>
  unfold ReV at rx;obtain⟨a1,us1,rfl,h1,q1⟩:=rx;obtain⟨k2,rfl⟩:∃k,v=MM x2 k:=by unfold ReV at ry;exact ry
  exact⟨EqAt.tuple_str x2 k2 h1 hu,RcAt.tuple_str x2 k2 h1 hu,RcNeAt.tuple_str x2 k2 h1 hu⟩
 | .tup _,.tup _,hn,_,_=>exact hn.elim
 | .tup l1,.lst l2,hn,rx,ry=>
  unfold ReV at rx;obtain⟨a1,us1,rfl,h1,q1⟩:=rx;unfold ReV at ry;obtain⟨a2,us2,rfl,h2,q2⟩:=ry
  exact⟨EqAt.tuple_list h1 h2 hu,RcAt.tuple_list h1 h2 hu,RcNeAt.tuple_list h1 h2 hu⟩
 | .tup l1,.scr l2,hn,rx,ry=>
  unfold ReV at rx;obtain⟨a1,us1,rfl,h1,q1⟩:=rx;unfold ReV at ry;obtain⟨a2,us2,rfl,h2,q2⟩:=ry
  exact⟨EqAt.tuple_list h1 h2 hu,RcAt.tuple_list h1 h2 hu,RcNeAt.tuple_list h1 h2 hu⟩
 | .lst l1,.non,hn,rx,ry=>
  unfold ReV at rx;obtain⟨a1,us1,rfl,h1,q1⟩:=rx;obtain rfl:v=L1:=by unfold ReV at ry;exact ry
  exact⟨EqAt.list_none h1 hu,RcAt.list_none h1 hu,RcNeAt.list_none h1 hu⟩
 | .lst l1,.bl b2,hn,rx,ry=>
  unfold ReV at rx;obtain⟨a1,us1,rfl,h1,q1⟩:=rx;obtain rfl:v=Mu b2:=by unfold ReV at ry;exact ry
  exact⟨EqAt.list_bool b2 h1 hu,RcAt.list_bool b2 h1 hu,RcNeAt.list_bool b2 h1 hu⟩
 | .lst l1,.int i2,hn,rx,ry=>
  unfold ReV at rx;obtain⟨a1,us1,rfl,h1,q1⟩:=rx;obtain⟨k2,rfl⟩:∃k,v=ML i2 k:=by unfold ReV at ry;exact ry
  exact⟨EqAt.list_int i2 k2 h1 hu,RcAt.list_int i2 k2 h1 hu,RcNeAt.list_int i2 k2 h1 hu⟩
 | .lst l1,.str x2,hn,rx,ry=>
  unfold ReV at rx;obtain⟨a1,us1,rfl,h1,q1⟩:=rx;obtain⟨k2,rfl⟩:∃k,v=MM x2 k:=by unfold ReV at ry;exact ry
  exact⟨EqAt.list_str x2 k2 h1 hu,RcAt.list_str x2 k2 h1 hu,RcNeAt.list_str x2 k2 h1 hu⟩
 | .lst l1,.tup l2,hn,rx,ry=>
  unfold ReV at rx;obtain⟨a1,us1,rfl,h1,q1⟩:=rx;unfold ReV at ry;obtain⟨a2,us2,rfl,h2,q2⟩:=ry
  exact⟨EqAt.list_tuple h1 h2 hu,RcAt.list_tuple h1 h2 hu,RcNeAt.list_tuple h1 h2 hu⟩
 | .lst _,.lst _,hn,_,_=>exact hn.elim
 | .lst _,.scr _,hn,_,_=>exact hn.elim
 | .scr l1,.non,hn,rx,ry=>
  unfold ReV at rx;obtain⟨a1,us1,rfl,h1,q1⟩:=rx;obtain rfl:v=L1:=by unfold ReV at ry;exact ry
  exact⟨EqAt.list_none h1 hu,RcAt.list_none h1 hu,RcNeAt.list_none h1 hu⟩
 | .scr l1,.bl b2,hn,rx,ry=>
  unfold ReV at rx;obtain⟨a1,us1,rfl,h1,q1⟩:=rx;obtain rfl:v=Mu b2:=by unfold ReV at ry;exact ry
  exact⟨EqAt.list_bool b2 h1 hu,RcAt.list_bool b2 h1 hu,RcNeAt.list_bool b2 h1 hu⟩
 | .scr l1,.int i2,hn,rx,ry=>
  unfold ReV at rx;obtain⟨a1,us1,rfl,h1,q1⟩:=rx;obtain⟨k2,rfl⟩:∃k,v=ML i2 k:=by unfold ReV at ry;exact ry
  exact⟨EqAt.list_int i2 k2 h1 hu,RcAt.list_int i2 k2 h1 hu,RcNeAt.list_int i2 k2 h1 hu⟩
 | .scr l1,.str x2,hn,rx,ry=>
  unfold ReV at rx;obtain⟨a1,us1,rfl,h1,q1⟩:=rx;obtain⟨k2,rfl⟩:∃k,v=MM x2 k:=by unfold ReV at ry;exact ry
  exact⟨EqAt.list_str x2 k2 h1 hu,RcAt.list_str x2 k2 h1 hu,RcNeAt.list_str x2 k2 h1 hu⟩
 | .scr l1,.tup l2,hn,rx,ry=>
  unfold ReV at rx;obtain⟨a1,us1,rfl,h1,q1⟩:=rx;unfold ReV at ry;obtain⟨a2,us2,rfl,h2,q2⟩:=ry
  exact⟨EqAt.list_tuple h1 h2 hu,RcAt.list_tuple h1 h2 hu,RcNeAt.list_tuple h1 h2 hu⟩
 | .scr _,.lst _,hn,_,_=>exact hn.elim
 | .scr _,.scr _,hn,_,_=>exact hn.elim
theorem DX:∀(n:Nat) (A:L3) (s:Lj) (x y:T) (u v:Lh),(x.dep<=n\/y.dep<=n)->A.units+n<cLine->ReV s x u->ReV s y v->EqAt A s u v (aV x y)/\RcAt A s u v (aV x y)/\RcNeAt A s u v (!aV x y):=by
 intro n
 induction n with
 | zero=>
  intro A s x y u v hd hu rx ry
  exact uq A s x y u v (by cases x <;> cases y <;> simp_all [iV,T.dep]) (by omega) rx ry
 | succ n ih=>
  intro A s x y u v hd hu rx ry
  have hin:A.in1.units+n<cLine:=by show A.units+1+n<cLine;omega
  have items:∀(l m:List T) (us vs:List Lh),(deps l<=n\/deps m<=n)->ReVs s l us->ReVs s m vs->∃e:Nat->Bool,(∀j (h1:j<us.toArray.size) (h2:j<vs.toArray.size),EqAt A.in1 s us.toArray[j] vs.toArray[j] (e j)) ∧
    (∀(j:Nat) t u,l[j]? =some t->m[j]? =some u->e j=aV t u):=λl m us vs hd r1 r2=>by
   refine⟨λj=>aV (l.getD j .non) (m.getD j .non),λj h1 h2=> ?_,λj t u e1 e2=>by simp[QZ,e1,e2]⟩
   have l1:=r1.length
   have l2:=r2.length
   have h1':j<l.length:=by rw[l1];simpa using h1
   have h2':j<m.length:=by rw[l2];simpa using h2
   have e1:l[j]? =some l[j]:=by simp
   have e2:m[j]? =some m[j]:=by simp
   obtain⟨u1,z1,w1⟩:=r1.get e1;obtain⟨u2,z2,w2⟩:=r2.get e2
   have q1:us.toArray[j] =u1:=by
    have:us[j]? =some us.toArray[j]:=by simp
    rw[z1]at this;exact(LY this).symm
   have q2:vs.toArray[j] =u2:=by
    have:vs[j]? =some vs.toArray[j]:=by simp
    rw[z2]at this;exact(LY this).symm
   rw[q1,q2]
   have g1:l.getD j .non=l[j]:=by simp[QZ,e1]
   have g2:m.getD j .non=m[j]:=by simp[QZ,e2]
   show EqAt A.in1 s u1 u2 (aV (l.getD j .non) (m.getD j .non))
   rw[g1,g2];refine(ih A.in1 s l[j] m[j] u1 u2 ?_ hin w1 w2).1
   rcases hd with hd | hd
   ·exact .inl (Mf (iI e1) hd)
   ·exact .inr (Mf (iI e2) hd)
  have lists:∀(l m:List T) (a b:Addr) (us vs:List Lh),(deps l<=n\/deps m<=n)->ReVs s l us->ReVs s m vs->s.heap.IsList a us.toArray->s.heap.IsList b vs.toArray →
    EqAt A s (.ref a) (.ref b) (beqTs l m)/\RcAt A s (.ref a) (.ref b) (beqTs l m)/\RcNeAt A s (.ref a) (.ref b) (!beqTs l m):=λl m a b us vs hd r1 r2 h1 h2=>by
   have l1:=r1.length
   have l2:=r2.length
   have key:RcAt A s (.ref a) (.ref b) (beqTs l m)/\RcNeAt A s (.ref a) (.ref b) (!beqTs l m):=by
    by_cases hl:l.length=m.length
    ·obtain⟨e,he,hb⟩:=items l m us vs hd r1 r2
     have q:=lu l m e hb
     have q2:beqTs l m=(L6 us.toArray.size).all e:=by
      rw[q,hl,Nat.min_self];simp[l2.symm,hl.symm,l1]
     rw[q2]
     have hsz:us.toArray.size=vs.toArray.size:=by simp;omega
     exact⟨RcAt.lists h1 h2 hsz (by omega) he,RcNeAt.lists h1 h2 hsz (by omega) he⟩
    ·rw[p8 hl]
     have hsz:(us.toArray.size != vs.toArray.size)=true:=by simp;omega
     exact⟨RcAt.lists_lengths h1 h2 hsz (by omega),RcNeAt.lists_lengths h1 h2 hsz (by omega)⟩
   refine⟨?_,key⟩
   by_cases hab:a=b
   ·subst hab
    have:=cE h1 h2;subst this;rw[ReVs.refl r1 r2];exact EqAt.same _
   ·exact EqAt.of_refs hab key.1
  cases x with
  | tup l=>
   cases y with
   | tup m=>
    unfold ReV at rx ry;obtain⟨a,us,rfl,h1,r1⟩:=rx;obtain⟨b,vs,rfl,h2,r2⟩:=ry
    have hd':deps l<=n\/deps m<=n:=by
     simp only[T.dep]at hd;omega
    have l1:=r1.length
    have l2:=r2.length;obtain⟨e,he,hb⟩:=items l m us vs hd' r1 r2
    have q:=lu l m e hb
    have q2:beqTs l m=((L6 (min us.toArray.size vs.toArray.size)).all e&&us.toArray.size == vs.toArray.size):=by
     rw[q];simp[l1,l2]
    have key:RcAt A s (.ref a) (.ref b) (beqTs l m)/\RcNeAt A s (.ref a) (.ref b) (!beqTs l m):=by
     rw[q2];exact⟨RcAt.tuples h1 h2 (by omega) he,RcNeAt.tuples h1 h2 (by omega) he⟩
    unfold aV;refine⟨?_,key⟩
    by_cases hab:a=b
    ·subst hab
     have:=iF h1 h2;subst this;rw[ReVs.refl r1 r2];exact EqAt.same _
    ·exact EqAt.of_refs hab key.1
   | _=>exact uq A s _ _ u v (by simp[iV]) (by omega) rx ry
  | lst l=>
   cases y with
   | lst m=>
    unfold ReV at rx ry;obtain⟨a,us,rfl,h1,r1⟩:=rx;obtain⟨b,vs,rfl,h2,r2⟩:=ry;unfold aV
    exact lists l m a b us vs (by simp only[T.dep]at hd;omega) r1 r2 h1 h2
   | scr m=>
    unfold ReV at rx ry;obtain⟨a,us,rfl,h1,r1⟩:=rx;obtain⟨b,vs,rfl,h2,r2⟩:=ry;unfold aV
    exact lists l (m.map T.int) a b us vs (by rw[eR];omega) r1 (du r2) h1 h2
   | _=>exact uq A s _ _ u v (by simp[iV]) (by omega) rx ry
  | scr l=>
   cases y with
   | lst m=>
    unfold ReV at rx ry;obtain⟨a,us,rfl,h1,r1⟩:=rx;obtain⟨b,vs,rfl,h2,r2⟩:=ry;unfold aV;rw[og]
    exact lists (l.map T.int) m a b us vs (by rw[eR];omega) (du r1) r2 h1 h2
   | scr m=>
    unfold ReV at rx ry;obtain⟨a,us,rfl,h1,r1⟩:=rx;obtain⟨b,vs,rfl,h2,r2⟩:=ry;unfold aV;rw[qo]
    exact lists (l.map T.int) (m.map T.int) a b us vs (by rw[eR];omega) (du r1) (du r2) h1 h2
   | _=>exact uq A s _ _ u v (by simp[iV]) (by omega) rx ry
  | _=>exact uq A s _ _ u v (by simp[iV]) (by omega) rx ry
mutual
def T.nf:T->T
 | .tup l=> .tup (nfs l)
 | .lst l=> .lst (nfs l)
 | .scr l=> .lst (l.map .int)
 | .non=> .non
 | .bl b=> .bl b
 | .int b=> .int b
 | .str b=> .str b
 | .dct a b=> .dct a b
 | .ob a b c=> .ob a b c
def nfs:List T->List T
 | [] => []
 | t::l=>t.nf::nfs l
end
theorem tU:∀(l:List Int),nfs (l.map T.int)=l.map T.int
 | [] =>rfl
 | i::l=>by rw[Lk,nfs,tU l];simp[T.nf]
mutual
theorem kx:∀(t x:T),aV t.nf x=aV t x
 | .non,x=>by simp[T.nf]
 | .bl _,x=>by simp[T.nf]
 | .int _,x=>by simp[T.nf]
 | .str _,x=>by simp[T.nf]
 | .tup l,x=>by cases x <;> simp[T.nf,aV,beqTs_nf l]
 | .lst l,x=>by cases x <;> simp[T.nf,aV,beqTs_nf l]
 | .scr l,x=>by cases x <;> simp[T.nf,aV,og,qo]
 | .dct _ _,x=>by simp[T.nf]
 | .ob _ _ _,x=>by simp[T.nf]
theorem beqTs_nf:∀(l m:List T),beqTs (nfs l) m=beqTs l m
 | [],m=>by simp[nfs]
 | t::l,m=>by cases m <;> simp[nfs,beqTs,kx t,beqTs_nf l]
end
theorem G9 {s:Lj}{t:T}{i:Int}{k:Tok}(r:ReV s t (.int i k)):t.nf= .int i:=by
 cases t with
 | non=>unfold ReV at r;cases r
 | bl b=>unfold ReV at r;cases r
 | int j=>unfold ReV at r;obtain⟨t,e⟩:=r;injection e with e1 _;subst e1;rfl
 | str x=>unfold ReV at r;obtain⟨t,e⟩:=r;cases e
 | tup l=>unfold ReV at r;obtain⟨a,its,e,_⟩:=r;cases e
 | lst l=>unfold ReV at r;obtain⟨a,its,e,_⟩:=r;cases e
 | scr l=>unfold ReV at r;obtain⟨a,its,e,_⟩:=r;cases e
 | dct _ _=>unfold ReV at r;exact r.elim
 | ob _ _ _=>unfold ReV at r;exact r.elim
theorem xn {s:Lj}:∀{l:List T} {us:List Lh} {ns:List Int},ReVs s l us->OJ us ns->nfs l=ns.map T.int
 | [],us,ns,r,h=>by cases ReVs.AC.mp r;cases h;rfl
 | t::l,us,ns,r,h=>by
  obtain⟨u,ws,rfl,p,q⟩:=ReVs.me.mp r
  cases h with
  | cons a b hh=>rw[nfs,G9 p,xn q hh];rfl
mutual
theorem ReV.nf {s:Lj}:∀{t u:T} {v:Lh},ReV s t v->ReV s u v->t.nf=u.nf
 | .non,u,v,r,q=>by
  unfold ReV at r;subst r
  cases u <;> (unfold ReV at q) <;> first | rfl | (cases q;done) | (obtain⟨_,e⟩:=q;cases e;done) | (obtain⟨_,_,e,_⟩:=q;cases e;done)
 | .bl b,u,v,r,q=>by
  unfold ReV at r;subst r
  cases u <;> (unfold ReV at q) <;> first | (cases q;done) | (cases q;rfl) | (obtain⟨_,e⟩:=q;cases e;done) | (obtain⟨_,_,e,_⟩:=q;cases e;done)
 | .int b,u,v,r,q=>by
  unfold ReV at r;obtain⟨k,rfl⟩:=r
  cases u <;> (unfold ReV at q) <;> first | (cases q;done) | (obtain⟨_,e⟩:=q;cases e;done) | (obtain⟨_,e⟩:=q;cases e;rfl) | (obtain⟨_,_,e,_⟩:=q;cases e;done)
 | .str b,u,v,r,q=>by
  unfold ReV at r;obtain⟨k,rfl⟩:=r
  cases u <;> (unfold ReV at q) <;> first | (cases q;done) | (obtain⟨_,e⟩:=q;cases e;done) | (obtain⟨_,e⟩:=q;cases e;rfl) | (obtain⟨_,_,e,_⟩:=q;cases e;done)
 | .tup l,u,v,r,q=>by
  unfold ReV at r;obtain⟨a,its,rfl,h1,h2⟩:=r
  cases u with
  | non=>unfold ReV at q;cases q
  | dct _ _=>unfold ReV at q;exact q.elim
  | ob _ _ _=>unfold ReV at q;exact q.elim
  | bl _=>unfold ReV at q;cases q
  | int _=>unfold ReV at q;obtain⟨_,e⟩:=q;cases e
  | str _=>unfold ReV at q;obtain⟨_,e⟩:=q;cases e
  | tup m=>
   unfold ReV at q;obtain⟨a',its',e,h1',h2'⟩:=q;injection e with e;subst e
   have:=iF h1 h1';subst this;unfold T.nf
   rw[ReVs.nf h2 h2']
  | lst m=>unfold ReV at q;obtain⟨a',its',e,h1',h2'⟩:=q;injection e with e;subst e;exact absurd rfl (ne_of_list_tuple h1' h1)
  | scr m=>unfold ReV at q;obtain⟨a',its',e,h1',h2'⟩:=q;injection e with e;subst e;exact absurd rfl (ne_of_list_tuple h1' h1)
 | .lst l,u,v,r,q=>by
  unfold ReV at r;obtain⟨a,its,rfl,h1,h2⟩:=r
  cases u with
  | non=>unfold ReV at q;cases q
  | dct _ _=>unfold ReV at q;exact q.elim
  | ob _ _ _=>unfold ReV at q;exact q.elim
  | bl _=>unfold ReV at q;cases q
  | int _=>unfold ReV at q;obtain⟨_,e⟩:=q;cases e
  | str _=>unfold ReV at q;obtain⟨_,e⟩:=q;cases e
  | lst m=>
   unfold ReV at q;obtain⟨a',its',e,h1',h2'⟩:=q;injection e with e;subst e
   have:=cE h1 h1';subst this;unfold T.nf
   rw[ReVs.nf h2 h2']
  | tup m=>unfold ReV at q;obtain⟨a',its',e,h1',h2'⟩:=q;injection e with e;subst e;exact absurd rfl (ne_of_list_tuple h1 h1')
  | scr m=>
   unfold ReV at q;obtain⟨a',its',e,h1',h2'⟩:=q;injection e with e;subst e
   have:=cE h1 h1';subst this;unfold T.nf
   rw[ReVs.nf h2 (du h2'),tU]
 | .scr l,u,v,r,q=>by
  unfold ReV at r;obtain⟨a,its,rfl,h1,h2⟩:=r
  cases u with
  | non=>unfold ReV at q;cases q
  | dct _ _=>unfold ReV at q;exact q.elim
  | ob _ _ _=>unfold ReV at q;exact q.elim
  | bl _=>unfold ReV at q;cases q
  | int _=>unfold ReV at q;obtain⟨_,e⟩:=q;cases e
  | str _=>unfold ReV at q;obtain⟨_,e⟩:=q;cases e
  | lst m=>
   unfold ReV at q;obtain⟨a',its',e,h1',h2'⟩:=q;injection e with e;subst e
   have:=cE h1 h1';subst this
   have z:=xn h2' h2;unfold T.nf
   rw[z]
  | tup m=>unfold ReV at q;obtain⟨a',its',e,h1',h2'⟩:=q;injection e with e;subst e;exact absurd rfl (ne_of_list_tuple h1 h1')
  | scr m=>
   unfold ReV at q;obtain⟨a',its',e,h1',h2'⟩:=q;injection e with e;subst e
   have:=cE h1 h1';subst this
   rw[iG h2 h2']
 | .dct _ _,u,v,r,q=>by unfold ReV at r;exact r.elim
 | .ob _ _ _,u,v,r,q=>by unfold ReV at r;exact r.elim
theorem ReVs.nf {s:Lj}:∀{l m:List T} {us:List Lh},ReVs s l us->ReVs s m us->nfs l=nfs m
 | [],m,us,r,q=>by
  cases ReVs.AC.mp r
  cases m with
  | nil=>rfl
  | cons _ _=>obtain⟨_,_,e,_⟩:=ReVs.me.mp q;cases e
 | t::l,m,us,r,q=>by
  obtain⟨v,ws,rfl,p,z⟩:=ReVs.me.mp r
  cases m with
  | nil=>cases ReVs.AC.mp q
  | cons u m=>
   obtain⟨v',ws',e,p',z'⟩:=ReVs.me.mp q;injection e with e1 e2
   subst e1 e2;rw[nfs,nfs,ReV.nf p p',ReVs.nf z z']
end
section
variable {X:Cx}{a b c:Expr}{fa fb fc:En->Rs T}{pos:Pos}
def fA (x y:T):Bool:=(decide (x.dep<=60)||decide (y.dep<=60))&&(x.nd&&y.nd)
def o8 (x y:T):Rs T:=if fA x y=true then .ok (.bl (aV x y))else .bad
def kS (x y:T):Rs T:=if fA x y=true then .ok (.bl (!aV x y))else .bad
theorem fz {x y:T}(h:x.dep<=60)(hx:x.nd=true)(hy:y.nd=true):fA x y=true:=by unfold fA;rw[decide_eq_true h,hx,hy];rfl
theorem Bf {x y:T}(h:y.dep<=60)(hx:x.nd=true)(hy:y.nd=true):fA x y=true:=by unfold fA;rw[decide_eq_true h,hx,hy,Bool.or_true];rfl
theorem i7 {x y:T}(h:fA x y=true):x.nd=true/\y.nd=true:=by
 unfold fA at h;exact Mx.mp (Mx.mp h).2
theorem pQ {x y:T}(h:fA x y=true):x.dep<=60\/y.dep<=60:=by
 unfold fA at h
 replace h:=(Mx.mp h).1
 rcases Bool.or_eq_true_iff.mp h with h | h
 ·exact .inl (of_decide_eq_true h)
 ·exact .inr (of_decide_eq_true h)
theorem mW (hu:X.A.units+60<cLine):OpT X (L7 .Eq) o8:=by
 intro pins s σ H O x y vx vy ux uy Q I hf rx ry r1 r2 hp;unfold o8 at hp
 split at hp
 ·rename_i h
  have z:=DX 60 X.A s x y ux uy (pQ h) hu (Rep.val I (i7 h).1 rx r1) (Rep.val I (i7 h).2 ry r2);exact z.2.1 _ _ _ _ ⟨.bl _,H,I,rfl,hp H (Same.refl H) _ (Rep.bl_ _)⟩
 ·exact hp.elim
theorem mV (hu:X.A.units+60<cLine):OpT X (L7 .NotEq) kS:=by
 intro pins s σ H O x y vx vy ux uy Q I hf rx ry r1 r2 hp;unfold kS at hp
 split at hp
 ·rename_i h
  have z:=DX 60 X.A s x y ux uy (pQ h) hu (Rep.val I (i7 h).1 rx r1) (Rep.val I (i7 h).2 ry r2);exact z.2.2 _ _ _ _ ⟨.bl _,H,I,rfl,hp H (Same.refl H) _ (Rep.bl_ _)⟩
 ·exact hp.elim
def T.items:T->Option (List T)
 | .tup l=>some l
 | .lst l=>some l
 | .scr l=>some (l.map T.int)
 | _=>none
def qb (x:T)(l:List T):Bool:=l.any λy=>aV y x
def HC (x y:T):Rs T:=match y.items with
 | some l=>if (x.dep<=60\/deps l<=60)/\x.nd=true/\y.nd=true then .ok (.bl (qb x l))else .bad
 | none=> .bad
theorem DG {A:L3}{s:Lj}{x:T}{ux:Lh}(rx:ReV s x ux)(hu:A.units+60<cLine){l:List T}{us:List Lh}(hd:x.dep<=60\/deps l<=60)(r:ReVs s l us) :
  ∃e:Lh->Bool,(∀y∈us,EqAt A s y ux (e y))/\us.any e=qb x l:=by
 classical
 have ex:∀y∈us,∃t∈l,ReV s t y:=λy hy=>by
  obtain⟨i,hi,rfl⟩:=Nx hy
  have hl:=r.length
  have e1:l[i]? =some l[i]:=by simp
  obtain⟨u,q1,q2⟩:=r.get e1
  have:us[i]? =some us[i]:=by simp
  rw[this]at q1;cases q1;exact⟨l[i],MB _,q2⟩
 let e:Lh->Bool:=λy=>decide (∃t∈l,ReV s t y/\aV t x=true)
 have dep:∀t∈l,t.dep<=60\/x.dep<=60:=λt ht=>by
  rcases hd with h | h
  ·exact .inr h
  ·obtain⟨i,hi,rfl⟩:=Nx ht
   exact .inl (Mf (iI (i:=i) (by simp)) h)
 have uniq:∀y t t',ReV s t y->ReV s t' y->aV t x=aV t' x:=λy t t' z z'=>by
  rw[<-kx t,<-kx t',ReV.nf z z']
 have agree:∀y t,t∈l->ReV s t y->e y=aV t x:=λy t h z=>by
  show decide (∃t∈l,ReV s t y/\aV t x=true)=aV t x
  cases q:aV t x with
  | true=>exact decide_eq_true ⟨t,h,z,q⟩
  | false=>
   refine decide_eq_false ?_
   rintro ⟨t',h',z',q'⟩
   rw[<-uniq y t t' z z',q]at q';cases q'
 refine⟨e,λy hy=> ?_,?_⟩
 ·obtain⟨t,h,z⟩:=ex y hy
  rw[agree y t h z];exact(DX 60 A s t x y ux (dep t h) hu z rx).1
 ·have go:∀(l':List T) (us':List Lh),(∀t∈l',t∈l)->ReVs s l' us'->us'.any e=l'.any λy=>aV y x:=by
   intro l'
   induction l' with
   | nil=>intro us' _ r';rw[ReVs.AC.mp r'];rfl
   | cons t l' ih=>
    intro us' sub r';obtain⟨u,ws,rfl,p,q⟩:=ReVs.me.mp r';rw[Ny,Ny,ih ws (λt ht=>sub t (Lg _ ht)) q,agree u t (sub t Ll) p]
  exact go l us (λ_ h=>h) r
theorem yz {s:Lj}{y:T}{u:Lh}{l:List T}(r:ReV s y u)(h:y.items=some l):∃a us,u= .ref a/\ReVs s l us/\(s.heap.IsTuple a us.toArray\/s.heap.IsList a us.toArray):=by
 cases y with
 | tup m=>cases h;unfold ReV at r;obtain⟨a,us,e,h1,h2⟩:=r;exact⟨a,us,e,h2,.inl h1⟩
 | lst m=>cases h;unfold ReV at r;obtain⟨a,us,e,h1,h2⟩:=r;exact⟨a,us,e,h2,.inr h1⟩
 | scr m=>cases h;unfold ReV at r;obtain⟨a,us,e,h1,h2⟩:=r;exact⟨a,us,e,du h2,.inr h1⟩
 | _=>cases h
theorem IL (hu:X.A.units+61<cLine):OpT X (L7 .In) HC:=by
 intro pins s σ H O x y vx vy ux uy Q I hf rx ry r1 r2 hp;unfold HC at hp
 split at hp
 ·rename_i l hl
  split at hp
  ·rename_i hd3
   obtain⟨hd,hnx,hny⟩:=hd3;obtain⟨a,us,rfl,rs,hh⟩:=yz (Rep.val I hny ry r2) hl;obtain⟨e,he,ha⟩:=DG (A:=X.A.in1) (Rep.val I hnx rx r1) (by show X.A.units+1+60<cLine;omega) hd rs
   have q:=hp H (Same.refl H) _ (Rep.bl_ (qb x l))
   have he':∀y,y∈us.toArray->EqAt X.A.in1 s y ux (e y):=λy hy=>he y (by simpa using hy)
   have ha':us.toArray.any e=qb x l:=by simpa using ha
   rcases hh with hh | hh
   ·exact in_tupleAt e hh he' (by rw[ha'];exact⟨.bl _,H,I,rfl,q⟩)
   ·exact in_listAt e hh he' (by rw[ha'];exact⟨.bl _,H,I,rfl,q⟩)
  ·exact hp.elim
 ·exact hp.elim
def ch (g g':T->T->Rs T)(fa fb fc:En->Rs T)(Z:En):Rs T:=do
 let x <-fa Z
 let y <-fb Z
 let z <-g x y
 match z with
 | .bl true=>do
  let w <-fc Z
  g' y w
 | .bl false=> .ok (.bl false)
 | _=> .bad
theorem C8 {op op':Sm}{g g':T->T->Rs T}(ho:OpT X (L7 op) g)(ho':OpT X (L7 op') g')(ha:b6 X a fa)(hb:b6 X b fb)(hc:b6 X c fc)
  (hm:autoParam (lastMarks [op,op'] [b,c] =false) aqf._auto_1):b6 X (.Compare a [op,op'] [b,c] pos) (ch g g' fa fb fc):=by
 intro pins s σ H Q I ⟨Z,O,E,hq⟩
 have h1:=aT E hq;refine Compare_chain (bR (ha pins s σ H _ I h1) λv s1 ⟨x,H1,I1,r1,t,rt,s',E',q1⟩=>chain_link ?_) hm
 have h2:=aT (f:=fb) E' q1;refine bR (hb pins s1 σ H1 _ I1 h2) λu s2 hh_=> ?_
 obtain⟨y,H2,I2,r2,t2,rt2,s'',E'',q2⟩:=hh_
 refine bR (ho pins s2 σ H2 O t t2 x y v u (λv' H'=> ∃t',Rep X.K O H' t' v'/\Same H2 H'/\Post X H' (match t' with
  | .bl true=>fc Z >>= λw=>g' t2 w
  | .bl false=> .ok (.bl false)
  | _=> .bad) (λt H'=> ∀v,Rep X.K O H' t v->Q v H')) I2 (λp=>E''.fresh) (rt.same s'') rt2 r1 r2 (Post.mono q2.bind λt' H' s3 q v rv=>⟨t',rv,s3,q⟩)) λd s3 ⟨z,H3,I3,r3,t3,rt3,sm3,q3⟩=> ?_
 have E3:=E''.same sm3
 split at q3
 ·cases Rep.FM.mp rt3
  cases r3;refine MR (ite_tt (chain_last ?_))
  have h4:=aT (f:=fc) E3 q3;refine bR (hc pins s3 σ H3 _ I3 h4) λw' s4 ⟨z',H4,I4,r4,t4,rt4,s4',E4,q4⟩=> ?_
  exact ho' pins s4 σ H4 O t2 t4 y z' u w' Q I4 (λp=>E4.fresh) ((rt2.same sm3).same s4') rt4 r2 r4 q4
 ·cases Rep.FM.mp rt3
  cases r3;refine MR (ite_ff ⟨.bl false,H3,I3,rfl,q3 H3 (Same.refl H3) _ (Rep.bl_ false)⟩)
 ·exact q3.elim
def tb (f:En->Rs T)(Z:En):Rs Bool:=do
 let x <-f Z
 match x with
 | .bl k=> .ok k
 | _=> .bad
def bt (f:En->Rs Bool)(Z:En):Rs T:=do
 let k <-f Z
 .ok (.bl k)
theorem FN {e:Expr}{f:En->Rs T}(h:b6 X e f)(he:autoParam (∀whole,isTrue e X.env whole=(do let v <-whole;standAt e.pos;holding [v] (truthy v))) aqc._auto_1):uC X e (tb f):=by
 intro pins s σ H Q I ⟨Z,O,E,hq⟩;refine zI h he pins s σ H Q I ?_
 obtain⟨Z1,O1,E1,h1⟩:=aT E hq;refine⟨Z1,O1,E1,Post.mono h1 λts H1 s1 q vs r=> ?_⟩
 obtain⟨t',r',s',E',q'⟩:=q vs r
 split at q'
 ·exact⟨_,Rep.FM.mp r',q' H1 (Same.refl H1)⟩
 ·exact q'.elim
theorem FP {op:Sm}{g:T->T->Rs T}(ho:OpT X (L7 op) g)(ha:b6 X a fa)(hb:b6 X b fb)(hm:autoParam (Og op b=false) aqd._auto_1):uC X (.Compare a [op] [b] pos) (tb (o2 g fa fb)):=by
 intro pins s σ H Q I ⟨Z,O,E,hq⟩
 have hq':Post X H (o2 g fa fb Z) λt H'=> ∀v,Rep X.K O H' t v->∃k,v= .bl k/\Q k H':=Post.mono hq.bind λt H' s' q v r=>by
  split at q
  ·exact⟨_,Rep.FM.mp r,q H' (Same.refl H')⟩
  ·exact q.elim
 have h1:=aT E hq';refine wpAny_isTrue_Compare1 (bR (ha pins s σ H _ I h1) λv s1 ⟨x,H1,I1,r1,t,rt,s',E',q1⟩=> ?_) hm
 have h2:=aT (f:=fb) E' q1;refine bR (hb pins s1 σ H1 _ I1 h2) λu s2 hh_=> ?_
 obtain⟨y,H2,I2,r2,t2,rt2,s'',E'',q2⟩:=hh_;refine bR (ho pins s2 σ H2 O t t2 x y v u _ I2 (λp=>E''.fresh) (rt.same s'') rt2 r1 r2 q2) λd s3 hh_=> ?_
 obtain⟨z,H3,I3,r3,k,e,q3⟩:=hh_;subst e;cases r3;exact MR ⟨H3,I3,q3⟩
def lX (f g:En->Rs Bool)(Z:En):Rs Bool:=do
 let k <-f Z
 if k then g Z else .ok false
def kA (f g:En->Rs Bool)(Z:En):Rs Bool:=do
 let k <-f Z
 if k then .ok true else g Z
def cK (f:En->Rs Bool)(Z:En):Rs Bool:=do
 let k <-f Z
 .ok (!k)
variable {f g:En->Rs Bool}{bN:List Expr}
abbrev Ff (X:Cx)(e:Expr)(f:En->Rs Bool):Prop:=PW X e (BX X f)
theorem CJ (ha:uC X a f):Ff X (.BoolOp .And [a] pos) f:=wu ha
theorem FK (ha:uC X a f):Ff X (.BoolOp .Or [a] pos) f:=Gb ha
theorem FL (ha:uC X a f)(hb:Ff X (.BoolOp .And (b::bN) pos) g):Ff X (.BoolOp .And (a::b::bN) pos) (lX f g):=by
 intro wh pins s σ H Q I ⟨Z,O,E,hq⟩;refine zH ha hb wh pins s σ H Q I ?_
 obtain⟨Z1,O1,E1,h1⟩:=jQ E hq;refine⟨Z1,O1,E1,Post.mono h1 λk H1 s1 q=> ?_⟩
 obtain⟨s',E',q'⟩:=q
 cases k with
 | true=>rw[if_pos rfl];exact⟨Z,O,E',by simpa using q'⟩
 | false=>rw[if_neg LM];exact q' H1 (Same.refl H1)
theorem Ih (ha:uC X a f)(hb:Ff X (.BoolOp .Or (b::bN) pos) g):Ff X (.BoolOp .Or (a::b::bN) pos) (kA f g):=by
 intro wh pins s σ H Q I ⟨Z,O,E,hq⟩;refine IG ha hb wh pins s σ H Q I ?_
 obtain⟨Z1,O1,E1,h1⟩:=jQ E hq;refine⟨Z1,O1,E1,Post.mono h1 λk H1 s1 q=> ?_⟩
 obtain⟨s',E',q'⟩:=q
 cases k with
 | true=>rw[if_pos rfl];exact q' H1 (Same.refl H1)
 | false=>rw[if_neg LM];exact⟨Z,O,E',by simpa using q'⟩
theorem qt_w {e:Expr}(h:Ff X e f):uC X e f:=h.pt
theorem FO (ha:uC X a f):uC X (.UnaryOp .Not a pos) (cK f):=by
 intro pins s σ H Q I ⟨Z,O,E,hq⟩;refine zJ ha pins s σ H Q I ?_
 obtain⟨Z1,O1,E1,h1⟩:=jQ E hq;exact⟨Z1,O1,E1,Post.mono h1 λk H1 s1 ⟨s',E',q'⟩=>q' H1 (Same.refl H1)⟩
def bX (f g:En->Rs T)(Z:En):Rs T:=do
 let x <-f Z
 match x with
 | .bl true=>g Z
 | .bl false=> .ok (.bl false)
 | _=> .bad
def BZ (f g:En->Rs T)(Z:En):Rs T:=do
 let x <-f Z
 match x with
 | .bl true=> .ok (.bl true)
 | .bl false=>g Z
 | _=> .bad
def DA:T->Rs T
 | .bl k=> .ok (.bl (!k))
 | _=> .bad
theorem Iq {op}(h:b6 X a fa):b6 X (.BoolOp op [a] pos) fa:=Gi h
theorem IF (ha:b6 X a fa)(hb:b6 X (.BoolOp .And (b::bN) pos) fb):b6 X (.BoolOp .And (a::b::bN) pos) (bX fa fb):=by
 intro pins s σ H Q I ⟨Z,O,E,hq⟩;refine Gp ha hb pins s σ H Q I ?_
 obtain⟨Z1,O1,E1,h1⟩:=aT E hq;refine⟨Z1,O1,E1,Post.mono h1 λts H1 s1 q vs r=> ?_⟩
 obtain⟨t',r',s',E',q'⟩:=q vs r
 split at q'
 ·exact⟨true,Rep.FM.mp r',by rw[if_pos rfl];exact⟨Z,O,E',q'⟩⟩
 ·exact⟨false,Rep.FM.mp r',by rw[if_neg LM];exact q' H1 (Same.refl H1) _ (Rep.bl_ false)⟩
 ·exact q'.elim
theorem q_or (ha:b6 X a fa)(hb:b6 X (.BoolOp .Or (b::bN) pos) fb):b6 X (.BoolOp .Or (a::b::bN) pos) (BZ fa fb):=by
 intro pins s σ H Q I ⟨Z,O,E,hq⟩;refine IJ ha hb pins s σ H Q I ?_
 obtain⟨Z1,O1,E1,h1⟩:=aT E hq;refine⟨Z1,O1,E1,Post.mono h1 λts H1 s1 q vs r=> ?_⟩
 obtain⟨t',r',s',E',q'⟩:=q vs r
 split at q'
 ·exact⟨true,Rep.FM.mp r',by rw[if_pos rfl];exact q' H1 (Same.refl H1) _ (Rep.bl_ true)⟩
 ·exact⟨false,Rep.FM.mp r',by rw[if_neg LM];exact⟨Z,O,E',q'⟩⟩
 ·exact q'.elim
theorem Ir (ha:b6 X a fa):b6 X (.UnaryOp .Not a pos) (o1 DA fa):=by
 intro pins s σ H Q I ⟨Z,O,E,hq⟩;refine Gj ha pins s σ H Q I ?_
 obtain⟨Z1,O1,E1,h1⟩:=aT E hq;refine⟨Z1,O1,E1,Post.mono h1 λts H1 s1 q vs r=> ?_⟩
 obtain⟨t',r',s',E',q'⟩:=q vs r;unfold DA at q'
 split at q'
 ·exact⟨_,Rep.FM.mp r',q' H1 (Same.refl H1) _ (Rep.bl_ _)⟩
 ·exact q'.elim
def EY (f:En->Rs Bool)(fa fb:En->Rs T)(Z:En):Rs T:=do
 let k <-f Z
 if k then fa Z else fb Z
theorem q_if (hc:uC X c f)(ha:b6 X a fa)(hb:b6 X b fb):b6 X (.IfExp c a b pos) (EY f fa fb):=by
 intro pins s σ H Q I ⟨Z,O,E,hq⟩;refine zV hc ha hb pins s σ H Q I ?_
 obtain⟨Z1,O1,E1,h1⟩:=jQ E hq;refine⟨Z1,O1,E1,Post.mono h1 λk H1 s1 q=> ?_⟩
 obtain⟨s',E',q'⟩:=q
 cases k with
 | true=>rw[if_pos rfl];exact⟨Z,O,E',by simpa using q'⟩
 | false=>rw[if_neg LM];exact⟨Z,O,E',by simpa using q'⟩
end
end Tr
namespace HT
open PySem PyProof.Rows
section
variable {prog:LP}{w:Mh}{A:L3}{E:Lh->Lj->Prop}{s:Lj}
theorem jf {t:Addr}{items:Array Lh}{Q:Bool->Lj->Prop}(ht:Sk s.heap t items)(h:Q true s):wpAny (model prog w) A (O5 (.ref t)) Q E s:=by
 unfold O5;refine Li (OB ht.typeIs (Lr ?_))
 exact h
theorem getItem_tuple_whole {t sl:Addr}{items:Array Lh}{vl vu:Lh}{lo hi:Option Int}{Q:Lh->Lj->Prop}(ht:Sk s.heap t items)(hs:s.heap.IsSliceOf sl vl vu .none)(pl:Rc vl lo)(pu:Rc vu hi)
  (hw:sIx items.size 0 lo=0/\sIx items.size items.size hi=items.size) (h:Q (.ref t) s):wpAny (model prog w) A (getItem (.ref t) (.ref sl)) Q E s:=by
 obtain⟨os,hos,hcs,hds⟩:=id hs
 have hTs:s.TypeIs (.ref sl) "slice":=⟨os,hos,hcs⟩;unfold getItem
 try with_reducible refine ON ?_
 first | refine Li (Lr ?_) | skip
 refine Li (PC ht.typeIs (by decide) ?_)
 refine Li (MI (name:=Lu "__getitem__") ht.typeIs LS
  (NA LS ht.typeIs O4 ?_ (Pf _ _)))
 show wpAny _ _ (NS (.ref t) >>= _) _ _ s
 refine Li (PQ ht ?_)
 refine Li (OB hTs ?_)
 rw[if_pos (by decide)]
 refine Li (gB hs pl pu ?_)
 have hyes:(((sIx items.size 0 lo:Nat):Int) == 0&&(1:Int) == 1&&(sIx items.size items.size hi - sIx items.size 0 lo) == items.size)=true:=by
  rw[hw.1,hw.2];simp
 show wpAny _ _ (if (((sIx items.size 0 lo:Nat):Int) == 0&&(1:Int) == 1&&(sIx items.size items.size hi - sIx items.size 0 lo) == items.size)=true then _ else _) _ _ s
 rw[if_pos hyes]
 first
  | refine Li (jf ht ?_)
  | refine jf ht ?_
 try rw[if_pos rfl]
 first
  | exact Li (Rt (Lr ⟨_,rfl,Lr h⟩))
  | exact Li (Rt (Li (Lr (Lr ⟨_,rfl,Lr h⟩))))
theorem kE {sl:Addr}{t:Tok}{n:Nat}{Q:Int×Int×Nat->Lj->Prop}(hs:s.heap.IsSliceOf sl .none .none (.int (-1) t))
  (h:Q ((n:Int) - 1,-1,n) s):wpAny (model prog w) A (Nb (.ref sl) (pure (n:Int))) Q E s:=by
 obtain⟨os,hos,hcs,hds⟩:=id hs;unfold Nb Pj;refine Li (Li (MT hos hds (x:=.none) rfl (Li (MT hos hds (x:=.none) rfl (Li (MT hos hds (x:=.int (-1) t) rfl (Lr ?_)))))))
 refine Li (slicePart_int ?_)
 show wpAny _ _ (if ((-1:Int) == 0)=true then _ else _) _ _ s
 rw[if_neg (by decide)]
 refine Li (Pl (Li (Pl (Li (Lr ?_)))))
 show wpAny _ _ (match MA none none (-1) (n:Int)with | (lo,hi)=>pure (lo,(-1:Int),Mc lo hi (-1))) _ _ s
 have e1:MA none none (-1) (n:Int)=((n:Int) - 1,-1):=by simp[MA]
 have e2:Mc ((n:Int) - 1) (-1) (-1)=n:=by
  unfold Mc;simp only[show ¬((-1:Int) > 0)by decide,if_false,Int.neg_neg,RB]
  split <;> omega
 rw[e1]
 show wpAny _ _ (pure ((n:Int) - 1,(-1:Int),Mc ((n:Int) - 1) (-1) (-1))) _ _ s
 rw[e2];exact Lr h
theorem tF (xs:List Lh):((L6 xs.length).filterMap λ(m:Nat)=>xs.toArray[(((xs.length:Int) - 1)+(m:Int)*(-1)).toNat]?)=xs.reverse:=by
 apply List.ext_getElem?
 intro i
 have key:∀m∈L6 xs.length,xs.toArray[(((xs.length:Int) - 1)+(m:Int)*(-1)).toNat]? =some (xs.reverse.getD m .none):=λm hm=>by
  have hm':m<xs.length:=Mp.mp hm
  have e:(((xs.length:Int) - 1)+(m:Int)*(-1)).toNat=xs.length - 1 - m:=by omega
  rw[e,List.getElem?_toArray,Ls (by omega)]
  have:m<xs.reverse.length:=by simpa using hm'
  simp[QZ,Ls this,List.getElem_reverse]
 have hmap:((L6 xs.length).filterMap λ(m:Nat)=>xs.toArray[(((xs.length:Int) - 1)+(m:Int)*(-1)).toNat]?)=(L6 xs.length).map λm=>xs.reverse.getD m .none:=by
  have gen:∀(r:List Nat) (f:Nat->Option Lh) (g:Nat->Lh),(∀m∈r,f m=some (g m))->r.filterMap f=r.map g:=by
   intro r f g
   induction r with
   | nil=>intro _;rfl
   | cons m r ih=>
    intro h;rw[MC,h m Ll,Lk,ih λm' hm'=>h m' (Lg _ hm')]
  exact gen _ _ _ key
 rw[hmap];rw[LI]
 by_cases hi:i<xs.length
 ·have hr:i<xs.reverse.length:=by simpa using hi
  rw[QF hi]
  simp[QZ,Ls hr]
 ·rw[MX (by simpa using hi),MX (by simpa using hi)]
  rfl
theorem slicePick_rev (xs:List Lh):Se xs.toArray none none (some (-1))=xs.reverse.toArray:=by
 have e:Se xs.toArray none none (some (-1))=((sliceRange ((xs.toArray.size:Int) - 1) (-1) (-1)).filterMap (xs.toArray[·]?)).toArray:=rfl
 rw[e,<-tF xs,Lx];unfold sliceRange
 have c:(if ((xs.length:Int) - 1) > -1 then(((xs.length:Int) - 1) - (-1) - (-1) - 1) / (-(-1:Int))else 0).toNat=xs.length:=by
  rw[Int.neg_neg,RB]
  split <;> omega
 show(((L6 (if ((xs.length:Int) - 1) > -1 then(((xs.length:Int) - 1) - (-1) - (-1) - 1) / (-(-1:Int))else 0).toNat).map λ(k:Nat)=>(((xs.length:Int) - 1)+(-1)*(k:Int)).toNat).filterMap (xs.toArray[·]?)).toArray=_
 rw[c,QR]
 congr 2
 funext k
 show xs.toArray[(((xs.length:Int) - 1)+(-1)*(k:Int)).toNat]? =_
 rw[Int.mul_comm]
theorem getItem_tuple_rev {u sl:Addr}{items:List Lh}{t:Tok}{Q:Lh->Lj->Prop}(ht:Sk s.heap u items.toArray)(hs:s.heap.IsSliceOf sl .none .none (.int (-1) t))
  (h:Q (.ref s.heap.objs.size) { s with heap:=s.heap.push { cls:=.type "tuple",data:=.seq items.reverse.toArray } })
  (hsz:items.length<=sizeLine):wpAny (model prog w) A (getItem (.ref u) (.ref sl)) Q E s:=by
 have htake:sizeOk (.seq items.reverse.toArray):=by
  show items.reverse.toArray.size<=sizeLine
  simpa using hsz
 obtain⟨os,hos,hcs,hds⟩:=id hs
 have hTs:s.TypeIs (.ref sl) "slice":=⟨os,hos,hcs⟩;unfold getItem
 try with_reducible refine ON ?_
 first | refine Li (Lr ?_) | skip
 refine Li (PC ht.typeIs (by decide) ?_)
 refine Li (MI (name:=Lu "__getitem__") ht.typeIs LS
  (NA LS ht.typeIs O4 ?_ (Pf _ _)))
 show wpAny _ _ (NS (.ref u) >>= _) _ _ s
 refine Li (PQ ht ?_)
 refine Li (OB hTs ?_)
 rw[if_pos (by decide)]
 refine Li (kE (n:=items.toArray.size) hs ?_)
 show wpAny _ _ (if ((((items.toArray.size:Nat):Int) - 1) == 0&&(-1:Int) == 1&&items.toArray.size == items.toArray.size)=true then _ else _) _ _ s
 rw[if_neg (by simp)]
 have e:((L6 items.toArray.size).filterMap λ(m:Nat)=>items.toArray[((((items.toArray.size:Nat):Int) - 1)+(m:Int)*(-1)).toNat]?)=items.reverse:=by
  rw[Lx];exact tF items
 rw[e]
 first
  | exact Li (m:=L5 _) (Mg (Lr ⟨_,rfl,Lr h⟩) htake)
  | exact Li (m:=L5 _) (Mg (Li (Lr (Lr ⟨_,rfl,Lr h⟩))) htake)
  | exact Li (Li (m:=L5 _) (Mg (Lr (Lr ⟨_,rfl,Lr h⟩)) htake))
  | exact Li (Li (m:=L5 _) (Mg (Lr ⟨_,rfl,Lr h⟩) htake))
end
end HT
namespace Tr
open PySem PySem.Spec PyProof.Rows L2
section
variable {X:Cx}{a b c:Expr}{fa fb fc:En->Rs T}{pos:Pos}
theorem Reps.atI {K:Ld}{O:Ow}{H:Hp}{l:List T}{vs:List V}{i:Int}{t:T}(r:Reps K O H l vs)(e:L2.atI l i=some t):∃v,L2.atI vs i=some v/\Rep K O H t v:=by
 unfold L2.atI at e ⊢;rw[r.length]at e
 cases q:ixN vs.length i with
 | none=>rw[q]at e;cases e
 | some j=>
  rw[q]at e;obtain⟨v,e1,e2⟩:=r.get (i:=j) (t:=t) e;exact⟨v,e1,e2⟩
def aU (x y:T):Rs T:=match x.items,y with
 | some l,.int i=>match L2.atI l i with
  | some t=> .ok t
  | none=> .bad
 | _,_=> .bad
theorem q_ix (ha:b6 X a fa)(hb:b6 X b fb)(hs:autoParam (xO b) aqg._auto_1):b6 X (.Subscript a b pos) (o2 aU fa fb):=by
 intro pins s σ H Q I ⟨Z,O,E,hq⟩
 have h1:=aT E hq;refine Rr (bR (ha pins s σ H _ I h1) λv s1 hh_=> ?_)
 obtain⟨x,H1,I1,r1,t,rt,s',E',q1⟩:=hh_
 have h2:=aT (f:=fb) E' q1;refine bR (hb pins s1 σ H1 _ I1 h2) λu s2 hh_=> ?_
 obtain⟨y,H2,I2,r2,t2,rt2,s'',E'',q2⟩:=hh_
 have rt':=rt.same s'';unfold aU at q2
 split at q2
 ·rename_i l i hl
  split at q2
  ·rename_i z hz
   have hy:=Rep.Da.mp rt2;refine G7 a b pins s2 σ H2 x y v u Q I2 r1 r2 ?_ (hs _ _)
   cases t with
   | tup m=>
    cases hl;obtain⟨p,vs,e,n,q,rr⟩:=Rep.Fk.mp rt';obtain⟨w,ew,rw'⟩:=rr.atI hz
    exact .inr (.inl ⟨p,vs,i,w,e,hy,SqT.of q,ew,q2 H2 (Same.refl H2) _ rw'⟩)
   | lst m=>
    cases hl;obtain⟨p,vs,e,n,q,rr⟩:=Rep.Do.mp rt';obtain⟨w,ew,rw'⟩:=rr.atI hz
    exact .inl ⟨p,vs,i,w,e,hy,SqL.of q,ew,q2 H2 (Same.refl H2) _ rw'⟩
   | scr m=>
    cases hl;unfold Rep at rt';obtain⟨p,e,n,q⟩:=rt';obtain⟨w,ew,rw'⟩:=(Reps.ints (K:=X.K) (O:=O) (H:=H2) (ns:=m)).atI hz
    exact .inl ⟨p,_,i,w,e,hy,q,ew,q2 H2 (Same.refl H2) _ rw'⟩
   | _=>cases hl
  ·exact q2.elim
 ·exact q2.elim
def sd (l:List T)(lo hi:Option Int):List T:=(l.drop (HT.sIx l.length 0 lo)).take (HT.sIx l.length l.length hi - HT.sIx l.length 0 lo)
theorem Reps.cut {K:Ld}{O:Ow}{H:Hp}{l:List T}{vs:List V}(r:Reps K O H l vs)(lo hi:Option Int):Reps K O H (sd l lo hi) (uw vs lo hi):=by
 unfold sd uw;rw[r.length];exact(r.drop _).take _
theorem yK {l:List T}{lo hi:Option Int}(h:HT.sIx l.length 0 lo=0/\HT.sIx l.length l.length hi=l.length):sd l lo hi=l:=by
 unfold sd;rw[h.1,h.2];simp
theorem sl_tup_whole:SlR X (λx lo hi H Q=> ∃a xs,x= .ref a/\SqT X.K H a xs/\(HT.sIx xs.length 0 lo=0/\HT.sIx xs.length xs.length hi=xs.length)/\Q (.ref a) H):=by
 intro pins s σ H x v vl vu lo hi sl Q I rx hs pl pu h;obtain⟨a,xs,rfl,hx,hw,q⟩:=h;cases rx;obtain⟨its,r,ht,hz⟩:=I.tuple hx
 have hlen:its.toArray.size=xs.length:=by rw[Lx];exact r.length.symm
 refine⟨"tuple",_,LS.lookup,ht.typeIs,?_⟩
 exact HT.getItem_tuple_whole ht hs pl pu (by rw[hlen];exact hw) ⟨.ref a,H,I,rfl,q⟩
def pN (_:En):Rs (Option Int):=.ok none
def pS (f:En->Rs T)(Z:En):Rs (Option Int):=do
 let x <-f Z
 match x with
 | .int i=> .ok (some i)
 | _=> .bad
def tPO (X:Cx)(f:En->Rs (Option Int)):TO:=λσ H Q=> ∃Z O,EnvO X.K O H Z σ/\Post X H (f Z) λb H'=>Q b H'
abbrev JS (X:Cx)(e:Option Expr)(f:En->Rs (Option Int)):Prop:=PO X e (tPO X f)
theorem CQ:JS X none pN:=by
 intro pins s σ H Q I ⟨Z,O,E,hq⟩;exact Dg pins s σ H Q I (hq H (Same.refl H))
theorem CP (ha:b6 X a fa):JS X (some a) (pS fa):=by
 intro pins s σ H Q I ⟨Z,O,E,hq⟩;refine Df ha pins s σ H Q I ?_
 obtain⟨Z1,O1,E1,h1⟩:=aT E hq;refine⟨Z1,O1,E1,Post.mono h1 λts H1 s1 q vs r=> ?_⟩
 obtain⟨t',r',s',E',q'⟩:=q vs r
 split at q'
 ·exact⟨_,Rep.Da.mp r',q' H1 (Same.refl H1)⟩
 ·exact q'.elim
def slT (x:T)(lo hi:Option Int):Rs T:=match x with
 | .tup l=> .ok (.tup (sd l lo hi))
 | .lst l=> .ok (.lst (sd l lo hi))
 | _=> .bad
def sl (fe:En->Rs T)(fl fu:En->Rs (Option Int))(Z:En):Rs T:=do
 let x <-fe Z
 let l <-fl Z
 let u <-fu Z
 slT x l u
theorem sR {σ:L2.St}{H:Hp}{Z:En}{O:Ow}{α:Type}{f:En->Rs (Option Int)}{k:Option Int->Rs α}{Q:α->Hp->Prop}(E:EnvO X.K O H Z σ)(h:Post X H (f Z >>= k) Q) :
  tPO X f σ H λb H'=>Same H H'/\EnvO X.K O H' Z σ/\Post X H' (k b) Q:=
 ⟨Z,O,E,Post.mono h.bind λt H' s q=>⟨s,E.same s,q⟩⟩
theorem CY {lo hi:Option Expr}{p2:Pos}{fl fu:En->Rs (Option Int)}(ha:b6 X a fa)(hl:JS X lo fl)(hu:JS X hi fu):b6 X (.Subscript a (.Slice lo hi none p2) pos) (sl fa fl fu):=by
 intro pins s σ H Q I ⟨Z,O,E,hq⟩;refine zS (sl_tup.or (sl_tup_whole.or Cu)) ha hl hu pins s σ H Q I ?_
 obtain⟨Z1,O1,E1,h1⟩:=aT E hq;refine⟨Z1,O1,E1,Post.mono h1 λts H1 s1 q vs r=> ?_⟩
 obtain⟨t',r',s',E',q'⟩:=q vs r;obtain⟨Z2,O2,E2,h2⟩:=sR E' q';refine⟨Z2,O2,E2,Post.mono h2 λo1 H2 s2 q=> ?_⟩
 obtain⟨s2',E2',q2⟩:=q;obtain⟨Z3,O3,E3,h3⟩:=sR E2' q2;refine⟨Z3,O3,E3,Post.mono h3 λo2 H3 s3 q=> ?_⟩
 obtain⟨s3',E3',q3⟩:=q
 have rt:=(r'.same s2').same s3';unfold slT at q3
 split at q3
 ·rename_i l
  obtain⟨p,ws,e,n,q,rr⟩:=Rep.Fk.mp rt
  have hlen:=rr.length
  by_cases hw:HT.sIx ws.length 0 o1=0/\HT.sIx ws.length ws.length o2=ws.length
  ·refine .inr (.inl ⟨p,ws,e,SqT.of q,hw,?_⟩)
   rw[<-hlen]at hw;refine q3 H3 (Same.refl H3) _ ?_
   rw[yK hw];exact Rep.Fk.mpr ⟨p,ws,rfl,n,q,rr⟩
  ·exact .inl ⟨p,ws,e,SqT.of q,hw,λp' hp=>q3 _ (aZ hp _) _ (fg hp (E3'.fresh hp) (rr.cut o1 o2))⟩
 ·rename_i l
  obtain⟨p,ws,e,n,q,rr⟩:=Rep.Do.mp rt;exact .inr (.inr ⟨p,ws,e,SqL.of q,λp' hp=>q3 _ (aZ hp _) _ (iu hp (E3'.fresh hp) (rr.cut o1 o2))⟩)
 ·exact q3.elim
def CB:T->Rs T
 | .tup l=> .ok (.tup l.reverse)
 | .lst l=> .ok (.lst l.reverse)
 | _=> .bad
theorem Reps.reverse {K:Ld}{O:Ow}{H:Hp}:∀{l:List T} {vs:List V},Reps K O H l vs->Reps K O H l.reverse vs.reverse
 | [],vs,r=>by rw[Reps.AC.mp r];exact Reps.Gc
 | t::l,vs,r=>by
  obtain⟨v,us,rfl,p,q⟩:=Reps.me.mp r;rw[On,On];exact q.reverse.append (Reps.FS p Reps.Gc)
theorem Ip {j:Nat}{p1 p2 p3:Pos}(ha:b6 X a fa):b6 X (.Subscript a (.Slice none none (some (.UnaryOp .USub (.Constant (.int 1) j p1) p2)) p3) pos) (o1 CB fa):=by
 intro pins s σ H Q I ⟨Z,O,E,hq⟩
 have h1:=aT E hq;refine Rr (bR (ha pins s σ H _ I h1) λv s1 hh_=> ?_)
 obtain⟨x,H1,I1,r1,t,rt,s',E',q1⟩:=hh_;refine wpAny_Slice ?_
 rw[Re];refine Lr (Lr ?_)
 rw[evalPart_some];refine bR (EJ zj zU pins s1 σ H1 (λw' H'=>w'= .int (-1)/\H'=H1) I1 ⟨1,rfl,rfl,rfl⟩) λsv s2 hh_=> ?_
 obtain⟨w',H2,I2,r2,e1,e2⟩:=hh_;subst e1 e2;obtain⟨tk,rfl⟩:=r2
 have I4:Inv X pins σ H2 { s2 with heap:=s2.heap.push { cls:=.type "slice",data:=.fields #[.none,.none,.int (-1) tk] } }:=I2.kept (t':=s2.toks) λb ob q=>Lq _ q
 unfold CB at q1
 split at q1
 ·rename_i l
  obtain⟨p,ws,e,n,q,rr⟩:=Rep.Fk.mp rt;subst e;cases r1;obtain⟨its,r,ht,hz⟩:=I4.tuple (SqT.of q)
  have hs:Sj (s2.heap.push { cls:=.type "slice",data:=.fields #[.none,.none,.int (-1) tk] }) s2.heap.objs.size .none .none (.int (-1) tk):=Pb ..;refine tail_any (ops:=[.ref p,.ref s2.heap.objs.size]) ht.typeIs LS.lookup ?_ (by with_unfolding_all rfl)
  refine HT.getItem_tuple_rev ht hs ?_ (by rw[<-r.length];exact hz)
  refine⟨.ref _,_,I4.laid (t':=s2.toks) (o:=.tup ws.reverse) (λb ob q=>Lq _ q) (Lv _) ?_,rfl,?_⟩
  ·exact⟨by rw[QH];exact hz,_,r.reverse,QU _ _⟩
  ·have hn:=I4.hok.fresh (Lv _)
   exact q1 _ (aZ hn _) _ (fg hn (E'.fresh hn) rr.reverse)
 ·rename_i l
  obtain⟨p,ws,e,n,q,rr⟩:=Rep.Do.mp rt;subst e;cases r1;obtain⟨its,r,ht,hz⟩:=I4.list (SqL.of q)
  have hs:Sj (s2.heap.push { cls:=.type "slice",data:=.fields #[.none,.none,.int (-1) tk] }) s2.heap.objs.size .none .none (.int (-1) tk):=Pb ..;refine tail_any (ops:=[.ref p,.ref s2.heap.objs.size]) ht.isList.typeIs slot_list_getitem.lookup ?_ (by with_unfolding_all rfl)
  refine PD ht.isList hs .none .none (.int (-1) tk) (by simp) ?_ (by rw[Lx,<-r.length];exact hz)
  rw[HT.slicePick_rev];refine⟨.ref _,_,I4.laid (t':=s2.toks) (o:=.lst ws.reverse) (λb ob q=>Lq _ q) (Lv _) ?_,rfl,?_⟩
  ·exact⟨by rw[QH];exact hz,_,0,r.reverse,LB _ rfl⟩
  ·have hn:=I4.hok.fresh (Lv _)
   exact q1 _ (aZ hn _) _ (iu hn (E'.fresh hn) rr.reverse)
 ·exact q1.elim
def CallT (X:Cx)(f:Lh)(g:List T->Rs T):Prop:=
 ∀(pins:List (Addr×Obj)) (s:Lj) (σ:L2.St) (H:Hp) (O:Ow) (ts:List T) (vs:List V) (us:List Lh) (Q:VK),Inv X pins σ H s->(∀p,H p=none->¬ O p)->Reps X.K O H ts vs->Vals vs us →
  Post X H (g ts) (λt H'=> ∀v,Rep X.K O H' t v->Q v H')->wpAny (model X.prog X.w) X.A (call f us) (EP X pins σ Q) X.xe s
theorem CallT.of {f:Lh}{r:List V->Hp->VK->Prop}(h:CallR X f r){g:List T->Rs T}
  (w:∀(H:Hp) (O:Ow) (ts:List T) (vs:List V) (Q:VK),(∀p,H p=none->¬ O p)->Reps X.K O H ts vs->Post X H (g ts) (λt H'=> ∀v,Rep X.K O H' t v->Q v H')->r vs H Q):CallT X f g:=
 λpins s σ H O ts vs us Q I hf rs rv hp=>h pins s σ H vs us Q I rv (w H O ts vs Q hf rs hp)
def cl (g:List T->Rs T)(fs:En->Rs (List T))(Z:En):Rs T:=fs Z >>= g
variable {e:Expr}{es:List Expr}{fs:En->Rs (List T)}{x:Str}{p:Pos}{id:String}{g:List T->Rs T}
theorem C9 (hc:CallT X (.builtin id) g)(hm:X.mg x=none)(hv:Ma x=some (.builtin id))(ha:pd X (e::es) fs)(hg:autoParam (Gl X x) aqd._auto_1)(hn:autoParam (x≠ "__name__") aqb._auto_1)(hdb:autoParam ((x == ("__debug__" : Str))=false) aqb._auto_1)
  (he:autoParam (LA (e::es) X.env=(false,eval e X.env)::LA es X.env) aqd._auto_1) (hpl:autoParam ((backTo pos (LA es X.env)).any (·.1)=false) aqd._auto_1):b6 X (.Call (.Name x p) (e::es) [] pos) (cl g fs):=by
 intro pins s σ H Q I ⟨Z,O,E,hq⟩;refine MH (jB I hg hm hv ?_ hn hdb)
 have h1:=gy E hq;exact Ou (bR (ha pos pins s σ H _ I h1) λus s1 ⟨vs,H1,I1,r1,ts,rs,s',E',q1⟩=>hc pins s1 σ H1 O ts vs us Q I1 (λp=>E'.fresh) rs r1 q1) he hpl
theorem zG {Ty:String}(hc:CallT X (.type Ty) g)(hm:X.mg x=none)(hv:Ma x=some (.type Ty))(ha:pd X (e::es) fs)(hg:autoParam (Gl X x) aqd._auto_1)(hn:autoParam (x≠ "__name__") aqb._auto_1)(hdb:autoParam ((x == ("__debug__" : Str))=false) aqb._auto_1)
  (he:autoParam (LA (e::es) X.env=(false,eval e X.env)::LA es X.env) aqd._auto_1) (hpl:autoParam ((backTo pos (LA es X.env)).any (·.1)=false) aqd._auto_1):b6 X (.Call (.Name x p) (e::es) [] pos) (cl g fs):=by
 intro pins s σ H Q I ⟨Z,O,E,hq⟩;refine MH (jB I hg hm hv ?_ hn hdb)
 have h1:=gy E hq;exact M7 (bR (ha pos pins s σ H _ I h1) λus s1 ⟨vs,H1,I1,r1,ts,rs,s',E',q1⟩=>hc pins s1 σ H1 O ts vs us Q I1 (λp=>E'.fresh) rs r1 q1) he hpl
theorem Reps.one {K:Ld}{O:Ow}{H:Hp}{t:T}{vs:List V}(r:Reps K O H [t] vs):∃v,vs= [v]/\Rep K O H t v:=by
 obtain⟨v,ws,rfl,p,q⟩:=Reps.me.mp r;cases Reps.AC.mp q;exact⟨v,rfl,p⟩
theorem Rep.sq {K:Ld}{O:Ow}{H:Hp}{t:T}{v:V}{l:List T}(r:Rep K O H t v)(h:t.items=some l):∃a vs,v= .ref a/\¬ O a/\Reps K O H l vs/\(SqL K H a vs\/SqT K H a vs):=by
 cases t with
 | tup m=>cases h;obtain⟨a,vs,e,n,q,z⟩:=Rep.Fk.mp r;exact⟨a,vs,e,n,z,.inr (SqT.of q)⟩
 | lst m=>cases h;obtain⟨a,vs,e,n,q,z⟩:=Rep.Do.mp r;exact⟨a,vs,e,n,z,.inl (SqL.of q)⟩
 | scr m=>cases h;unfold Rep at r;obtain⟨a,e,n,q⟩:=r;exact⟨a,_,e,n,Reps.ints,.inl q⟩
 | _=>cases h
def cz:List T->Rs T
 | [.str x] =>if x.length<=sizeLine then .ok (.int x.length)else .bad
 | [x] =>match x.items with
  | some l=> .ok (.int l.length)
  | none=> .bad
 | _=> .bad
theorem ck:CallT X (.builtin "len") cz:=CallT.of (call_len_seq.or sg) λH O ts vs Q hf rs hp=>by
 unfold cz at hp
 split at hp
 ·obtain⟨v,rfl,r⟩:=rs.one
  split at hp
  ·rename_i h
   exact .inr ⟨_,by rw[Rep.GE.mp r],h,hp H (Same.refl H) _ (Rep.GT _)⟩
  ·exact hp.elim
 ·obtain⟨v,rfl,r⟩:=rs.one
  split at hp
  ·rename_i l hl
   obtain⟨a,vs,rfl,n,z,q⟩:=r.sq hl;exact .inl ⟨a,vs,rfl,q,hp H (Same.refl H) _ (by rw[<-z.length];exact Rep.GT _)⟩
  ·exact hp.elim
 ·exact hp.elim
def fV:List T->Rs T
 | [.tup l] => .ok (.tup l)
 | [.lst l] => .ok (.tup l)
 | _=> .bad
theorem kr:CallT X (.type "tuple") fV:=CallT.of o9 λH O ts vs Q hf rs hp=>by
 unfold fV at hp
 split at hp
 ·obtain⟨v,rfl,r⟩:=rs.one
  obtain⟨a,ws,rfl,n,q,z⟩:=Rep.Fk.mp r;exact⟨a,ws,rfl,.inr ⟨SqT.of q,hp H (Same.refl H) _ (Rep.Fk.mpr ⟨a,ws,rfl,n,q,z⟩)⟩⟩
 ·obtain⟨v,rfl,r⟩:=rs.one
  obtain⟨a,ws,rfl,n,q,z⟩:=Rep.Do.mp r;exact⟨a,ws,rfl,.inl ⟨SqL.of q,λl hl=>hp _ (aZ hl _) _ (fg hl (hf l hl) z)⟩⟩
 ·exact hp.elim
def vJ:List T->Rs T
 | [.int i] => .ok (.int i)
 | [.bl k] => .ok (.int (if k then 1 else 0))
 | _=> .bad
theorem BG:CallT X (.type "int") vJ:=CallT.of yM λH O ts vs Q hf rs hp=>by
 unfold vJ at hp
 split at hp
 ·obtain⟨v,rfl,r⟩:=rs.one
  exact .inl ⟨_,by rw[Rep.Da.mp r],hp H (Same.refl H) _ (Rep.GT _)⟩
 ·obtain⟨v,rfl,r⟩:=rs.one
  exact .inr ⟨_,by rw[Rep.FM.mp r],hp H (Same.refl H) _ (Rep.GT _)⟩
 ·exact hp.elim
def n9:List T->Option (List Bool)
 | [] =>some []
 | .bl k::r=>(n9 r).map (k:: ·)
 | _=>none
def om:List T->Rs T
 | [.lst l] =>match n9 l with
  | some ks=> .ok (.bl (ks.all λk=>k))
  | none=> .bad
 | _=> .bad
theorem n8 {K:Ld}{O:Ow}{H:Hp}:∀{l:List T} {ks:List Bool} {vs:List V} {us:List Lh},n9 l=some ks->Reps K O H l vs->Vals vs us->us=ks.map Mu
 | [],ks,vs,us,e,r,v=>by cases e;cases Reps.AC.mp r;cases v;rfl
 | t::l,ks,vs,us,e,r,v=>by
  obtain⟨w,ws,rfl,p,q⟩:=Reps.me.mp r
  cases t with
  | bl k=>
   unfold n9 at e
   cases z:n9 l with
   | none=>rw[z]at e;cases e
   | some ks'=>
    rw[z]at e;cases e
    cases v with
    | cons v1 v2=>
     cases Rep.FM.mp p;cases v1
     rw[n8 z q v2];rfl
  | _=>cases e
theorem nY (hc:X.calm=true):CallT X (.builtin "all") om:=by
 intro pins s σ H O ts vs us Q I hf rs rv hp;unfold om at hp
 split at hp
 ·obtain⟨v,rfl,r⟩:=rs.one
  split at hp
  ·rename_i ks hk
   obtain⟨a,ws,rfl,n,q,z⟩:=Rep.Do.mp r;obtain⟨u,rfl,ru⟩:=jN rv;cases ru;obtain⟨its,r',pl,hz⟩:=I.list (SqL.of q)
   have hits:=n8 hk z r';refine call_all_walk (PB pl.isList ?_)
   have hne:a≠s.heap.objs.size:=λe=>by
    obtain⟨o,ho,_⟩:=pl.isList;rw[e]at ho;exact absurd (Lw ho) (LV _)
   refine⟨s.heap.objs.size,_,_,_,_,_,λi=>(ks[i]?).getD true,rfl,Walks.list (A:=X.A.in1) (I.ok.hd hc) s.heap.objs.size a hne its.toArray,⟨⟨_,LB _ rfl,rfl,rfl⟩,?_⟩,?_,?_⟩
   ·obtain⟨o,ho,hh⟩:=pl.isList
    exact⟨o,Lq _ ho,hh⟩
   ·intro i v s' Q' E' hP hQ'
    subst hits
    dsimp only at hQ'
    have hP':(ks.map Mu)[i]? =some v:=by simpa using hP
    rw[LI]at hP'
    cases e:ks[i]? with
    | none=>rw[e]at hP';cases hP'
    | some k=>
     rw[e]at hP' hQ';cases hP';exact MR hQ'
   ·intro h' tk hk'
    have hlen:its.toArray.size=ks.length:=by rw[hits];simp
    have e:((L6 its.toArray.size).all λi=>(ks[i]?).getD true)=(ks.all λk=>k):=by
     rw[hlen];rw[Bool.eq_iff_iff,LK,LK]
     constructor
     ·intro h x hx
      obtain⟨i,hi,rfl⟩:=Nx hx
      have:=h i (Mp.mpr hi)
      simpa [hi]using this
     ·intro h i hi
      have hi':=Mp.mp hi
      have:=h ks[i] (MB hi')
      simpa [hi']using this
    rw[e]
    have I1:Inv X pins σ H { s with heap:=s.heap.push { cls:=.type "list_iterator",data:=.fields #[.ref a,.int 0 0] } }:=I.kept (t':=s.toks) λb o e=>Lq _ e
    have I2:Inv X pins σ H { s with heap:=h',toks:=tk }:=by
     have:=I1.turned (h':=h') (t':=tk) (it:=s.heap.objs.size) (λb o hb e=>hk' b o (by simpa using hb) e) (I.hok.fresh (Lv _))
      (Pc I.lt) (.inr I.sz) (λx c e z=> ?_) (λp hp z=> ?_)
     ·exact this
     ·obtain⟨v,q⟩:=I.cell x c e
      exact absurd (LC q.lt (Oz z.symm)) (LV _)
     ·exact absurd (LC (Lw (I.pin p hp).1) (Oz z.symm)) (LV _)
    exact⟨.bl _,H,I2,rfl,hp H (Same.refl H) _ (Rep.bl_ _)⟩
  ·exact hp.elim
 ·exact hp.elim
end
def T.ty:T->Option String
 | .non=>some "NoneType"
 | .bl _=>some "bool"
 | .int _=>some "int"
 | .str _=>some "str"
 | .tup _=>some "tuple"
 | .lst _=>some "list"
 | .scr _=>none
 | .dct _ _=>none
 | .ob _ _ _=>none
def uj (i b t l s:Bool)(Ty:String):Option Bool:=match Ty with
 | "int" =>some i | "bool" =>some b | "tuple" =>some t | "list" =>some l | "str" =>some s
 | _=>none
def xj (n Ty:String):Option Bool:=match n with
 | "NoneType" =>uj false false false false false Ty
 | "bool" =>uj true true false false false Ty
 | "int" =>uj true false false false false Ty
 | "str" =>uj false false false false true Ty
 | "tuple" =>uj false false true false false Ty
 | "list" =>uj false false false true false Ty
 | _=>none
theorem yB (K:Ld){n Ty:String}{b:Bool}(h:xj n Ty=some b):PySem.W.kitOne K (.type n) (.type Ty)=some b:=by
 unfold xj at h
 split at h <;> first | (cases h;done) | (unfold uj at h;split at h <;> first | (cases h;done) | (cases h;kernel_rfl))
def AS (Ty:String)(t:T):Rs T:=match t.ty with
 | some n=>match xj n Ty with
  | some b=> .ok (.bl b)
  | none=> .bad
 | none=> .bad
theorem Rep.K9 {K:Ld}{O:Ow}{H:Hp}{t:T}{v:V}{n:String}(r:Rep K O H t v)(h:t.ty=some n):ly K H v (.type n):=by
 cases t with
 | non=>cases h;cases Rep.Ka.mp r;exact .non
 | bl b=>cases h;cases Rep.FM.mp r;exact .bl b
 | int b=>cases h;cases Rep.Da.mp r;exact .int b
 | str b=>cases h;cases Rep.GE.mp r;exact .str b
 | tup l=>cases h;obtain⟨a,vs,rfl,_,q,_⟩:=Rep.Fk.mp r;exact .tup q
 | lst l=>cases h;obtain⟨a,vs,rfl,_,q,_⟩:=Rep.Do.mp r;exact .lst q
 | scr l=>cases h
 | dct _ _=>cases h
 | ob _ _ _=>cases h
section
variable {X:Cx}{a b c e:Expr}{es:List Expr}{fa fb fc:En->Rs T}{fs:En->Rs (List T)}{pos p p2:Pos}{x:Str}
theorem lW:Ma "isinstance" =some (.builtin "isinstance"):=by decide+kernel
theorem Iz {tn:Str}{Ty:String}(hm:X.mg "isinstance" =none)(hmt:X.mg tn=none)(hv:Ma tn=some (.type Ty))(ha:b6 X a fa)(hg:autoParam (Gl X "isinstance") aqd._auto_1)(hgt:autoParam (Gl X tn) aqd._auto_1)
  (hn:autoParam (tn≠ "__name__") aqb._auto_1) (hd:autoParam ((tn == ("__debug__" : Str))=false) aqb._auto_1)
  (he:autoParam (LA [a,.Name tn p2] X.env=(false,eval a X.env)::LA [.Name tn p2] X.env) aqd._auto_1) (hpl:autoParam ((backTo pos (LA [.Name tn p2] X.env)).any (·.1)=false) aqd._auto_1)
  (hs:autoParam (LA [.Name tn p2] X.env=(false,eval (.Name tn p2) X.env)::LA [] X.env) aqd._auto_1) :
  b6 X (.Call (.Name "isinstance" p) [a,.Name tn p2] [] pos) (o1 (AS Ty) fa):=by
 intro pins s σ H Q I ⟨Z,O,E,hq⟩;refine MH (jB I hg hm lW ?_ (by decide) (by decide))
 have hA:PA X [a,.Name tn p2] (zm (tP X fa) (zm (tC (.ty Ty)) HP)):=fM ha (fM (Dq (v:=.ty Ty) hgt hmt hv rfl hn hd) kI hs) he;obtain⟨Z1,O1,E1,h1⟩:=aT E hq;refine Ou (bR (hA pos pins s σ H (λvs H'=> ∃v t,vs= [v,.ty Ty]/\Rep X.K O H' t v/\Post X H' (AS Ty t) (λt H'=> ∀v,Rep X.K O H' t v->Q v H')) I ?_) λus s1 ⟨vs,H1,I1,r1,v,t,e1,rt,q⟩=> ?_) he hpl
 ·refine⟨Z1,O1,E1,Post.mono h1 λts H1 s1 q vs r=> ?_⟩
  obtain⟨t',r',s',E',q'⟩:=q vs r;exact⟨vs,t',rfl,r',q'⟩
 ·subst e1
  obtain⟨u,w',rfl,ru,rw'⟩:=HK r1;cases rw';unfold AS at q
  split at q
  ·rename_i n hn'
   split at q
   ·rename_i bb hb
    exact yA I1 ru (rt.K9 hn') (yB _ hb) λtk=>⟨.bl bb,H1,I1.tok _,rfl,q H1 (Same.refl H1) _ (Rep.bl_ _)⟩
   ·exact q.elim
  ·exact q.elim
def spP (K:Ld)(n:Nat)(g:List T->Rs T):Sp:=λvs H Q _=> ∃ts O,Reps K O H ts vs/\(∀a,O a->Mtb H a)/\ts.length=n ∧
 match g ts with
 | .ok t=> ∀v H',Same H H'->Rep K O H' t v->Q v H'
 | _=>False
def RzC (P:LP)(w:Mh)(mg:Str->Option Lh)(outer:List Env)(H:Hp)(s:Lj)(c:Str)(ev:Lh)(s':Lj):Prop:=
 ∃e T C H',ev= .ref e/\mg c=some (.ref C)/\s'.os=s.os/\PP s'.gens/\Un (nN outer) [] H H' s.heap s'.heap/\HOk P w H' s'.heap/\Same H H'/\H' e=none/\s.heap.get? e=none/\JU s'.heap C e (some T)/\H' T=none/\s.heap.get? T=none
def FnX (P:LP)(w:Mh)(K:Ld)(mg:Str->Option Lh)(base:Heap)(k:Nat)(f:Addr)(fd:Mo)(ps:List Str)(n:Nat)(g:List T->Rs T):Prop:=
 ∀(A:L3) (outer:List Env) (s:Lj) (H:Hp) (args:Args) (us:List Lh) (vs:List V) (O:Ow) (ts:List T) (c:Str) (R:Sd->Lj->Prop),Room k A->Env0 P w K mg base A outer s H->Qm s fd args (ps.zip us)->Vals vs us →
  Reps K O H ts vs->(∀a,O a->Mtb H a)->ts.length=n->g ts= .err c->(∀ev s',RzC P w mg outer H s c ev s'->R (.error ev) s')->codeAny (model P w) A (.call (.ref f) args) R s
structure B6 (P:LP)(w:Mh)(K:Ld)(mg:Str->Option Lh)(base:Heap)(k:Nat)(f:Addr)(fd:Mo)(ps:List Str)(n:Nat)(g:List T->Rs T):Prop where
 h:ox P w K mg base CX0 k f fd ps (spP K n g)
 x:FnX P w K mg base k f fd ps n g
theorem z8 {P:LP}{w:Mh}{H:Hp}{h:Heap}{a:Addr}{o:HO}(x:ObjOk P w H h a o):∃u,h.get? a=some u:=by
 cases o with
 | lst xs=>obtain⟨_,_,_,_,e⟩:=x;exact⟨_,e⟩
 | tup xs=>obtain⟨_,_,_,ob,e,_⟩:=x;exact⟨_,e⟩
 | dK kvs=>obtain⟨_,_,_,_,o,_,_,e,_⟩:=x;exact⟨_,e⟩
 | dT kvs=>obtain⟨_,_,_,_,o,_,_,e,_⟩:=x;exact⟨_,e⟩
 | set S n=>obtain⟨o,_,_,_,e,_⟩:=x;exact⟨_,e⟩
 | ins C dx fs=>obtain⟨_,_,_,e,_⟩:=x;exact⟨_,e⟩
 | own y=>obtain⟨_,e⟩:=x;exact⟨_,e⟩
 | xd fs=>obtain⟨_,⟨_,_,_,e,_⟩,_⟩:=x;exact⟨_,e⟩
 | rng lo hi=>obtain⟨_,_,_,e⟩:=x;exact⟨_,e⟩
 | frz ob u=>obtain⟨e,_⟩:=x;exact⟨_,e⟩
 | tbl ps=>exact⟨_,(show h.get? a=some _ from x)⟩
 | met f y=>exact⟨_,(show h.get? a=some _ from x)⟩
 | ext φ=>obtain⟨_,⟨_,e⟩,_⟩:=x;exact⟨_,e⟩
theorem ka {X:Cx}{pins:List (Addr×Obj)}{σ:L2.St}{H:Hp}{s:Lj}(I:Inv X pins σ H s){e:Addr}(n:s.heap.get? e=none):H e=none:=by
 cases z:H e with
 | none=>rfl
 | some o=>
  obtain⟨o',ho'⟩:=z8 (I.hok e o z);rw[n]at ho';cases ho'
theorem gc {X:Cx}{pins:List (Addr×Obj)}{σ:L2.St}{H:Hp}{s:Lj}(I:Inv X pins σ H s)(hex:X.ex= []){e:Addr}(n:s.heap.get? e=none):X.s₀.heap.get? e=none:=by
 cases z:X.s₀.heap.get? e with
 | none=>rfl
 | some o=>
  obtain⟨o',ho'⟩:=I.base.there e o z (by rw[hex];simp)
  rw[n]at ho';cases ho'
theorem Ga {n k:Nat}{f:Addr}{fd:Mo}{ps:List Str}{g:List T->Rs T}(F:B6 X.prog X.w X.K X.mg X.base k f fd ps n g)(hr:Room k X.A)(hm:X.mg x=some (.ref f))(hk:Ni X.K (.ref f)=true)(hb:Binds X.K fd ps [])(hps:ps.length=n)
  (hl:∀Z ts,fs Z= .ok ts->ts.length=n) (ha:pd X (e::es) fs) (hg:autoParam (Gl X x) aqd._auto_1) (hdb:autoParam ((x == ("__debug__" : Str))=false) aqb._auto_1) (he:autoParam (LA (e::es) X.env=(false,eval e X.env)::LA es X.env) aqd._auto_1) (hpl:autoParam ((backTo pos (LA es X.env)).any (·.1)=false) aqd._auto_1) :
  b6 X (.Call (.Name x p) (e::es) [] pos) (cl g fs):=by
 intro pins s σ H Q I ⟨Z,O,E,hq⟩
 have hq':Post X H (fs Z >>= g) λt H'=> ∀v,Rep X.K O H' t v->Q v H':=hq
 cases q:fs Z with
 | bad=>rw[q]at hq';exact hq'.elim
 | err c=>
  rw[q]at hq';refine wH (E:=E0) F.h hr hg hm hk hb .nil wI ha hdb he hpl pins s σ H Q I ⟨Z,O,E,?_⟩
  rw[q]
  exact hq'
 | ok ts=>
  rw[q]at hq'
  have hq2:Post X H (g ts) λt H'=> ∀v,Rep X.K O H' t v->Q v H':=hq'
  cases q2:g ts with
  | bad=>rw[q2]at hq2;exact hq2.elim
  | ok t=>
   rw[q2]at hq2;refine wH (E:=E0) F.h hr hg hm hk hb .nil wI ha hdb he hpl pins s σ H Q I ⟨Z,O,E,?_⟩
   rw[q];intro H1 s1 vs rs;rw[LZ];refine⟨ts,O,rs,(E.same s1).mtb,hl Z ts q,?_⟩
   rw[q2]
   exact λv H' s2 r=>hq2 H' (s1.trans s2) v r
  | err c=>
   rw[q2]at hq2;refine MH (gL I hg hm ?_ hdb)
   refine NG (h₀:=X.base) I.ok.mod.kin hk (bR (ha pos pins s σ H (λvs H'=>Same H H'/\Reps X.K O H' ts vs) I ⟨Z,O,E,?_⟩) (λus s1 ⟨vs,H1,I1,r,sm,rs⟩=>⟨I1.kIn,?_⟩)) he hpl
   ·rw[q];exact λH' sm vs rs=>⟨sm,rs⟩
   ·have hlen:us.length=ps.length:=by rw[<-r.length,<-rs.length,hl Z ts q,hps]
    have hb':=hb s1 us I1.kIn (by rw[LZ];exact hlen)
    rw[LZ]at hb';refine Qr (N6 (F.x X.A X.stack s1 H1 ⟨us,[]⟩ us vs O ts c (λr s'=>match r with | .error ev=>X.xe ev s' | _=>False) hr I1.Kw hb' r rs (E.same sm).mtb (hl Z ts q) q2 λev s' w=> ?_) λr s' hq=> ?_)
    ·obtain⟨ea,T,C,H',rfl,hmc,ho,hbare,hun,hok,sm2,hea,heo,fl,hT,hTo⟩:=w
     have I2:Inv X pins σ H' s':=I1.Kq ho hun hok hbare (λb z=>absurd z (by simp))
     exact hq2 pins _ _ ⟨ea,some T,C,σ,H',rfl,hmc,I2,λb o q _=>sm2 b o (sm b o q),hea,λhex=>gc I1 hex heo,fl,(λt zt=>by cases zt;exact⟨hT,λhex=>gc I1 hex hTo⟩),λpp hpp=>⟨λzz=>(by have:=(I1.pin pp hpp).1;rw[zz,heo]at this;cases this),λzz=>(by cases zz;have:=(I1.pin pp hpp).1;rw[hTo]at this;cases this)⟩⟩
    ·cases r with
     | error ev=>exact hq
     | ok fl=>exact hq.elim
def EG (X:Cx)(g:T->En->Rs En):TG:=λv σ H Q=> ∃Z O M t,EnvM X.K O M H Z σ/\Rep X.K O H t v/\match g t Z with
 | .ok Z'=> ∀σ',EnvM X.K O M H Z' σ'->Q σ' H
 | _=>False
abbrev Fg (X:Cx)(tg:Expr)(g:T->En->Rs En):Prop:=PG X tg (EG X g)
def tPGs (X:Cx)(g:List T->En->Rs En):Ep:=λvs σ H Q=> ∃Z O M ts,EnvM X.K O M H Z σ/\Reps X.K O H ts vs/\match g ts Z with
 | .ok Z'=> ∀σ',EnvM X.K O M H Z' σ'->Q σ' H
 | _=>False
abbrev BR (X:Cx)(tg:List Expr)(g:List T->En->Rs En):Prop:=PGs X tg (tPGs X g)
theorem PG.imp {X:Cx}{e:Expr}{t t':TG}(h:PG X e t)(w:∀v σ H Q,t' v σ H Q->t v σ H Q):PG X e t':=λpins s σ H v u Q I r q=>h pins s σ H v u Q I r (w v σ H Q q)
theorem PGs.imp {X:Cx}{e:List Expr}{t t':Ep}(h:PGs X e t)(w:∀v σ H Q,t' v σ H Q->t v σ H Q):PGs X e t':=λpins s σ H v u Q I r q=>h pins s σ H v u Q I r (w v σ H Q q)
def gN (i:Nat)(t:T)(Z:En):Rs En:=if i<Z.length then .ok (Z.set i (.va t))else .bad
theorem EnvM.set {K:Ld}{O:Ow}{M:Mn}{H:Hp}{Z:En}{σ:L2.St}{i:Nat}{t:T}{v:V}(E:EnvM K O M H Z σ)(hi:i<Z.length)(r:Rep K O H t v):EnvM K O M H (Z.set i (.va t)) (σ.set i (some v)) where
 len:=by rw[MF,MF];exact E.len
 val:=λj u e=>by
  by_cases hj:i=j
  ·subst hj
   rw[LN hi]at e
   cases e;exact⟨v,LN (by rw[<-E.len];exact hi),r⟩
  ·rw[LL hj]at e
   obtain⟨w,e1,e2⟩:=E.val j u e;exact⟨w,by rw[LL hj];exact e1,e2⟩
 own:=λj o e=>by
  by_cases hj:i=j
  ·subst hj
   rw[LN hi]at e
   cases e
  ·rw[LL hj]at e
   obtain⟨w,e1,e2⟩:=E.own j o e;exact⟨w,by rw[LL hj];exact e1,e2⟩
 sub:=E.sub
 dis:=E.dis
 trk:=E.trk
theorem CV (i:Nat)(hN:X.N.Nodup)(hi:autoParam (X.N[i]? =some x) aqd._auto_1)(hx:autoParam (Loc X.env.scope x) aqh._auto_1)(hf:autoParam (X.fn x=true\/X.env.scope.names.lookup x=some .local) aqa._auto_1):Fg X (.Name x pos) (gN i):=
 PG.imp (Dm hN hi hx hf) λv σ H Q hh_=>by
  obtain⟨Z,O,M,t,E,r,h⟩:=hh_;unfold gN at h
  split at h
  ·rename_i Z' e
   split at e
   ·rename_i hl
    cases e;exact h _ (E.set hl r)
   ·cases e
  ·exact h.elim
def B2 (ts:List T)(Z:En):Rs En:=match ts with
 | [] => .ok Z
 | _=> .bad
def ue (g:T->En->Rs En)(gs:List T->En->Rs En)(ts:List T)(Z:En):Rs En:=match ts with
 | t::r=>do
  let Z1 <-g t Z
  gs r Z1
 | [] => .bad
theorem CU:BR X [] B2:=PGs.imp Dl λvs σ H Q hh_=>by
 obtain⟨Z,O,M,ts,E,r,h⟩:=hh_;unfold B2 at h
 cases ts with
 | nil=>exact⟨Reps.AC.mp r,h σ E⟩
 | cons _ _=>exact h.elim
theorem zE {g:T->En->Rs En}{gs:List T->En->Rs En}(h1:Fg X e g)(h2:BR X es gs)
  (hs:autoParam ((MS (e::es) X.env).map (·.2)=assign e X.env::(MS es X.env).map (·.2)) aqd._auto_1):BR X (e::es) (ue g gs):=
 PGs.imp (zR h1 h2 hs) λvs σ H Q hh_=>by
  obtain⟨Z,O,M,ts,E,r,h⟩:=hh_
  cases ts with
  | nil=>exact h.elim
  | cons t ts=>
   obtain⟨v,ws,rfl,p,q⟩:=Reps.me.mp r;refine⟨v,ws,rfl,Z,O,M,t,E,p,?_⟩
   unfold ue at h
   cases e1:g t Z with
   | bad=>simp[e1]at h
   | err c=>simp[e1]at h
   | ok Z1=>
    intro σ1 E1;refine⟨Z1,O,M,ts,E1,q,?_⟩
    simp only[e1,az]at h
    cases e2:gs ts Z1 with
    | bad=>simp[e2]at h
    | err c=>simp[e2]at h
    | ok Z2=>
     simp only[e2]at h;exact λσ2 E2=>h σ2 E2
def gT (n:Nat)(gs:List T->En->Rs En)(t:T)(Z:En):Rs En:=match t with
 | .tup l=>if l.length=n then gs l Z else .bad
 | _=> .bad
theorem F6 {k n:Nat}{gs:List T->En->Rs En}(hc:X.calm=true)(h:BR X es gs)(hn:autoParam ((MS es X.env).length=n) aqd._auto_1)(hst:autoParam ((MS es X.env).findIdx? (·.1)=none) aqd._auto_1):Fg X (.Tuple es k pos) (gT n gs):=
 PG.imp (Gg hc h hn hst) λv σ H Q hh_=>by
  obtain⟨Z,O,M,t,E,r,h⟩:=hh_;unfold gT at h
  cases t with
  | tup l=>
   obtain⟨a,vs,rfl,n',q,z⟩:=Rep.Fk.mp r
   by_cases hl:l.length=n
   ·simp only[if_pos hl]at h
    exact⟨a,vs,rfl,SqT.of q,by rw[<-z.length];exact hl,Z,O,M,l,E,z,h⟩
   ·simp only[if_neg hl]at h
  | _=>exact h.elim
theorem SqL.nn {K:Ld}{H:Hp}{a:Addr}{vs:List V}(q:SqL K H a vs):¬ Nw K H a:=λ⟨h1,h2⟩=>by
 rcases q with(q | ⟨o,q⟩) | ⟨o,_,_,q,_⟩
 ·rw[h1]at q;cases q
 ·rw[h1]at q;cases q
 ·rw[h2]at q;cases q
mutual
theorem Rep.more {K:Ld}{O O':Ow}{H:Hp}(sub:∀a,O' a->O a\/Nw K H a):∀{t:T} {v:V},Rep K O H t v->Rep K O' H t v
 | .non,_,r=>by unfold Rep at r ⊢;exact r
 | .bl _,_,r=>by unfold Rep at r ⊢;exact r
 | .int _,_,r=>by unfold Rep at r ⊢;exact r
 | .str _,_,r=>by unfold Rep at r ⊢;exact r
 | .tup l,_,r=>by
  unfold Rep at r ⊢;obtain⟨a,vs,e,n,q,z⟩:=r
  exact⟨a,vs,e,λp=>(sub a p).elim n λw=>(by rw[w.1]at q;cases q),q,Reps.more sub z⟩
 | .lst l,_,r=>by
  unfold Rep at r ⊢;obtain⟨a,vs,e,n,q,z⟩:=r
  exact⟨a,vs,e,λp=>(sub a p).elim n λw=>(by rw[w.1]at q;cases q),q,Reps.more sub z⟩
 | .scr l,_,r=>by
  unfold Rep at r ⊢;obtain⟨a,e,n,q⟩:=r
  exact⟨a,e,λp=>(sub a p).elim n λw=>Tr.SqL.nn q w,q⟩
 | .dct ks ts,_,r=>by
  unfold Rep at r ⊢;obtain⟨a,kvs,e,n,q,k,z⟩:=r
  exact⟨a,kvs,e,λp=>(sub a p).elim n λw=>(by rcases q with q | ⟨_,q⟩ <;> rw[w.1]at q <;> cases q),q,k,Reps.more sub z⟩
 | .ob C ns ts,_,r=>by
  unfold Rep at r ⊢;obtain⟨a,dx,fs,e,n,q,k,z⟩:=r;exact⟨a,dx,fs,e,λp=>(sub a p).elim n λw=>(by rw[w.1]at q;cases q),q,k,Reps.more sub z⟩
theorem Reps.more {K:Ld}{O O':Ow}{H:Hp}(sub:∀a,O' a->O a\/Nw K H a):∀{l:List T} {vs:List V},Reps K O H l vs->Reps K O' H l vs
 | [],_,r=>by unfold Reps at r ⊢;exact r
 | t::l,_,r=>by
  unfold Reps at r ⊢;obtain⟨v,ws,e,p,q⟩:=r;exact⟨v,ws,e,Rep.more sub p,Reps.more sub q⟩
end
theorem Rep.move {K:Ld}{O O' P:Ow}{H H':Hp}{t:T}{v:V}(hP:∀a,P a->O a\/Nw K H a)(hO:∀a,O' a->O a\/Nw K H a)(h:SameO P H H')(r:Rep K O H t v):Rep K O' H' t v:=
 Rep.less (O:=λa=>O' a\/P a) (λ_ z=> .inl z) (Rep.keep h (λ_ z=> .inr z) (Rep.more (λa z=>z.elim (hO a) (hP a)) r))
theorem Reps.move {K:Ld}{O O' P:Ow}{H H':Hp}{t:List T}{v:List V}(hP:∀a,P a->O a\/Nw K H a)(hO:∀a,O' a->O a\/Nw K H a)(h:SameO P H H')(r:Reps K O H t v):Reps K O' H' t v:=
 Reps.less (O:=λa=>O' a\/P a) (λ_ z=> .inl z) (Reps.keep h (λ_ z=> .inr z) (Reps.more (λa z=>z.elim (hO a) (hP a)) r))
def ItT (K:Ld)(O:Ow)(H:Hp)(ts:List T)(J:It):Prop:=∀(P O':Ow),(∀a,P a->O a\/Nw K H a)->(∀a,O' a->O a\/Nw K H a)->∀(i:Nat) (Hc:Hp),SameO P H Hc->(∀a,O' a->∃o,Hc a=some o) →
 (ts.length<=i->J.stop i Hc)/\(∀t,ts[i]? =some t->J.go i Hc/\∀x Hc',J.yld i Hc x Hc'->Same Hc Hc'/\Rep K O' Hc' t x)
def tPI (X:Cx)(f:En->Rs (List T)):TI:=λσ H R=> ∃Z O,EnvO X.K O H Z σ/\Post X H (f Z) λts H'=> ∀J,ItT X.K O H' ts J->R J H'
abbrev Ew (X:Cx)(tg iter:Expr)(f:En->Rs (List T)):Prop:=PI X tg iter (tPI X f)
theorem PI.imp {tg iter:Expr}{t t':TI}(h:PI X tg iter t)(w:∀σ H R,t' σ H R->t σ H R):PI X tg iter t':=λpins s σ H R I q=>h pins s σ H R I (w σ H R q)
def iL (f:En->Rs T)(Z:En):Rs (List T):=do
 let x <-f Z
 match x with
 | .lst l=> .ok l
 | _=> .bad
def iT (f:En->Rs T)(Z:En):Rs (List T):=do
 let x <-f Z
 match x with
 | .tup l=> .ok l
 | _=> .bad
theorem wt {tg:Expr}(ha:b6 X a fa):Ew X tg a (iL fa):=PI.imp (Dj ha) λσ H R hh_=>by
 obtain⟨Z,O,E,h⟩:=hh_;obtain⟨Z1,O1,E1,h1⟩:=aT E h;refine⟨Z1,O1,E1,Post.mono h1 λts H1 s1 q vs r=> ?_⟩
 obtain⟨t',r',s',E',q'⟩:=q vs r
 split at q'
 ·rename_i l
  obtain⟨a,ws,rfl,n,q,z⟩:=Rep.Do.mp r';refine⟨a,rfl,⟨ws,SqL.of q⟩,q' H1 (Same.refl H1) _ λP O' hP hO i Hc hs ht=> ?_⟩
  have hnP:¬ P a:=λz=>(hP a z).elim n λw=>by rw[w.1]at q;cases q
  refine⟨λhi=>⟨ws,SqL.of (hs _ _ q hnP),by rw[<-z.length];exact hi⟩,λt ht'=> ?_⟩
  obtain⟨v,e1,e2⟩:=z.get ht';refine⟨⟨ws,v,SqL.of (hs _ _ q hnP),e1⟩,λx Hc' y=> ?_⟩
  obtain⟨e,y⟩:=y;subst e
  have:=y ws (SqL.of (hs _ _ q hnP));rw[e1]at this;cases this;exact⟨Same.refl _,e2.move hP hO hs⟩
 ·exact q'.elim
theorem F4 {tg:Expr}(ha:b6 X a fa):Ew X tg a (iT fa):=PI.imp (Gf ha) λσ H R hh_=>by
 obtain⟨Z,O,E,h⟩:=hh_;obtain⟨Z1,O1,E1,h1⟩:=aT E h;refine⟨Z1,O1,E1,Post.mono h1 λts H1 s1 q vs r=> ?_⟩
 obtain⟨t',r',s',E',q'⟩:=q vs r
 split at q'
 ·rename_i l
  obtain⟨a,ws,rfl,n,q,z⟩:=Rep.Fk.mp r';refine⟨a,rfl,⟨ws,SqT.of q⟩,q' H1 (Same.refl H1) _ λP O' hP hO i Hc hs ht=> ?_⟩
  have hnP:¬ P a:=λz=>(hP a z).elim n λw=>by rw[w.1]at q;cases q
  refine⟨λhi=>⟨ws,SqT.of (hs _ _ q hnP),by rw[<-z.length];exact hi⟩,λt ht'=> ?_⟩
  obtain⟨v,e1,e2⟩:=z.get ht';refine⟨⟨ws,v,SqT.of (hs _ _ q hnP),e1⟩,λx Hc' y=> ?_⟩
  obtain⟨e,y⟩:=y;subst e
  have:=y ws (SqT.of (hs _ _ q hnP));rw[e1]at this;cases this;exact⟨Same.refl _,e2.move hP hO hs⟩
 ·exact q'.elim
def rng (lo hi:Int):List T:=(L6 (hi - lo).toNat).map λ(k:Nat)=>T.int (lo+(k:Int))
def B1 (i:Int):Bool:=decide (-(2 ^ 62)<=i)&&decide (i<2 ^ 62)
def iR (f:En->Rs (List T))(Z:En):Rs (List T):=do
 let x <-f Z
 match x with
 | [.int j] =>if B1 j then .ok (rng 0 j)else .bad
 | [.int i,.int j] =>if B1 i&&B1 j then .ok (rng i j)else .bad
 | _=> .bad
theorem rO {i:Int}(h:B1 i=true) : -(2 ^ 62)<=i/\i<2 ^ 62:=by
 unfold B1 at h;rw[Lf]at h;exact⟨of_decide_eq_true h.1,of_decide_eq_true h.2⟩
theorem xi {K:Ld}{O:Ow}{H:Hp}(lo hi:Int):ItT K O H (rng lo hi) (Itr lo (hi - lo).toNat):=λP O' hP hO i Hc hs ht=>by
 refine⟨λh=> ?_,λt h=> ?_⟩
 ·show(hi - lo).toNat<=i
  unfold rng at h;rw[Ln,NP]at h;exact h
 ·unfold rng at h
  rw[LI]at h
  by_cases hi':i<(hi - lo).toNat
  ·rw[QF hi']at h
   cases h;refine⟨hi',λx Hc' y=> ?_⟩
   obtain⟨e,y⟩:=y;subst e y;exact⟨Same.refl _,Rep.GT _⟩
  ·rw[MX (by simpa using hi')]at h
   cases h
theorem yc {tg:Expr}(hm:X.mg "range" =none)(ha:pd X [a] fs)(hg:autoParam (Gl X "range") aqd._auto_1)(hs:autoParam (LA [a] X.env= [(false,eval a X.env)]) aqd._auto_1):Ew X tg (.Call (.Name "range" p) [a] [] pos) (iR fs):=by
 intro pins s σ H R I ⟨Z,O,E,h⟩
 have h1:=gy E h;refine Call_ (jB I hg hm boot_range (M7 (bR (ha pos pins s σ H _ I h1) λus s1 ⟨vs,H1,I1,r1,ts,rs,s',E',q1⟩=> ?_) hs rfl))
 split at q1
 ·obtain⟨v,rfl,r⟩:=rs.one
  split at q1
  ·rename_i j hj
   obtain⟨b1,b2⟩:=rO hj;cases Rep.Da.mp r
   cases r1 with
   | cons r rr=>
    cases rr;obtain⟨t,rfl⟩:=r;exact call_range_1 (tw I1 (by omega) (by omega) b1 b2 (q1 H1 (Same.refl H1) _ (xi 0 j)))
  ·exact q1.elim
 ·obtain⟨v,ws,rfl,p1,q⟩:=Reps.me.mp rs
  obtain⟨v2,rfl,r⟩:=q.one
  split at q1
  ·rename_i i j hj
   rw[Lf]at hj;obtain⟨b1,b2⟩:=rO hj.1;obtain⟨b3,b4⟩:=rO hj.2;cases Rep.Da.mp p1;cases Rep.Da.mp r
   cases r1 with
   | cons r rr=>
    cases rr with
    | cons r' rr=>
     cases rr;obtain⟨t,rfl⟩:=r;obtain⟨t',rfl⟩:=r';exact call_range_2 (tw I1 b1 b2 b3 b4 (q1 H1 (Same.refl H1) _ (xi i j)))
  ·exact q1.elim
 ·exact q1.elim
end
section
variable {X:Cx}{a b c e:Expr}{es:List Expr}{fa fb fc:En->Rs T}{fs:En->Rs (List T)}{pos p p2:Pos}{x:Str}
def de (src:List (Option Nat))(Z:En):En:=src.map λo=>match o with
 | some i=>match Z[i]? with
  | some (.va t)=> .va t
  | _=> .em
 | none=> .em
def dJ (tgt:T->En->Rs En)(fc:En->Rs Bool)(fe:En->Rs T):List T->En->Rs (List T)
 | [],_=> .ok []
 | t::r,Z=>do
  let Z1 <-tgt t Z
  let k <-fc Z1
  if k then do
   let y <-fe Z1
   let ys <-dJ tgt fc fe r Z1
   .ok (y::ys)
  else dJ tgt fc fe r Z1
def hW (fi:En->Rs (List T))(src:List (Option Nat))(tgt:T->En->Rs En)(fc:En->Rs Bool)(fe:En->Rs T)(Z:En):Rs T:=do
 let ts <-fi Z
 if ts.length<=sizeLine then match dJ tgt fc fe ts (de src Z)with
  | .ok ys=> .ok (.lst ys)
  | _=> .bad
 else .bad
def bT (_:En):Rs Bool:=.ok true
def tP0 (K:Ld)(f:En->Rs T):TE:=λσ H Q=> ∃Z O,EnvO K O H Z σ/\match f Z with
 | .ok t=> ∀H',Same H H'->∀v,Rep K O H' t v->Q v H'
 | _=>False
def tPT0 (K:Ld)(f:En->Rs Bool):TT:=λσ H Q=> ∃Z O,EnvO K O H Z σ/\match f Z with
 | .ok t=> ∀H',Same H H'->Q t H'
 | _=>False
theorem tP0.up {f:En->Rs T}{σ:L2.St}{H:Hp}{Q:VK}(h:tP0 X.K f σ H Q):tP X f σ H Q:=by
 obtain⟨Z,O,E,h⟩:=h;refine⟨Z,O,E,?_⟩
 cases q:f Z with
 | ok t=>rw[q]at h;exact h
 | err c=>rw[q]at h;exact h.elim
 | bad=>rw[q]at h;exact h.elim
theorem tPT0.up {f:En->Rs Bool}{σ:L2.St}{H:Hp}{Q:Bool->Hp->Prop}(h:tPT0 X.K f σ H Q):BX X f σ H Q:=by
 obtain⟨Z,O,E,h⟩:=h;refine⟨Z,O,E,?_⟩
 cases q:f Z with
 | ok t=>rw[q]at h;exact h
 | err c=>rw[q]at h;exact h.elim
 | bad=>rw[q]at h;exact h.elim
theorem CS:B5 X [] (BX X bT):=λpins s σ H Q I ⟨Z,O,E,h⟩=>Dh pins s σ H Q I (h H (Same.refl H))
abbrev noM:Mn:=λ_ _=>False
theorem yv {src:List (Option Nat)}{Z:En}{j:Nat}{o:OT}(e:(de src Z)[j]? =some (.ow o)):False:=by
 unfold de at e;rw[LI]at e
 cases q:src[j]? with
 | none=>rw[q]at e;cases e
 | some o'=>
  rw[q]at e
  cases o' with
  | none=>cases e
  | some i=>
   have e':(match Z[i]? with | some (Sl.va t)=>Sl.va t | _=>Sl.em)=Sl.ow o:=LY e
   split at e' <;> cases e'
theorem Az {K:Ld}{O:Ow}{H:Hp}{Z:En}{σ:L2.St}(E:EnvO K O H Z σ)(src:List (Option Nat)):EnvM K O noM H (de src Z) (eJ src σ) where
 len:=by unfold de eJ;rw[Ln,Ln]
 val:=λj t e=>by
  unfold de at e;unfold eJ;rw[LI]at e ⊢
  cases q:src[j]? with
  | none=>rw[q]at e;cases e
  | some o=>
   rw[q]at e
   cases o with
   | none=>cases e
   | some i=>
    have e':(match Z[i]? with | some (Sl.va t)=>Sl.va t | _=>Sl.em)=Sl.va t:=LY e
    cases q2:Z[i]? with
    | none=>rw[q2]at e';cases e'
    | some z=>
     rw[q2]at e'
     cases z with
     | em=>cases e'
     | ow l=>cases e'
     | va t'=>
      cases e';obtain⟨v,e1,e2⟩:=E.val i _ q2;exact⟨v,by simp[e1],e2⟩
 own:=λj o e=>(yv e).elim
 sub:=λ_ _ z=>z.elim
 dis:=λ_ _ _ z=>z.elim
 trk:=E.mtb
theorem ORep.no {K:Ld}{O:Ow}{H:Hp}{o:OT}{v:V}(r:ORep K O kB H o v):False:=by
 cases o with
 | lst l=>obtain⟨a,_,_,e,_⟩:=r;exact(e a).mpr rfl
 | dct ks ts=>obtain⟨a,_,_,e,_⟩:=r;exact(e a).mpr rfl
 | dd ks rows=>obtain⟨a,_,_,_,e,_⟩:=r;exact(e a).mpr (.inl rfl)
 | ob C ns ls=>obtain⟨a,_,_,_,e,_⟩:=r;exact(e a).mpr (.inl rfl)
theorem EnvM.move {K:Ld}{O O' P:Ow}{H H':Hp}{Z:En}{σ:L2.St}(E:EnvM K O noM H Z σ)(hP:∀a,P a->O a\/Nw K H a)(hO:∀a,O' a->O a\/Nw K H a)(h:SameO P H H')(trk:∀a,O' a->Mtb H' a):EnvM K O' noM H' Z σ where
 len:=E.len
 val:=λi t e=>let ⟨v,e1,e2⟩:=E.val i t e;⟨v,e1,e2.move hP hO h⟩
 own:=λi o e=>let ⟨_,_,r⟩:=E.own i o e;r.no.elim
 sub:=λ_ _ z=>z.elim
 dis:=λ_ _ _ z=>z.elim
 trk:=trk
def HB (fi:En->Rs (List T))(src:List (Option Nat))(tgt:T->En->Rs En)(fc:En->Rs Bool)(fe:En->Rs T)(Z:En):Rs (List T):=fi Z >>= λts=>if ts.length<=sizeLine then(match dJ tgt fc fe ts (de src Z)with | .ok ys=>Rs.ok ys | _=> .bad)else .bad
theorem Ay {src:List (Option Nat)}{fi:En->Rs (List T)}{tgt:T->En->Rs En}{fc:En->Rs Bool}{fe:En->Rs T}{Z:En}:hW fi src tgt fc fe Z=HB fi src tgt fc fe Z >>= λl=> .ok (.lst l):=by
 unfold hW HB
 cases fi Z with
 | bad=>rfl
 | err c=>rfl
 | ok ts=>
  rw[az,az]
  by_cases hz:ts.length<=sizeLine
  ·rw[if_pos hz,if_pos hz]
   cases dJ tgt fc fe ts (de src Z) <;> rfl
  ·rw[if_neg hz,if_neg hz];rfl
theorem Ax {src:List (Option Nat)}{fi:En->Rs (List T)}{tgt:T->En->Rs En}{fc:En->Rs Bool}{fe:En->Rs T}{σ:L2.St}{H:Hp}{Q:VK}{Z:En}{O:Ow}(E:EnvO X.K O H Z σ)
  (hq1:Post X H (HB fi src tgt fc fe Z) λall H1=> ∀D ys H',Nw X.K H1 D->Same H1 H'->H' D=some (.lst ys)->Reps X.K (λa=>O a\/a=D) H' all ys->Q (.ref D) H'):HS X.K (tPI X fi) src (EG X tgt) (tPT0 X.K fc) (tP0 X.K fe) σ H Q:=by
 unfold HB at hq1;refine⟨Z,O,E,Post.mono hq1.bind λts H1 s1 q1 J hJ D hD hK=> ?_⟩
 have E1:=E.same s1
 by_cases hz:ts.length<=sizeLine
 ·rw[if_pos hz]at q1
  cases hall:dJ tgt fc fe ts (de src Z)with
  | bad=>rw[hall]at q1;exact q1.elim
  | err c=>rw[hall]at q1;exact q1.elim
  | ok all=>
   rw[hall]at q1
   have q2:∀D ys H',Nw X.K H1 D->Same H1 H'->H' D=some (.lst ys)->Reps X.K (λa=>O a\/a=D) H' all ys->Q (.ref D) H':=q1 H1 (Same.refl H1)
   have nD:Nw X.K H1 D:=⟨hD,hK⟩
   let O':Ow:=λa=>O a\/a=D
   have subO:∀a,O' a->O a\/Nw X.K H1 a:=λa z=>z.elim .inl λw=> .inr (w▸nD)
   -- the walk's word
   refine⟨λi m σ' ys H'=>m=ts.length - i/\i<=ts.length/\ys.length<=i/\H' D=some (.lst ys)/\SameO (λa=>a=D) (upd H1 D (.lst [])) H' ∧
    ∃Z' yts zs,EnvM X.K O' noM H' Z' σ'/\Reps X.K O' H' yts ys/\dJ tgt fc fe (ts.drop i) Z'= .ok zs/\yts++zs=all,⟨ts.length,?_⟩,?_⟩
   ·have sN:Same H1 (upd H1 D (.lst [])):=aZ hD _
    refine⟨by omega,Nk _,Lv _,aQ,λb o e _=>e,de src Z,[],all,?_,Reps.Gc,by simpa using hall,rfl⟩
    have E2:EnvM X.K O noM H1 (de src Z) (eJ src σ):=Az E1 src
    exact E2.move (P:=λa=>a=D) (λa z=> .inr (z▸nD)) subO (λb o e _=>sN b o e) λa z=>by
     rcases z with z | z
     ·exact(E1.mtb a z).same sN
     ·rw[z];exact .inl ⟨_,aQ⟩
   ·rintro i m σ' ys H' ⟨rfl,hi',hyl,hDl,hsm,Z',yts,zs,E',ry,hl,hyz⟩
    refine⟨hDl,?_⟩
    have sm1:SameO (λa=>a=D) H1 H':=λb o e nb=>hsm b o (by rw[aH nb];exact e) nb
    have it:=hJ (λa=>a=D) O' (λa z=> .inr (z▸nD)) subO i H' sm1 (λa z=>(E'.trk a z).some)
    by_cases hlt:i<ts.length
    ·refine .inr ?_
     have hti:ts[i]? =some ts[i]:=by simp
     obtain⟨go,yl⟩:=it.2 ts[i] hti;refine⟨go,by omega,λxx Hc y=> ?_⟩
     obtain⟨sc,rx⟩:=yl xx Hc y
     have Ec:=E'.same sc;rw[NW hlt]at hl;unfold dJ at hl;refine⟨Z',O',noM,ts[i],Ec,rx,?_⟩
     cases e1:tgt ts[i] Z' with
     | bad=>rw[e1]at hl;cases hl
     | err cc=>rw[e1]at hl;cases hl
     | ok Z1=>
      rw[e1,az]at hl;intro σ1 Eg;refine⟨Z1,O',⟨noM,Eg⟩,?_⟩
      cases e2:fc Z1 with
      | bad=>rw[e2]at hl;cases hl
      | err cc=>rw[e2]at hl;cases hl
      | ok k=>
       rw[e2,az]at hl;intro H3 s3
       have E3:=Eg.same s3
       have tot:Same H' H3:=sc.trans s3
       have D3:H3 D=some (.lst ys):=tot _ _ hDl
       have sm3:SameO (λa=>a=D) (upd H1 D (.lst [])) H3:=λb o e nb=>tot _ _ (hsm b o e nb)
       cases k with
       | false=>
        refine L2.iteF ?_
        have hl':dJ tgt fc fe (ts.drop (i+1)) Z1= .ok zs:=by simpa using hl
        exact⟨ts.length - (i+1),by omega,rfl,hlt,by omega,D3,sm3,Z1,yts,zs,E3,ry.same tot,hl',hyz⟩
       | true=>
        refine L2.iteT ?_
        have hl':(fe Z1 >>= λy=>dJ tgt fc fe (ts.drop (i+1)) Z1 >>= λys=>Rs.ok (y::ys))= .ok zs:=by simpa using hl
        refine⟨Z1,O',⟨noM,E3⟩,?_⟩
        cases e3:fe Z1 with
        | bad=>rw[e3]at hl';cases hl'
        | err cc=>rw[e3]at hl';cases hl'
        | ok yt=>
         rw[e3,az]at hl'
         cases e4:dJ tgt fc fe (ts.drop (i+1)) Z1 with
         | bad=>rw[e4]at hl';cases hl'
         | err cc=>rw[e4]at hl';cases hl'
         | ok zs'=>
          rw[e4,az]at hl'
          have hzs:yt::zs'=zs:=by injection hl'
          intro H4 s4 v rv
          have D4:H4 D=some (.lst ys):=s4 _ _ D3
          have E4:=E3.same s4
          have tot4:Same H' H4:=tot.trans s4
          have smD:SameO (λa=>a=D) H4 (upd H4 D (.lst (ys++ [v]))):=λb o e nb=>by rw[aH nb];exact e
          have inO:∀a,a=D->O' a\/Nw X.K H4 a:=λa z=> .inl (.inr z)
          refine⟨D4,ts.length - (i+1),by omega,rfl,hlt,?_,aQ,λb o e nb=>smD b o (s4 _ _ (sm3 b o e nb)) nb,Z1,yts++ [yt],zs',?_,?_,e4,?_⟩
          ·rw[Lo,MW];omega
          ·exact E4.move inO (λa z=> .inl z) smD λaa z=>by
            by_cases hz:aa=D
            ·rw[hz];exact .inl ⟨_,aQ⟩
            ·unfold Mtb;rw[aH hz];exact E4.trk aa z
          ·have r1:Reps X.K O' H4 (yts++ [yt]) (ys++ [v]):=(ry.same tot4).append (Reps.FS rv Reps.Gc)
           exact r1.move inO (λa z=> .inl z) smD
          ·rw[Ms,List.singleton_append,hzs];exact hyz
    ·refine .inl ⟨it.1 (by omega),?_⟩
     have hi2:i=ts.length:=by omega
     subst hi2;rw[RS]at hl
     have hzs:zs= []:=by unfold dJ at hl;injection hl with hl;exact hl.symm
     subst hzs;rw[LZ]at hyz;subst hyz
     have sF:Same H1 H':=λb o e=>sm1 b o e λz=>by rw[z,hD]at e;cases e
     exact q2 D ys H' nD sF hDl ry
 ·rw[if_neg hz]at q1
  exact q1.elim
theorem wX {src:List (Option Nat)}{fi:En->Rs (List T)}{tgt:T->En->Rs En}{fc:En->Rs Bool}{fe:En->Rs T}{σ:L2.St}{H:Hp}{Q:VK}(h0:tP X (hW fi src tgt fc fe) σ H Q):HS X.K (tPI X fi) src (EG X tgt) (tPT0 X.K fc) (tP0 X.K fe) σ H Q:=by
 obtain⟨Z,O,E,hq⟩:=h0;refine Ax E ?_
 have e:hW fi src tgt fc fe Z=HB fi src tgt fc fe Z >>= λl=> .ok (.lst l):=Ay
 rw[e]at hq
 cases q:HB fi src tgt fc fe Z with
 | bad=>rw[q]at hq;exact hq.elim
 | err c=>rw[q]at hq;exact hq
 | ok l=>
  rw[q,az]at hq;intro H1 s1 D ys H' nD sD eD rD;exact hq H' (s1.trans sD) _ (Rep.Do.mpr ⟨D,ys,rfl,λz=>(E.same s1).fresh nD.1 z,eD,rD.less λa z=> .inl z⟩)
theorem q_lc {elt tg iter:Expr}{ifs:List Expr}{scope:OI}{N':List Str}{src:List (Option Nat)}{fi:En->Rs (List T)}{tgt:T->En->Rs En}{fc:En->Rs Bool}{fe:En->Rs T}
  (hc:X.calm=true) (S:LcScope X scope N' src) (hi:Ew X tg iter fi)
  (block:∀cl C s₀ H₀ fp,Fg (cy X scope cl N' C s₀ H₀ fp) tg tgt/\B5 (cy X scope cl N' C s₀ H₀ fp) ifs (BX (cy X scope cl N' C s₀ H₀ fp) fc)/\b6 (cy X scope cl N' C s₀ H₀ fp) elt fe)
  (hs:autoParam (∀x,Mv iter X.env x=pure x) aqc._auto_1) :
  b6 X (.ListComp elt [⟨tg,iter,ifs,0⟩] scope pos) (hW fi src tgt fc fe):=by
 have hPG:∀cl C s₀ H₀ fp,PG (cy X scope cl N' C s₀ H₀ fp) tg (EG X tgt):=λcl C s₀ H₀ fp=>(block cl C s₀ H₀ fp).1
 have hPI:∀cl C s₀ H₀ fp,B5 (cy X scope cl N' C s₀ H₀ fp) ifs (tPT0 X.K fc):=λcl C s₀ H₀ fp pins s σ H Q I h=>(block cl C s₀ H₀ fp).2.1 pins s σ H Q I (tPT0.up (X:=cy X scope cl N' C s₀ H₀ fp) h)
 have hPE:∀cl C s₀ H₀ fp,PE (cy X scope cl N' C s₀ H₀ fp) elt (tP0 X.K fe):=λcl C s₀ H₀ fp pins s σ H Q I h=>(block cl C s₀ H₀ fp).2.2 pins s σ H Q I (tP0.up (X:=cy X scope cl N' C s₀ H₀ fp) h)
 exact PE.imp (zT (g:=EG X tgt) (tc:=tPT0 X.K fc) (te:=tP0 X.K fe) hc S hi (λcl C s₀ H₀ fp=>⟨hPG cl C s₀ H₀ fp,hPI cl C s₀ H₀ fp,hPE cl C s₀ H₀ fp⟩) hs) λσ H Q h=>wX h
inductive Fl where
 | nx (Z:En) | rt (t:T) | bk (Z:En) | ct (Z:En)
def OO (B:Ow)(M:Mn):Ow:=λa=>B a\/M.u a
structure Ev (K:Ld)(B:Ow)(M:Mn)(H:Hp)(Z:En)(σ:L2.St):Prop where
 env:EnvM K (OO B M) M H Z σ
 mine:∀a,M.u a->¬ B a
theorem Ev.same {K:Ld}{B:Ow}{M:Mn}{H H':Hp}{Z:En}{σ:L2.St}(h:Same H H')(e:Ev K B M H Z σ):Ev K B M H' Z σ:=⟨e.env.same h,e.mine⟩
theorem Ev.o {K:Ld}{B:Ow}{M:Mn}{H:Hp}{Z:En}{σ:L2.St}(e:Ev K B M H Z σ):EnvO K (OO B M) H Z σ:=⟨M,e.env⟩
def PostF (X:Cx)(B P:Ow)(H:Hp)(r:Rs Fl)(D:lY):Prop:=match r with
 | .ok (.nx Z')=> ∀σ' H' M',SameO P H H'->Ev X.K B M' H' Z' σ'->(∀a,M'.u a->P a\/Nw X.K H a)->D.nx σ' H'
 | .ok (.rt t)=> ∀v H',SameO P H H'->Rep X.K B H' t v->D.rt v H'
 | .ok (.bk Z')=> ∀σ' H' M',SameO P H H'->Ev X.K B M' H' Z' σ'->(∀a,M'.u a->P a\/Nw X.K H a)->D.bk σ' H'
 | .ok (.ct Z')=> ∀σ' H' M',SameO P H H'->Ev X.K B M' H' Z' σ'->(∀a,M'.u a->P a\/Nw X.K H a)->D.ct σ' H'
 | .err c=>XA X P H c
 | .bad=>False
def JX (X:Cx)(F:En->Rs Fl):TS:=λD σ H=> ∃Z B M,Ev X.K B M H Z σ/\PostF X B M.u H (F Z) D
abbrev mx (X:Cx)(s:Stmt)(F:En->Rs Fl):Prop:=PS X s (JX X F)
abbrev jI (X:Cx)(s:List Stmt)(F:En->Rs Fl):Prop:=PSs X s (JX X F)
theorem PostF.later {B P P1:Ow}{H H1:Hp}{r:Rs Fl}{D:lY}(h:PostF X B P H r D)(s:SameO P H H1)(sub:∀a,P1 a->P a\/Nw X.K H a):PostF X B P1 H1 r D:=by
 have back:∀a,P1 a\/Nw X.K H1 a->P a\/Nw X.K H a:=λa z=>z.elim (sub a) (eG s)
 cases r with
 | bad=>exact h
 | err c=>exact XA.later h s sub
 | ok f=>
  cases f with
  | nx Z'=>exact λσ' H' M' s' E' o'=>h σ' H' M' (s.trans s' sub) E' λa z=>back a (o' a z)
  | rt t=>exact λv H' s' r=>h v H' (s.trans s' sub) r
  | bk Z'=>exact λσ' H' M' s' E' o'=>h σ' H' M' (s.trans s' sub) E' λa z=>back a (o' a z)
  | ct Z'=>exact λσ' H' M' s' E' o'=>h σ' H' M' (s.trans s' sub) E' λa z=>back a (o' a z)
theorem PostF.xa {B P:Ow}{H:Hp}{c:Str}{D:lY}(h:PostF X B P H (.err c) D):XA X kB H c:=XA.later (P:=P) h (λ_ _ e _=>e) λ_ z=>z.elim
def sN (Z:En):Rs Fl:=.ok (.nx Z)
def aA (F G:En->Rs Fl)(Z:En):Rs Fl:=do
 let f <-F Z
 match f with
 | .nx Z'=>G Z'
 | f=> .ok f
theorem FV:jI X [] sN:=PSs.imp wA λD σ H ⟨Z,B,M,E,h⟩=>h σ H M (λ_ _ e _=>e) E λa z=> .inl z
theorem CO {st:Stmt}{bN:List Stmt}{F G:En->Rs Fl}(h1:mx X st F)(h2:jI X bN G):jI X (st::bN) (aA F G):=PSs.imp (tD h1 h2) λD σ H hh_=>by
 obtain⟨Z,B,M,E,h⟩:=hh_;refine⟨Z,B,M,E,?_⟩
 unfold aA at h
 cases q:F Z with
 | bad=>rw[q]at h;exact h.elim
 | err c=>rw[q]at h;exact h
 | ok f=>
  rw[q,az]at h
  cases f with
  | nx Z'=>exact λσ' H' M' s' E' o'=>⟨Z',B,M',E',h.later s' o'⟩
  | rt t=>exact h
  | bk Z'=>exact h
  | ct Z'=>exact h
theorem FT {st:Stmt}{F:En->Rs Fl}(h:mx X st F):jI X [st] F:=wz h
def aI (f:En->Rs T)(Z:En):Rs Fl:=do
 let t <-f Z
 .ok (.rt t)
theorem FQ (ha:b6 X a fa):mx X (.Return (some a) pos) (aI fa):=PS.imp (zL ha) λD σ H hh_=>by
 obtain⟨Z,B,M,E,h⟩:=hh_;refine⟨Z,OO B M,E.o,?_⟩
 unfold aI at h
 cases q:fa Z with
 | bad=>rw[q]at h;exact h.elim
 | err c=>rw[q]at h;exact PostF.xa h
 | ok t=>
  rw[q,az]at h;exact λH' s v r=>h v H' (SameO.of s) (r.less λ_ z=> .inl z)
def fH (f:En->Rs Bool)(F G:En->Rs Fl)(Z:En):Rs Fl:=do
 let k <-f Z
 if k then F Z else G Z
theorem Ik {f:En->Rs Bool}{A B:List Stmt}{F G:En->Rs Fl}(hc:uC X c f)(ha:jI X A F)(hb:jI X B G):mx X (.If c A B pos) (fH f F G):=PS.imp (zM hc ha hb) λD σ H hh_=>by
 obtain⟨Z,B,M,E,h⟩:=hh_;refine⟨Z,OO B M,E.o,?_⟩
 unfold fH at h
 cases q:f Z with
 | bad=>rw[q]at h;exact h.elim
 | err c=>rw[q]at h;exact PostF.xa h
 | ok k=>
  rw[q,az]at h;intro H' s
  have E':Ev X.K B M H' Z σ:=E.same s
  cases k with
  | true=>refine L2.iteT ?_;exact⟨Z,B,M,E',PostF.later (by simpa using h) (SameO.of s) λa z=> .inl z⟩
  | false=>refine L2.iteF ?_;exact⟨Z,B,M,E',PostF.later (by simpa using h) (SameO.of s) λa z=> .inl z⟩
def cv (f:En->Rs T)(g:T->En->Rs En)(Z:En):Rs Fl:=do
 let t <-f Z
 match g t Z with
 | .ok Z'=> .ok (.nx Z')
 | _=> .bad
theorem zy {B:Ow}{M:Mn}{Z:En}{σ:L2.St}{H:Hp}{D:lY}{g:T->En->Rs En}{f:En->Rs T}(E:Ev X.K B M H Z σ)(h:PostF X B M.u H (cv f g Z) D):Cp (tP X f) (EG X g) D σ H:=by
 refine⟨Z,OO B M,E.o,?_⟩
 unfold cv at h
 cases q:f Z with
 | bad=>rw[q]at h;exact h.elim
 | err c=>rw[q]at h;exact PostF.xa h
 | ok t=>
  rw[q,az]at h;intro H' s v r;refine⟨Z,OO B M,M,t,E.env.same s,r,?_⟩
  cases q2:g t Z with
  | bad=>rw[q2]at h;exact h.elim
  | err c=>rw[q2]at h;exact h.elim
  | ok Z'=>
   rw[q2]at h;exact λσ' E'=>h σ' H' M (SameO.of s) ⟨E',E.mine⟩ λa z=> .inl z
theorem wj {f:En->Rs T}{σ:L2.St}{H:Hp}{Q Q':VK}(h:tP X f σ H Q)(w:∀v H',Q v H'->Q' v H'):tP X f σ H Q':=by
 obtain⟨Z,O,E,q⟩:=h;exact⟨Z,O,E,Post.mono q λt H' _ z v r=>w v H' (z v r)⟩
theorem Ij {elt tg iter:Expr}{ifs:List Expr}{scope:OI}{spos py:Pos}{N':List Str}{src:List (Option Nat)}{fi:En->Rs (List T)}{tgt:T->En->Rs En}{fc:En->Rs Bool}{fe:En->Rs T}(i:Nat){y:Str}
  (hc:X.calm=true) (S:LcScope X scope N' src) (hi:Ew X tg iter fi)
  (block:∀cl C s₀ H₀ fp,Fg (cy X scope cl N' C s₀ H₀ fp) tg tgt/\B5 (cy X scope cl N' C s₀ H₀ fp) ifs (BX (cy X scope cl N' C s₀ H₀ fp) fc)/\b6 (cy X scope cl N' C s₀ H₀ fp) elt fe)
  (hN:X.N.Nodup) (hiy:autoParam (X.N[i]? =some y) aqd._auto_1) (hy:autoParam (Loc X.env.scope y) aqh._auto_1) (hsw:autoParam (Me (.ListComp elt [⟨tg,iter,ifs,0⟩] scope pos) (some (.Name y py)) spos.line X.env=pure true) aqd._auto_1)
  (hf:autoParam (X.fn y=true\/X.env.scope.names.lookup y=some .local) aqa._auto_1) (hs:autoParam (∀x,Mv iter X.env x=pure x) aqc._auto_1) :
  mx X (.Assign [.Name y py] (.ListComp elt [⟨tg,iter,ifs,0⟩] scope pos) spos) (cv (hW fi src tgt fc fe) (gN i)):=by
 have hPG:∀cl C s₀ H₀ fp,PG (cy X scope cl N' C s₀ H₀ fp) tg (EG X tgt):=λcl C s₀ H₀ fp=>(block cl C s₀ H₀ fp).1
 have hPI:∀cl C s₀ H₀ fp,B5 (cy X scope cl N' C s₀ H₀ fp) ifs (tPT0 X.K fc):=λcl C s₀ H₀ fp pins s σ H Q I h=>(block cl C s₀ H₀ fp).2.1 pins s σ H Q I (tPT0.up (X:=cy X scope cl N' C s₀ H₀ fp) h)
 have hPE:∀cl C s₀ H₀ fp,PE (cy X scope cl N' C s₀ H₀ fp) elt (tP0 X.K fe):=λcl C s₀ H₀ fp pins s σ H Q I h=>(block cl C s₀ H₀ fp).2.2 pins s σ H Q I (tP0.up (X:=cy X scope cl N' C s₀ H₀ fp) h)
 refine PS.imp (IH (g:=EG X tgt) (tc:=tPT0 X.K fc) (te:=tP0 X.K fe) (i:=i) hc S hi (λcl C s₀ H₀ fp=>⟨hPG cl C s₀ H₀ fp,hPI cl C s₀ H₀ fp,hPE cl C s₀ H₀ fp⟩) hN hiy hy hsw hf hs) λD σ H ⟨Z,B,M,E,h⟩=>wX (wj (zy E h) λv H' z=> ?_)
 obtain⟨Z',O,M',t,E',r,q⟩:=z;unfold gN at q
 split at q
 ·rename_i Z2 e
  split at e
  ·rename_i hl
   cases e;exact q _ (E'.set hl r)
  ·cases e
 ·exact q.elim
theorem F1 {tg:Expr}{g:T->En->Rs En}(ha:b6 X a fa)(hg:Fg X tg g)(hs:autoParam (Q8 [tg] a pos.line X.env=pure false) aqd._auto_1)(hw:autoParam (Q9 [tg] a X.env=pure none) aqd._auto_1)
  (h1:autoParam ((MS [tg] X.env).map (·.2)= [assign tg X.env]) aqd._auto_1):mx X (.Assign [tg] a pos) (cv fa g):=PS.imp (Ge ha hg hs hw h1) λD σ H ⟨Z,B,M,E,h⟩=>zy E h
def uH (f:En->Rs T)(Z:En):Rs Fl:=do
 let _ <-f Z
 .ok (.nx Z)
theorem CN (ha:b6 X a fa)(hs:autoParam (Me a none pos.line X.env=pure false) aqd._auto_1):mx X (.Expr a pos) (uH fa):=PS.imp (j6 ha hs) λD σ H hh_=>by
 obtain⟨Z,B,M,E,h⟩:=hh_;refine⟨Z,OO B M,E.o,?_⟩
 unfold uH at h
 cases q:fa Z with
 | bad=>rw[q]at h;exact h.elim
 | err c=>rw[q]at h;exact PostF.xa h
 | ok t=>
  rw[q,az]at h;exact λH' s v r=>h σ H' M (SameO.of s) (E.same s) λa z=> .inl z
def bp (g:T->En->Rs En)(F:En->Rs Fl):List T->En->Rs Fl
 | [],Z=> .ok (.nx Z)
 | t::r,Z=>do
  let Z1 <-g t Z
  let f <-F Z1
  match f with
  | .nx Z2=>bp g F r Z2
  | .ct Z2=>bp g F r Z2
  | .bk Z2=> .ok (.nx Z2)
  | .rt t=> .ok (.rt t)
def ir (fi:En->Rs (List T))(g:T->En->Rs En)(F:En->Rs Fl)(Z:En):Rs Fl:=do
 let ts <-fi Z
 match bp g F ts Z with
 | .ok f=> .ok f
 | _=> .bad
theorem kL {α:Type}{t:Sem α}{Q:α->Lj->Prop}{s:Lj}{E:Lh->Lj->Prop}{P:LP}{w:Mh}{A:L3}(h:wpAny (model P w) A t Q (λ_ _=>False) s):wpAny (model P w) A t Q E s:=Nh h (λ_ _ q=>q) λ_ _ z=>z.elim
theorem Dd {tg iter:Expr}{body:List Stmt}{wi:TI}{g:TG}{tb:TS}{pos:Pos}(hc:X.calm=true)(hi:PI X tg iter wi)(hg:PG X.nox tg g)(hb:PSs X.nox body tb)
  (hs:autoParam (∀x,Mv iter X.env x=pure x) aqc._auto_1):PS X (.For tg iter body [] pos) (tFor wi g tb):=by
 intro pins s σ H D I h;refine wpAny_For (bR (hi pins s σ H _ I h) λv s1 h1=>bR h1 λitv s2 h2=> ?_) hs
 obtain⟨it,fp,tn,J,H2,e,I2,T,st2,f2,W,⟨m0,w0⟩,turn⟩:=h2;subst e
 have stat:∀{H':Hp},(∀b∈fp,H' b=none)->∀b∈fp,ou X pins H' b:=λhn b hb=>⟨hn b hb,(f2 b hb).2⟩
 refine codeAny_forLoop_any (λn s'=> ∃i σ' H',Inv X pins σ' H' s'/\tn i s'.heap/\(∀b∈fp,H' b=none)/\W i n σ' H') ?_ m0 ⟨0,σ,H2,I2,st2,λb hb=>(f2 b hb).1,w0⟩
 rintro n s3 ⟨i,σ3,H3,I3,st3,fr3,w3⟩
 rcases turn i n σ3 H3 w3 with⟨stop,qn⟩ | ⟨go,N,hN,step⟩
 ·refine kL (bR (T.done X.nox rfl rfl rfl hc i pins s3 σ3 H3 _ (I3.FB _) (stat fr3) st3 stop) λr s4 ⟨hr,I4⟩=> ?_)
  subst hr;exact Oe ⟨σ3,H3,I4.FB _,qn⟩
 ·refine kL (bR (T.item X.nox rfl rfl rfl hc i pins s3 σ3 H3 _ (I3.FB _) (stat fr3) st3 go) λr s4 ⟨u,hr,h4⟩=> ?_)
  subst hr;refine kL (bR h4 λ_ s5 hh_=> ?_)
  obtain⟨x,H5,I5,r5,y5,st5,fr5⟩:=hh_
  have I5':=Inv.pinned (X:=X.nox) I5 (stat fr5) (T.obj _ _ st5);refine kL (bR (hg _ s5 σ3 H5 x u _ I5' r5 (step x H5 y5)) λ_ s6 hh_=> ?_)
  obtain⟨σ6,H6,I6,q6⟩:=hh_;refine kL (bR (hb _ s6 σ6 H6 _ I6 q6) λf s7 q7=> ?_)
  have again:∀{σ7:L2.St} {H7:Hp},Inv X.nox (pins++mU fp s5.heap) σ7 H7 s7->N σ7 H7->∃m,m<n/\∃i σ' H',Inv X pins σ' H' s7/\tn i s7.heap/\(∀b∈fp,H' b=none)/\W i m σ' H':=λ{σ7 H7} I7 n7=>by
   obtain⟨m',hm,w7⟩:=hN σ7 H7 n7;refine⟨m',hm,i+1,σ7,H7,(Inv.Kc (X:=X.nox) I7).FB _,T.keep _ _ _ st5 λb hb o e=>(I7.pin (b,o) (LF _ (LF _ (gJ hb e)))).1,λb hb=> ?_,w7⟩
   obtain⟨o,e,d⟩:=T.obj _ _ st5 b hb;exact(I7.pin (b,o) (LF _ (LF _ (gJ hb e)))).2.1
  cases f with
  | next=>obtain⟨σ7,H7,I7,n7⟩:=q7;exact again I7 n7
  | cont=>obtain⟨σ7,H7,I7,n7⟩:=q7;exact again I7 n7
  | brk=>obtain⟨σ7,H7,I7,q7⟩:=q7;exact⟨σ7,H7,(Inv.Kc (X:=X.nox) I7).FB _,q7⟩
  | ret v=>obtain⟨x7,σ7,H7,I7,r7,q7⟩:=q7;exact⟨x7,σ7,H7,(Inv.Kc (X:=X.nox) I7).FB _,r7,q7⟩
theorem FX {tg iter:Expr}{body:List Stmt}{fi:En->Rs (List T)}{g:T->En->Rs En}{F:En->Rs Fl}(hc:X.calm=true)(hi:Ew X tg iter fi)(hg:Fg X.nox tg g)(hb:jI X.nox body F)
  (hs:autoParam (∀x,Mv iter X.env x=pure x) aqc._auto_1):mx X (.For tg iter body [] pos) (ir fi g F):=PS.imp (Dd hc hi hg hb hs) λD σ H hh_=>by
 obtain⟨Z,B,M,E,h⟩:=hh_;refine⟨Z,OO B M,E.o,?_⟩
 unfold ir at h
 cases q:fi Z with
 | bad=>rw[q]at h;exact h.elim
 | err c=>rw[q]at h;exact PostF.xa h
 | ok ts=>
  rw[q,az]at h
  cases qq:bp g F ts Z with
  | bad=>rw[qq]at h;exact h.elim
  | err c=>rw[qq]at h;exact h.elim
  | ok fin=>
  rw[qq]at h;intro H1 s1 J hJ
  have E1:Ev X.K B M H1 Z σ:=E.same s1
  have h1:PostF X B M.u H1 (.ok fin) D:=PostF.later h (SameO.of s1) λa z=> .inl z
  refine⟨λi m σ' H'=>m=ts.length - i/\i<=ts.length/\SameO M.u H1 H'/\∃Z' M',Ev X.K B M' H' Z' σ'/\(∀a,M'.u a->M.u a\/Nw X.K H1 a)/\bp g F (ts.drop i) Z'= .ok fin,
   ⟨ts.length,by omega,Nk _,λ_ _ e _=>e,Z,M,E1,λa z=> .inl z,by simpa using qq⟩,?_⟩
  rintro i m σ' H' ⟨rfl,hi',sm,Z',M',E',ow,hl⟩
  have it:=hJ M.u (OO B M') (λa z=> .inl (.inr z)) (λa z=>z.elim (λw=> .inl (.inl w)) λw=>(ow a w).elim (λy=> .inl (.inr y)) .inr) i H' sm (λa z=>(E'.env.trk a z).some)
  by_cases hlt:i<ts.length
  ·have hti:ts[i]? =some ts[i]:=by simp
   obtain⟨go,yl⟩:=it.2 ts[i] hti;rw[NW hlt]at hl;unfold bp at hl;refine .inr ⟨go,λσ2 H2=> ∃m',m'<ts.length - i/\(m'=ts.length - (i+1)/\i+1<=ts.length/\SameO M.u H1 H2/\∃Z2 M2,Ev X.K B M2 H2 Z2 σ2/\(∀a,M2.u a->M.u a\/Nw X.K H1 a)/\bp g F (ts.drop (i+1)) Z2= .ok fin),λσ2 H2 z=>z,λx Hc y=> ?_⟩
   obtain⟨sc,rx⟩:=yl x Hc y;refine⟨Z',OO B M',M',ts[i],E'.env.same sc,rx,?_⟩
   cases e1:g ts[i] Z' with
   | bad=>rw[e1]at hl;cases hl
   | err cc=>rw[e1]at hl;cases hl
   | ok Z1=>
    rw[e1,az]at hl;intro σ1 Eg
    have E2:Ev X.K B M' Hc Z1 σ1:=⟨Eg,E'.mine⟩;refine⟨Z1,B,M',E2,?_⟩
    have smc:SameO M.u H1 Hc:=λb o e n=>sc _ _ (sm b o e n)
    have onward:∀{σ3:L2.St} {H3:Hp} {Z3:En} {M3:Mn},SameO M'.u Hc H3->Ev X.K B M3 H3 Z3 σ3->(∀a,M3.u a->M'.u a\/Nw X.K Hc a)->bp g F (ts.drop (i+1)) Z3= .ok fin →
      ∃m',m'<ts.length - i/\(m'=ts.length - (i+1)/\i+1<=ts.length/\SameO M.u H1 H3/\∃Z2 M2,Ev X.K B M2 H3 Z2 σ3/\(∀a,M2.u a->M.u a\/Nw X.K H1 a)/\bp g F (ts.drop (i+1)) Z2= .ok fin):=
     λ{σ3 H3 Z3 M3} s3 E3 o3 p3=>⟨_,by omega,rfl,hlt,smc.trans s3 ow,Z3,M3,E3,λa z=>(o3 a z).elim (ow a) (eG smc),p3⟩
    cases e2:F Z1 with
    | bad=>rw[e2]at hl;cases hl
    | err cc=>rw[e2]at hl;cases hl
    | ok f=>
     rw[e2,az]at hl
     cases f with
     | nx Z2=>exact λσ3 H3 M3 s3 E3 o3=>onward s3 E3 o3 hl
     | ct Z2=>exact λσ3 H3 M3 s3 E3 o3=>onward s3 E3 o3 hl
     | bk Z2=>
      cases hl
      exact λσ3 H3 M3 s3 E3 o3=>h1 σ3 H3 M3 (smc.trans s3 ow) E3 λa z=>(o3 a z).elim (ow a) (eG smc)
     | rt t=>
      cases hl;exact λv H3 s3 r=>h1 v H3 (smc.trans s3 ow) r
  ·refine .inl ⟨it.1 (by omega),?_⟩
   have hi2:i=ts.length:=by omega
   subst hi2;rw[RS]at hl;cases hl;exact h1 σ' H' M' sm E' ow
def bw (c:En->Rs Bool)(F:En->Rs Fl):Nat->En->Rs Fl
 | 0,_=> .bad
 | n+1,Z=>match c Z with
  | .ok false=> .ok (.nx Z)
  | .ok true=>match F Z with
   | .ok (.nx Z')=>bw c F n Z'
   | .ok (.ct Z')=>bw c F n Z'
   | .ok (.bk Z')=> .ok (.nx Z')
   | .ok (.rt t)=> .ok (.rt t)
   | _=> .bad
  | _=> .bad
theorem zC {c:Expr}{body:List Stmt}{fc:En->Rs Bool}{F:En->Rs Fl}(n:Nat)(hc:uC X.nox c fc)(hb:jI X.nox body F):mx X (.While c body [] pos) (bw fc F n):=by
 have base:PS X.nox (.While c body [] pos) (uO (BX X.nox fc) (JX X.nox F)):=zK PassesOwn.never hc hb;intro pins s σ H D I ⟨Z,B,M,E,h⟩
 cases qq:bw fc F n Z with
 | bad=>rw[qq]at h;exact h.elim
 | err c=>
  exfalso
  have:∀n Z,bw fc F n Z≠ .err c:=by
   intro n
   induction n with
   | zero=>intro Z z;cases z
   | succ n ih=>
    intro Z z;unfold bw at z
    split at z
    ·cases z
    ·split at z <;> first | exact ih _ z | cases z
    ·cases z
  exact this n Z qq
 | ok fin=>
  rw[qq]at h
  have goal:uO (BX X.nox fc) (JX X.nox F) D σ H:=by
   refine⟨λm σ' H'=>SameO M.u H H'/\∃Z' M',Ev X.K B M' H' Z' σ'/\(∀a,M'.u a->M.u a\/Nw X.K H a)/\bw fc F m Z'= .ok fin,⟨n,λ_ _ e _=>e,Z,M,E,λa z=> .inl z,qq⟩,?_⟩
   rintro m σ' H' ⟨sm,Z',M',E',ow,hl⟩
   cases m with
   | zero=>cases hl
   | succ m=>
    refine⟨Z',OO B M',E'.o,?_⟩
    unfold bw at hl
    cases e1:fc Z' with
    | bad=>rw[e1]at hl;cases hl
    | err cc=>rw[e1]at hl;cases hl
    | ok k=>
     rw[e1]at hl;intro H2 s2
     have E2:Ev X.K B M' H2 Z' σ':=E'.same s2
     have sm2:SameO M.u H H2:=λb o e n=>s2 _ _ (sm b o e n)
     cases k with
     | false=>
      cases hl;refine L2.iteF ?_
      exact h σ' H2 M' sm2 E2 ow
     | true=>
      refine L2.iteT ?_
      refine⟨λσ3 H3=>SameO M.u H H3/\∃Z3 M3,Ev X.K B M3 H3 Z3 σ3/\(∀a,M3.u a->M.u a\/Nw X.K H a)/\bw fc F m Z3= .ok fin,λσ3 H3 z=>⟨m,OF m,z⟩,Z',B,M',E2,?_⟩
      have hl':(match F Z' with | .ok (.nx Z')=>bw fc F m Z' | .ok (.ct Z')=>bw fc F m Z' | .ok (.bk Z')=> .ok (.nx Z') | .ok (.rt t)=> .ok (.rt t) | _=> .bad)= .ok fin:=hl
      cases e2:F Z' with
      | bad=>rw[e2]at hl';cases hl'
      | err cc=>rw[e2]at hl';cases hl'
      | ok f=>
       rw[e2]at hl'
       cases f with
       | nx Z2=>exact λσ3 H3 M3 s3 E3 o3=>⟨sm2.trans s3 ow,Z2,M3,E3,λa z=>(o3 a z).elim (ow a) (eG sm2),hl'⟩
       | ct Z2=>exact λσ3 H3 M3 s3 E3 o3=>⟨sm2.trans s3 ow,Z2,M3,E3,λa z=>(o3 a z).elim (ow a) (eG sm2),hl'⟩
       | bk Z2=>
        cases hl'
        exact λσ3 H3 M3 s3 E3 o3=>h σ3 H3 M3 (sm2.trans s3 ow) E3 λa z=>(o3 a z).elim (ow a) (eG sm2)
       | rt t=>
        cases hl';exact λv H3 s3 r=>h v H3 (sm2.trans s3 ow) r
  refine kL (bR (base pins s σ H D (I.FB _) goal) λf s' q=> ?_)
  cases f with
  | next=>obtain⟨σ7,H7,I7,n7⟩:=q;exact⟨σ7,H7,I7.FB _,n7⟩
  | cont=>obtain⟨σ7,H7,I7,n7⟩:=q;exact⟨σ7,H7,I7.FB _,n7⟩
  | brk=>obtain⟨σ7,H7,I7,n7⟩:=q;exact⟨σ7,H7,I7.FB _,n7⟩
  | ret v=>obtain⟨x7,σ7,H7,I7,r7,q7⟩:=q;exact⟨x7,σ7,H7,I7.FB _,r7,q7⟩
def EH (Z:En):Rs Fl:=.ok (.ct Z)
end
def bu (F:En->Rs Fl)(Z:En):Rs T:=do
 let f <-F Z
 match f with
 | .nx _=> .ok .non
 | .rt t=> .ok t
 | _=> .bad
def aK (n:Nat)(ts:List T):En:=ts.map Sl.va++LG (n - ts.length) Sl.em
theorem x6 {n:Nat}{ts:List T}{i:Nat}{o:OT}(e:(aK n ts)[i]? =some (.ow o)):False:=by
 unfold aK at e
 by_cases hi:i<ts.length
 ·rw[Mq (by simpa using hi),LI,Ls hi]at e
  cases e
 ·rw[Nc (by simpa using hi),Mi]at e
  split at e <;> cases e
theorem pA {K:Ld}{O:Ow}{H:Hp}{N:List Str}{ts:List T}{vs:List V}(r:Reps K O H ts vs)(hl:ts.length<=N.length)(trk:∀a,O a->Mtb H a):Ev K O noM H (aK N.length ts) (start N vs):=by
 have hlen:=r.length
 have sub:∀a,OO O noM a->O a:=λa z=>z.elim id λ⟨_,w⟩=>w.elim
 refine⟨⟨by unfold aK L2.start;simp;omega,λi t e=> ?_,λi o e=>(x6 e).elim,λ_ _ z=>z.elim,λ_ _ _ z=>z.elim,λa z=>trk a (sub a z)⟩,λa ⟨_,z⟩=>z.elim⟩
 unfold aK at e;unfold L2.start
 by_cases hi:i<ts.length
 ·rw[Mq (by simpa using hi),LI,Ls hi]at e
  have e':ts[i] =t:=by injection e with e;injection e
  obtain⟨v,e1,e2⟩:=r.get (i:=i) (t:=t) (by rw[<-e'];simp)
  refine⟨v,?_,e2.less sub⟩
  rw[Mq (by simp;omega),LI,e1];rfl
 ·rw[Nc (by simpa using hi),Mi]at e
  split at e <;> cases e
section
variable {P:LP}{w:Mh}{K:Ld}{mg:Str->Option Lh}{base:Heap}
theorem JF {x qual:Str}{st:Stmt}{f:Addr}{fd:Mo}{N ps:List Str}{k n:Nat}{g:List T->Rs T}(Fn:L2.Fun K x qual st f fd)(S:aw N ps (ai st))(hn:ps.length=n)
  (hbody:∀(cdv:Lh) (A:L3) (outer:List Env) (s:Lj) (H:Hp) (E:XK),Room k (A.deeper (envOfC qual (ai st) s.heap.objs.size f cdv)) →
   ∃F,jI (fI CX0 P w K mg base N qual (ai st) f cdv A outer s H E).nox (bF st) F/\∀ts,ts.length=n->∀t,g ts= .ok t->bu F (aK N.length ts)= .ok t):ox P w K mg base CX0 (k+1) f fd ps (spP K n g):=by
 have hpl:ps.length<=N.length:=by have:=congrArg M8 S.pre;rw[Ng]at this;omega
 refine Fn.ok S (λvs H Q E h=> ?_) (λcdv A outer s H vs Q E hr h=> ?_)
 ·obtain⟨ts,O,r,_,hl,_⟩:=h
  rw[<-r.length,hl,hn]
 ·obtain⟨ts,O,r,trk,hl,h⟩:=h
  obtain⟨F,hF,hv⟩:=hbody cdv A outer s H E hr;refine⟨_,hF,aK N.length ts,O,noM,pA r (by omega) trk,?_⟩
  have no:∀a,¬noM.u a:=λa ⟨_,z⟩=>z
  cases q:g ts with
  | bad=>rw[q]at h;exact h.elim
  | err c=>rw[q]at h;exact h.elim
  | ok t=>
   rw[q]at h
   have hb:=hv ts hl t q;unfold bu at hb
   cases q2:F (aK N.length ts)with
   | bad=>rw[q2]at hb;cases hb
   | err c=>rw[q2]at hb;cases hb
   | ok fl=>
    rw[q2,az]at hb
    have sameOf:∀H',SameO noM.u H H'->Same H H':=λH' s b o e=>s b o e (no b)
    cases fl with
    | nx Z'=>cases hb;exact λσ' H' M' s' E' o'=>h .non H' (sameOf H' s') Rep.Kx
    | rt t'=>cases hb;exact λv H' s' r'=>h v H' (sameOf H' s') r'
    | bk Z'=>cases hb
    | ct Z'=>cases hb
end
end Tr
namespace Enu
open PySem
open AutoSeq1 (wpAny_loadPart')
section
variable {prog:LP}{w:Mh}{A:L3}{E:Lh->Lj->Prop}{s:Lj}
theorem Ck {it tt:Addr}{k:Nat}{its:Array Lh}{x:Lh}{Q:Lh->Lj->Prop}(hi:s.heap.IsTupleIter it tt k)(ht:s.heap.IsTuple tt its)(hx:its[k]? =some x)
  (hQ:∀h',h'.IsTupleIter it tt (k+1)->Oy it s.heap h'->Q x { s with heap:=h' }):wpAny (model prog w) A (Nj (.ref it)) Q E s:=by
 obtain⟨ob,g1,g2,g3⟩:=id hi;obtain⟨ot,k1,_,m,k3⟩:=ht;unfold Nj;refine Li (MI (name:=Lu "__next__") hi.typeIs Nd (NA Nd hi.typeIs OW ?_ (OM _)))
 show wpAny (model prog w) _ (field (.ref it) 0 >>= _) _ _ s
 refine Li (MT g1 g3 (x:=.ref tt) rfl ?_)
 show wpAny (model prog w) _ (if (LR tt == L1)=true then _ else _) _ _ s
 rw[if_neg (show ¬((LR tt == L1)=true)by exact LM)]
 show wpAny (model prog w) _ (field (.ref it) 1 >>= _) _ _ s
 refine Li (MT g1 g3 (x:=.int k 0) rfl ?_)
 show wpAny (model prog w) _ (seqItems? (.ref tt) >>= _) _ _ s
 refine Li (Qx k1 k3 ?_)
 simp only[hx,Mr];refine Li (Qy g1 g3 (by simp) (Lr ⟨x,rfl,Lr (hQ _ ?_ (Qz ..))⟩))
 refine⟨_,P8 _ g1 (P9 (Ob g3 _)),(Obj.cls_mapFields ..).trans g2,?_⟩
 rw[Ob g3];simp[rawInt]
theorem tupStop {it tt:Addr}{k:Nat}{its:Array Lh}{Q:Lh->Lj->Prop}(hh:A.handled=none)(hi:s.heap.IsTupleIter it tt k)(ht:s.heap.IsTuple tt its)(hx:its[k]? =none)
  (hE:∀h' e,Heap.ExtBut it s.heap h'->(∃o,h'.get? e=some o/\o.cls= .type "StopIteration")->E (.ref e) { s with heap:=h' }):wpAny (model prog w) A (Nj (.ref it)) Q E s:=by
 obtain⟨ob,g1,g2,g3⟩:=id hi;obtain⟨ot,k1,_,m,k3⟩:=ht;unfold Nj;refine Li (MI (name:=Lu "__next__") hi.typeIs Nd (NA Nd hi.typeIs OW ?_ (OM _)))
 show wpAny (model prog w) _ (field (.ref it) 0 >>= _) _ _ s
 refine Li (MT g1 g3 (x:=.ref tt) rfl ?_)
 show wpAny (model prog w) _ (if (LR tt == L1)=true then _ else _) _ _ s
 rw[if_neg (show ¬((LR tt == L1)=true)by exact LM)]
 show wpAny (model prog w) _ (field (.ref it) 1 >>= _) _ _ s
 refine Li (MT g1 g3 (x:=.int k 0) rfl ?_)
 show wpAny (model prog w) _ (seqItems? (.ref tt) >>= _) _ _ s
 refine Li (Qx k1 k3 ?_)
 simp only[hx,Mr];refine Li (Rt (Li (Qy g1 g3 (by simp) ?_)))
 show wpAny (model prog w) _ (newExc (.type "StopIteration") [] >>= _) _ _ _
 refine Li ?_
 simp only[newTuple,newExc];refine Li (Mg ?_ (by size_fits))
 refine Li (m:=firstArgMember _ _) (wpAny_of_eq (a:=L1) (by first | (simp only[firstArgMember];rfl) | rfl) ?_)
 refine Mg ?_ (by size_fits)
 simp only[raiseNew];refine Li (wpAny_handled ?_)
 first | rw[hh] | rw[show A.in1.handled=none from hh]
 refine Li (Lr (wpAny_throw ?_))
 refine hE _ _ (((Qz ..).extBut.push _).push _) ⟨_,LB _ rfl,rfl⟩
end
theorem tupDraws {prog:LP}{w:Mh}{A:L3}(hh:A.handled=none)(it tt:Addr)(hne:tt≠it)(its:Array Lh) :
  Draws prog w A it [it,tt] its.size (λi v=>its[i]? =some v) (λi h=>h.IsTupleIter it tt i/\h.IsTuple tt its) where
 live:=λ_ _ st=>by obtain⟨o,ho,_⟩:=st.1;exact⟨o,ho⟩
 frame:=λ_ _ _ st hk=>by
  obtain⟨⟨o,e,r⟩,⟨o',e',r'⟩⟩:=st;exact⟨⟨o,hk it (by simp) o e,r⟩,⟨o',hk tt (by simp) o' e',r'⟩⟩
 item:=λi s Q E hi st hQ=>by
  refine Ck st.1 st.2 (x:=its[i]) (by simp[hi]) λh' hit' hs'=> ?_
  obtain⟨o',e',r'⟩:=st.2;exact hQ _ h' s.toks (by simp[hi]) ⟨hit',⟨o',(hs'.2 tt hne).trans e',r'⟩⟩ hs'
 done:=λs Q E st hE=>tupStop hh st.1 st.2 (by simp) hE
theorem newT (l:Addr)(items:Array Lh)(n:Nat)(dct:Option Addr)(sl:Array (Option Lh)) :
  Meets (Builtin.«enumerate.__new__» ⟨[.type "enumerate",.ref l],[]⟩) (λ_ R s=>s.heap.get? l=some { cls:=.type "tuple",dict:=dct,data:=.seq items n,slots:=sl } ∧
   R (.ok (.ret (.ref (s.heap.push { cls:=.type "tuple_iterator",data:=.fields #[.ref l,.int 0 0] }).objs.size)))
    { s with heap:=(s.heap.push { cls:=.type "tuple_iterator",data:=.fields #[.ref l,.int 0 0] }).push { cls:=.type "enumerate",data:=.fields #[.none,.bool false,.ref s.heap.objs.size,rawInt 0,.none,.none] } }):=
 .of_wp λprog w A R s h=>by
  obtain⟨hp,g,d,tk,os⟩:=s;obtain⟨hl,h⟩:=h
  have hsub:=sub_enumerate
  have hT:Heap.IsTuple (Shared.heap ⟨hp,g,d,tk,os⟩) l items:=⟨_,hl,rfl,n,rfl⟩
  wp_walk using Nu hl
  refine wpAny_stack_any λst=>Lr ?_
  split
  ·rename_i c _ _ _ _ _
   cases (c == OP "enumerate")
   ·wp_walk using Nu hl,NH hT
    exact⟨_,rfl,h⟩
   ·wp_walk using Nu hl,NH hT
    exact⟨_,rfl,h⟩
  ·wp_walk using Nu hl,NH hT
   exact⟨_,rfl,h⟩
theorem callT {prog:LP}{w:Mh}{A:L3}{E:Lh->Lj->Prop}{s:Lj}{l:Addr}{items:Array Lh}{Q:Lh->Lj->Prop}(hL:s.heap.IsTuple l items)
  (h:∀h',IsEnum h' (s.heap.objs.size+1) s.heap.objs.size 0 .none->h'.IsTupleIter s.heap.objs.size l 0->h'.objs.size=s.heap.objs.size+2 →
   (∀b o,s.heap.get? b=some o->h'.get? b=some o)->Q (.ref (s.heap.objs.size+1)) { s with heap:=h' }):wpAny (model prog w) A (call (.type "enumerate") [.ref l]) Q E s:=by
 obtain⟨⟨cc,dc,dd,ss⟩,hl,hc,n,hd⟩:=hL
 replace hc:cc= .type "tuple":=hc
 replace hd:dd= .seq items n:=hd
 subst hc hd;refine callType_new F.called_enumerate (by decide) (F.typeCall_enumerate_1 _) (F.newCall_enumerate_1 _) (λobj=>F.args_object_init_2 obj _) F.entry_enumerate_new (newT l items n dc ss) ⟨hl,?_⟩
 have hz:(s.heap.push { cls:=.type "tuple_iterator",data:=.fields #[.ref l,.int 0 0] }).objs.size=s.heap.objs.size+1:=M5 ..
 show _/\_
 rw[hz]
 have he:IsEnum ((s.heap.push { cls:=.type "tuple_iterator",data:=.fields #[.ref l,.int 0 0] }).push
   { cls:=.type "enumerate",data:=.fields #[.none,.bool false,.ref s.heap.objs.size,rawInt 0,.none,.none] }) (s.heap.objs.size+1) s.heap.objs.size 0 .none:=by
  have q:=LB (s.heap.push { cls:=.type "tuple_iterator",data:=.fields #[.ref l,.int 0 0] })
   (o:={ cls:=.type "enumerate",data:=.fields #[.none,.bool false,.ref s.heap.objs.size,rawInt 0,.none,.none] }) rfl
  rw[hz]at q;exact q
 refine⟨⟨_,he,rfl⟩,h _ he ⟨_,Lq _ (LB _ rfl),rfl,rfl⟩ (by rw[M5,hz]) λb o x=>Lq _ (Lq _ x)⟩
end Enu
namespace L2
open PySem PySem.Spec PyProof.Rows
section
variable {X:Cx}{pins:List (Addr×Obj)}{σ:L2.St}{H:Hp}{s:Lj}{h':Heap}
theorem Inv.Ky {t':Nat}{fp:List Addr}{Tp:Addr}{xs:List V}(I:Inv X pins σ H s)(hf:∀b∈fp,ou X pins H b)(k:∀b o,b∉fp->s.heap.get? b=some o->h'.get? b=some o)
  (ht:∀b∈fp,∃o,h'.get? b=some o) (hT:s.heap.objs.size<=Tp) (new:ObjOk X.prog X.w (upd H Tp (.tup xs)) h' Tp (.tup xs)):Inv X pins σ (upd H Tp (.tup xs)) { s with heap:=h',toks:=t' }:=by
 have hn:H Tp=none:=I.hok.fresh hT
 have kS:∀b o,s.heap.get? b=some o->b≠Tp:=λb o e=>My (LC (Lw e) hT)
 have nf:∀b u,H b=some u->b∉fp:=λb u e z=>by rw[(hf b z).1]at e;cases e
 refine I.step (g':=s.gens) (d':=s.drawn) (ch:=fp) (λb hb=>⟨(hf b hb).2.2.2.1,(hf b hb).2.1,(hf b hb).2.2.2.2.1,(hf b hb).2.2.2.2.2⟩) (λb o _ _ hc e _=>k b o hc e) (λb o _ _ hc e _=>⟨o.slots,k b o hc e⟩)
  (λb o _ e n=>by rw[aH (kS b o e)];exact n) (λb o hc e=>⟨o,k b o hc e⟩) (λb ys e=>by rw[aH (bS e hn)];exact e) (λb o u e=>by rw[aH (bS e hn)];exact e)
  (λb ps e=>⟨#[],by rw[aH (bS e hn),e];simp⟩) (λm hm=> ?_) (λb u e=> ?_) I.bare
 ·obtain⟨o,es,ep,ho,r⟩:=hm
  exact⟨o,es,ep,k _ o (λz=>(hf _ z).2.1 rfl) ho,r⟩
 ·by_cases hb:b=Tp
  ·subst hb;rw[aQ]at e;cases e;exact new
  ·rw[aH hb]at e
   refine(I.hok b u e).Ki (λc v hc q=>k c v ?_ q) (λc q=>by rw[aH (bS q hn)];exact q) λc ys q=>by rw[aH (bS q hn)];exact q
   rcases hc with z | z
   ·rw[z];exact nf b u e
   ·exact nf c _ z
theorem Inv.Kk {t':Nat}{fp:List Addr}(I:Inv X pins σ H s)(hf:∀b∈fp,ou X pins H b)(k:∀b o,b∉fp->s.heap.get? b=some o->h'.get? b=some o):Inv X pins σ H { s with heap:=h',toks:=t' }:=by
 have nf:∀b u,H b=some u->b∉fp:=λb u e z=>by rw[(hf b z).1]at e;cases e
 refine I.step (g':=s.gens) (d':=s.drawn) (ch:=fp) (λb hb=>⟨(hf b hb).2.2.2.1,(hf b hb).2.1,(hf b hb).2.2.2.2.1,(hf b hb).2.2.2.2.2⟩) (λb o _ _ hc e _=>k b o hc e) (λb o _ _ hc e _=>⟨o.slots,k b o hc e⟩)
  (λb o _ e n=>n) (λb o hc e=>⟨o,k b o hc e⟩) (λb ys e=>e) (λb o u e=>e)
  (λb ps e=>⟨#[],by rw[e];simp⟩) (λm hm=> ?_) (λb u e=> ?_) I.bare
 ·obtain⟨o,es,ep,ho,r⟩:=hm
  exact⟨o,es,ep,k _ o (λz=>(hf _ z).2.1 rfl) ho,r⟩
 ·refine(I.hok b u e).Ki (λc v hc q=>k c v ?_ q) (λc q=>q) λc ys q=>q
  rcases hc with z | z
  ·rw[z];exact nf b u e
  ·exact nf c _ z
end
def B3 (K:Ld)(H:Hp)(a:Addr)(tt:Bool)(xs:List V):Prop:=if tt then SqT K H a xs else SqL K H a xs
def J8 (K:Ld)(a:Addr)(tt:Bool):It:=
 ⟨λi H=> ∃xs x,B3 K H a tt xs/\xs[i]? =some x,λi H x H'=> ∃p v,x= .ref p/\H p=none/\H'=upd H p (.tup [.int (i:Nat),v])/\∀xs,B3 K H a tt xs->xs[i]? =some v,λi H=> ∃xs,B3 K H a tt xs/\xs.length<=i⟩
def itAt (tt:Bool)(h:Heap)(it a:Addr)(i:Nat):Prop:=if tt then h.IsTupleIter it a i else h.IsListIter it a i
theorem itAt.obj {tt:Bool}{h:Heap}{it a:Addr}{i:Nat}(st:itAt tt h it a i):∃o,h.get? it=some o/\∀v,o.data≠ .cell v:=by
 cases tt with
 | true=>obtain⟨o,e,c,d⟩:=(show h.IsTupleIter it a i from st);exact⟨o,e,λv z=>by rw[d]at z;cases z⟩
 | false=>obtain⟨o,e,c,d⟩:=(show h.IsListIter it a i from st);exact⟨o,e,λv z=>by rw[d]at z;cases z⟩
theorem itAt.keep {tt:Bool}{h h':Heap}{it a:Addr}{i:Nat}(st:itAt tt h it a i)(k:∀o,h.get? it=some o->h'.get? it=some o):itAt tt h' it a i:=by
 cases tt with
 | true=>obtain⟨o,e,r⟩:=(show h.IsTupleIter it a i from st);exact(show h'.IsTupleIter it a i from⟨o,k o e,r⟩)
 | false=>obtain⟨o,e,r⟩:=(show h.IsListIter it a i from st);exact(show h'.IsListIter it a i from⟨o,k o e,r⟩)
theorem xW {P:LP}{w:Mh}{K:Ld}{elts:List Expr}{kk:Nat}{pos:Pos}(tt:Bool)(a e it:Addr)(hei:e≠it) :
  BN P w K (.Tuple elts kk pos) (J8 K a tt) [e,it] e (λi h=>(∃old,IsEnum h e it i old)/\itAt tt h it a i) where
 mem:=by simp
 obj:=λi h st b hb=>by
  obtain⟨⟨old,he⟩,hi⟩:=st;rcases Lp.mp hb with rfl | hb
  ·exact⟨_,he,λv z=>by have z':Data.fields _=Data.cell v:=z;cases z'⟩
  ·rw[Ly.mp hb];exact hi.obj
 keep:=λi h h' st k=>by
  obtain⟨⟨old,he⟩,hi⟩:=st;exact⟨⟨old,k e (by simp) _ he⟩,hi.keep λo q=>k it (by simp) o q⟩
 item:=by
  intro X hP hw hK hc i pins s σ H E I hf st hg;subst hP hw hK;obtain⟨xs,x,hq,hx⟩:=hg;obtain⟨⟨old,he⟩,hi⟩:=st
  -- by what is walked
  have key:∀(its:List Lh),Vals xs its->(∀ys,B3 X.K H a tt ys->ys=xs)->∀(fp0:List Addr) (St:Nat->Heap->Prop),Draws X.prog X.w X.A.in1 it fp0 its.toArray.size (λi v=>its.toArray[i]? =some v) St->e∉fp0->it∈fp0->St i s.heap →
    (∀h',St (i+1) h'->itAt tt h' it a (i+1)) →
    wpAny (model X.prog X.w) X.A (pyNext (.ref e)) (λr s1=> ∃u,r=some u/\wpAny (model X.prog X.w) X.A (Of (.Tuple elts kk pos) (.ref e) u) (λ_ s2=> ∃x' H',Inv X pins σ H' s2/\RelV x' u/\(J8 X.K a tt).yld i H x' H' ∧
     ((∃old,IsEnum s2.heap e it (i+1:Nat) old)/\itAt tt s2.heap it a (i+1))/\∀b∈ [e,it],H' b=none) E s1) E s:=by
   intro its rv uniq fp0 St D hef hif hst hnext;obtain⟨u,hu,ru⟩:=rv.get hx
   have hlt:i<its.toArray.size:=by
    have:=(Lz.mp hu).1
    simpa using this
   have W:=WalksT.enumerateD D e hei hef hif;refine W.item i s _ _ hlt ⟨⟨old,he⟩,hst⟩ λTp vals h1 tk hPt hTsz hTup hMid hk=>⟨.ref Tp,rfl,?_⟩
   refine W.go elts kk pos i Tp { s with heap:=h1,toks:=tk } _ _ hMid λh2 hst2 hk2=> ?_
   obtain⟨t,x',hPx,hvals⟩:=hPt;subst hvals
   have hxe:x'=u:=by
    have h1':its.toArray[i]? =some x':=hPx
    have h2':its.toArray[i]? =some u:=by simpa using hu
    rw[h1']at h2';exact LY h2'
   subst hxe
   have hTw:=W.apart i Tp h1 hMid;obtain⟨oT,eT,rT⟩:=hTup
   have eT2:h2.get? Tp=some oT:=hk2 Tp oT hTw eT
   have kAll:∀b o,b∉ [e,it]->s.heap.get? b=some o->h2.get? b=some o:=λb o hb q=>hk2 b o hb (hk b o hb q)
   obtain⟨⟨old2,he2⟩,hs2⟩:=hst2
   have hit2:=hnext h2 hs2
   have there:∀b∈ [e,it],∃o,h2.get? b=some o:=λb hb=>by
    rcases Lp.mp hb with rfl | hb
    ·exact⟨_,he2⟩
    ·rw[Ly.mp hb];obtain⟨o,q,_⟩:=hit2.obj;exact⟨o,q⟩
   have hn:H Tp=none:=I.hok.fresh hTsz
   have new:ObjOk X.prog X.w (upd H Tp (.tup [.int (i:Nat),x])) h2 Tp (.tup [.int (i:Nat),x]):=
    ⟨by show 2<=sizeLine;decide,[.int (i:Nat) t,x'],.cons ⟨t,rfl⟩ (.cons ru .nil),⟨oT,eT2,rT⟩⟩
   have I2:=I.Ky (t':=tk) hf kAll there hTsz new;refine⟨.ref Tp,_,I2,rfl,⟨Tp,x,rfl,hn,rfl,λys hy=>by rw[uniq ys hy];exact hx⟩,⟨⟨old2,he2⟩,hit2⟩,λb hb=> ?_⟩
   have hbT:b≠Tp:=λz=>by
    obtain⟨o,q⟩:∃o,s.heap.get? b=some o:=by
     rcases Lp.mp hb with rfl | hb
     ·exact⟨_,he⟩
     ·rw[Ly.mp hb];obtain⟨o,q,_⟩:=hi.obj;exact⟨o,q⟩
    exact absurd (LC (Lw q) hTsz) (by rw[z];exact LV _)
   rw[aH hbT];exact(hf b hb).1
  have hne:∀b∈ [e,it],a≠b:=λb hb z=>by
   have hb':=(hf b hb).1;rw[<-z]at hb'
   have hbs:=hf b hb
   cases tt with
   | true=>
    have hq':SqT X.K H a xs:=hq;rcases hq' with(q | ⟨o,q⟩) | ⟨o,its,n,q,_⟩
    ·rw[hb']at q;cases q
    ·rw[hb']at q;cases q
    ·rcases hbs.2.2.2.1 with z1 | z1
     ·exact I.ok.noex a o (I.ok.mod.kin a o q) (z▸z1)
     ·exact absurd (LC (Lw (I.ok.bs a o (I.ok.mod.kin a o q)).1) (z▸z1)) (LV _)
   | false=>
    have hq':SqL X.K H a xs:=hq;rcases hq' with(q | ⟨o,q⟩) | ⟨o,its,n,q,_⟩
    ·rw[hb']at q;cases q
    ·rw[hb']at q;cases q
    ·rcases hbs.2.2.2.1 with z1 | z1
     ·exact I.ok.noex a o (I.ok.mod.kin a o q) (z▸z1)
     ·exact absurd (LC (Lw (I.ok.bs a o (I.ok.mod.kin a o q)).1) (z▸z1)) (LV _)
  have hea:e≠a:=λz=>hne e (by simp) z.symm
  have hia:it≠a:=λz=>hne it (by simp) z.symm
  cases tt with
  | true=>
   have hq':SqT X.K H a xs:=hq;obtain⟨its,rv,p,hz⟩:=I.tuple hq'
   exact key its rv (λys hy=>I.Kj hy hq') _ _ (Enu.tupDraws (A:=X.A.in1) (I.ok.hd hc) it a (NZ hia) its.toArray) (by simp[hei,hea]) (by simp) ⟨hi,p⟩ λh' z=>z.1
  | false=>
   have hq':SqL X.K H a xs:=hq;obtain⟨its,rv,p,hz⟩:=I.list hq';exact key its rv (λys hy=>I.Ko hy hq') _ _ (Draws.list (A:=X.A.in1) (I.ok.hd hc) it a (NZ hia) its.toArray) (by simp[hei,hea]) (by simp) ⟨hi,p.isList⟩ λh' z=>z.1
 done:=by
  intro X hP hw hK hc i pins s σ H E I hf st hg;subst hP hw hK;obtain⟨xs,hq,hx⟩:=hg;obtain⟨⟨old,he⟩,hi⟩:=st
  have fin:∀h',Heap.ExtBut it s.heap h'->(none:Option Lh)=none/\Inv X pins σ H { s with heap:=h' }:=λh' eb=>⟨rfl,I.Kk (t':=s.toks) hf λb o hb q=>eb b o (λz=>hb (by simp[z])) q⟩
  cases tt with
  | true=>
   have hq':SqT X.K H a xs:=hq;obtain⟨its,rv,p,hz⟩:=I.tuple hq'
   have hl:=rv.length
   have hnone:its.toArray[i]? =none:=by simp;omega
   have hT:s.TypeIs (.ref e) "enumerate":=⟨_,he,rfl⟩;unfold pyNext;refine Li (wpAny_attempt (MI (name:=Lu "__next__") hT Qa (NA Qa hT F.entry_enumerate_next ?_ (F.args_enumerate_next_1 _))))
   show wpAny (model X.prog X.w) _ (field (.ref e) 2 >>= _) _ _ _
   refine Li (MT he rfl (x:=.ref it) rfl ?_)
   refine Li (Enu.tupStop (I.ok.hd hc) hi p hnone λh' x he' hx'=> ?_)
   obtain⟨o,ho,hcl⟩:=hx'
   exact Li (wpAny_isInstance (T:="StopIteration") (b:=true) ⟨o,ho,hcl⟩ isSubtype_stop (Lr (fin h' he')))
  | false=>
   have hq':SqL X.K H a xs:=hq;obtain⟨its,rv,p,hz⟩:=I.list hq'
   have hl:=rv.length
   have hnone:its.toArray[i]? =none:=by simp;omega
   exact wpAny_pyNext_enum_end (I.ok.hd hc) he hi p.isList hnone fin
 self:=λ_ _ _ _ _ st h=>by
  obtain⟨⟨old,he⟩,_⟩:=st;exact Ru he h
section
variable {X:Cx}{elts:List Expr}{kk:Nat}{tpos:Pos}
theorem n6:Ma "enumerate" =some (.type "enumerate"):=by decide+kernel
def iEnu (K:Ld)(tl:TA):TI:=λσ H R=>tl σ H λvs H1=> ∃a tt,vs= [.ref a]/\(∃xs,B3 K H1 a tt xs)/\R (J8 K a tt) H1
theorem Dk {l:Expr}{tl:TA}{p pos:Pos}(hg:Gl X "enumerate")(hm:X.mg "enumerate" =none)(hl:PA X [l] tl)(hs:autoParam (LA [l] X.env= [(false,eval l X.env)]) aqd._auto_1):PI X (.Tuple elts kk tpos) (.Call (.Name "enumerate" p) [l] [] pos) (iEnu X.K tl):=by
 intro pins s σ H R I h;refine Call_ (jB I hg hm n6 (M7 (bR (hl pos pins s σ H _ I h) λus s1 ⟨vs,H1,I1,r1,q1⟩=> ?_) hs rfl))
 obtain⟨a,tt,e,⟨xs,hq⟩,q⟩:=q1;subst e;obtain⟨u,rfl,ru⟩:=jN r1;cases ru
 have fin:∀h',IsEnum h' (s1.heap.objs.size+1) s1.heap.objs.size 0 .none->itAt tt h' s1.heap.objs.size a 0->h'.objs.size=s1.heap.objs.size+2->(∀b o,s1.heap.get? b=some o->h'.get? b=some o) →
   wpAny (model X.prog X.w) X.A (pyIter (.ref (s1.heap.objs.size+1))) (PIE X pins σ (.Tuple elts kk tpos) R) X.xe { s1 with heap:=h' }:=λh' he hi hsz hk=>by
  refine Ru he ?_
  have I2:Inv X pins σ H1 { s1 with heap:=h' }:=I1.kept (t':=s1.toks) hk
  refine⟨s1.heap.objs.size+1,[s1.heap.objs.size+1,s1.heap.objs.size],_,_,H1,rfl,I2,xW tt a (s1.heap.objs.size+1) s1.heap.objs.size (Nat.succ_ne_self _),⟨⟨_,he⟩,hi⟩,λb hb=> ?_,q⟩
  rcases Lp.mp hb with rfl | hb
  ·exact I1.Ku (by omega) (I1.hok.fresh (by omega))
  ·rw[Ly.mp hb];exact I1.Ku (Lv _) (I1.hok.fresh (Lv _))
 cases tt with
 | true=>
  have hq':SqT X.K H1 a xs:=hq;obtain⟨its,rv,pl,hz⟩:=I1.tuple hq'
  exact Enu.callT pl λh' he hi hsz hk=>fin h' he hi hsz hk
 | false=>
  have hq':SqL X.K H1 a xs:=hq;obtain⟨its,rv,pl,hz⟩:=I1.list hq';exact call_enumerate_list pl.isList λh' he hi hsz hk=>fin h' he hi hsz hk
end
end L2
namespace Tr
open PySem PySem.Spec PyProof.Rows L2
section
variable {X:Cx}{a:Expr}{fa:En->Rs T}{fs:En->Rs (List T)}{p pos:Pos}
def iS (f:En->Rs T)(Z:En):Rs (List T):=do
 let x <-f Z
 match x with
 | .lst l=> .ok l
 | .tup l=> .ok l
 | _=> .bad
theorem F5 {tg:Expr}(ha:b6 X a fa):Ew X tg a (iS fa):=by
 intro pins s σ H R I ⟨Z,O,E,h⟩;unfold iS at h
 cases q:fa Z with
 | bad=>rw[q]at h;exact h.elim
 | err c=>exact wt ha pins s σ H R I ⟨Z,O,E,by unfold iL;rw[q]at h ⊢;exact h⟩
 | ok x=>
  rw[q,az]at h
  cases x with
  | lst l=>exact wt ha pins s σ H R I ⟨Z,O,E,by unfold iL;rw[q];exact h⟩
  | tup l=>exact F4 ha pins s σ H R I ⟨Z,O,E,by unfold iT;rw[q];exact h⟩
  | _=>exact h.elim
def cI:Nat->List T->List T
 | _,[] => []
 | n,t::r=> .tup [.int n,t] ::cI (n+1) r
theorem pU:∀(l:List T) (n i:Nat),(cI n l)[i]? =(l[i]?).map λt=>T.tup [.int ((n+i:Nat):Int),t]
 | [],n,i=>by simp[cI]
 | t::l,n,0=>by simp[cI]
 | t::l,n,i+1=>by
  rw[cI,MG,pU l (n+1) i,MG]
  congr 2
  funext t
  congr 4
  omega
theorem pT:∀(l:List T) (n:Nat),(cI n l).length=l.length
 | [],n=>rfl
 | t::l,n=>by rw[cI,Lm,Lm,pT l]
def iE (f:En->Rs (List T))(Z:En):Rs (List T):=do
 let xs <-f Z
 match xs with
 | [x] =>match x.items with
  | some l=> .ok (cI 0 l)
  | none=> .bad
 | _=> .bad
theorem CT {elts:List Expr}{kk:Nat}{tpos:Pos}(hm:X.mg "enumerate" =none)(ha:pd X [a] fs)(hg:autoParam (Gl X "enumerate") aqd._auto_1)(hs:autoParam (LA [a] X.env= [(false,eval a X.env)]) aqd._auto_1) :
  Ew X (.Tuple elts kk tpos) (.Call (.Name "enumerate" p) [a] [] pos) (iE fs):=PI.imp (Dk hg hm ha hs) λσ H R hh_=>by
 obtain⟨Z,O,E,h⟩:=hh_;obtain⟨Z1,O1,E1,h1⟩:=gy E h;refine⟨Z1,O1,E1,Post.mono h1 λts H1 s1 q vs r=> ?_⟩
 obtain⟨t',r',s',E',q'⟩:=q vs r
 split at q'
 ·rename_i x0
  obtain⟨v,rfl,rv⟩:=r'.one
  split at q'
  ·rename_i l hl
   have main:∀(aa:Addr) (tt:Bool) (ws:List V),v= .ref aa->¬ O aa->Reps X.K O H1 l ws->B3 X.K H1 aa tt ws->(∀P Hc,SameO P H1 Hc->¬ P aa->B3 X.K Hc aa tt ws)->¬ Nw X.K H1 aa →
     ∃a tt,[v] = [V.ref a]/\(∃xs,B3 X.K H1 a tt xs)/\R (J8 X.K a tt) H1:=λaa tt ws e n z sq mv nn=>by
    refine⟨aa,tt,by rw[e],⟨ws,sq⟩,q' H1 (Same.refl H1) _ λP O' hP hO i Hc hsm htr=> ?_⟩
    have hnP:¬ P aa:=λy=>(hP aa y).elim n nn
    have sqc:=mv P Hc hsm hnP;refine⟨λhi=>⟨ws,sqc,by rw[<-z.length,<-pT l 0];exact hi⟩,λt ht=> ?_⟩
    rw[pU]at ht
    cases e1:l[i]? with
    | none=>rw[e1]at ht;cases ht
    | some t0=>
     rw[e1]at ht;cases ht;obtain⟨v0,f1,f2⟩:=z.get e1;refine⟨⟨ws,v0,sqc,f1⟩,λx Hc' y=> ?_⟩
     obtain⟨pp,vv,e2,hpn,e3,hy⟩:=y
     have:=hy ws sqc;rw[f1]at this;cases this;subst e2 e3;refine⟨aZ hpn _,fg hpn (λzz=> ?_) (Reps.FS (by simpa using Rep.GT _) (Reps.FS (f2.move hP hO hsm) Reps.Gc))⟩
     obtain⟨o,w⟩:=htr pp zz;rw[hpn]at w;cases w
   cases x0 with
   | tup m=>
    cases hl;obtain⟨aa,ws,e,n,qq,z⟩:=Rep.Fk.mp rv
    exact main aa true ws e n z (show SqT X.K H1 aa ws from SqT.of qq) (λP Hc hsm hn=>show SqT X.K Hc aa ws from SqT.of (hsm _ _ qq hn)) λw=>by rw[w.1]at qq;cases qq
   | lst m=>
    cases hl;obtain⟨aa,ws,e,n,qq,z⟩:=Rep.Do.mp rv
    exact main aa false ws e n z (show SqL X.K H1 aa ws from SqL.of qq) (λP Hc hsm hn=>show SqL X.K Hc aa ws from SqL.of (hsm _ _ qq hn)) λw=>by rw[w.1]at qq;cases qq
   | scr m=>
    cases hl;unfold Rep at rv;obtain⟨aa,e,n,qq⟩:=rv
    exact main aa false _ e n Reps.ints (show SqL X.K H1 aa _ from qq) (λP Hc hsm hn=>show SqL X.K Hc aa _ from Tr.SqL.keep hsm hn qq) (Tr.SqL.nn qq)
   | _=>cases hl
  ·exact q'.elim
 ·exact q'.elim
end
end Tr
namespace Tm
open PySem PyProof.Rows
theorem kN:fillsNumberSlot (.type "tuple") "mul" =pure false:=
 PySem.fillsNumberSlot_seq (id:="tuple.__mul__") (r:=some (.builtin "tuple.__rmul__")) PR.lookup (by decide+kernel) Rm.lookup (by decide+kernel)
theorem qE:seqRepeat? (.type "tuple")=pure (some (.builtin "tuple.__mul__")):=by
 unfold seqRepeat?;rw[RT (T:="tuple") (name:="__mul__") (id:="tuple.__mul__") PR.lookup (by decide+kernel),RT (T:="tuple") (name:="__rmul__") (id:="tuple.__rmul__") Rm.lookup (by decide+kernel)]
 rfl
theorem u5 (a:Int)(t:Tok)(l:Addr)(items:Array Lh)(n:Nat)(dd:Option Addr)(sl:Array (Option Lh)) :
  Meets (Builtin.«int.__rmul__» ⟨[.int a t,.ref l],[]⟩) (λ_ R s=>s.heap.get? l=some { cls:=.type "tuple",dict:=dd,data:=.seq items n,slots:=sl }/\R (.ok (.ret Value.notImplemented)) s):=
 .of_wp λprog w A R s h=>by obtain⟨hp,g,d,tk,os⟩:=s;obtain⟨hl,h⟩:=h;wp_walk;exact⟨_,rfl,h⟩
open AutoSeq1 (wpAny_loadPart')
theorem Ak (l:Addr)(items:Array Lh)(n:Nat)(dd:Option Addr)(sl:Array (Option Lh))(x:Int)(u:Tok)(h1:1<x)(h2:x<2 ^ 31)(hne:items.isEmpty=false)(hz:items.size*x.toNat<=sizeLine)
  (hz2:(Pt (λa b=>a++b) #[] (LG x.toNat items)).size<=sizeLine) :
  Meets (Builtin.«tuple.__mul__» ⟨[.ref l,.int x u],[]⟩) (λ_ R s=>s.heap.get? l=some { cls:=.type "tuple",dict:=dd,data:=.seq items n,slots:=sl } ∧
   R (.ok (.ret (LR s.heap.objs.size))) { s with heap:=s.heap.push { cls:=OP "tuple",data:=Data.seq (Pt (λa b=>a++b) #[] (LG x.toNat items)) } }):=
 .of_wp λprog w A R s h=>by
  obtain⟨hp,g,d,tk,os⟩:=s;obtain⟨hl,h⟩:=h
  have hT:Sk hp l items:=⟨_,hl,rfl,n,rfl⟩
  have hx:((items.size:Nat):Int)*x=((items.size*x.toNat:Nat):Int):=by
   have e:x=((x.toNat:Nat):Int):=by omega
   rw[Int.natCast_mul,<-e]
  wp_walk using Nu hl
  rw[if_neg (by simp;omega)]
  refine Li (PQ (s:=⟨hp,g,d,tk,os⟩) hT ?_)
  dsimp only
  rw[if_neg (by rw[hne];simp;omega),if_neg (by rw[hne];simp;omega),hx,if_neg (by have:(sizeLine:Nat)<=1000000000:=(by decide);omega),if_neg (by unfold Builtin.Tuple.tupleTooMany;rw[decide_eq_true_iff];omega)]
  refine Li (m:=L5 _) (Mg ?_ hz2)
  exact Lr ⟨_,rfl,h⟩
section
variable {prog:LP}{w:Mh}{A:L3}{E:Lh->Lj->Prop}{s:Lj}
theorem mul_tuple {t:Addr}{vs:List Lh}{k:Int}{tk:Tok}{Q:Lh->Lj->Prop}(ht:Sk s.heap t vs.toArray)(h1:1<k)(h2:k<2 ^ 31)(hv:vs≠ [])(hz:vs.length*k.toNat<=sizeLine)
  (h:Q (.ref s.heap.objs.size) { s with heap:=s.heap.push { cls:=.type "tuple",data:=.seq (LG k.toNat vs).flatten.toArray } }) :
  wpAny (model prog w) A (MZ .Mult (.ref t) (.int k tk)) Q E s:=by
 obtain⟨⟨cls,dd,data,sl⟩,ho,hc,n,hd⟩:=id ht;simp only at hc hd;subst hc hd
 have e:Pt (λa b=>a++b) #[] (LG k.toNat vs.toArray)=(LG k.toNat vs).flatten.toArray:=by
  have q:=L2.foldl_rep vs k.toNat []
  simpa using q
 refine Pm (T:="tuple") (U:="int") (by decide) ⟨_,ho,rfl⟩ (λs'=>Qs s' k tk) kN R5 OV qE RP.lookup
  (Os OV (Qs s k tk) RQ (Rk _ _) (u5 k tk t vs.toArray n dd sl)
   ⟨ho,rfl,⟨_,ho,rfl⟩,Os PR ⟨_,ho,rfl⟩ F.entry_tuple_mul (F.args_tuple_mul_2 _ _) (Ak t vs.toArray n dd sl k tk h1 h2 (by simpa using hv) (by simpa using hz) (by rw[e,Lx,L2.len_rep,RD];exact hz)) ⟨ho,?_⟩⟩)
 rw[e];exact h
end
end Tm
namespace Tr
open PySem PySem.Spec PyProof.Rows L2
section
variable {X:Cx}
def bY (x y:T):Rs T:=match x,y with
 | .tup l,.int k=>if 1<k/\k<2 ^ 31/\l≠ []/\l.length*k.toNat<=sizeLine then .ok (.tup (LG k.toNat l).flatten)else .bad
 | x,y=>vo x y
instance (l:List T):Decidable (l≠ []):=by cases l <;> simp <;> infer_instance
theorem cV:OpT X (MZ .Mult) bY:=by
 intro pins s σ H O x y vx vy ux uy Q I hf rx ry r1 r2 hp;unfold bY at hp
 split at hp
 ·rename_i l k
  split at hp
  ·rename_i h
   obtain⟨a,vs,e1,n1,q1,z1⟩:=Rep.Fk.mp rx;subst e1;cases Rep.Da.mp ry;cases r1;obtain⟨tk,rfl⟩:=r2;obtain⟨its,rv,pl,hz⟩:=I.tuple (SqT.of q1)
   have hl1:=z1.length
   have hl2:=rv.length
   have hne:its≠ []:=λz=>h.2.2.1 (List.eq_nil_of_length_eq_zero (by rw[hl1,hl2,z];rfl))
   refine Tm.mul_tuple pl h.1 h.2.1 hne (by rw[<-hl2,<-hl1];exact h.2.2.2) ?_
   have hn:=I.hok.fresh (Lv _);refine⟨.ref _,_,I.laid (t':=s.toks) (o:=.tup (LG k.toNat vs).flatten) (λb ob q=>Lq _ q) (Lv _) ?_,rfl,hp _ (aZ hn _) _ (fg hn (hf _ hn) (z1.rep _))⟩
   refine⟨?_,_,rv.rep k.toNat,QU _ _⟩
   rw[len_rep,RD,<-hl1];exact h.2.2.2
  ·exact hp.elim
 ·exact Gq pins s σ H O _ _ vx vy ux uy Q I hf rx ry r1 r2 hp
end
def Jj (outer:List (Str×NQ))(N:List Str)(names:List (Str×NQ))(N':List Str)(src:List (Option Nat)):Bool:=
 names.all (λy=>y.2 != .cell||names.lookup y.1 == some .cell)&&names.all (λy=>y.2 != .local||names.lookup y.1 == some .local)&&src.length == N'.length&&
 (L6 N'.length).all (λj=>match src[j]? with
  | some (some i)=>match N'[j]? with
   | some x=>N[i]? == some x&&names.lookup x == some .free
   | none=>true
  | _=>true)&&
 names.all (λy=>y.2 != .free||(outer.lookup y.1 == some .cell||outer.lookup y.1 == some .free))
theorem LcScope.by {X:Cx}{scope:OI}{N N':List Str}{src:List (Option Nat)}{names:List (Str×NQ)}(hN:X.N=N)(hs:X.env.scope.names=names)(hk:scope.kind= .function)(h:Jj names N scope.names N' src=true):LcScope X scope N' src:=by
 unfold Jj at h;simp only[Lf]at h;obtain⟨⟨⟨⟨h1,h2⟩,h3⟩,h4⟩,h5⟩:=h
 have a1:=LK.mp h1
 have a2:=LK.mp h2
 have a4:=LK.mp h4
 have a5:=LK.mp h5;refine⟨hk,λy hy hl=>by have:=a1 y hy;rw[hl]at this;simpa using this,λy hy hl=> ?_,by simpa using h3,λj i x e1 e2=> ?_,λx hx=> ?_⟩
 ·have:=a2 y hy
  rw[hl]at this
  simpa using this
 ·have hj:j<N'.length:=(Lz.mp e2).1
  have:=a4 j (Mp.mpr hj);rw[e1]at this;simp only[e2]at this;rw[Lf]at this;rw[hN];exact⟨by simpa using this.1,by simpa using this.2⟩
 ·have:=a5 _ hx
  simp only[bne_self_eq_false,Q0,R7]at this
  show X.env.scope.names.lookup x=_\/X.env.scope.names.lookup x=_
  rw[hs];rcases this with z | z
  ·exact .inl (by simpa using z)
  ·exact .inr (by simpa using z)
def bD:Expr->Bool
 | .Starred .. =>false
 | _=>true
def bx:List Expr->Bool
 | [] =>true
 | e::r=>bD e&&bx r
theorem bz {e:Expr}{es:List Expr}{env:Env}(h:bD e=true):LA (e::es) env=(false,eval e env)::LA es env:=by
 cases e <;> first | rfl | cases h
theorem dZ {pos:Pos}{env:Env}:∀{es:List Expr},bx es=true->(backTo pos (LA es env)).any (·.1)=false
 | [],_=>rfl
 | e::r,h=>by
  unfold bx at h;rw[Lf]at h;rw[bz h.1]
  have ih:=dZ (pos:=pos) (env:=env) h.2
  show(false||(backTo pos (LA r env)).any (·.1))=false
  rw[ih];rfl
section
variable {X:Cx}{a b e:Expr}{es:List Expr}{fa:En->Rs T}{fs:En->Rs (List T)}{pos p p2:Pos}{x:Str}
theorem qa_c {f:En->Rs T}{g:En->Rs (List T)}(he:b6 X e f)(hr:pd X es g)(hn:autoParam (bD e=true) aqd._auto_1):pd X (e::es) (ae f g):=CW he hr (bz hn)
theorem q_cB {id:String}{g:List T->Rs T}(hc:CallT X (.builtin id) g)(hm:X.mg x=none)(hv:Ma x=some (.builtin id))(ha:pd X (e::es) fs)(hn:autoParam (bx (e::es)=true) aqd._auto_1)(hg:autoParam (Gl X x) aqd._auto_1)(h1:autoParam (x≠ "__name__") aqb._auto_1)(h2:autoParam ((x == ("__debug__" : Str))=false) aqb._auto_1) :
  b6 X (.Call (.Name x p) (e::es) [] pos) (cl g fs):=by
 unfold bx at hn;rw[Lf]at hn;exact C9 hc hm hv ha hg h1 h2 (bz hn.1) (dZ hn.2)
theorem q_cT {Ty:String}{g:List T->Rs T}(hc:CallT X (.type Ty) g)(hm:X.mg x=none)(hv:Ma x=some (.type Ty))(ha:pd X (e::es) fs)(hn:autoParam (bx (e::es)=true) aqd._auto_1)(hg:autoParam (Gl X x) aqd._auto_1)(h1:autoParam (x≠ "__name__") aqb._auto_1)(h2:autoParam ((x == ("__debug__" : Str))=false) aqb._auto_1) :
  b6 X (.Call (.Name x p) (e::es) [] pos) (cl g fs):=by
 unfold bx at hn;rw[Lf]at hn;exact zG hc hm hv ha hg h1 h2 (bz hn.1) (dZ hn.2)
theorem q_c {n k:Nat}{f:Addr}{fd:Mo}{ps:List Str}{g:List T->Rs T}(F:B6 X.prog X.w X.K X.mg X.base k f fd ps n g)(hr:Room k X.A)(hm:X.mg x=some (.ref f))(hk:Ni X.K (.ref f)=true)(hb:Binds X.K fd ps [])
  (hl:∀Z ts,fs Z= .ok ts->ts.length=n) (ha:pd X (e::es) fs) (hps:autoParam (ps.length=n) aqd._auto_1) (hn:autoParam (bx (e::es)=true) aqd._auto_1) (hg:autoParam (Gl X x) aqd._auto_1) (h2:autoParam ((x == ("__debug__" : Str))=false) aqb._auto_1):b6 X (.Call (.Name x p) (e::es) [] pos) (cl g fs):=by
 unfold bx at hn;rw[Lf]at hn;exact Ga F hr hm hk hb hps hl ha hg h2 (bz hn.1) (dZ hn.2)
theorem q_is {tn:Str}{Ty:String}(hm:X.mg "isinstance" =none)(hmt:X.mg tn=none)(hv:Ma tn=some (.type Ty))(ha:b6 X a fa)(hn:autoParam (bD a=true) aqd._auto_1)(hg:autoParam (Gl X "isinstance") aqd._auto_1)(hgt:autoParam (Gl X tn) aqd._auto_1)
  (h1:autoParam (tn≠ "__name__") aqb._auto_1) (h2:autoParam ((tn == ("__debug__" : Str))=false) aqb._auto_1):b6 X (.Call (.Name "isinstance" p) [a,.Name tn p2] [] pos) (o1 (AS Ty) fa):=
 Iz hm hmt hv ha hg hgt h1 h2 (bz hn) (dZ rfl) (bz rfl)
end
theorem xN (Z:En)(ts:List T)(h:aj Z= .ok ts):ts.length=0:=by cases h;rfl
theorem xM {n:Nat}{f:En->Rs T}{g:En->Rs (List T)}(hg:∀Z ts,g Z= .ok ts->ts.length=n)(Z:En)(ts:List T)(h:ae f g Z= .ok ts):ts.length=n+1:=by
 unfold ae at h
 cases q:f Z with
 | bad=>rw[q]at h;cases h
 | err c=>rw[q]at h;cases h
 | ok t=>
  rw[q,az]at h
  cases q2:g Z with
  | bad=>rw[q2]at h;cases h
  | err c=>rw[q2]at h;cases h
  | ok r=>
   rw[q2,az]at h;cases h;rw[Lm,hg Z r q2]
theorem kl {k:Nat}{A:L3}(h:Room k A):A.units+60<cLine:=by have:=h.un;omega
theorem JB {k:Nat}{A:L3}(h:Room k A):A.units+61<cLine:=by have:=h.un;omega
structure Fn (K:Ld)(mg:Str->Option Lh)(x:Str)(st:Stmt)(ps:List Str)(f:Addr)(fd:Mo):Prop where
 fn:L2.Fun K x x st f fd
 bd:Binds K fd ps []
 mg:mg x=some (.ref f)
def val (n m:Nat)(F:En->Rs Fl)(ts:List T):Rs T:=if ts.length=n then bu F (aK m ts)else .bad
theorem Fz {n m:Nat}{F:En->Rs Fl}{ts:List T}{t:T}(h:val n m F ts= .ok t):bu F (aK m ts)= .ok t:=by
 unfold val at h
 split at h
 ·exact h
 ·cases h
theorem sp_script {K:Ld}{H:Hp}{a:Addr}{ns:List Int}{g:List T->Rs T}{E:XK}(hS:SqL K H a (ns.map V.int))(h:g [.scr ns] = .ok (.bl true)):spP K 1 g [.ref a] H (λv _=>v= .bl true) E:=by
 refine⟨[.scr ns],λ_=>False,Reps.FS ?_ Reps.Gc,λ_ z=>z.elim,rfl,?_⟩
 ·unfold Rep;exact⟨a,rfl,λz=>z,hS⟩
 ·rw[h];exact λv H' _ r=>Rep.FM.mp r
theorem sW {α:Type}{l:List α}{i:Nat}{z:α}(h:l[i]? =some z):l.set i z=l:=by
 obtain⟨hi,rfl⟩:=Lz.mp h
 exact List.set_getElem_self hi
def Mn.set (M:Mn)(i:Nat)(m:Ow):Mn:=λj=>if j=i then m else M j
theorem Mn.Kb {M:Mn}{i:Nat}{m:Ow}{a:Addr}(h:(M.set i m).u a):m a\/M.u a:=by
 obtain⟨j,h⟩:=h;unfold Mn.set at h
 by_cases z:j=i
 ·rw[if_pos z]at h;exact .inl h
 ·rw[if_neg z]at h;exact .inr ⟨j,h⟩
theorem Mn.Kh {M:Mn}{i:Nat}{m:Ow}:M.set i m i=m:=by unfold Mn.set;rw[if_pos rfl]
theorem Mn.Kl {M:Mn}{i j:Nat}{m:Ow}(h:j≠i):M.set i m j=M j:=by unfold Mn.set;rw[if_neg h]
theorem RowsR.move {K:Ld}{O O' P:Ow}{H H':Hp}(hP:∀a,P a->O a\/Nw K H a)(hO:∀a,O' a->O a\/Nw K H a)(h:SameO P H H'):∀{rs:List (List T×List T)} {as:List Addr},(∀b∈as,¬P b)->RowsR K O H rs as->RowsR K O' H' rs as
 | [],_,_,r=>r
 | _::_,_,hb,⟨b,bs,kvs,e1,e2,e3,e4,e5⟩=>by
  subst e1;exact⟨b,bs,kvs,rfl,h _ _ e2 (hb b Ll),e3,e4.move hP hO h,e5.move hP hO h λc hc=>hb c (Lg _ hc)⟩
theorem LsR.move {K:Ld}{O O' P:Ow}{H H':Hp}(hP:∀a,P a->O a\/Nw K H a)(hO:∀a,O' a->O a\/Nw K H a)(h:SameO P H H'):∀{rs:List (List T)} {as:List Addr},(∀b∈as,¬P b)->LsR K O H rs as->LsR K O' H' rs as
 | [],_,_,r=>r
 | _::_,_,hb,⟨b,bs,vs,e1,e2,e4,e5⟩=>by
  subst e1;exact⟨b,bs,vs,rfl,h _ _ e2 (hb b Ll),e4.move hP hO h,e5.move hP hO h λc hc=>hb c (Lg _ hc)⟩
theorem ORep.move {K:Ld}{O O' P M:Ow}{H H':Hp}{o:OT}{v:V}(hP:∀a,P a->O a\/Nw K H a)(hO:∀a,O' a->O a\/Nw K H a)(h:SameO P H H')(hM:∀a,M a->¬ P a)(r:ORep K O M H o v):ORep K O' M H' o v:=by
 cases o with
 | lst l=>obtain⟨a,vs,e1,e2,e3,e4⟩:=r;exact⟨a,vs,e1,e2,h _ _ e3 (hM a ((e2 a).mpr rfl)),e4.move hP hO h⟩
 | dct ks ts=>obtain⟨a,kvs,e1,e2,e3,e4,e5⟩:=r;exact⟨a,kvs,e1,e2,h _ _ e3 (hM a ((e2 a).mpr rfl)),e4,e5.move hP hO h⟩
 | dd ks rows=>
  obtain⟨a,kvs,as,e1,e2,e3,e4,e5,e6,e7,e8⟩:=r
  exact⟨a,kvs,as,e1,e2,e3,e4,h _ _ e5 (hM a ((e2 a).mpr (.inl rfl))),e6,e7,e8.move hP hO h λb hb=>hM b ((e2 b).mpr (.inr hb))⟩
 | ob C ns ls=>
  obtain⟨a,dx,as,e1,e2,e3,e4,e5,e6,e7,e8⟩:=r;exact⟨a,dx,as,e1,e2,e3,h _ _ e4 (hM a ((e2 a).mpr (.inl rfl))),h _ _ e5 (hM dx ((e2 dx).mpr (.inr (.inl rfl)))),e6,e7,e8.move hP hO h λb hb=>hM b ((e2 b).mpr (.inr (.inr hb)))⟩
theorem RowsR.mtb {K:Ld}{O:Ow}{H:Hp}:∀{rs:List (List T×List T)} {as:List Addr},RowsR K O H rs as->∀b∈as,∃kvs,H b=some (.dT kvs)
 | [],_,r,b,hb=>by unfold RowsR at r;subst r;simp at hb
 | _::_,_,⟨b0,bs,kvs,e1,e2,e3,e4,e5⟩,b,hb=>by
  subst e1;rcases Lp.mp hb with rfl | hb
  ·exact⟨kvs,e2⟩
  ·exact e5.mtb b hb
theorem LsR.mtb {K:Ld}{O:Ow}{H:Hp}:∀{rs:List (List T)} {as:List Addr},LsR K O H rs as->∀b∈as,∃vs,H b=some (.lst vs)
 | [],_,r,b,hb=>by unfold LsR at r;subst r;simp at hb
 | _::_,_,⟨b0,bs,kvs,e1,e2,e4,e5⟩,b,hb=>by
  subst e1;rcases Lp.mp hb with rfl | hb
  ·exact⟨kvs,e2⟩
  ·exact e5.mtb b hb
def LO (H:Hp)(a:Addr):Prop:=(∃vs,H a=some (.lst vs))\/∃o,H a=some o/\isO o=true
def OT.isD:OT->Bool
 | .lst _=>false
 | .ob _ _ _=>false
 | _=>true
theorem ORep.kind {K:Ld}{O M:Ow}{H:Hp}{o:OT}{v:V}(r:ORep K O M H o v):∀a,M a->if o.isD then ∃kvs,H a=some (.dT kvs)else LO H a:=λa z=>by
 cases o with
 | lst l=>obtain⟨b,vs,e1,e2,e3,e4⟩:=r;cases (e2 a).mp z;exact .inl ⟨vs,e3⟩
 | dct ks ts=>obtain⟨b,kvs,e1,e2,e3,e4,e5⟩:=r;cases (e2 a).mp z;exact⟨kvs,e3⟩
 | dd ks rows=>
  obtain⟨b,kvs,as,e1,e2,e3,e4,e5,e6,e7,e8⟩:=r
  rcases(e2 a).mp z with z | z
  ·cases z;exact⟨kvs,e5⟩
  ·exact e8.mtb a z
 | ob C ns ls=>
  obtain⟨b,dx,as,e1,e2,e3,e4,e5,e6,e7,e8⟩:=r
  rcases(e2 a).mp z with z | z | z
  ·cases z;exact .inr ⟨_,e4,rfl⟩
  ·cases z;exact .inr ⟨_,e5,rfl⟩
  ·exact .inl (e8.mtb a z)
theorem ORep.mtb {K:Ld}{O M:Ow}{H:Hp}{o:OT}{v:V}(r:ORep K O M H o v)(a:Addr)(z:M a):Mtb H a:=by
 have:=r.kind a z
 split at this
 ·exact .inr (.inl this)
 ·exact this.imp_right .inr
theorem tj {K:Ld}{O:Ow}{H:Hp}:∀{rs:List (List T×List T)} {as:List Addr},(∀b∈as,¬O b)->RowsR K O H rs as->Reps K O H (rs.map λr=>T.dct r.1 r.2) (as.map V.ref)
 | [],_,_,r=>by unfold RowsR at r;subst r;exact Reps.Gc
 | _::_,_,hn,⟨b,bs,kvs,e1,e2,e3,e4,e5⟩=>by
  subst e1;exact Reps.FS (Rep.GM.mpr ⟨b,kvs,rfl,hn b Ll,.inl e2,e3,e4⟩) (tj (λc hc=>hn c (Lg _ hc)) e5)
theorem RowsR.less {K:Ld}{O O':Ow}{H:Hp}(sub:∀a,O' a->O a):∀{rs:List (List T×List T)} {as:List Addr},RowsR K O H rs as->RowsR K O' H rs as
 | [],_,r=>r
 | _::_,_,⟨b,bs,kvs,e1,e2,e3,e4,e5⟩=>⟨b,bs,kvs,e1,e2,e3,e4.less sub,e5.less sub⟩
theorem LsR.less {K:Ld}{O O':Ow}{H:Hp}(sub:∀a,O' a->O a):∀{rs:List (List T)} {as:List Addr},LsR K O H rs as->LsR K O' H rs as
 | [],_,r=>r
 | _::_,_,⟨b,bs,kvs,e1,e2,e4,e5⟩=>⟨b,bs,kvs,e1,e2,e4.less sub,e5.less sub⟩
theorem LsR.rep {K:Ld}{O:Ow}{H:Hp}:∀{rs:List (List T)} {as:List Addr},(∀b∈as,¬O b)->LsR K O H rs as->Reps K O H (rs.map T.lst) (as.map V.ref)
 | [],_,_,r=>by unfold LsR at r;subst r;exact Reps.Gc
 | _::_,_,hn,⟨b,bs,kvs,e1,e2,e4,e5⟩=>by
  subst e1;exact Reps.FS (Rep.Do.mpr ⟨b,kvs,rfl,hn b Ll,e2,e4⟩) (LsR.rep (λc hc=>hn c (Lg _ hc)) e5)
theorem l5 {α β:Type}:∀{l:List α} {m:List β},l.length=m.length->(l.zip m).map (·.1)=l
 | [],[],_=>rfl
 | a::l,b::m,h=>by
  have h':l.length=m.length:=by simpa using h
  show a::(l.zip m).map (·.1)=_
  rw[l5 h']
theorem we {α β:Type}:∀{l:List α} {m:List β},l.length=m.length->(l.zip m).map (·.2)=m
 | [],[],_=>rfl
 | a::l,b::m,h=>by
  have h':l.length=m.length:=by simpa using h
  show b::(l.zip m).map (·.2)=_
  rw[we h']
theorem ORep.rep {K:Ld}{O O' M:Ow}{H:Hp}{o:OT}{v:V}(sub:∀a,O' a->O a)(hn:∀a,M a->¬ O' a)(r:ORep K O M H o v):Rep K O' H o.view v:=by
 cases o with
 | lst l=>obtain⟨a,vs,e1,e2,e3,e4⟩:=r;exact Rep.Do.mpr ⟨a,vs,e1,hn a ((e2 a).mpr rfl),e3,e4.less sub⟩
 | dct ks ts=>obtain⟨a,kvs,e1,e2,e3,e4,e5⟩:=r;exact Rep.GM.mpr ⟨a,kvs,e1,hn a ((e2 a).mpr rfl),.inl e3,e4,e5.less sub⟩
 | dd ks rows=>
  obtain⟨a,kvs,as,e1,e2,e3,e4,e5,e6,e7,e8⟩:=r;refine Rep.GM.mpr ⟨a,kvs,e1,hn a ((e2 a).mpr (.inl rfl)),.inl e5,e6,?_⟩
  rw[e7]
  exact tj (λb hb=>hn b ((e2 b).mpr (.inr hb))) (e8.less sub)
 | ob C ns ls=>
  obtain⟨a,dx,as,e1,e2,e3,e4,e5,e6,e7,e8⟩:=r
  have hl:ns.length=(as.map V.ref).length:=by rw[Ln];exact e6
  refine Rep.Km.mpr ⟨a,dx,_,e1,hn a ((e2 a).mpr (.inl rfl)),e4,l5 hl,?_⟩
  rw[we hl];exact(e8.less sub).rep λb hb=>hn b ((e2 b).mpr (.inr (.inr hb)))
section
variable {K:Ld}{B:Ow}{M:Mn}{H H':Hp}{Z:En}{σ:L2.St}{i:Nat}{o o':OT}{v:V}{m:Ow}
theorem Ev.new (E:Ev K B M H Z σ)(hl:i<Z.length)(hm:∀a,m a->Nw K H a)(s:Same H H')(r:ORep K (OO B (M.set i m)) m H' o v) :
  Ev K B (M.set i m) H' (Z.set i (.ow o)) (σ.set i (some v))/\∀a,(M.set i m).u a->M.u a\/Nw K H a:=by
 have hls:i<σ.length:=by rw[<-E.env.len];exact hl
 have sub:∀a,(M.set i m).u a->M.u a\/Nw K H a:=λa z=>(Mn.Kb z).elim (λw=> .inr (hm a w)) .inl
 have subO:∀a,OO B (M.set i m) a->OO B M a\/Nw K H a:=λa z=>z.elim (λw=> .inl (.inl w)) λw=>(sub a w).elim (λy=> .inl (.inr y)) .inr
 have cK:∀a,Nw K H a->¬ OO B M a:=λa w z=>by
  obtain⟨o,e⟩:=(E.env.trk a z).some;rw[w.1]at e;cases e
 refine⟨⟨⟨by rw[MF,MF];exact E.env.len,λj t e=> ?_,λj o' e=> ?_,λj a z=> .inr ⟨j,z⟩,λj k a z1 z2=> ?_,λa z=> ?_⟩,λa z=> ?_⟩,sub⟩
 ·by_cases hj:i=j
  ·subst hj;rw[LN hl]at e;cases e
  ·rw[LL hj]at e
   obtain⟨w,e1,e2⟩:=E.env.val j t e;exact⟨w,by rw[LL hj];exact e1,(e2.more subO).same s⟩
 ·by_cases hj:i=j
  ·subst hj
   rw[LN hl]at e
   cases e;exact⟨v,LN hls,by rw[Mn.Kh];exact r⟩
  ·rw[LL hj]at e
   obtain⟨w,e1,e2⟩:=E.env.own j o' e;refine⟨w,by rw[LL hj];exact e1,?_⟩
   rw[Mn.Kl (λz=>hj z.symm)]
   exact(e2.move (P:=kB) (λ_ z=>z.elim) subO (λb u q _=>q) λ_ _ z=>z).same s
 ·unfold Mn.set at z1 z2
  by_cases hj:j=i
  ·by_cases hk:k=i
   ·exact hj.trans hk.symm
   ·rw[if_pos hj]at z1;rw[if_neg hk]at z2
    exact(cK a (hm a z1) (.inr ⟨k,z2⟩)).elim
  ·by_cases hk:k=i
   ·rw[if_neg hj]at z1;rw[if_pos hk]at z2
    exact(cK a (hm a z2) (.inr ⟨j,z1⟩)).elim
   ·rw[if_neg hj]at z1;rw[if_neg hk]at z2
    exact E.env.dis j k a z1 z2
 ·rcases z with z | z
  ·exact(E.env.trk a (.inl z)).same s
  ·rcases Mn.Kb z with w | w
   ·exact r.mtb a w
   ·exact(E.env.trk a (.inr w)).same s
 ·intro hb
  rcases Mn.Kb z with w | w
  ·exact cK a (hm a w) (.inl hb)
  ·exact E.mine a w hb
theorem Ev.put (E:Ev K B M H Z σ)(hi:Z[i]? =some (.ow o))(hs:σ[i]? =some (some v))(s:SameO (M i) H H')(r:ORep K (OO B M) (M i) H' o' v):Ev K B M H' (Z.set i (.ow o')) σ/\SameO M.u H H':=by
 have hl:i<Z.length:=(Lz.mp hi).1
 have inO:∀a,M i a->OO B M a\/Nw K H a:=λa z=> .inl (.inr ⟨i,z⟩)
 have idO:∀a,OO B M a->OO B M a\/Nw K H a:=λa z=> .inl z
 refine⟨⟨⟨by rw[MF];exact E.env.len,λj t e=> ?_,λj o2 e=> ?_,E.env.sub,E.env.dis,λa z=> ?_⟩,E.mine⟩,λb u e n=>s b u e λz=>n ⟨i,z⟩⟩
 ·by_cases hj:i=j
  ·subst hj;rw[LN hl]at e;cases e
  ·rw[LL hj]at e
   obtain⟨w,e1,e2⟩:=E.env.val j t e;exact⟨w,e1,e2.move inO idO s⟩
 ·by_cases hj:i=j
  ·subst hj
   rw[LN hl]at e
   cases e;exact⟨v,hs,r⟩
  ·rw[LL hj]at e
   obtain⟨w,e1,e2⟩:=E.env.own j o2 e;exact⟨w,e1,e2.move inO idO s λa z y=>hj (E.env.dis i j a y z)⟩
 ·by_cases hz:M i a
  ·exact r.mtb a hz
  ·exact(E.env.trk a z).at λo e=>s _ _ e hz
def disown (i:Nat)(Z:En):En:=match Z[i]? with
 | some (.ow o)=>Z.set i (.va o.view)
 | _=>Z
theorem EnvM.disown {O O':Ow}{Z:En}(E:EnvM K O M H Z σ)(i:Nat)(sub:∀a,O' a->O a)(hn:∀a,M i a->¬ O' a)(hin:∀j a,j≠i->M j a->O' a):EnvM K O' (M.set i kB) H (disown i Z) σ:=by
 have base:EnvM K O' (M.set i kB) H (Z.set i (match Z[i]? with | some (.ow o)=> .va o.view | some x=>x | none=> .em)) σ:=by
  refine⟨by rw[MF];exact E.len,λj t e=> ?_,λj o e=> ?_,λj a z=> ?_,λj k a z1 z2=> ?_,λa z=>E.trk a (sub a z)⟩
  ·by_cases hj:i=j
   ·subst hj
    by_cases hl:i<Z.length
    ·rw[LN hl]at e
     cases q:Z[i]? with
     | none=>rw[q]at e;cases e
     | some z=>
      rw[q]at e
      cases z with
      | em=>cases e
      | va t'=>cases e;obtain⟨w,e1,e2⟩:=E.val i _ q;exact⟨w,e1,e2.less sub⟩
      | ow o=>cases e;obtain⟨w,e1,e2⟩:=E.own i _ q;exact⟨w,e1,e2.rep sub hn⟩
    ·rw[MX (by rw[MF];omega)]at e;cases e
   ·rw[LL hj]at e
    obtain⟨w,e1,e2⟩:=E.val j t e;exact⟨w,e1,e2.less sub⟩
  ·by_cases hj:i=j
   ·subst hj
    by_cases hl:i<Z.length
    ·rw[LN hl]at e
     cases q:Z[i]? with
     | none=>rw[q]at e;cases e
     | some z=>
      rw[q]at e
      cases z with
      | em=>cases e
      | va t'=>cases e
      | ow o=>cases e
    ·rw[MX (by rw[MF];omega)]at e;cases e
   ·rw[LL hj]at e
    obtain⟨w,e1,e2⟩:=E.own j o e;refine⟨w,e1,?_⟩
    rw[Mn.Kl (λz=>hj z.symm)]
    exact e2.move (P:=kB) (λ_ z=>z.elim) (λa z=> .inl (sub a z)) (λb u q _=>q) λ_ _ z=>z
  ·unfold Mn.set at z
   by_cases hj:j=i
   ·rw[if_pos hj]at z;exact z.elim
   ·rw[if_neg hj]at z;exact hin j a hj z
  ·unfold Mn.set at z1 z2
   by_cases hj:j=i
   ·rw[if_pos hj]at z1;exact z1.elim
   ·by_cases hk:k=i
    ·rw[if_pos hk]at z2;exact z2.elim
    ·rw[if_neg hj]at z1;rw[if_neg hk]at z2;exact E.dis j k a z1 z2
 unfold Tr.disown
 cases q:Z[i]? with
 | none=>rw[q,List.set_eq_of_length_le (List.getElem?_eq_none_iff.mp q)]at base;exact base
 | some z=>
  rw[q]at base
  cases z with
  | em=>rw[sW q]at base;exact base
  | va t=>rw[sW q]at base;exact base
  | ow o=>exact base
theorem Ev.disown (E:Ev K B M H Z σ)(i:Nat):Ev K B (M.set i kB) H (disown i Z) σ/\∀a,(M.set i kB).u a->M.u a:=by
 have sub:∀a,(M.set i kB).u a->M.u a:=λa z=>(Mn.Kb z).elim (λw=>w.elim) id
 refine⟨⟨E.env.disown i (λa z=>z.elim .inl λw=> .inr (sub a w)) (λa z y=> ?_) λj a hj z=> .inr ⟨j,by rw[Mn.Kl hj];exact z⟩,λa z=>E.mine a (sub a z)⟩,sub⟩
 rcases y with y | ⟨j,y⟩
 ·exact E.mine a ⟨i,z⟩ y
 ·unfold Mn.set at y
  by_cases hj:j=i
  ·rw[if_pos hj]at y;exact y
  ·rw[if_neg hj]at y;exact hj (E.env.dis j i a y z)
end
section
variable {X:Cx}{a:Expr}{es:List Expr}{fa:En->Rs T}{pos p2 p3:Pos}{x:Str}
theorem Ev.subO {K:Ld}{B:Ow}{M:Mn}{H:Hp}{i:Nat}{m:Ow}(hm:∀a,m a->Nw K H a)(a:Addr)(z:OO B (M.set i m) a):OO B M a\/Nw K H a:=
 z.elim (λw=> .inl (.inl w)) λw=>(Mn.Kb w).elim (λy=> .inr (hm a y)) λy=> .inl (.inr y)
theorem j8 {K:Ld}{H H1:Hp}(s:Same H H1){a:Addr}(n:Nw K H1 a):Nw K H a:=(eG (SameO.of (P:=kB) s) n).elim (λz=>z.elim) id
def HR (X:Cx)(t:TA):TE:=λσ H Q=>t σ H λxs H1=>xs.length<=sizeLine/\∀p,Nw X.K H1 p->Q (.ref p) (upd H1 p (.lst xs))
theorem wC {t:TA}(h:PA X es t):PE X (.List es pos) (HR X t):=by
 intro pins s σ H Q I hq;refine Ra (bR (h pos pins s σ H _ I hq) λus s1 ⟨xs,H1,I1,r,z,q⟩=>⟨by rw[<-r.length];exact z,?_⟩)
 have hf:H1 s1.heap.objs.size=none:=I1.hok.fresh (Lv _)
 have hk:X.K.lookup s1.heap.objs.size=none:=by
  cases q:X.K.lookup s1.heap.objs.size with
  | none=>rfl
  | some o=>exact absurd (Lw (I1.kIn _ o q)) (LV _)
 refine⟨.ref s1.heap.objs.size,upd H1 s1.heap.objs.size (.lst xs),I1.laid (t':=s1.toks) (λb u e=>Lq _ e) (Lv _) ?_,rfl,q _ ⟨hf,hk⟩⟩
 exact⟨z,us,0,r,LB _ rfl⟩
def jm (i:Nat)(f:En->Rs (List T))(Z:En):Rs Fl:=do
 let l <-f Z
 if i<Z.length/\l.length<=sizeLine then .ok (.nx (Z.set i (.ow (.lst l))))else .bad
theorem CK (i:Nat){f:En->Rs (List T)}(hN:X.N.Nodup)(ha:pd X es f)(hi:autoParam (X.N[i]? =some x) aqd._auto_1)(hx:autoParam (Loc X.env.scope x) aqh._auto_1)(hs:autoParam (Me (.List es p2) (some (.Name x p3)) pos.line X.env=pure false) aqd._auto_1)
  (hf:autoParam (X.fn x=true\/X.env.scope.names.lookup x=some .local) aqa._auto_1):mx X (.Assign [.Name x p3] (.List es p2) pos) (jm i f):=PS.imp (qH hN hi hx (wC ha) hs hf) λD σ H hh_=>by
 obtain⟨Z,B,M,E,h⟩:=hh_;refine⟨Z,OO B M,E.o,?_⟩
 unfold jm at h
 cases q:f Z with
 | bad=>rw[q]at h;exact h.elim
 | err c=>rw[q]at h;exact PostF.xa h
 | ok l=>
  rw[q,az]at h;intro H1 s1 vs rs
  by_cases hl:i<Z.length/\l.length<=sizeLine
  ·rw[if_pos hl]at h
   refine⟨by rw[<-rs.length];exact hl.2,λp hp=> ?_⟩
   have hm:∀a,a=p->Nw X.K H1 a:=λa z=>z▸hp
   obtain⟨E2,sub⟩:=(E.same s1).new (m:=λa=>a=p) (o:=.lst l) (v:=.ref p) (H':=upd H1 p (.lst vs)) hl.1 hm (aZ hp.1 _) ⟨p,vs,rfl,λb=>Oo,aQ,(rs.more (Ev.subO hm)).same (aZ hp.1 _)⟩
   exact h _ _ _ (SameO.of (s1.trans (aZ hp.1 _))) E2 λa z=>(sub a z).imp_right (j8 s1)
  ·rw[if_neg hl]at h
   exact h.elim
def oM (i:Nat)(f:En->Rs T)(Z:En):Rs Fl:=match Z[i]? with
 | some (.ow (.lst l))=>f Z >>= λt=>if l.length<sizeLine then .ok (.nx (Z.set i (.ow (.lst (l++ [t])))))else .bad
 | _=> .bad
theorem Ev.putL {K:Ld}{B:Ow}{M:Mn}{H:Hp}{Z:En}{σ:L2.St}{i:Nat}{o:OT}{l':List T}{b:Addr}{vs':List V}(E:Ev K B M H Z σ)(hi:Z[i]? =some (.ow o))(hs:σ[i]? =some (some (.ref b)))(hM:∀c,M i c↔c=b)(r:Reps K (OO B M) H l' vs') :
  Ev K B M (upd H b (.lst vs')) (Z.set i (.ow (.lst l'))) σ/\SameO M.u H (upd H b (.lst vs')):=by
 have sm:SameO (M i) H (upd H b (.lst vs')):=λc u e nb=>by rw[aH (λz=>nb ((hM c).mpr z))];exact e
 exact E.put hi hs sm ⟨b,vs',rfl,hM,aQ,r.move (P:=M i) (λa z=> .inl (.inr ⟨i,z⟩)) (λa z=> .inl z) sm⟩
theorem F3 (i:Nat){apos cpos:Pos}(ha:b6 X a fa)(hN:autoParam (X.N[i]? =some x) aqd._auto_1)(hv:autoParam (oo X.env.scope x) aqe._auto_1)(hn:autoParam (bD a=true) aqd._auto_1)
  (hbase:autoParam (LU (.Name x p2) "append" X.env (eval (.Name x p2) X.env)=eval (.Name x p2) X.env) aqd._auto_1) (hline:autoParam ((apos.endLine == cpos.line)=true) aqd._auto_1)
  (hd:autoParam ((x == ("__debug__" : Str))=false) aqb._auto_1) (hcd:autoParam ((x == ("__classdict__" : Str))=false) aqb._auto_1)
  (hsw:autoParam (Me (.Call (.Attribute (.Name x p2) "append" apos) [a] [] cpos) none pos.line X.env=pure false) aqd._auto_1):mx X (.Expr (.Call (.Attribute (.Name x p2) "append" apos) [a] [] cpos) pos) (oM i fa):=by
 have h1:LA [a] X.env=(false,eval a X.env)::LA [] X.env:=bz hn;refine PS.imp (j6 (zY M4 Pp Pq kU (fY hN hv hd hcd) (fM ha kI h1) hbase ?_ hline h1 rfl) hsw) λD σ H ⟨Z,B,M,E,h⟩=> ?_
 ·rw[h1];rfl
 unfold oM at h
 split at h
 ·rename_i l hl
  obtain⟨v0,e1,b,vs,rfl,hM,e3,e4⟩:=E.env.own i _ hl;refine⟨.ref b,e1,.inl ⟨rfl,vs,SqL.of e3⟩,Z,OO B M,E.o,?_⟩
  cases q:fa Z with
  | bad=>rw[q]at h;exact h.elim
  | err c=>rw[q]at h;exact PostF.xa h
  | ok t=>
   rw[q,az]at h
   split at h
   ·rename_i hz
    intro H1 s1 v r
    have e3':=s1 _ _ e3;refine⟨b,vs,v,rfl,rfl,e3',by rw[<-e4.length];exact hz,?_⟩
    obtain⟨g1,g2⟩:=(E.same s1).putL (l':=l++ [t]) (vs':=vs++ [v]) hl e1 hM ((e4.same s1).append (Reps.FS r Reps.Gc));exact h σ _ M (λc o e nb=>g2 c o (s1 _ _ e) nb) g1 λc z=> .inl z
   ·exact h.elim
 ·exact h.elim
def Hf (i:Nat)(l:List T)(Z:En):T->Rs Fl
 | .lst m=>if l.length+m.length<=sizeLine then .ok (.nx (Z.set i (.ow (.lst (l++m)))))else .bad
 | _=> .bad
def mT (i:Nat)(f:En->Rs T)(Z:En):Rs Fl:=match Z[i]? with
 | some (.ow (.lst l))=>f Z >>= Hf i l Z
 | _=> .bad
theorem FY (i:Nat){apos cpos:Pos}(ha:b6 X a fa)(hN:autoParam (X.N[i]? =some x) aqd._auto_1)(hv:autoParam (oo X.env.scope x) aqe._auto_1)(hn:autoParam (bD a=true) aqd._auto_1)
  (hbase:autoParam (LU (.Name x p2) "extend" X.env (eval (.Name x p2) X.env)=eval (.Name x p2) X.env) aqd._auto_1) (hline:autoParam ((apos.endLine == cpos.line)=true) aqd._auto_1)
  (hd:autoParam ((x == ("__debug__" : Str))=false) aqb._auto_1) (hcd:autoParam ((x == ("__classdict__" : Str))=false) aqb._auto_1)
  (hsw:autoParam (Me (.Call (.Attribute (.Name x p2) "extend" apos) [a] [] cpos) none pos.line X.env=pure false) aqd._auto_1):mx X (.Expr (.Call (.Attribute (.Name x p2) "extend" apos) [a] [] cpos) pos) (mT i fa):=by
 have h1:LA [a] X.env=(false,eval a X.env)::LA [] X.env:=bz hn;refine PS.imp (j6 (zY M4 PySem.F.slot_list_extend PySem.F.type_list_extend yo (fY hN hv hd hcd) (fM ha kI h1) hbase ?_ hline h1 rfl) hsw) λD σ H ⟨Z,B,M,E,h⟩=> ?_
 ·rw[h1];rfl
 unfold mT at h
 split at h
 ·rename_i l hl
  obtain⟨v0,e1,b,vs,rfl,hM,e3,e4⟩:=E.env.own i _ hl;refine⟨.ref b,e1,.inl ⟨rfl,vs,SqL.of e3⟩,Z,OO B M,E.o,?_⟩
  cases q:fa Z with
  | bad=>rw[q]at h;exact h.elim
  | err c=>rw[q]at h;exact PostF.xa h
  | ok t=>
   rw[q,az]at h;unfold Hf at h
   split at h
   ·rename_i m
    split at h
    ·rename_i hz
     intro H1 s1 v r;obtain⟨c,ws,rfl,nO,hc,rm⟩:=Rep.Do.mp r
     have e3':=s1 _ _ e3;refine⟨b,c,vs,ws,rfl,rfl,e3',hc,by rw[<-e4.length,<-rm.length];exact hz,?_⟩
     obtain⟨g1,g2⟩:=(E.same s1).putL (l':=l++m) (vs':=vs++ws) hl e1 hM ((e4.same s1).append rm);exact h σ _ M (λc o e nb=>g2 c o (s1 _ _ e) nb) g1 λc z=> .inl z
    ·exact h.elim
   ·exact h.elim
 ·exact h.elim
def qC (i:Nat)(F:En->Rs Fl)(Z:En):Rs Fl:=F (disown i Z)
theorem F0 (i:Nat){st:Stmt}{F:En->Rs Fl}(h:mx X st F):mx X st (qC i F):=PS.imp h λD σ H hh_=>by
 obtain⟨Z,B,M,E,q⟩:=hh_;obtain⟨E',sub⟩:=E.disown i;exact⟨disown i Z,B,_,E',PostF.later q (λ_ _ e _=>e) λa z=> .inl (sub a z)⟩
mutual
def T.nk (D:Bool):T->Bool
 | .scr _=>false
 | .dct _ ts=> !D&&nks D ts
 | .ob _ _ _=>false
 | .lst l=>D&&nks D l
 | .tup l=>nks D l
 | _=>true
def nks (D:Bool):List T->Bool
 | [] =>true
 | t::l=>t.nk D&&nks D l
end
mutual
theorem Rep.lend {K:Ld}{O O':Ow}{H:Hp}{D:Bool}(hk:∀a,O a->O' a\/if D then ∃kvs,Rd H a (.dT kvs)else LO H a):∀{t:T} {v:V},t.nk D=true->Rep K O' H t v->Rep K O H t v
 | .non,_,_,r=>by unfold Rep at r ⊢;exact r
 | .bl _,_,_,r=>by unfold Rep at r ⊢;exact r
 | .int _,_,_,r=>by unfold Rep at r ⊢;exact r
 | .str _,_,_,r=>by unfold Rep at r ⊢;exact r
 | .tup l,_,h,r=>by
  unfold Rep at r ⊢;unfold T.nk at h;obtain⟨a,vs,e,n,q,z⟩:=r;refine⟨a,vs,e,λp=>(hk a p).elim n λw=> ?_,q,Reps.lend hk h z⟩
  split at w
  ·obtain⟨_,w | ⟨_,w⟩⟩:=w <;> rw[q]at w <;> cases w
  ·rcases w with⟨_,w⟩ | ⟨_,w,y⟩ <;> rw[q]at w <;> cases w <;> cases y
 | .lst l,_,h,r=>by
  unfold Rep at r ⊢;unfold T.nk at h;rw[Lf]at h;obtain⟨h1,h2⟩:=h;subst h1;obtain⟨a,vs,e,n,q,z⟩:=r;refine⟨a,vs,e,λp=>(hk a p).elim n λw=> ?_,q,Reps.lend hk h2 z⟩
  rw[if_pos rfl]at w;obtain⟨_,w | ⟨_,w⟩⟩:=w <;> rw[q]at w <;> cases w
 | .scr l,_,h,r=>by unfold T.nk at h;cases h
 | .dct ks ts,_,h,r=>by
  unfold Rep at r ⊢;unfold T.nk at h;rw[Lf]at h;obtain⟨h1,h2⟩:=h
  cases D with
  | true=>cases h1
  | false=>
   obtain⟨a,kvs,e,n,q,k,z⟩:=r;refine⟨a,kvs,e,λp=>(hk a p).elim n λw=> ?_,q,k,Reps.lend hk h2 z⟩
   rw[if_neg LM]at w;rcases w with⟨_,w⟩ | ⟨_,w,y⟩ <;> rcases q with q | ⟨_,q⟩ <;> rw[q]at w <;> cases w <;> cases y
 | .ob _ _ _,_,h,r=>by unfold T.nk at h;cases h
theorem Reps.lend {K:Ld}{O O':Ow}{H:Hp}{D:Bool}(hk:∀a,O a->O' a\/if D then ∃kvs,Rd H a (.dT kvs)else LO H a):∀{l:List T} {vs:List V},nks D l=true->Reps K O' H l vs->Reps K O H l vs
 | [],_,_,r=>by unfold Reps at r ⊢;exact r
 | t::l,_,h,r=>by
  unfold Reps at r ⊢;unfold nks at h;rw[Lf]at h;obtain⟨v,ws,e,p,q⟩:=r;exact⟨v,ws,e,Rep.lend hk h.1 p,Reps.lend hk h.2 q⟩
end
def ln (i:Nat)(f:En->Rs T)(Z:En):Rs T:=match Z[i]? with
 | some (.ow o)=>f (disown i Z) >>= λt=>if t.nk o.isD=true then .ok t else .bad
 | _=>f Z
def GL (i:Nat)(f:En->Rs Bool)(Z:En):Rs Bool:=f (disown i Z)
theorem qe {K:Ld}{O:Ow}{M:Mn}{H:Hp}{Z:En}{σ:L2.St}(E:EnvM K O M H Z σ)(i:Nat):EnvM K (λa=>O a/\¬ M i a) (M.set i kB) H (disown i Z) σ:=
 E.disown i (λa z=>z.1) (λa z y=>y.2 z) λj a hj z=>⟨E.sub j a z,λy=>hj (E.dis j i a z y)⟩
theorem q_ln (i:Nat){e:Expr}{f:En->Rs T}(h:b6 X e f):b6 X e (ln i f):=PE.imp h λσ H Q ⟨Z,O,⟨M,E⟩,q⟩=>by
 unfold ln at q
 split at q
 ·rename_i o hi
  refine⟨disown i Z,_,⟨_,qe E i⟩,?_⟩
  obtain⟨w,e1,r⟩:=E.own i o hi;refine Post.mono (Post.bind q) λt H' s q2 v rv=> ?_
  split at q2
  ·rename_i hk
   have kd:=(r.same s).kind;refine q2 H' (Same.refl _) v (Rep.lend (λa z=> ?_) hk rv)
   by_cases hm:M i a
   ·refine .inr ?_
    have this:=kd a hm
    by_cases hD:o.isD=true
    ·rw[if_pos hD]at this ⊢;exact this.imp λ_ z=> .inl z
    ·rw[if_neg hD]at this ⊢;exact this
   ·exact .inl ⟨z,hm⟩
  ·exact q2.elim
 ·exact⟨Z,O,⟨M,E⟩,q⟩
theorem Ii (i:Nat){e:Expr}{f:En->Rs Bool}(h:uC X e f):uC X e (GL i f):=PT.imp h λσ H Q ⟨Z,O,⟨M,E⟩,q⟩=>⟨disown i Z,_,⟨_,qe E i⟩,q⟩
end
end Tr
namespace Tr
open PySem L2
def lq:List T->List T->List Key->Option T
 | k'::ks,v::vs,k=>if keyOf k'=some k then some v else lq ks vs k
 | _,_,_=>none
def gM (k v:T):List T->List T->List T×List T
 | k'::ks,v'::vs=>if keyOf k'=keyOf k then(k'::ks,v::vs)else(k'::(gM k v ks vs).1,v'::(gM k v ks vs).2)
 | _,_=>([k],[v])
def r6 (x y:T):Rs T:=match x,keyOf y with
 | .dct ks vs,some k=>match lq ks vs k with
  | some t=> .ok t
  | none=> .bad
 | _,_=> .bad
def g9 (x y:T):Rs T:=match x,keyOf y with
 | .dct ks vs,some k=>match lq ks vs k with
  | some t=> .ok t
  | none=> .ok .non
 | _,_=> .bad
def BA (x y:T):Rs T:=match y,keyOf x with
 | .dct ks vs,some k=> .ok (.bl (lq ks vs k).isSome)
 | _,_=> .bad
def oD (g:T->T->Rs T)(fa fb:En->Rs T)(Z:En):Rs T:=fa Z >>= λx=>match x with
 | .dct ks vs=>fb Z >>= g (.dct ks vs)
 | _=> .bad
def oL (g:T->T->Rs T)(fa fb:En->Rs T)(Z:En):Rs T:=fa Z >>= λx=>match x with
 | .lst l=>fb Z >>= g (.lst l)
 | _=> .bad
def Hz:List T->Option (List (T×T))
 | [] =>some []
 | .tup [k,v] ::l=>match keyOf k,Hz l with
  | some _,some r=>some ((k,v)::r)
  | _,_=>none
 | _=>none
def iH:List (T×T)->List T×List T->List T×List T
 | [],d=>d
 | (k,v)::r,d=>iH r (gM k v d.1 d.2)
def xv:List T->Rs T
 | [.lst l] =>match Hz l with
  | some ps=>if l.length<=1000 then .ok (.dct (iH ps ([],[])).1 (iH ps ([],[])).2)else .bad
  | none=> .bad
 | _=> .bad
def pD (i:Nat)(f:En->Rs T)(Z:En):Rs Fl:=f Z >>= λt=>xv [t] >>= λd=>match d with
 | .dct ks vs=>if i<Z.length then .ok (.nx (Z.set i (.ow (.dct ks vs))))else .bad
 | _=> .bad
def ya (i:Nat)(fk fv:En->Rs T)(Z:En):Rs Fl:=match Z[i]? with
 | some (.ow (.dct ks vs))=>fv Z >>= λv=>fk Z >>= λk=>match keyOf k with
  | some _=>if ks.length<1000 then .ok (.nx (Z.set i (.ow (.dct (gM k v ks vs).1 (gM k v ks vs).2))))else .bad
  | none=> .bad
 | _=> .bad
def j9:List T->Option (List Int)
 | [] =>some []
 | .int i::l=>(j9 l).map (i:: ·)
 | _=>none
def zo:List T->Rs T
 | [.lst l] =>match j9 l with
  | some ns=> .ok (.int ns.sum)
  | none=> .bad
 | _=> .bad
def i8 (x:T):List T->Nat->Option Nat
 | [],_=>none
 | t::l,n=>if aV t x then some n else i8 x l (n+1)
def fO (y x:T):Rs T:=match y with
 | .lst l=>if (x.dep<=60\/deps l<=60)/\x.nd=true/\nds l=true then match i8 x l 0 with
   | some n=> .ok (.int n)
   | none=> .bad
  else .bad
 | _=> .bad
def FU:Nat:=1000000000000
end Tr
namespace Tr
open PySem PySem.Spec PyProof.Rows L2
theorem gg {h b b':Heap}:∀{l:List Env},h.FunFrames b l->(∀a∈l.filterMap (·.frame),b'.get? a=none)->h.FunFrames b' l
 | [],_,_=>trivial
 | env::bN,⟨hk,⟨L,o,hf,hn,ho,hd⟩,hr⟩,q=>by
  rw[MC,hf]at q;exact⟨hk,⟨L,o,hf,q L Ll,ho,hd⟩,gg hr λa ha=>q a (Lg _ ha)⟩
section
variable {M:Model}{A:L3}{E:Lh->Lj->Prop}{s:Lj}
structure Ez (fs:List Addr)(C e:Addr)(T:Option Addr)(h h':Heap)(T':Addr):Prop where
 flt:JU h' C e (some T')
 new:T=some T'\/h.get? T'=none
 keep:∀b o,b∉fs->b≠e->T≠some b->h.get? b=some o->h'.get? b=some o
 slot:∀b o,b∈fs->h.get? b=some o->∃sl,h'.get? b=some { o with slots:=sl }
theorem Av {base:Heap}{env:Env}{outer:List Env}{L C e:Addr}{T:Option Addr}{Q:Unit->Lj->Prop}(hfr:A.frames=some (env::outer))(hl:s.heap.FunFrames base (env::outer))(hf:env.frame=some L)
  (F:JU s.heap C e T) (h:∀h' T',Ez ((env::outer).filterMap (·.frame)) C e T s.heap h' T'->Q () { s with heap:=h' }):wpAny M A (leaving env (.ref e)) Q E s:=by
 generalize hB:P4 s.heap (e::(T.toList++(env::outer).filterMap (·.frame)))=B
 have bm:∀b,b∈e::(T.toList++(env::outer).filterMap (·.frame))->B.get? b=none:=λb m=>by rw[<-hB];exact OK _ m
 have hl':s.heap.FunFrames B (env::outer):=gg hl λa ha=>bm a (Lg _ (LF _ ha))
 have hst:B.StaysIn s.heap:=λb o q=>by rw[<-hB]at q;exact O9 _ q
 have hen:B.get? e=none:=bm e Ll
 have main:∀h',Heap.Left B (env::outer) e (.ref C) s.heap h'->Q () { s with heap:=h' }:=λh' ⟨x1,x2,⟨oe,vs,T',oT,ts,he,hc,hd,h1,hnT,hTe,hT,hdT,h3⟩,x4⟩=>by
  refine h h' T' ⟨⟨hTe,oe,vs,he,hc,hd,h1,oT,ts,hT,hdT,h3⟩,?_,λb o n1 n2 n3 q=> ?_,λb o m q=> ?_⟩
  ·cases q:s.heap.get? T' with
   | none=>exact .inr rfl
   | some o=>
    left
    by_cases z:T'∈e::(T.toList++(env::outer).filterMap (·.frame))
    ·rcases Lp.mp z with z | z
     ·exact absurd z hTe
     ·rcases LH.mp z with z | z
      ·cases T with
       | none=>simp at z
       | some t=>simp at z;rw[z]
      ·obtain⟨_,o',ho',hnf⟩:=x2.mem z
       rw[hT]at ho';cases ho';exact absurd hdT (hnf ts)
    ·rw[<-hB,Nv _ q z]at hnT;cases hnT
  ·refine x1 b o ?_
   rw[<-hB];refine Nv _ q λz=> ?_
   rcases Lp.mp z with z | z
   ·exact n2 z
   ·rcases LH.mp z with z | z
    ·cases T with
     | none=>simp at z
     | some t=>simp at z;exact n3 (by rw[z])
    ·exact n1 z
  ·obtain⟨_,o',ho',hnf⟩:=hl.mem m
   rw[q]at ho';cases ho';exact x4 b o q hnf
 cases T with
 | none=>
  obtain⟨oe,vs,he,hc,hd,h1⟩:=F;refine wpAny_leaving_first hfr hl' hf he hst hen hd h1 λh' x=>main h' ?_
  rw[hc]at x;exact x
 | some t=>
  obtain⟨hte,oe,vs,he,hc,hd,h1,oT,ts,hT,hdT,h3⟩:=F;exact wpAny_leaving_next hfr hl' hf ⟨oe,vs,t,oT,ts,he,hc,hd,h1,bm t (Lg _ (LW _ (by simp))),hte,hT,hdT,h3⟩ hst hen main
end
abbrev sH:List Lh:=[.type "ValueError",.type "Exception",.type "BaseException",.type "object"]
structure OwnExc (K:Ld)(C:Addr)(bm:List Lh):Prop where
 at_:∀h:Heap,K.In h->∃nm q N bs hdct sn sub ab col dd k0 k1 k2 k3 k5 mN,h.get? C=some (N0 nm q C N bs bm hdct sn sub ab col dd k0 k1 k2 k3 k5 "ValueError.__new__")/\h.Ns N mN/\mN "__init__" =none/\OwnTail h sH bm
theorem OwnExc.base {K:Ld}{C:Addr}{bm:List Lh}(O:OwnExc K C bm){h:Heap}(k:K.In h):bm.contains (.type "BaseException")=true:=by
 obtain⟨_,_,_,_,_,_,_,_,_,_,_,_,_,_,_,_,_,_,_,T⟩:=O.at_ h k;exact T.hasType (by decide)
def uY (c:Str)(_:En):Rs Fl:=.err c
section
variable {X:Cx}
theorem zD {c:Str}{msg:Str}{C:Addr}{bm:List Lh}{np p1 cpos pos:Pos}{j:Nat}(O:OwnExc X.K C bm)(hc:X.calm=true)(hm:X.mg c=some (.ref C))(hg:autoParam (Gl X c) aqd._auto_1)(hd:autoParam ((c == ("__debug__" : Str))=false) aqb._auto_1) :
  mx X (.Raise (some (.Call (.Name c np) [.Constant (.str msg) j p1] [] cpos)) none pos) (uY c):=by
 intro pins s σ H D I ⟨Z,B,M,E,k⟩
 have k:XA X M.u H c:=k;obtain⟨nm,q,N,bs,hdct,sn,sub,ab,col,dd,k0,k1,k2,k3,k5,mN,hC,hN,hni,T⟩:=O.at_ s.heap I.kIn;refine wpAny_Raise_call_subU (C:=C) (mN:=mN) (nm:=nm) (q:=q) (N:=N) (bs:=bs) (hdct:=hdct) (sn:=sn) (sub:=sub) (ab:=ab) (col:=col) (dd:=dd) (k0:=k0) (k1:=k1) (k2:=k2) (k3:=k3) (k5:=k5) O6 (Bn:="ValueError") (by decide) O6 (O.base I.kIn) (I.ok.hd hc) (by rfl) hni (gL I hg hm ⟨rfl,?_⟩ hd)
 show wpAny _ _ (evalArgs (.ref C) true ((false,eval (.Constant (.str msg) j p1) X.env)::backTo cpos (LA [] X.env)) []) _ _ s
 refine NV (N9 (Calls.Constant_str (Om ?_)))
 refine⟨rfl,by show 1<=sizeLine;decide,hC,hN,T,λh' e hm'=>k pins _ _ ?_⟩
 obtain⟨t,ht,ht2,ht3⟩:=hm'.there
 have I':Inv X pins σ H { s with heap:=h',toks:=s.toks+1 }:=I.kept (t':=s.toks+1) λb o z=>hm'.keeps b o z
 refine⟨e,none,C,σ,H,rfl,hm,I',λb o z _=>z,?_,?_,⟨_,_,ht,rfl,rfl,rfl⟩,(λt z=>by cases z),λp hp=>⟨λz=> ?_,λz=>by cases z⟩⟩
 ·exact ka I hm'.new
 ·exact λhex=>gc I hex hm'.new
 ·have:=(I.pin p hp).1
  rw[z,show s.heap.get? e=none from hm'.new]at this
  cases this
end
section
variable {P:LP}{w:Mh}{K:Ld}{mg:Str->Option Lh}{base:Heap}
theorem Hd {x qual:Str}{st:Stmt}{f:Addr}{fd:Mo}{N ps:List Str}{k n:Nat}{g:List T->Rs T}(Fn:L2.Fun K x qual st f fd)(S:aw N ps (ai st))(hn:ps.length=n)
  (hbody:∀(cdv:Lh) (A:L3) (outer:List Env) (s:Lj) (H:Hp) (E:XK),Room k (A.deeper (envOfC qual (ai st) s.heap.objs.size f cdv)) →
   ∃F,(∀xe,jI ((fI CX0 P w K mg base N qual (ai st) f cdv A outer s H E).FB xe) (bF st) F)/\∀ts,ts.length=n->∀c,g ts= .err c->F (aK N.length ts)= .err c):FnX P w K mg base (k+1) f fd ps n g:=by
 intro A outer s H args us vs O ts c R hr e0 hb r rs trk hl hg hR
 have hpl:ps.length<=N.length:=by have:=congrArg M8 S.pre;rw[Ng]at this;omega
 obtain⟨oc,od,kV,doc,pm,an,cdv,ct,osl,rfl,lk,hcd⟩:=Fn.ex
 have hlen:vs.length=ps.length:=by rw[<-rs.length,hl,hn]
 have KX:K.In s.heap:=e0.mod.kin.keeps λb o e=>(e0.bs b o e).1
 have lim:s.heap.NoLimit:=e0.mod.nolimit.keeps λb o e=>(e0.bs b o e).1
 have hkind:∀y∈ps.zip us,(ai st).names.lookup y.1=some .local\/((ai st).names.lookup y.1=some .cell/\((Nt (s.heap.objs.size+1) (ai st).names []).lookup y.1).isSome=true):=λ⟨n,v⟩ hy=>by
  rcases S.par n (Oa hy).1 with q | q
  ·exact .inl q
  ·exact .inr ⟨q,NC _ _ _ (.inl q)⟩
 refine OA hr.depth (KX _ _ lk) rfl S.co S.gen rfl (Pa KX hcd) (hb _ _ _ _ ?_)
 refine NU S.kind hkind λenv he s1 x=> ?_
 subst he;refine⟨lim.keeps x.toInCall.keep,RI ?_⟩
 obtain⟨F,hF,hv⟩:=hbody cdv A outer s H E0 (hr.deeper _)
 let xe:Lh->Lj->Prop:=λev s'=>wpAny (model P w) (A.deeper (envOfC qual (ai st) s.heap.objs.size f cdv)) (leaving (envOfC qual (ai st) s.heap.objs.size f cdv) ev) (λ_ s''=>R (.error ev) s'') (λe' s''=>R (.error e') s'') s'
 have I:Inv ((fI CX0 P w K mg base N qual (ai st) f cdv A outer s H E0).FB xe) [] (start N vs) H s1:=(lh S hr.hd e0 hlen r x).FB _
 have no:∀a,¬noM.u a:=λa ⟨_,z⟩=>z
 refine Nh (hF xe [] s1 (start N vs) H { nx:=λ_ _=>False,rt:=λ_ _=>False,bk:=λ_ _=>False,ct:=λ_ _=>False } I ⟨aK N.length ts,O,noM,pA rs (by omega) trk,?_⟩) (λfl s' z=> ?_) λe s' hs=>hs
 rotate_left
 ·cases fl with
  | next=>obtain⟨_,_,_,z⟩:=z;exact z.elim
  | cont=>obtain⟨_,_,_,z⟩:=z;exact z.elim
  | brk=>obtain⟨_,_,_,z⟩:=z;exact z.elim
  | ret v=>obtain⟨_,_,_,_,_,z⟩:=z;exact z.elim
 rw[hv ts hl c hg];intro pins ev s' w'
 show wpAny _ _ _ _ _ _
 obtain⟨e,T,C,σ',H',rfl,hm,I',sm,he,heo,fl,hT,_⟩:=w'
 have heo:=heo rfl
 have hT:∀t,T=some t->H' t=none/\s.heap.get? t=none:=λt z=>⟨(hT t z).1,(hT t z).2 rfl⟩
 refine Av (base:=base) (outer:=outer) (L:=s.heap.objs.size) I'.ok.frames I'.stack rfl fl λh' T' g=>hR _ _ ?_
 have hex:((fI CX0 P w K mg base N qual (ai st) f cdv A outer s H E0).FB xe).ex= []:=rfl
 have Tn:H' T'=none/\s.heap.get? T'=none:=by
  rcases g.new with z | z
  ·exact hT T' z
  ·exact⟨ka I' z,gc I' hex z⟩
 have out:∀b o,s.heap.get? b=some o->b≠s.heap.objs.size:=λb o q z=>by
  have:=Lw q;rw[z]at this;exact absurd this (LV _)
 have mem:∀b,b∈nN ((envOfC qual (ai st) s.heap.objs.size f cdv)::outer)->b=s.heap.objs.size\/b∈nN outer:=λb z=>by
  have z':b∈s.heap.objs.size::nN outer:=z;exact Lp.mp z'
 have ne:∀b o,s.heap.get? b=some o->b≠e/\T≠some b:=λb o q=>⟨λz=>(by subst z;rw[show s.heap.get? b=none from heo]at q;cases q),λz=>(by rw[show s.heap.get? b=none from(hT b z).2]at q;cases q)⟩
 have keepH:∀b u,H' b≠none->s'.heap.get? b=some u->h'.get? b=some u:=λb u hb q=>by
  refine g.keep b u (λz=>hb (I'.Kd b z)) (λz=>hb (by rw[z];exact he)) (λz=>hb (hT b z).1) q
 refine⟨e,T',C,H',rfl,hm,I'.os,I'.bare,⟨λb o q n hb hx=> ?_,λb o q n hb hx=> ?_,λb o q n hx=>I'.base.free b o q n hx,λb o q hx=> ?_,I'.base.tups,I'.base.frzs,I'.base.tbls⟩,λa o q=> ?_,λb o q=>sm b o q (no b),he,heo,g.flt,Tn.1,Tn.2⟩
 ·exact g.keep b o (λz=>(mem b z).elim (out b o q) hb) (ne b o q).1 (ne b o q).2 (I'.base.keep b o q n hb hx)
 ·obtain⟨sl,q1⟩:=I'.base.slot b o q n hb hx
  obtain⟨sl',q2⟩:=g.slot b _ (Lg _ hb) q1;exact⟨sl',q2⟩
 ·obtain⟨o',q1⟩:=I'.base.there b o q hx
  by_cases z:b∈nN ((envOfC qual (ai st) s.heap.objs.size f cdv)::outer)
  ·obtain⟨sl,q2⟩:=g.slot b o' z q1
   exact⟨_,q2⟩
  ·exact⟨o',g.keep b o' z (ne b o q).1 (ne b o q).2 q1⟩
 ·refine(I'.hok a o q).Ki (λb u hb z=>keepH b u ?_ z) (λ_ z=>z) λ_ _ z=>z
  rcases hb with rfl | hb
  ·rw[q];simp
  ·rw[hb];simp
end
theorem Cj {n m:Nat}{F:En->Rs Fl}{ts:List T}{c:Str}(h:val n m F ts= .err c):F (aK m ts)= .err c:=by
 unfold val at h
 split at h
 ·unfold bu at h
  cases z:F (aK m ts)with
  | bad=>rw[z]at h;cases h
  | err c'=>rw[z]at h;cases h;rfl
  | ok f=>
   rw[z,az]at h;cases f <;> cases h
 ·cases h
section
variable {P:LP}{w:Mh}{K:Ld}{mg:Str->Option Lh}{base:Heap}
theorem He {x qual:Str}{st:Stmt}{f:Addr}{fd:Mo}{N ps:List Str}{k n:Nat}{F:En->Rs Fl}(Fn:L2.Fun K x qual st f fd)(S:aw N ps (ai st))(hn:ps.length=n)
  (hbody:∀(cdv:Lh) (A:L3) (outer:List Env) (s:Lj) (H:Hp) (E:XK),Room k (A.deeper (envOfC qual (ai st) s.heap.objs.size f cdv)) →
   ∀xe,jI ((fI CX0 P w K mg base N qual (ai st) f cdv A outer s H E).FB xe) (bF st) F):B6 P w K mg base (k+1) f fd ps n (val n N.length F):=
 ⟨JF Fn S hn λcdv A outer s H E hr=>⟨F,hbody cdv A outer s H E hr _,λts _ _ h=>Fz h⟩,Hd Fn S hn λcdv A outer s H E hr=>⟨F,hbody cdv A outer s H E hr,λts _ c h=>Cj h⟩⟩
end
section
variable {X:Cx}{k n:Nat}{f:Addr}{fd:Mo}{ps:List Str}{g:List T->Rs T}{pins:List (Addr×Obj)}{σ:L2.St}{H:Hp}{s:Lj}{us:List Lh}{vs:List V}{ts:List T}{O:Ow}{Q:VK}
theorem Ia (F:B6 X.prog X.w X.K X.mg X.base k f fd ps n g)(hr:Room k X.A)(hb:Binds X.K fd ps [])(hps:ps.length=n)(I:Inv X pins σ H s)(r:Vals vs us)(rs:Reps X.K O H ts vs)(mt:∀a,O a->Mtb H a)(hl:ts.length=n)
  (hq:Post X H (g ts) λt H'=> ∀v,Rep X.K O H' t v->Q v H'):wpAny (model X.prog X.w) X.A (call (.ref f) us) (EP X pins σ Q) X.xe s:=by
 cases q2:g ts with
 | bad=>rw[q2]at hq;exact hq.elim
 | ok t=>
  rw[q2]at hq;refine u4 (E:=E0) (dvs:=[]) (ds:=[]) F.h hr hb .nil wI I r ⟨ts,O,by simpa using rs,mt,hl,?_⟩
  rw[q2]
  exact λv H' s2 rr=>hq H' s2 v rr
 | err c=>
  rw[q2]at hq
  have hlen:us.length=ps.length:=by rw[<-r.length,<-rs.length,hl,hps]
  have hb':=hb s us I.kIn (by rw[LZ];exact hlen)
  rw[LZ]at hb';refine Qr (N6 (F.x X.A X.stack s H ⟨us,[]⟩ us vs O ts c (λr s'=>match r with | .error ev=>X.xe ev s' | _=>False) hr I.Kw hb' r rs mt hl q2 λev s' w=> ?_) λr s' hq=> ?_)
  ·obtain⟨ea,T,C,H',rfl,hmc,ho,hbare,hun,hok,sm2,hea,heo,fl,hT,hTo⟩:=w
   have I2:Inv X pins σ H' s':=I.Kq ho hun hok hbare (λb z=>absurd z (by simp))
   exact hq pins _ _ ⟨ea,some T,C,σ,H',rfl,hmc,I2,λb o q _=>sm2 b o q,hea,λhex=>gc I hex heo,fl,(λt zt=>by cases zt;exact⟨hT,λhex=>gc I hex hTo⟩),λpp hpp=>⟨λzz=>(by have:=(I.pin pp hpp).1;rw[zz,heo]at this;cases this),λzz=>(by cases zz;have:=(I.pin pp hpp).1;rw[hTo]at this;cases this)⟩⟩
  ·cases r with
   | error ev=>exact hq
   | ok fl=>exact hq.elim
end
section
variable {X:Cx}{a:Expr}{fa:En->Rs T}{pos p:Pos}{x:Str}
theorem Il:mx X (.Continue pos) EH:=PS.imp tE λD σ H ⟨Z,B,M,E,h⟩=>h σ H M (λ_ _ e _=>e) E λa z=> .inl z
end
inductive OTail (h:Heap):List Lh->Prop
 | base:OTail h sH
 | own {A:Addr} {c0:Lh} {dd:Option Addr} {cd:ClassData} {sl:Array (Option Lh)} {mA:Str->Option Lh} {tl:List Lh} :
   h.get? A=some { cls:=c0,dict:=dd,data:=.cls cd,slots:=sl }->h.Ns cd.ns mA->(∀n∈calmNames,mA n=none)->OTail h tl->OTail h (.ref A::tl)
theorem OTail.tail {h:Heap}{tl:List Lh}(T:OTail h tl):OwnTail h sH tl:=by
 induction T with
 | base=>exact .base
 | own hA hN hq _ ih=>exact .own hA hN (hq _ (.head _)) ih
structure OX (K:Ld)(C:Addr)(bm:List Lh):Prop where
 at_:∀h:Heap,K.In h->∃nm q N bs hdct sn sub ab col dd k0 k1 k2 k3 k5 mN,h.get? C=some (N0 nm q C N bs bm hdct sn sub ab col dd k0 k1 k2 k3 k5 "ValueError.__new__")/\h.Ns N mN/\(∀n∈calmNames,mN n=none)/\OTail h bm
theorem OX.own {K:Ld}{C:Addr}{bm:List Lh}(O:OX K C bm):OwnExc K C bm:=⟨λh k=>by
 obtain⟨nm,q,N,bs,hdct,sn,sub,ab,col,dd,k0,k1,k2,k3,k5,mN,h1,h2,h3,h4⟩:=O.at_ h k;exact⟨nm,q,N,bs,hdct,sn,sub,ab,col,dd,k0,k1,k2,k3,k5,mN,h1,h2,h3 _ (.head _),h4.tail⟩⟩
section
variable {M:Model}{A:L3}{E:Lh->Lj->Prop}{s:Lj}
theorem IY {base:Heap}{env:Env}{outer:List Env}{L C e:Addr}{T:Option Addr}{Q:Unit->Lj->Prop}(hfr:A.frames=some (env::outer))(hl:s.heap.FunFrames base (env::outer))(hf:env.frame=some L)
  (F:JU s.heap C e T) (h:∀h' T',Ez ((env::outer).filterMap (·.frame)) C e T s.heap h' T'->Q () { s with heap:=h' }) :
  wpAny M A (Sg (.ref e) env) (λ_ s'=>wpAny M A (setFlight (.ref e) none) Q E s') E s:=by
 generalize hB:P4 s.heap (e::(T.toList++(env::outer).filterMap (·.frame)))=B
 have bm:∀b,b∈e::(T.toList++(env::outer).filterMap (·.frame))->B.get? b=none:=λb m=>by rw[<-hB];exact OK _ m
 have hl':s.heap.FunFrames B (env::outer):=gg hl λa ha=>bm a (Lg _ (LF _ ha))
 have hst:B.StaysIn s.heap:=λb o q=>by rw[<-hB]at q;exact O9 _ q
 have hen:B.get? e=none:=bm e Ll
 have main:∀h',Heap.Left B (env::outer) e (.ref C) s.heap h'->Q () { s with heap:=h' }:=λh' ⟨x1,x2,⟨oe,vs,T',oT,ts,he,hc,hd,h1,hnT,hTe,hT,hdT,h3⟩,x4⟩=>by
  refine h h' T' ⟨⟨hTe,oe,vs,he,hc,hd,h1,oT,ts,hT,hdT,h3⟩,?_,λb o n1 n2 n3 q=> ?_,λb o m q=> ?_⟩
  ·cases q:s.heap.get? T' with
   | none=>exact .inr rfl
   | some o=>
    left
    by_cases z:T'∈e::(T.toList++(env::outer).filterMap (·.frame))
    ·rcases Lp.mp z with z | z
     ·exact absurd z hTe
     ·rcases LH.mp z with z | z
      ·cases T with
       | none=>simp at z
       | some t=>simp at z;rw[z]
      ·obtain⟨_,o',ho',hnf⟩:=x2.mem z
       rw[hT]at ho';cases ho';exact absurd hdT (hnf ts)
    ·rw[<-hB,Nv _ q z]at hnT;cases hnT
  ·refine x1 b o ?_
   rw[<-hB];refine Nv _ q λz=> ?_
   rcases Lp.mp z with z | z
   ·exact n2 z
   ·rcases LH.mp z with z | z
    ·cases T with
     | none=>simp at z
     | some t=>simp at z;exact n3 (by rw[z])
    ·exact n1 z
  ·obtain⟨_,o',ho',hnf⟩:=hl.mem m
   rw[q]at ho';cases ho';exact x4 b o q hnf
 cases T with
 | none=>
  obtain⟨oe,vs,he,hc,hd,h1⟩:=F;unfold Sg;simp only[hf];refine Li (MT he hd h1 ?_)
  rw[if_neg (by decide)]
  refine wpAny_newEntry hfr hl' hf he hst hen hd (MK.mp h1).1 λh' x=>main h' ?_
  rw[hc]at x;exact x
 | some t=>
  obtain⟨hte,oe,vs,he,hc,hd,h1,oT,ts,hT,hdT,h3⟩:=F
  have hnT:B.get? t=none:=bm t (Lg _ (LW _ (by simp)))
  unfold Sg;simp only[hf];refine Li (MT he hd h1 ?_)
  rw[if_pos (show(LR t != L1)=true from by simp)]
  refine Li (MT hT hdT h3 ?_)
  rw[if_neg (show ¬((L1 == rawInt L)=true)from by simp[rawInt])]
  refine Li (Qy hT hdT (MK.mp h3).1 ?_)
  have other:∀b,b≠t->(s.heap.update t (Q1 (·.setIfInBounds 3 L1))).get? b=s.heap.get? b:=λb hb=>Oi _ _ (NZ hb)
  have noRec:∀b o,s.heap.get? b=some o->(∀vs,o.data≠ .fields vs)->b≠t:=λb o hb hnf q=>by
   rw[q,hT]at hb;injection hb with hb;subst hb;exact hnf ts hdT
  refine wpAny_newEntry hfr (hl'.of_keeps λb o hb hnf=>⟨o,(other b (noRec b o hb hnf)).trans hb,rfl⟩) hf ((other e (NZ hte)).trans he)
   (λb o hbo=>(other b λq=>by rw[q,hnT]at hbo;cases hbo).trans (hst b o hbo)) hen hd (MK.mp h1).1
   λh' x=>main h' ?_
  obtain⟨x1,x2,x3,x4⟩:=x;rw[hc]at x3;exact⟨x1,x2,x3,λb o hb hnf=>x4 b o ((other b (noRec b o hb hnf)).trans hb) hnf⟩
end
section
variable {X:Cx}{pins:List (Addr×Obj)}{σ:L2.St}{H:Hp}{s:Lj}{h':Heap}
theorem Inv.gone {C e T':Addr}{T:Option Addr}(I:Inv X pins σ H s)(hst:X.stack=X.env::X.outer)(hfe:X.env.frame=some X.env.locals)(hcl:∀x c,X.env.cells.lookup x≠some c)(hex:X.ex= [])
  (g:Ez ((X.env::X.outer).filterMap (·.frame)) C e T s.heap h' T') (he:H e=none) (heo:X.s₀.heap.get? e=none) (hT:∀t,T=some t->H t=none/\X.s₀.heap.get? t=none) (hp:∀p∈X.pn++pins,p.1≠e/\T≠some p.1) :
  Inv X pins σ H { s with heap:=h' }:=by
 have mem:∀b,b∈(X.env::X.outer).filterMap (·.frame)↔b=X.env.locals\/b∈X.fs:=λb=>by
  rw[MC,hfe];exact Lp
 have out:∀b o,X.s₀.heap.get? b=some o->b≠X.env.locals:=λb o q z=>by
  have h1:=Lw q
  have h2:=I.ok.above;rw[z]at h1;exact absurd (LC h1 h2) (LV _)
 have ne:∀b o,X.s₀.heap.get? b=some o->b≠e/\T≠some b:=λb o q=>⟨λz=>(by subst z;rw[heo]at q;cases q),λz=>(by rw[(hT b z).2]at q;cases q)⟩
 have fr:∀b,b∈(X.env::X.outer).filterMap (·.frame)->H b=none:=λb z=>I.Kd b (by rw[hst];exact z)
 have keepH:∀b u,H b≠none->s.heap.get? b=some u->h'.get? b=some u:=λb u hb q=>by
  refine g.keep b u (λz=>hb (fr b z)) (λz=>hb (by rw[z];exact he)) (λz=>hb (hT b z).1) q
 refine⟨I.ok,I.os,I.bare,⟨λb o q n hb hx=> ?_,λb o q n hb hx=> ?_,I.base.free,λb o q hx=> ?_,I.base.tups,I.base.frzs,I.base.tbls⟩,?_,λx c z=>absurd z (hcl x c),I.free,I.freeC,λp hp'=> ?_,λa o q=> ?_,I.len⟩
 ·exact g.keep b o (λz=>((mem b).mp z).elim (out b o q) hb) (ne b o q).1 (ne b o q).2 (I.base.keep b o q n hb hx)
 ·obtain⟨sl,q1⟩:=I.base.slot b o q n hb hx
  obtain⟨sl',q2⟩:=g.slot b _ ((mem b).mpr (.inr hb)) q1;exact⟨sl',q2⟩
 ·obtain⟨o',q1⟩:=I.base.there b o q hx
  by_cases z:b∈(X.env::X.outer).filterMap (·.frame)
  ·obtain⟨sl,q2⟩:=g.slot b o' z q1
   exact⟨_,q2⟩
  ·exact⟨o',g.keep b o' z (ne b o q).1 (ne b o q).2 q1⟩
 ·obtain⟨m,⟨o,es,ep,ho,hd,r⟩,hl⟩:=I.loc
  obtain⟨sl,q2⟩:=g.slot X.env.locals o ((mem _).mpr (.inl rfl)) ho;refine⟨m,⟨_,es,ep,q2,hd,r⟩,λi x v a1 a2 a3=> ?_⟩
  obtain⟨u,ru,lk⟩:=hl i x v a1 a2 a3;refine⟨u,ru,?_⟩
  rcases lk with z | ⟨_,c,z,_⟩
  ·exact .inl z
  ·exact absurd z (hcl x c)
 ·obtain⟨b1,b2,b3,b4,b5⟩:=I.pin p hp'
  exact⟨g.keep p.1 p.2 (λz=>((mem _).mp z).elim b3 b4) (hp p hp').1 (hp p hp').2 b1,b2,b3,b4,b5⟩
 ·refine(I.hok a o q).Ki (λb u hb z=>keepH b u ?_ z) (λ_ z=>z) λ_ _ z=>z
  rcases hb with rfl | hb
  ·rw[q];simp
  ·rw[hb];simp
end
section
variable {M:Model}{A:L3}{E:Lh->Lj->Prop}{h:Heap}{g:Array GenState}{d:Drawn}{t:Nat}{os:Pk}
variable {nm q:Str}{C N:Addr}{bs bm:List Lh}{hdct:Bool}{sn:List Str}{sub:List Lh}{ab:Bool}{col:Option Bool}{dd:Option Addr}{k0 k1 k2 k3 k5:Option Lh}{newId:String}
variable {nm' q':Str}{D N':Addr}{bs' bm':List Lh}{hdct':Bool}{sn':List Str}{sub':List Lh}{ab':Bool}{col':Option Bool}{dd':Option Addr}{k0' k1' k2' k3' k5':Option Lh}{newId':String}
theorem yp {e:Addr}{oe:Obj}{Q:Bool->Lj->Prop}(hC:h.get? C=some (N0 nm q C N bs bm hdct sn sub ab col dd k0 k1 k2 k3 k5 newId))(hD:h.get? D=some (N0 nm' q' D N' bs' bm' hdct' sn' sub' ab' col' dd' k0' k1' k2' k3' k5' newId'))
  (he:h.get? e=some oe) (hcls:oe.cls= .ref C) (hb:bm'.contains (.type "BaseException")=true) (hin:(LR C::bm).contains (.ref D)=true) (hq:Q true ⟨h,g,d,t,os⟩):wpAny M A (excMatches (.ref e) (.ref D)) Q E ⟨h,g,d,t,os⟩:=by
 have hcB:(LR D::bm').contains (.type "BaseException")=true:=by rw[Oc,hb,Bool.or_true]
 have f:=tc_notTuple;unfold excMatches
 repeat (first | (with_reducible refine Rv he ?_;rw[hcls]) | with_reducible refine Rv hD ?_ | (with_reducible refine QP hD ?_;rw[hcB]) | (with_reducible refine QP hC ?_;rw[hin]) | wp_step)
 exact hq
end
abbrev E6 (X:Cx)(e:Addr)(oe:Obj):Cx:={ X with A:=X.A.mark (some (.ref e)),calm:=false,pn:=(e,oe)::X.pn,xe:=λ_ _=>False }
section
variable {X:Cx}{pins:List (Addr×Obj)}{σ:L2.St}{H:Hp}{s:Lj}{e:Addr}{oe:Obj}
theorem xk (I:Inv X pins σ H s)(he:s.heap.get? e=some oe)(hH:H e=none)(hne:e≠X.env.locals)(hf:e∉X.fs)(hc:∀v,oe.data≠ .cell v):Inv (E6 X e oe) pins σ H s:=by
 have ok:=I.ok;refine⟨⟨ok.mod,ok.kind,ok.glob,ok.blt,ok.above,ok.inj,ok.has,ok.cab,(λz=>by cases z),?_,ok.stk,ok.exf,ok.bs,ok.bsz,ok.noex,ok.exfs,ok.funs,ok.frf⟩,I.os,I.bare,I.base,I.loc,I.cell,I.free,I.freeC,λp hp=> ?_,I.hok,I.len⟩
 ·exact ok.frames
 ·rcases Lp.mp (show p∈(e,oe)::(X.pn++pins)from hp)with z | z
  ·subst z;exact⟨he,hH,hne,hf,hc⟩
  ·exact I.pin p z
theorem DS (ok:X.Ok)(I:Inv (E6 X e oe) pins σ H s):Inv X pins σ H s:=
 ⟨ok,I.os,I.bare,I.base,I.loc,I.cell,I.free,I.freeC,λp hp=>I.pin p (Lg _ hp),I.hok,I.len⟩
end
section
variable {X:Cx}
theorem Inv.KY {σ:L2.St}{H:Hp}{s:Lj}(pins:List (Addr×Obj))(I:Inv X pins σ H s):Inv { X with pn:=X.pn++pins } [] σ H s:=
 ⟨⟨I.ok.mod,I.ok.kind,I.ok.glob,I.ok.blt,I.ok.above,I.ok.inj,I.ok.has,I.ok.cab,I.ok.hd,I.ok.frames,I.ok.stk,I.ok.exf,I.ok.bs,I.ok.bsz,I.ok.noex,I.ok.exfs,I.ok.funs,I.ok.frf⟩,I.os,I.bare,I.base,I.loc,I.cell,I.free,I.freeC,λp hp=>I.pin p (by rw[LZ]at hp;exact hp),I.hok,I.len⟩
theorem Inv.KP {σ:L2.St}{H:Hp}{s:Lj}{pins pins1:List (Addr×Obj)}{xe:Lh->Lj->Prop}(I:Inv { X with pn:=X.pn++pins,xe:=xe } pins1 σ H s):Inv X pins σ H s:=
 ⟨⟨I.ok.mod,I.ok.kind,I.ok.glob,I.ok.blt,I.ok.above,I.ok.inj,I.ok.has,I.ok.cab,I.ok.hd,I.ok.frames,I.ok.stk,I.ok.exf,I.ok.bs,I.ok.bsz,I.ok.noex,I.ok.exfs,I.ok.funs,I.ok.frf⟩,I.os,I.bare,I.base,I.loc,I.cell,I.free,I.freeC,λp hp=>I.pin p (LW _ hp),I.hok,I.len⟩
end
theorem IX {K:Ld}{N:Addr}{ob:Lh}{oe:Option Addr}{es:Array DictEntry}{n:Nat}{oz:Array (Option Lh)}(r:K.lookup N=some ⟨ob,oe,.dict es n,oz⟩)(s:(es.toList.all λe=>zp e.key)=true)
  (u0:N3 K N "__init__" =some none) (u1:N3 K N "__getattribute__" =some none) (u2:N3 K N "__getattr__" =some none) (u3:N3 K N "__class__" =some none) :
  ∀h:Heap,K.In h->∃mN,h.Ns N mN/\∀n∈calmNames,mN n=none:=λh k=>by
 refine⟨nsFind es,⟨_,es,n,k _ _ r,rfl,λe he=> ?_,λ_=>rfl⟩,λx hx=> ?_⟩
 ·have:=LK.mp s e (by simpa using he)
  cases q:e.key <;> rw[q]at this <;> first | exact⟨_,_,rfl⟩ | cases this
 ·have key:∀x,N3 K N x=some none->nsFind es x=none:=λx u=>by
   unfold N3 at u;rw[r]at u;simp only at u
   split at u
   ·cases u
   ·rename_i he
    unfold nsFind findBy;rw[<-QQ,he];rfl
  unfold calmNames at hx;simp only[Lp,Mj,or_false]at hx;rcases hx with rfl | rfl | rfl | rfl
  ·exact key _ u0
  ·exact key _ u1
  ·exact key _ u2
  ·exact key _ u3
section
variable {K:Ld}{nm q:Str}{C N:Addr}{bs:List Lh}{hdct:Bool}{sn:List Str}{sub:List Lh}{ab:Bool}{col:Option Bool}{dd:Option Addr}{k0 k1 k2 k3 k5:Option Lh}
variable {nm' q':Str}{D N':Addr}{bs':List Lh}{hdct':Bool}{sn':List Str}{sub':List Lh}{ab':Bool}{col':Option Bool}{dd':Option Addr}{k0' k1' k2' k3' k5':Option Lh}
theorem Dr (w:K.lookup C=some (N0 nm q C N bs sH hdct sn sub ab col dd k0 k1 k2 k3 k5 "ValueError.__new__"))(ns:∀h:Heap,K.In h->∃mN,h.Ns N mN/\∀n∈calmNames,mN n=none):OX K C sH:=⟨λh k=>by
 obtain⟨mN,h1,h2⟩:=ns h k;exact⟨nm,q,N,bs,hdct,sn,sub,ab,col,dd,k0,k1,k2,k3,k5,mN,k _ _ w,h1,h2,.base⟩⟩
theorem z4 (w:K.lookup C=some (N0 nm q C N bs (.ref D::sH) hdct sn sub ab col dd k0 k1 k2 k3 k5 "ValueError.__new__"))(ns:∀h:Heap,K.In h->∃mN,h.Ns N mN/\∀n∈calmNames,mN n=none)
  (wD:K.lookup D=some (N0 nm' q' D N' bs' sH hdct' sn' sub' ab' col' dd' k0' k1' k2' k3' k5' "ValueError.__new__")) (nsD:∀h:Heap,K.In h->∃mN,h.Ns N' mN/\∀n∈calmNames,mN n=none):OX K C (.ref D::sH):=⟨λh k=>by
 obtain⟨mN,h1,h2⟩:=ns h k;obtain⟨mD,d1,d2⟩:=nsD h k;exact⟨nm,q,N,bs,hdct,sn,sub,ab,col,dd,k0,k1,k2,k3,k5,mN,k _ _ w,h1,h2,.own (k _ _ wD) d1 d2 .base⟩⟩
end
end Tr
namespace L2
open PySem PySem.Spec PyProof.Rows
section
variable {κ:Type}[DecidableEq κ]
def i9 (kvs:List (κ×V))(k:κ):Option V:=(kvs.find? λkv=>decide (kv.1=k)).map (·.2)
def dy (kvs:List (κ×V))(k:κ)(v:V):List (κ×V):=
 if (kvs.any λkv=>decide (kv.1=k))=true then kvs.map (λkv=>if kv.1=k then(kv.1,v)else kv)else kvs++ [(k,v)]
theorem zg {k:κ}:i9 ([]:List (κ×V)) k=none:=rfl
theorem jO {p:κ×V}{r:List (κ×V)}{k:κ}(e:p.1=k):i9 (p::r) k=some p.2:=by simp[i9,NL,e]
theorem jP {p:κ×V}{r:List (κ×V)}{k:κ}(e:¬ p.1=k):i9 (p::r) k=i9 r k:=by simp[i9,NL,e]
theorem sM (k:κ):∀kvs:List (κ×V),(kvs.any λkv=>decide (kv.1=k))=(i9 kvs k).isSome
 | [] =>rfl
 | p::r=>by
  rw[Ny]
  by_cases e:p.1=k
  ·simp only[jO e,decide_eq_true e,Bool.true_or,QY]
  ·rw[jP e,decide_eq_false e,Q0];exact sM k r
theorem fQ (kvs:List (κ×V))(k:κ)(v:V):(dy kvs k v).length<=kvs.length+1:=by
 unfold dy;split
 ·rw[Ln];omega
 ·rw[Lo,Lm,R8];omega
theorem RelO.Ke {o:Option V}{u:Option Lh}(r:RelO o u):o.isSome=u.isSome:=by
 cases o with
 | none=>cases u with
  | none=>rfl
  | some _=>exact(show False from r).elim
 | some _=>cases u with
  | none=>exact(show False from r).elim
  | some _=>rfl
theorem RelO.getD {o:Option V}{u:Option Lh}{d:V}{d':Lh}(r:RelO o u)(rd:RelV d d'):RelV (o.getD d) (u.getD d'):=by
 cases o with
 | none=>cases u with
  | none=>exact rd
  | some _=>exact(show False from r).elim
 | some _=>cases u with
  | none=>exact(show False from r).elim
  | some _=>exact r
theorem KV.val {kvs:List (κ×V)}{vs:List (κ×Lh)}(r:KV kvs vs)(k:κ):RelO (i9 kvs k) (valueAt vs k):=by
 unfold KV at r
 induction r with
 | nil=>exact Nn
 | @cons p q ps qs h t ih=>
  obtain⟨h1,h2⟩:=h
  by_cases e:p.1=k
  ·have e':q.1=k:=h1.symm.trans e
   have b:valueAt (q::qs) k=some q.2:=by simp[valueAt,NL,e']
   rw[jO e,b];exact h2
  ·have e':¬ q.1=k:=λz=>e (h1.trans z)
   have b:valueAt (q::qs) k=valueAt qs k:=by simp[valueAt,NL,e']
   rw[jP e,b];exact ih
theorem KV.any {kvs:List (κ×V)}{vs:List (κ×Lh)}(r:KV kvs vs)(k:κ):(kvs.any λkv=>decide (kv.1=k))=vs.any λkv=>decide (kv.1=k):=by
 unfold KV at r
 induction r with
 | nil=>rfl
 | cons h t ih=>rw[Ny,Ny,ih,h.1]
theorem KV.KI {kvs:List (κ×V)}{vs:List (κ×Lh)}(r:KV kvs vs)(k:κ){y:V}{u:Lh}(ry:RelV y u) :
  KV (kvs.map λkv=>if kv.1=k then(kv.1,y)else kv) (vs.map λkv=>if kv.1=k then(kv.1,u)else kv):=by
 unfold KV at r ⊢
 induction r with
 | nil=>exact .nil
 | @cons p q ps qs h t ih=>
  rw[Lk,Lk];refine .cons ?_ ih
  obtain⟨h1,h2⟩:=h
  by_cases e:p.1=k
  ·rw[if_pos e,if_pos (h1.symm.trans e)];exact⟨h1,ry⟩
  ·rw[if_neg e,if_neg (λz=>e (h1.trans z))];exact⟨h1,h2⟩
theorem KV.put {kvs:List (κ×V)}{vs:List (κ×Lh)}(r:KV kvs vs)(k:κ){y:V}{u:Lh}(ry:RelV y u):KV (dy kvs k y) (stored vs k u):=by
 unfold dy stored;rw[r.any k]
 by_cases e:(vs.any λkv=>decide (kv.1=k))=true
 ·rw[if_pos e,if_pos e];exact r.KI k ry
 ·rw[if_neg e,if_neg e];exact Paired.snoc r ⟨rfl,ry⟩
theorem KV.length {kvs:List (κ×V)}{vs:List (κ×Lh)}(r:KV kvs vs):kvs.length=vs.length:=PL r
end
theorem ud {P:LP}{w:Mh}{k:Key}{u:Lh}(r:RelV (kV k) u):(cm P w).is k u=true:=by
 cases k with
 | inl i=>obtain⟨t,e⟩:=(show ∃t,u=ML i t from r);subst e;exact tY P w i t
 | inr x=>obtain⟨t,e⟩:=(show ∃t,u=MM x t from r);subst e;exact tW P w x t
theorem pO {P:LP}{w:Mh}:∀{ks:List Key} {us:List Lh},Vals (ks.map kV) us->ItemsAre (cm P w) ks us
 | [],_,r=>by rw[P7]at r;cases r;exact .nil
 | k::ks,_,r=>by
  rw[Lk]at r
  cases r with
  | cons h t=>exact .cons (ud h) (pO t)
abbrev KT (H:Hp):List (List Key×V)->List (List Key×Addr×Lh)->Prop:=Sn λp q=>p.1=q.1/\H q.2.1=some (.tup (p.1.map kV))/\RelV p.2 q.2.2
theorem KT.val {H:Hp}{kvs:List (List Key×V)}{xs:List (List Key×Addr×Lh)}(r:KT H kvs xs)(k:List Key):RelO (i9 kvs k) ((atKey xs k).map (·.2)):=by
 induction r with
 | nil=>exact Nn
 | @cons p q ps qs h t ih=>
  obtain⟨h1,_,h2⟩:=h
  by_cases e:p.1=k
  ·have e':q.1=k:=h1.symm.trans e
   have b:atKey (q::qs) k=some q.2:=by simp[atKey,NL,e']
   rw[jO e,b];exact h2
  ·have e':¬ q.1=k:=λz=>e (h1.trans z)
   have b:atKey (q::qs) k=atKey qs k:=by simp[atKey,NL,e']
   rw[jP e,b];exact ih
theorem KT.KI {H:Hp}{kvs:List (List Key×V)}{xs:List (List Key×Addr×Lh)}(r:KT H kvs xs)(k:List Key){y:V}{u:Lh}(ry:RelV y u) :
  KT H (kvs.map λkv=>if kv.1=k then(kv.1,y)else kv) (xs.map (putAt k u)):=by
 induction r with
 | nil=>exact .nil
 | @cons p q ps qs h t ih=>
  rw[Lk,Lk];refine .cons ?_ ih
  obtain⟨h1,h2,h3⟩:=h;unfold putAt
  by_cases e:p.1=k
  ·rw[if_pos e,if_pos (h1.symm.trans e)];exact⟨h1,h2,ry⟩
  ·rw[if_neg e,if_neg (λz=>e (h1.trans z))];exact⟨h1,h2,h3⟩
theorem KT.put {H:Hp}{kvs:List (List Key×V)}{xs:List (List Key×Addr×Lh)}(r:KT H kvs xs)(k:List Key){b:Addr}{y:V}{u:Lh}(hb:H b=some (.tup (k.map kV)))(ry:RelV y u) :
  KT H (dy kvs k y) (storedH xs k b u):=by
 have e:(kvs.any λkv=>decide (kv.1=k))=(atKey xs k).isSome:=by
  rw[sM,(r.val k).Ke,Rn]
 unfold dy storedH;rw[e]
 by_cases q:(atKey xs k).isSome=true
 ·rw[if_pos q,if_pos q];exact r.KI k ry
 ·rw[if_neg q,if_neg q];exact Paired.snoc r ⟨rfl,hb,ry⟩
theorem KT.keeps {H H':Hp}{kvs:List (List Key×V)}{xs:List (List Key×Addr×Lh)}(r:KT H kvs xs)(ht:∀b ys,H b=some (.tup ys)->H' b=some (.tup ys)):KT H' kvs xs:=
 Paired.KF r λ_ _ z=>⟨z.1,ht _ _ z.2.1,z.2.2⟩
section
variable {P:LP}{w:Mh}{H:Hp}{h:Heap}{a:Addr}
theorem jn {u:HO}(ok:HOk P w H h)(e:Rd H a u):ObjOk P w H h a u:=e.ok ok
theorem pX {kvs:List (Key×V)}(ok:HOk P w H h)(e:Rd H a (.dK kvs)):kvs.length<=sizeLine/\(a == NR)=false/\∃vs,KV kvs vs/\h.DictOf (cm P w) a vs:=
 show ObjOk P w H h a (.dK kvs)from jn ok e
theorem JO {kvs:List (Key×V)}(ok:HOk P w H h)(e:H a=some (.dK kvs)):kvs.length<=sizeLine/\(a == NR)=false/\∃vs,KV kvs vs/\h.DictOf (cm P w) a vs:=pX ok (.inl e)
theorem k9 {ks:List Key}(ok:HOk P w H h)(e:H a=some (.tup (ks.map kV))):(Pz (cm P w)).is h ks a:=by
 obtain⟨_,its,r,o,h1,h2,n,h3⟩:=(show ObjOk P w H h a (.tup (ks.map kV))from ok a _ e)
 exact⟨o,its.toArray,n,h1,h2,h3,by simpa using pO r⟩
theorem pV {kvs:List (List Key×V)}(ok:HOk P w H h)(e:Rd H a (.dT kvs)):kvs.length<=sizeLine/\(a == NR)=false ∧
  ∃xs,KT H kvs xs/\h.DictOfH (Pz (cm P w)) a xs:=by
 obtain⟨z,y,xs,r,o,es,ep,h1,h2,h3,h4,h5⟩:=(show ObjOk P w H h a (.dT kvs)from jn ok e)
 refine⟨z,y,xs,r,o,es,ep,h1,h2,h3,h4,λx hx=> ?_,h5⟩
 have all:∀{l:List (List Key×V)} {m:List (List Key×Addr×Lh)},KT H l m->∀x∈m,(Pz (cm P w)).is h x.1 x.2.1:=by
  intro l m q
  induction q with
  | nil=>intro x hx;exact nomatch hx
  | @cons p q ps qs hq t ih=>
   intro x hx;rcases Lp.mp hx with e | hx
   ·subst e
    exact k9 ok (by rw[<-hq.1];exact hq.2.1)
   ·exact ih x hx
 exact all r x hx
theorem Bx {kvs:List (List Key×V)}(ok:HOk P w H h)(e:H a=some (.dT kvs)):kvs.length<=sizeLine/\(a == NR)=false ∧
  ∃xs,KT H kvs xs/\h.DictOfH (Pz (cm P w)) a xs:=pV ok (.inl e)
end
def DGet (H:Hp)(a:Addr)(y:V)(r:Option V):Prop:=
 (∃kvs k,Rd H a (.dK kvs)/\y=kV k/\r=i9 kvs k)\/∃kvs k b,Rd H a (.dT kvs)/\y= .ref b/\H b=some (.tup (k.map kV))/\r=i9 kvs k
def DPut (H:Hp)(a:Addr)(y v:V)(H':Hp):Prop:=
 (∃kvs k,H a=some (.dK kvs)/\y=kV k/\kvs.length<sizeLine/\H'=upd H a (.dK (dy kvs k v))) ∨
 ∃kvs k b,H a=some (.dT kvs)/\y= .ref b/\H b=some (.tup (k.map kV))/\kvs.length<sizeLine/\H'=upd H a (.dT (dy kvs k v))
theorem DPut.t {H:Hp}{a b:Addr}{kvs:List (List Key×V)}{k:List Key}{v:V}(e:H a=some (.dT kvs))(eb:H b=some (.tup (k.map kV)))(hl:kvs.length<sizeLine) :
  DPut H a (.ref b) v (upd H a (.dT (dy kvs k v))):=.inr ⟨kvs,k,b,e,rfl,eb,hl,rfl⟩
section
variable {X:Cx}{pins:List (Addr×Obj)}{σ:St}{H:Hp}{s:Lj}{a:Addr}{y v:V}{u r:Lh}{o:Option V}{A:L3}{E:Lh->Lj->Prop}
theorem Inv.big (I:Inv X pins σ H s):NR<s.heap.objs.size:=by
 have h:LX<s.heap.objs.size:=(I.mod.glob.keeps I.bk).lt;exact Nat.lt_trans (by decide) h
theorem yJ {Q:Lh->Lj->Prop}(hu:A.units+1<cLine)(I:Inv X pins σ H s)(g:DGet H a y (some v))(ry:RelV y u)(h:∀w' s',Inv X pins σ H s'->RelV v w'->Q w' s') :
  wpAny (model X.prog X.w) A (getItem (.ref a) u) Q E s:=by
 rcases g with⟨kvs,k,e,ey,l⟩ | ⟨kvs,k,b,e,ey,eb,l⟩
 ·subst ey
  obtain⟨z,hd,vs,rel,dd⟩:=pX I.hok e;obtain⟨w',hw,rw'⟩:=RelO.some_of (v:=v) (o:=valueAt vs k) (by rw[l];exact rel.val k)
  exact wpAny_getItem_of (ud ry) dd.mapOf hw (h w' _ (I.tok _) rw')
 ·subst ey
  cases (show u=LR b from ry)
  obtain⟨z,hd,xs,rel,dd⟩:=pV I.hok e;obtain⟨w',hw,rw'⟩:=RelO.some_of (v:=v) (o:=(atKey xs k).map (·.2)) (by rw[l];exact rel.val k)
  obtain⟨p,hp,hp2⟩:=NF.mp hw;refine wpAny_getItem_heap (NI hu) (k9 I.hok eb) dd hp ?_
  rw[hp2];exact h w' _ (I.tok _) rw'
theorem d_in {Q:Lh->Lj->Prop}(hu:A.units+1<cLine)(I:Inv X pins σ H s)(g:DGet H a y o)(ry:RelV y u)(h:∀s',Inv X pins σ H s'->Q (.bool o.isSome) s') :
  wpAny (model X.prog X.w) A (L7 .In u (.ref a)) Q E s:=by
 rcases g with⟨kvs,k,e,ey,l⟩ | ⟨kvs,k,b,e,ey,eb,l⟩
 ·subst ey
  obtain⟨z,hd,vs,rel,dd⟩:=pX I.hok e;refine wpAny_in_of (ud ry) hd dd.mapOf ?_
  rw[<-(rel.val k).Ke,<-l];exact h _ (I.tok _)
 ·subst ey
  cases (show u=LR b from ry)
  obtain⟨z,hd,xs,rel,dd⟩:=pV I.hok e;refine wpAny_in_heap (NI hu) (k9 I.hok eb) hd dd ?_
  have q:=(rel.val k).Ke;rw[Rn]at q;rw[<-q,<-l];exact h _ (I.tok _)
theorem r9 {h':Heap}{t':Nat}{ob:HO}(I:Inv X pins σ H s)(mu:JT (H a))(hs:Oy a s.heap h')(he:∃q,h'.get? a=some q)(new:ObjOk X.prog X.w (upd H a ob) h' a ob) :
  Inv X pins σ (upd H a ob) { s with heap:=h',toks:=t' }:=
 I.write (x:=a) (e:=a) mu (.inl rfl) (λb q hb z=>(hs.2 b hb).trans z) he new
theorem Hq {P:LP}{w:Mh}{H':Hp}{h':Heap}{kvs:List (Key×V)}{vs:List (Key×Lh)}(z:kvs.length<=sizeLine)(hd:(a == NR)=false)(rel:KV kvs vs)(dd:h'.DictOf (cm P w) a vs) :
  ObjOk P w H' h' a (.dK kvs):=⟨z,hd,vs,rel,dd⟩
theorem yI {H':Hp}{Q:Unit->Lj->Prop}(hu:A.units+1<cLine)(I:Inv X pins σ H s)(g:DPut H a y v H')(ry:RelV y u)(rv:RelV v r)(h:∀s',Inv X pins σ H' s'->Q () s') :
  wpAny (model X.prog X.w) A (setItem (.ref a) u r) Q E s:=by
 rcases g with⟨kvs,k,e,ey,l,eH⟩ | ⟨kvs,k,b,e,ey,eb,l,eH⟩
 ·subst ey eH
  obtain⟨z,hd,vs,rel,dd⟩:=JO I.hok e
  have hz:vs.length<=sizeLine:=by rw[<-rel.length];exact z
  have hl:(dy kvs k v).length<=sizeLine:=by have:=fQ kvs k v;omega
  refine wpAny_setItem_pairs (hsz:=hz) (ud ry) dd λh' dd' hs=>h _ ?_
  have he:∃q,h'.get? a=some q:=let ⟨q,_,_,hq,_⟩:=dd';⟨q,hq⟩
  exact r9 I (by rw[e];exact Nn) hs he (Hq hl hd (rel.put k rv) dd')
 ·subst ey eH
  cases (show u=LR b from ry)
  obtain⟨z,hd,xs,rel,dd⟩:=Bx I.hok e
  have hz:xs.length<=sizeLine:=by rw[<-PL rel];exact z
  have hl:(dy kvs k v).length<=sizeLine:=by have:=fQ kvs k v;omega
  refine wpAny_setItem_heap (hsz:=hz) (NI hu) (k9 I.hok eb) dd λh' dd' hs=>h _ ?_
  obtain⟨q,es,ep,hq,h2,h3,h4,_,h5⟩:=dd';refine r9 I (by rw[e];exact Nn) hs ⟨q,hq⟩ ⟨hl,hd,_,(rel.put k eb rv).keeps λc ys ec=> ?_,q,es,ep,hq,h2,h3,h4,h5⟩
  rw[aH (ny ec e (λz=>nomatch z))]
  exact ec
end
def Ex (i:Expr):Prop:=∀ov iv,QN i false ov iv=operate [ov,iv] (getItem ov iv)
theorem Cr {prog:LP}{w:Mh}{A:L3}{E:Lh->Lj->Prop}{s:Lj}{env:Env}{value slice:Expr}{pos:Pos}{T id:String}{Q:Lh->Lj->Prop}
  (hl:Rq (.type T) "__getitem__" =pure (some (.builtin id))) (hs:Ex slice)
  (h:wpAny (model prog w) A (eval value env) (λo s₁=>wpAny (model prog w) A (eval slice env) (λi s₂=>s₂.TypeIs o T/\wpAny (model prog w) A (getItem o i) Q E s₂) E s₁) E s) :
  wpAny (model prog w) A (eval (.Subscript value slice pos) env) Q E s:=by
 refine Rr (Nh h (λo s₁ h₁=>Nh h₁ (λi s₂ h₂=> ?_) λ_ _ x=>x) λ_ _ x=>x)
 obtain⟨hT,h₂⟩:=h₂;unfold Rf;refine Li ?_
 rw[getitemInPython_of_ne hT.not_modules];refine Li (wpAny_specialOf hT hl ?_)
 have fin:wpAny (model prog w) A (QN slice false o i) (λr s₃=>wpAny (model prog w) A (letTemporaryGo value o r >>= λ_=>pure r) Q E s₃) E s₂:=by
  rw[hs o i];exact wpAny_operating (Nh h₂ (λr s₃ h₃=>Li (wpAny_letTemporaryGo (Lr h₃))) λ_ _ x=>x)
 first
  | exact Lr (Li fin)
  | exact Li (Lr (Li fin))
  | exact Li fin
theorem uv {X:Cx}{pins:List (Addr×Obj)}{σ:St}{H:Hp}{s:Lj}{a:Addr}{y:V}{o:Option V}(I:Inv X pins σ H s)(g:DGet H a y o):s.TypeIs (.ref a) "dict":=by
 rcases g with⟨kvs,k,e,_,_⟩ | ⟨kvs,k,b,e,_,_,_⟩
 ·obtain⟨_,_,vs,_,dd⟩:=pX I.hok e
  exact dd.typeIs
 ·obtain⟨_,_,xs,_,dd⟩:=pV I.hok e
  exact dd.typeIs
def HV (td ty:TE):TE:=λσ H Q=>td σ H λx H1=>ty σ H1 λy H2=> ∃a v,x= .ref a/\DGet H2 a y (some v)/\Q v H2
def HZ (td ty tv:TE):TS:=λD σ H=>tv σ H λv H1=>td σ H1 λx H2=>ty σ H2 λy H3=> ∃a H4,x= .ref a/\DPut H3 a y v H4/\D.nx σ H4
section
variable {X:Cx}{o i e value:Expr}{pos pos' tpos:Pos}{td ty tv:TE}
theorem Dp (hu:X.A.units+1<cLine)(ho:PE X o td)(hi:PE X i ty)(hs:Ex i):PE X (.Subscript o i pos) (HV td ty):=by
 intro pins s σ H Q I h;refine Cr PySem.F.slot_dict_getitem.lookup hs (bR (ho pins s σ H _ I h) λu s1 ⟨x,H1,I1,rx,q1⟩=>bR (hi pins s1 σ H1 _ I1 q1) λiv s2 hh_=> ?_)
 obtain⟨y,H2,I2,ry,a,v,ex,g,q2⟩:=hh_;subst ex;obtain rfl:u=LR a:=rx;exact⟨uv I2 g,yJ hu I2 g ry λw' s3 I3 rw'=>⟨v,H2,I3,rw',q2⟩⟩
theorem De (hu:X.A.units+1<cLine)(ho:PE X o td)(hi:PE X i ty)(hv:PE X value tv)(hs:Me value (some (.Subscript o i pos')) pos.line X.env=pure false) :
  PS X (.Assign [.Subscript o i pos'] value pos) (HZ td ty tv):=by
 intro pins s σ H D I h;refine wpAny_Assign_Subscript (bR (hv pins s σ H _ I h) λr s1 ⟨v,H1,I1,rv,q1⟩=>bR (ho pins s1 σ H1 _ I1 q1) λu s2 ⟨x,H2,I2,rx,q2⟩=>bR (hi pins s2 σ H2 _ I2 q2) λiv s3 ⟨y,H3,I3,ry,a,H4,ex,g,q3⟩=> ?_) hs
 subst ex;obtain rfl:u=LR a:=rx;exact yI hu I3 g ry rv λs4 I4=>⟨σ,H4,I4,q3⟩
end
theorem By {P:LP}{w:Mh}{H:Hp}(h:Heap)(hb:NR<h.objs.size):ObjOk P w H (h.push { cls:=.type "dict",data:=.dict #[] }) h.objs.size (.dT []):=
 ⟨Nk _,beq_eq_false_iff_ne.mpr (NZ (My hb)),[],.nil,_,#[],0,LB _ rfl,⟨rfl,rfl,rfl⟩,rfl,rfl,NB⟩
structure M1 (X:Cx)(o:Expr)(m:Str)(apos:Pos)(e:Expr)(cpos:Pos):Prop where
 base:LU o m X.env (eval o X.env)=eval o X.env
 few:((backTo cpos (LA [e] X.env)).all (λx=> !x.1)&&(Pg cpos (NN [] X.env)).all (λx=>x.1.isSome)
  &&decide (([e]:List Expr).length+([]:List Sf).length+(if ([]:List Sf).isEmpty then 0 else 1)<30))=true
 line:(apos.endLine == cpos.line)=true
 trees:backTo cpos (LA [e] X.env)= [(false,eval e X.env)]
structure M2 (X:Cx)(o:Expr)(m:Str)(apos:Pos)(e f:Expr)(cpos:Pos):Prop where
 base:LU o m X.env (eval o X.env)=eval o X.env
 few:((backTo cpos (LA [e,f] X.env)).all (λx=> !x.1)&&(Pg cpos (NN [] X.env)).all (λx=>x.1.isSome)
  &&decide (([e,f]:List Expr).length+([]:List Sf).length+(if ([]:List Sf).isEmpty then 0 else 1)<30))=true
 line:(apos.endLine == cpos.line)=true
 trees:backTo cpos (LA [e,f] X.env)= [(false,eval e X.env),(false,eval f X.env)]
def IsD (H:Hp)(a:Addr):Prop:=(∃kvs,Rd H a (.dK kvs))\/∃kvs,Rd H a (.dT kvs)
theorem G8 {X:Cx}{pins:List (Addr×Obj)}{σ:St}{H:Hp}{s:Lj}{a:Addr}(I:Inv X pins σ H s)(d:IsD H a) :
  s.TypeIs (.ref a) "dict"/\(∀b,LR a= .ref b->∃ob,s.heap.get? b=some ob/\ob.dict=none)/\(a == NR)=false:=by
 rcases d with⟨kvs,e⟩ | ⟨kvs,e⟩
 ·obtain⟨_,hd,vs,_,dd⟩:=pX I.hok e
  refine⟨dd.typeIs,λb q=> ?_,hd⟩
  cases q;obtain⟨ob,_,_,h1,h2,_⟩:=dd;exact⟨ob,h1,h2.2.1⟩
 ·obtain⟨_,hd,xs,_,dd⟩:=pV I.hok e
  refine⟨dd.typeIs,λb q=> ?_,hd⟩
  cases q;obtain⟨ob,_,_,h1,h2,_⟩:=dd;exact⟨ob,h1,h2.2.1⟩
section
variable {X:Cx}{pins:List (Addr×Obj)}{σ:St}{H:Hp}{s:Lj}{a:Addr}{y d:V}{u r:Lh}{o:Option V}{A:L3}{E:Lh->Lj->Prop}
theorem Hs {Q:Lh->Lj->Prop}(hu:A.units+1<cLine)(I:Inv X pins σ H s)(g:DGet H a y o)(ry:RelV y u)(h:∀w' s',Inv X pins σ H s'->RelV (o.getD .non) w'->Q w' s') :
  wpAny (model X.prog X.w) A (call (.builtin "dict.get") [.ref a,u]) Q E s:=by
 rcases g with⟨kvs,k,e,ey,l⟩ | ⟨kvs,k,b,e,ey,eb,l⟩
 ·subst ey
  obtain⟨z,hd,vs,rel,dd⟩:=pX I.hok e;refine call_meetsIn Ov dd.typeIs PX (PH _ _) (meets_dict_get (cm X.prog X.w) a (ud ry) hd) ⟨_,dd.mapOf,h _ _ (I.tok _) ?_⟩
  rw[l];exact(rel.val k).getD rfl
 ·subst ey
  cases (show u=LR b from ry)
  obtain⟨z,hd,xs,rel,dd⟩:=pV I.hok e;refine call_meetsIn Ov dd.typeIs PX (PH _ _) (meetsH_dict_get (Pz (cm X.prog X.w)) a b hd) ⟨NI hu,k,xs,k9 I.hok eb,dd,h _ _ (I.tok _) ?_⟩
  rw[l];exact(rel.val k).getD rfl
end
def FD (td ty:TE):TE:=λσ H Q=>td σ H λx H1=> ∃a,x= .ref a/\IsD H1 a/\ty σ H1 λy H2=> ∃o,DGet H2 a y o/\Q (o.getD .non) H2
section
variable {X:Cx}{o e f:Expr}{apos cpos:Pos}{td ty tx:TE}
theorem zX (hu:X.A.units+1<cLine)(ho:PE X o td)(he:PE X e ty)(m:M1 X o "get" apos e cpos):PE X (.Call (.Attribute o "get" apos) [e] [] cpos) (FD td ty):=by
 intro pins s σ H Q I h;refine wpAny_Call_method m.base m.few m.line PySem.F.plainAttrs_dict Ov PySem.F.type_dict_get (bR (ho pins s σ H _ I h) λu s1 hh_=> ?_)
 obtain⟨x,H1,I1,rx,a,ex,d,q1⟩:=hh_;subst ex;obtain rfl:u=LR a:=rx;obtain⟨t1,t2,_⟩:=G8 I1 d;refine⟨t1,t2,?_⟩
 rw[m.trees];refine ND rfl (NV (N9 (bR (he pins s1 σ H1 _ I1 q1) λiv s2 ⟨y,H2,I2,ry,ov,g,q2⟩=>Om ?_)))
 exact Hs hu I2 g ry λw' s3 I3 rw'=>⟨_,H2,I3,rw',q2⟩
end
end L2
namespace Tr
open PySem PySem.Spec PyProof.Rows L2
theorem DGet.KN {H:Hp}{a b:Addr}{kvs:List (List Key×V)}{k:List Key}(e:Rd H a (.dT kvs))(eb:H b=some (.tup (k.map kV))):DGet H a (.ref b) (i9 kvs k):=.inr ⟨kvs,k,b,e,rfl,eb,rfl⟩
theorem HD {k:Nat}{A:L3}(h:Room k A):A.units+1<cLine:=by have:=h.un;omega
theorem nG {K:Ld}{O:Ow}{H:Hp}:∀{l:List T} {vs:List V} {k:List Key},nH l=some k->Reps K O H l vs->vs=k.map kV
 | [],vs,k,h,r=>by cases Reps.AC.mp r;cases h;rfl
 | t::l,vs,k,h,r=>by
  obtain⟨v,ws,rfl,p,q⟩:=Reps.me.mp r;unfold nH at h
  cases e1:ER t with
  | none=>rw[e1]at h;cases h
  | some a=>
   cases e2:nH l with
   | none=>rw[e1,e2]at h;cases h
   | some b=>
    rw[e1,e2]at h;cases h;rw[nG e2 q,Lk]
    congr 1
    cases t with
    | int i=>cases e1;exact Rep.Da.mp p
    | str x=>cases e1;exact Rep.GE.mp p
    | _=>cases e1
theorem ki {K:Ld}{O:Ow}{H:Hp}{y:T}{v:V}{k:List Key}(h:keyOf y=some k)(r:Rep K O H y v):∃b,v= .ref b/\H b=some (.tup (k.map kV)):=by
 cases y with
 | tup l=>
  obtain⟨a,vs,e1,_,e3,e4⟩:=Rep.Fk.mp r;rw[nG h e4]at e3
  exact⟨a,e1,e3⟩
 | _=>cases h
theorem ko {K:Ld}{O:Ow}{H:Hp}{k:List Key}:∀{ks ts:List T} {kvs:List (List Key×V)},ks.map keyOf=kvs.map (λp=>some p.1)->Reps K O H ts (kvs.map (·.2))->match lq ks ts k with
  | some t=> ∃v,i9 kvs k=some v/\Rep K O H t v
  | none=>i9 kvs k=none
 | [],ts,kvs,h,r=>by
  cases kvs with
  | nil=>unfold lq;exact zg
  | cons _ _=>cases h
 | k'::ks,ts,kvs,h,r=>by
  cases kvs with
  | nil=>cases h
  | cons p kvs=>
   rw[Lk,Lk]at h;injection h with h1 h2
   rw[Lk]at r
   cases ts with
   | nil=>have:=Reps.AC.mp r;cases this
   | cons t ts=>
    obtain⟨v,ws,e,q1,q2⟩:=Reps.me.mp r;injection e with e1 e2
    subst e1 e2;unfold lq
    by_cases hk:keyOf k'=some k
    ·rw[if_pos hk]
     rw[h1]at hk;injection hk with hk
     exact⟨_,jO hk,q1⟩
    ·rw[if_neg hk]
     have hk2:¬ p.1=k:=λz=>hk (by rw[h1,z])
     rw[jP hk2];exact ko h2 q2
theorem qF {κ:Type}[DecidableEq κ]{k:κ}{p:κ×V}{r:List (κ×V)}{v:V}(h:¬ p.1=k):dy (p::r) k v=p::dy r k v:=by
 unfold dy;rw[Ny,decide_eq_false h,Q0]
 by_cases q:(r.any λkv=>decide (kv.1=k))=true
 ·rw[if_pos q,if_pos q,Lk,if_neg h]
 ·rw[if_neg q,if_neg q];rfl
theorem qG {κ:Type}[DecidableEq κ]{k:κ}{p:κ×V}{r:List (κ×V)}{v:V}(h:p.1=k)(hn:∀q∈r,q.1≠k):dy (p::r) k v=(p.1,v)::r:=by
 unfold dy;rw[Ny,decide_eq_true h,Bool.true_or,if_pos rfl,Lk,if_pos h]
 congr 1
 conv=>rhs;rw[<-List.map_id r]
 exact MP λq hq=>if_neg (hn q hq)
theorem nW {K:Ld}{O:Ow}{H:Hp}{kT vT:T}{k:List Key}{v:V}(hk:keyOf kT=some k)(hv:Rep K O H vT v):∀{ks ts:List T} {kvs:List (List Key×V)},ks.map keyOf=kvs.map (λp=>some p.1)->Reps K O H ts (kvs.map (·.2))->(kvs.map (·.1)).Nodup →
  (gM kT vT ks ts).1.map keyOf=(dy kvs k v).map (λp=>some p.1)/\Reps K O H (gM kT vT ks ts).2 ((dy kvs k v).map (·.2))
 | [],ts,kvs,h,r,_=>by
  cases kvs with
  | nil=>
   unfold gM;refine⟨?_,Reps.FS hv Reps.Gc⟩
   simp[dy,hk]
  | cons _ _=>cases h
 | k'::ks,ts,kvs,h,r,hn=>by
  cases kvs with
  | nil=>cases h
  | cons p kvs=>
   rw[Lk,Lk]at h;injection h with h1 h2
   rw[Lk]at r;rw[Lk]at hn;obtain⟨n1,n2⟩:=LJ.mp hn
   cases ts with
   | nil=>have:=Reps.AC.mp r;cases this
   | cons t ts=>
    obtain⟨v',ws,e,q1,q2⟩:=Reps.me.mp r;injection e with e1 e2
    subst e1 e2;unfold gM
    by_cases hz:keyOf k'=keyOf kT
    ·rw[if_pos hz]
     have hp:p.1=k:=by rw[hz,hk]at h1;injection h1 with h1;exact h1.symm
     rw[qG hp λq hq z=>n1 (by rw[hp,<-z];exact List.mem_map_of_mem hq)]
     exact⟨by rw[Lk,Lk,h1,h2],Reps.FS hv q2⟩
    ·rw[if_neg hz]
     have hp:¬ p.1=k:=λz=>hz (by rw[h1,z,hk])
     obtain⟨a1,a2⟩:=nW hk hv h2 q2 n2;rw[qF hp];exact⟨by rw[Lk,Lk,h1,a1],Reps.FS q1 a2⟩
theorem Ey {H:Hp}{kvs:List (List Key×V)}{xs:List (List Key×Addr×Lh)}(rel:KT H kvs xs):kvs.map (·.1)=xs.map (·.1):=by
 induction rel with
 | nil=>rfl
 | cons h t ih=>rw[Lk,Lk,ih,h.1]
theorem BE {X:Cx}{pins:List (Addr×Obj)}{σ:L2.St}{H:Hp}{s:Lj}{a:Addr}{kvs:List (List Key×V)}(I:Inv X pins σ H s)(e:H a=some (.dT kvs)):(kvs.map (·.1)).Nodup/\kvs.length<=sizeLine:=by
 obtain⟨z,_,xs,rel,_,_,_,_,_,_,_,_,hn⟩:=Bx I.hok e;rw[Ey rel];exact⟨hn,z⟩
section
variable {X:Cx}{a b:Expr}{fa fb:En->Rs T}{pos:Pos}
theorem IC (hu:X.A.units+1<cLine)(ha:b6 X a fa)(hb:b6 X b fb)(hs:autoParam (Ex b) aqg._auto_1):b6 X (.Subscript a b pos) (o2 r6 fa fb):=by
 refine PE.imp (Dp hu ha hb hs) λσ H Q ⟨Z,O,E,hq⟩=> ?_
 obtain⟨Z1,O1,E1,h1⟩:=aT E hq;refine⟨Z1,O1,E1,Post.mono h1 λt H1 s1 q v r=> ?_⟩
 obtain⟨t',r',s',E',q'⟩:=q v r;obtain⟨Z2,O2,E2,h2⟩:=aT (f:=fb) E' q';refine⟨Z2,O2,E2,Post.mono h2 λt2 H2 s2 q2 v2 r2=> ?_⟩
 obtain⟨t2',r2',s2',E2',q2'⟩:=q2 v2 r2
 have r'':=r'.same s2';unfold r6 at q2'
 split at q2'
 ·rename_i ks vs k hk
  split at q2'
  ·rename_i x hx
   obtain⟨a,kvs,e1,e2,e3,e4,e5⟩:=Rep.GM.mp r'';obtain⟨b,f1,f2⟩:=ki hk r2'
   have g:=ko (k:=k) e4 e5;rw[hx]at g;obtain⟨w,g1,g2⟩:=g;exact⟨a,w,e1,by rw[f1,<-g1];exact DGet.KN e3 f2,q2' H2 (Same.refl H2) w g2⟩
  ·exact q2'.elim
 ·exact q2'.elim
end
end Tr
namespace Tr
open PySem PySem.Spec PyProof.Rows L2
open PySem.SeqAt
theorem Al {A:L3}{s:Lj}{x:T}{ux:Lh}(rx:ReV s x ux)(hu:A.units+60<cLine){l:List T}{us:List Lh}(hd:x.dep<=60\/deps l<=60)(r:ReVs s l us) :
  ∃e:Lh->Bool,(∀y∈us,EqAt A s y ux (e y))/\us.map e=l.map λt=>aV t x:=by
 classical
 have ex:∀y∈us,∃t∈l,ReV s t y:=λy hy=>by
  obtain⟨i,hi,rfl⟩:=Nx hy
  have hl:=r.length
  have e1:l[i]? =some l[i]:=by simp
  obtain⟨u,q1,q2⟩:=r.get e1
  have:us[i]? =some us[i]:=by simp
  rw[this]at q1;cases q1;exact⟨l[i],MB _,q2⟩
 let e:Lh->Bool:=λy=>decide (∃t∈l,ReV s t y/\aV t x=true)
 have dep:∀t∈l,t.dep<=60\/x.dep<=60:=λt ht=>by
  rcases hd with h | h
  ·exact .inr h
  ·obtain⟨i,hi,rfl⟩:=Nx ht
   exact .inl (Mf (iI (i:=i) (by simp)) h)
 have uniq:∀y t t',ReV s t y->ReV s t' y->aV t x=aV t' x:=λy t t' z z'=>by
  rw[<-kx t,<-kx t',ReV.nf z z']
 have agree:∀y t,t∈l->ReV s t y->e y=aV t x:=λy t h z=>by
  show decide (∃t∈l,ReV s t y/\aV t x=true)=aV t x
  cases q:aV t x with
  | true=>exact decide_eq_true ⟨t,h,z,q⟩
  | false=>
   refine decide_eq_false ?_
   rintro ⟨t',h',z',q'⟩
   rw[<-uniq y t t' z z',q]at q';cases q'
 refine⟨e,λy hy=> ?_,?_⟩
 ·obtain⟨t,h,z⟩:=ex y hy
  rw[agree y t h z];exact(DX 60 A s t x y ux (dep t h) hu z rx).1
 ·have go:∀(l':List T) (us':List Lh),(∀t∈l',t∈l)->ReVs s l' us'->us'.map e=l'.map λy=>aV y x:=by
   intro l'
   induction l' with
   | nil=>intro us' _ r';rw[ReVs.AC.mp r'];rfl
   | cons t l' ih=>
    intro us' sub r';obtain⟨u,ws,rfl,p,q⟩:=ReVs.me.mp r';rw[Lk,Lk,ih ws (λt ht=>sub t (Lg _ ht)) q,agree u t (sub t Ll) p]
  exact go l us (λ_ h=>h) r
theorem nQ {x:T}:∀{l:List T} {n k:Nat},i8 x l n=some k->n<=k/\(l.map λt=>aV t x)[k - n]? =some true/\∀m,m<k - n->(l.map λt=>aV t x)[m]? =some false
 | [],n,k,h=>by cases h
 | t::l,n,k,h=>by
  unfold i8 at h
  cases q:aV t x with
  | true=>
   rw[q,if_pos rfl]at h;cases h;refine⟨Lv _,?_,λm hm=>by omega⟩
   rw[Qb,Lk,q];rfl
  | false=>
   rw[q,if_neg (by decide)]at h
   obtain⟨h1,h2,h3⟩:=nQ h
   have e:k - n=(k - (n+1))+1:=by omega
   refine⟨by omega,?_,λm hm=> ?_⟩
   ·rw[e,Lk,MG];exact h2
   ·cases m with
    | zero=>rw[Lk,q];rfl
    | succ m=>rw[Lk,MG];exact h3 m (by omega)
section
variable {X:Cx}{a b:Expr}{fa fb:En->Rs T}{pos apos cpos:Pos}
theorem zF (hu:X.A.units+61<cLine)(ha:b6 X a fa)(hb:b6 X b fb)(hn:autoParam (bD b=true) aqd._auto_1)
  (hbase:autoParam (LU a "index" X.env (eval a X.env)=eval a X.env) aqd._auto_1) (hline:autoParam ((apos.endLine == cpos.line)=true) aqd._auto_1):b6 X (.Call (.Attribute a "index" apos) [b] [] cpos) (oL fO fa fb):=by
 have hs:LA [b] X.env=(false,eval b X.env)::LA [] X.env:=bz hn;intro pins s σ H Q I ⟨Z,O,E,hq⟩;refine P3 hbase (by rw[hs];rfl) hline rfl (bR (ha pins s σ H _ I (aT E hq)) λv s1 hh_=> ?_)
 obtain⟨x,H1,I1,r1,t,rt,s',E',q1⟩:=hh_
 cases t with
 | lst l=>
  obtain⟨c,vs,e1,e2,e3,e4⟩:=Rep.Do.mp rt;subst e1;obtain rfl:v=LR c:=r1;obtain⟨h1,h2⟩:=uK I1 (show RelV (.ref c) (.ref c)from rfl) (.inl ⟨rfl,vs,SqL.of e3⟩)
  refine⟨_,_,M4,PySem.F.slot_list_index,PySem.F.type_list_index,h1,h2,?_⟩
  rw[hs];refine ND rfl (NV (N9 (bR (hb pins s1 σ H1 _ I1 (aT (f:=fb) E' q1)) λu s2 ⟨y,H2,I2,r2,t2,rt2,s'',E'',q2⟩=>Om ?_)))
  unfold fO at q2
  split at q2
  ·rename_i l' heq
   cases heq
   split at q2
   ·rename_i hd3
    obtain⟨hd,hnx,hny⟩:=hd3
    split at q2
    ·rename_i k hk
     have rv:=Rep.val I2 (show(T.lst l).nd=true by unfold T.nd;exact hny) (rt.same s'') (show RelV (.ref c) (.ref c)from rfl)
     unfold ReV at rv;obtain⟨c',us,ec,hl,rs⟩:=rv;cases ec;obtain⟨⟨cls,dd,data,sl⟩,ho,hc,n,hdd⟩:=id hl;simp only at hc hdd;subst hc hdd;obtain⟨e,he,ha⟩:=Al (A:=X.A.in1) (Rep.val I2 hnx rt2 r2) (by show X.A.units+1+60<cLine;omega) hd rs
     obtain⟨_,k1,k2⟩:=nQ hk;rw[RF]at k1 k2;rw[<-ha]at k1 k2
     have hkl:k<us.length:=by have:=(Lz.mp k1).1;rwa [Ln]at this
     have hz:us.length<=sizeLine:=by
      have z:=(I2.Kf (s'' _ _ e3)).1
      have h3:=rs.length
      have h4:=e4.length;omega
     refine Os F.slot_list_index ⟨_,ho,rfl⟩ F.entry_list_index (F.args_list_index_2 _ _) (list_indexAt c us.toArray n dd sl u e k (by simpa using hkl) (by rw[OZ]at hz;omega) ?_ ?_) ⟨ho,λy hy=>he y (by simpa using hy),?_⟩
     ·have:=(Lz.mp k1).2
      rw[PU]at this
      simpa using this
     ·intro m hm hmk
      have:=(Lz.mp (k2 m hmk)).2
      rw[PU]at this
      simpa using this
     ·exact⟨.int _,H2,I2.tok _,⟨_,rfl⟩,q2 H2 (Same.refl H2) _ (Rep.GT _)⟩
    ·exact q2.elim
   ·exact q2.elim
  ·rename_i hno
   exact(hno l rfl).elim
 | _=>exact q1.elim
theorem F9 (hu:X.A.units+1<cLine)(ha:b6 X a fa)(hb:b6 X b fb)(hn:autoParam (bD b=true) aqd._auto_1)
  (hbase:autoParam (LU a "get" X.env (eval a X.env)=eval a X.env) aqd._auto_1) (hline:autoParam ((apos.endLine == cpos.line)=true) aqd._auto_1):b6 X (.Call (.Attribute a "get" apos) [b] [] cpos) (oD g9 fa fb):=by
 have hs:LA [b] X.env=(false,eval b X.env)::LA [] X.env:=bz hn;refine PE.imp (zX hu ha hb ⟨hbase,by rw[hs];rfl,hline,by rw[hs];rfl⟩) λσ H Q ⟨Z,O,E,hq⟩=> ?_
 obtain⟨Z1,O1,E1,h1⟩:=aT E hq;refine⟨Z1,O1,E1,Post.mono h1 λt H1 s1 q v r=> ?_⟩
 obtain⟨t',r',s',E',q'⟩:=q v r
 cases t' with
 | dct ks vs=>
  obtain⟨c,kvs,e1,e2,e3,e4,e5⟩:=Rep.GM.mp r';refine⟨c,e1,.inr ⟨kvs,e3⟩,?_⟩
  obtain⟨Z2,O2,E2,h2⟩:=aT (f:=fb) E' q';refine⟨Z2,O2,E2,Post.mono h2 λt2 H2 s2 q2 v2 r2=> ?_⟩
  obtain⟨t2',r2',s2',E2',q2'⟩:=q2 v2 r2;unfold g9 at q2'
  split at q2'
  ·rename_i ks' vs' k heq hk
   cases heq;obtain⟨b,f1,f2⟩:=ki hk r2'
   have g:=ko (k:=k) e4 (e5.same s2');refine⟨i9 kvs k,by rw[f1];exact DGet.KN (Rd.KB (P:=kB) (SameO.of s2') (λz=>z) e3) f2,?_⟩
   cases hx:lq ks vs k with
   | some z=>
    rw[hx]at g q2';obtain⟨w,g1,g2⟩:=g;rw[g1]
    exact q2' H2 (Same.refl H2) w g2
   | none=>
    rw[hx]at g q2';rw[g];exact q2' H2 (Same.refl H2) .non Rep.Kx
  ·exact q2'.elim
 | _=>exact q'.elim
theorem Gs (hu:X.A.units+1<cLine):OpT X (L7 .In) BA:=by
 intro pins s σ H O x y vx vy ux uy Q I hf rx ry r1 r2 hp;unfold BA at hp
 split at hp
 ·rename_i ks vs k hk
  obtain⟨c,kvs,e1,e2,e3,e4,e5⟩:=Rep.GM.mp ry;obtain⟨b,f1,f2⟩:=ki hk rx;subst e1 f1;obtain rfl:uy=LR c:=r2
  have g:=ko (k:=k) e4 e5
  have hsome:(lq ks vs k).isSome=(i9 kvs k).isSome:=by
   cases hx:lq ks vs k with
   | some z=>rw[hx]at g;obtain⟨w,g1,_⟩:=g;rw[g1];rfl
   | none=>rw[hx]at g;rw[g];rfl
  refine d_in hu I (DGet.KN e3 f2) r1 λs' I'=>⟨.bl _,H,I',rfl,?_⟩
  rw[<-hsome];exact hp H (Same.refl H) _ (Rep.bl_ _)
 ·exact hp.elim
end
end Tr
namespace Tr
open PySem PySem.Spec PyProof.Rows L2
section
variable {X:Cx}{a b c:Expr}{fa fb fc:En->Rs T}{pos p2 p3 p4:Pos}{x:Str}
theorem FR (i:Nat)(hu:X.A.units+1<cLine)(hb:b6 X b fb)(hc:b6 X c fc)(hN:autoParam (X.N[i]? =some x) aqd._auto_1)(hv:autoParam (oo X.env.scope x) aqe._auto_1)
  (hd:autoParam ((x == ("__debug__" : Str))=false) aqb._auto_1) (hcd:autoParam ((x == ("__classdict__" : Str))=false) aqb._auto_1)
  (hs:autoParam (Me c (some (.Subscript (.Name x p2) b p3)) pos.line X.env=pure false) aqd._auto_1):mx X (.Assign [.Subscript (.Name x p2) b p3] c pos) (ya i fb fc):=by
 intro pins s σ H D I ⟨Z,B,M,E,h⟩;refine De hu (fY hN hv hd hcd) hb hc hs pins s σ H D I ?_
 unfold ya at h
 split at h
 ·rename_i ks vs hl
  obtain⟨v0,e1,d,kvs,rfl,hM,e3,e4,e5⟩:=E.env.own i _ hl;obtain⟨nd,nz⟩:=BE I e3;refine⟨Z,OO B M,E.o,?_⟩
  cases q:fc Z with
  | bad=>rw[q]at h;exact h.elim
  | err c=>rw[q]at h;exact PostF.xa h
  | ok vT=>
   rw[q,az]at h;intro H1 s1 v r;refine⟨.ref d,e1,Z,OO B M,(E.same s1).o,?_⟩
   have h1:=h.later (SameO.of s1) (P1:=M.u) λa z=> .inl z
   cases q2:fb Z with
   | bad=>rw[q2]at h1;exact h1.elim
   | err c=>rw[q2]at h1;exact PostF.xa h1
   | ok kT=>
    rw[q2,az]at h1;intro H2 s2 y ry
    cases q3:keyOf kT with
    | none=>rw[q3]at h1;exact h1.elim
    | some k=>
     rw[q3]at h1
     have h2:=h1.later (SameO.of s2) (P1:=M.u) λa z=> .inl z
     have hlen:ks.length=kvs.length:=by have:=congrArg M8 e4;simpa using this
     by_cases hz:ks.length<1000
     ·simp only[if_pos hz]at h2
      obtain⟨kb,f1,f2⟩:=ki q3 ry
      have e3':=s2 _ _ (s1 _ _ e3);obtain⟨g1,g2⟩:=nW q3 (r.same s2) e4 ((e5.same s1).same s2) nd;refine⟨d,upd H2 d (.dT (dy kvs k v)),rfl,by rw[f1];exact DPut.t e3' f2 (by rw[OZ];omega),?_⟩
      have sm:SameO (M i) H2 (upd H2 d (.dT (dy kvs k v))):=λc u e nb=>by rw[aH (λz=>nb ((hM c).mpr z))];exact e
      obtain⟨g3,g4⟩:=((E.same s1).same s2).put (o':=.dct (gM kT vT ks vs).1 (gM kT vT ks vs).2) hl e1 sm ⟨d,_,rfl,hM,aQ,g1,g2.move (P:=M i) (λa z=> .inl (.inr ⟨i,z⟩)) (λa z=> .inl z) sm⟩
      exact h2 σ _ M g4 g3 λc z=> .inl z
     ·simp only[if_neg hz]at h2
      exact h2.elim
 ·exact h.elim
end
end Tr
namespace PySem
open Sem (wp)
namespace F
theorem lk_list_keys:Rq (.type "list") "keys" =pure none:=by rw[Sh,Qp];kernel_rfl
theorem lk_list_getattr:Rq (.type "list") "__getattr__" =pure none:=by rw[Sh,Qp];kernel_rfl
end F
section
variable {prog:LP}{w:Mh}{A:L3}{E:Lh->Lj->Prop}{h:Heap}{g:Array GenState}{d:Drawn}{t:Nat}{os:Pk}{a:Addr}{its:Array Lh}{n:Nat}
theorem lT {tk:Tok}{Q:Fin->Lj->Prop}(hx:h.get? a=some { cls:=.type "list",data:=.seq its n })(hh:A.handled=none)
  (hq:∀h' tk' e,R9 h h' e (.ref a) "keys"->E (.ref e) ⟨h',g,d,tk',os⟩) :
  wpAny (model prog w) A (Builtin.«object.__getattribute__» ⟨[.ref a,.str "keys" tk],[]⟩) Q E ⟨h,g,d,t,os⟩:=by
 have hT:(⟨h,g,d,t,os⟩:Lj).TypeIs (.ref a) "list":=⟨_,hx,rfl⟩
 have f4:=F.lk_list_keys
 repeat (any_goals (first | assumption | wp_step))
 exact wpAny_raiseAttrError hh (λh' tk e hx=>hq h' tk e hx) (attrMsg_fits (by decide+kernel) (by rw[OZ];decide))
theorem nE {tk:Tok}{R:Sd->Lj->Prop}(hx:h.get? a=some { cls:=.type "list",data:=.seq its n })(hh:A.handled=none)
  (hq:∀h' tk' e,R9 h h' e (.ref a) "keys"->R (.error (.ref e)) ⟨h',g,d,tk',os⟩) :
  codeAny (model prog w) A (.call (.builtin "list.__getattribute__") ⟨[.ref a,.str "keys" tk],[]⟩) R ⟨h,g,d,t,os⟩:=
 codeAny_call_builtin Nq.plain F.entry_list_ga (Nq.check _ _ _ _ _ _ _ _ (show(⟨h,g,d,t,os⟩:Lj).TypeIs (.ref a) "list" from⟨_,hx,rfl⟩) (F.args_list_getattribute_2 _ _) (lT hx hh hq))
theorem nF {Q:Option Lh->Lj->Prop}(hx:h.get? a=some { cls:=.type "list",data:=.seq its n })(hh:A.handled=none)
  (hq:∀h' tk',(∀b o,h.get? b=some o->h'.get? b=some o)->Q none ⟨h',g,d,tk',os⟩):wpAny (model prog w) A (getAttr? (.ref a) "keys") Q E ⟨h,g,d,t,os⟩:=by
 have hT:∀tk,(⟨h,g,d,tk,os⟩:Lj).TypeIs (.ref a) "list":=λ_=>⟨_,hx,rfl⟩
 have f1:=sub_AttributeError
 have f2:=Nq.lookup
 have f3:=Nq.bind (.ref a)
 have f5:=F.lk_list_getattr;unfold getAttr? getAttrBy? getAttrBy
 repeat (any_goals (first | assumption | exact hT _ | wp_step))
 refine nE hx hh λh' tk' e hx'=> ?_
 obtain⟨t',u',he⟩:=hx'.there
 repeat (any_goals (first | assumption | exact hT _ | wp_step))
 exact hq _ _ hx'.keeps
end
end PySem
namespace PySem.F
theorem entry_dict_update_loop:entryFor table "dict.update.loop" =some Builtin.«dict.update.loop»:=entryFor_of_tree (by kernel_rfl)
theorem plain_dict_update_loop:plainId "dict.update.loop" =true:=by decide+kernel
end PySem.F
namespace Tr
open PySem PySem.Spec PyProof.Rows L2
def iw (kvs:List (List Key×V)):List (List Key×V)->List (List Key×V)
 | [] =>kvs
 | p::ps=>iw (dy kvs p.1 p.2) ps
def PairsAt (H:Hp):List V->List (List Key×V)->Prop
 | [],ps=>ps= []
 | x::xs,ps=> ∃b kb p r,ps=p::r/\x= .ref b/\H b=some (.tup [.ref kb,p.2])/\H kb=some (.tup (p.1.map kV))/\PairsAt H xs r
theorem PairsAt.upd {H:Hp}{d:Addr}{kvs:List (List Key×V)}{o:HO}(hd:H d=some (.dT kvs)):∀{xs:List V} {ps:List (List Key×V)},PairsAt H xs ps->PairsAt (L2.upd H d o) xs ps
 | [],_,h=>h
 | x::xs,_,⟨b,kb,p,r,e1,e2,e3,e4,e5⟩=>⟨b,kb,p,r,e1,e2,by rw[aH (ny e3 hd (λz=>nomatch z))];exact e3,by rw[aH (ny e4 hd (λz=>nomatch z))];exact e4,e5.upd hd⟩
theorem qk {H:Hp}{d:Addr}{a b:HO}:upd (upd H d a) d b=upd H d b:=by
 funext c
 by_cases h:c=d
 ·rw[h,aQ,aQ]
 ·rw[aH h,aH h,aH h]
section
variable {X:Cx}{pins:List (Addr×Obj)}{σ:L2.St}{A:L3}{res:Lh}{R:Sd->Lj->Prop}{d l it:Addr}{xs:List V}
theorem yH (hh:A.handled=none)(hu:A.units+3<cLine):∀(k i:Nat) (s:Lj) (H:Hp) (kvs ps:List (List Key×V)),xs.length - i=k->i<=xs.length->H l=some (.lst xs)->H d=some (.dT kvs)->kvs.length+(xs.length - i)<=1000->Inv X pins σ H s->s.heap.IsListIter it l i->ou X pins H it->PairsAt H (xs.drop i) ps →
  (∀s',Inv X pins σ (upd H d (.dT (iw kvs ps))) s'->R (.ok (.ret res)) s')->codeAny (model X.prog X.w) A (.builtin "dict.update.loop" ⟨[.ref d,.ref it,rawInt i,res],[]⟩) R s:=by
 intro k
 induction k with
 | zero=>
  intro i s H kvs ps hk hi hl hd hz I hit hf hp hR;refine Si F.entry_dict_update_loop ?_
  rw[Qu F.plain_dict_update_loop _];obtain⟨z,its,n,r,hlen,e⟩:=I.Kf hl
  have hL:s.heap.IsList l its.toArray:=⟨_,e,rfl,n,rfl⟩
  show wpAny _ A.in1 (pyNext (.ref it) >>= _) _ _ s
  refine Li (Ql hh hit hL (by simp;omega) λh' hm=> ?_)
  show wpAny _ _ (Builtin.Dict.addKeywords d [] >>= _) _ _ _
  refine Li (Lr (Lr ?_))
  have hnil:xs.drop i= []:=Oj (by omega)
  rw[hnil]at hp;unfold PairsAt at hp;subst hp
  have e2:upd H d (.dT (iw kvs []))=H:=by
   funext b
   by_cases hb:b=d
   ·rw[hb,aQ,hd];rfl
   ·rw[aH hb]
  rw[e2]at hR
  exact hR _ (I.Kk (fp:=[it]) (t':=s.toks) (λb hb=>by rw[Ly.mp hb];exact hf) λb o hb eb=>hm b o (λz=>hb (by rw[z];exact Ly.mpr rfl)) eb)
 | succ k ih=>
  intro i s H kvs ps hk hi hl hd hz I hit hf hp hR;refine Si F.entry_dict_update_loop ?_
  rw[Qu F.plain_dict_update_loop _];obtain⟨z,its,n,r,hlen,e⟩:=I.Kf hl
  have hL:s.heap.IsList l its.toArray:=⟨_,e,rfl,n,rfl⟩
  have hlt:i<xs.length:=by omega
  have hlt':i<its.length:=by omega
  show wpAny _ A.in1 (pyNext (.ref it) >>= _) _ _ s
  refine Li (PZ hit hL (x:=its[i]) (by simp[hlt']) λh' hit' hm=> ?_)
  have I1:Inv X pins σ H { s with heap:=h' }:=I.Kk (fp:=[it]) (t':=s.toks) (λb hb=>by rw[Ly.mp hb];exact hf) λb o hb eb=>(hm.2 b (λz=>hb (by rw[z];exact Ly.mpr rfl))).trans eb
  have hdrop:xs.drop i=xs[i] ::xs.drop (i+1):=NW hlt;rw[hdrop]at hp;obtain⟨b,kb,p,r',rfl,ex,hb,hkb,hp'⟩:=hp
  have rx:RelV xs[i] its[i]:=by
   obtain⟨u,q1,q2⟩:=r.get (Ls hlt)
   rw[Ls hlt']at q1
   cases q1;exact q2
  rw[ex]at rx
  have eu:its[i] =LR b:=rx;rw[eu];obtain⟨z2,its2,r2,ob,hob1,hob2,nb,hob3⟩:=(show ObjOk X.prog X.w H h' b (.tup [.ref kb,p.2])from I1.hok b _ hb)
  obtain⟨u1,us1,q1,rfl⟩:∃u1 us1,RelV (V.ref kb) u1/\its2=u1::us1:=by cases r2 with | cons a b=>exact⟨_,_,a,rfl⟩
  cases r2 with
  | cons ra rb=>
   obtain⟨u2,q2,rfl⟩:∃u2,RelV p.2 u2/\us1= [u2]:=by cases rb with | cons a b=>cases b;exact⟨_,a,rfl⟩
   obtain rfl:u1=LR kb:=q1
   show wpAny _ A.in1 (holding [LR b] _ >>= _) _ _ _
   refine Li (ON ?_)
   refine Li (wpAny_tryCatch ?_)
   unfold Builtin.Dict.pairItems;refine Li (OB (s:={ s with heap:=h' }) (T:="tuple") ⟨ob,hob1,hob2⟩ ?_)
   rw[if_pos (by decide)]
   refine Li (Qx (s:={ s with heap:=h' }) hob1 hob3 (Lr ?_))
   show wpAny _ _ (holding [LR kb,u2] (dictSet d (.ref kb) u2)) _ _ _
   refine ON ?_
   obtain⟨zz,hds,xs2,rel,dd⟩:=Bx I1.hok hd
   have hzl:xs2.length<=sizeLine:=by rw[<-PL rel];exact zz
   have hkl:kvs.length<sizeLine:=by rw[OZ];omega
   have hl2:(dy kvs p.1 p.2).length<=sizeLine:=by have:=fQ kvs p.1 p.2;omega
   refine wpAny_dictSet_heap (hsz:=hzl) (NI (by show A.units+1<cLine;omega)) (k9 I1.hok hkb) dd λh2 dd2 hs2=> ?_
   obtain⟨q,es,ep,hq,h22,h3,h4,_,h5⟩:=dd2
   have I2:Inv X pins σ (upd H d (.dT (dy kvs p.1 p.2))) { s with heap:=h2,toks:=s.toks+(Pz (cm X.prog X.w)).draws p.1 }:=
    r9 (s:={ s with heap:=h' }) I1 (by rw[hd];exact Nn) hs2 ⟨q,hq⟩ ⟨hl2,hds,_,(rel.put p.1 hkb q2).keeps λc ys ec=>by rw[aH (ny ec hd (λz=>nomatch z))];exact ec,q,es,ep,hq,h22,h3,h4,h5⟩
   have hld:l≠d:=ny hl hd (λz=>nomatch z)
   have hitd:it≠d:=λz=>by have:=hf.1;rw[z,hd]at this;cases this
   have hcast:(i:Int)+1=((i+1:Nat):Int):=by omega
   refine Lr ⟨plainId_quiet F.plain_dict_update_loop _,?_⟩
   rw[hcast];refine ih (i+1) _ (upd H d (.dT (dy kvs p.1 p.2))) (dy kvs p.1 p.2) r' (by omega) (by omega) (by rw[aH hld];exact hl) aQ (by have:=fQ kvs p.1 p.2;omega) I2 ?_ ⟨by rw[aH hitd];exact hf.1,hf.2⟩ (hp'.upd hd) λs' I'=> ?_
   ·obtain⟨oi,ho1,ho2,ho3⟩:=hit'
    exact⟨oi,(hs2.2 it hitd).trans ho1,ho2,ho3⟩
   ·rw[qk]at I'
    exact hR s' I'
end
theorem PairsAt.same {H H':Hp}(s:Same H H'):∀{xs:List V} {ps:List (List Key×V)},PairsAt H xs ps->PairsAt H' xs ps
 | [],_,h=>h
 | x::xs,_,⟨b,kb,p,r,e1,e2,e3,e4,e5⟩=>⟨b,kb,p,r,e1,e2,s _ _ e3,s _ _ e4,e5.same s⟩
section
variable {X:Cx}{pins:List (Addr×Obj)}{σ:L2.St}{A:L3}{E:Lh->Lj->Prop}{H:Hp}{s:Lj}{l:Addr}{xs:List V}{ps:List (List Key×V)}
theorem BB {Q:Lh->Lj->Prop}(hh:A.handled=none)(hu:A.units+8<cLine)(I:Inv X pins σ H s)(hl:H l=some (.lst xs))(hz:xs.length<=1000)(hp:PairsAt H xs ps)
  (h:∀p s',Nw X.K H p->Inv X pins σ (upd H p (.dT (iw [] ps))) s'->Q (.ref p) s'):wpAny (model X.prog X.w) A (call (.type "dict") [.ref l]) Q E s:=by
 have hk:X.K.lookup s.heap.objs.size=none:=by
  cases q:X.K.lookup s.heap.objs.size with
  | none=>rfl
  | some o=>exact absurd (Lw (I.kIn _ o q)) (LV _)
 have hn:H s.heap.objs.size=none:=I.hok.fresh (Lv _)
 have hlp:l≠s.heap.objs.size:=λz=>by rw[z,hn]at hl;cases hl
 refine callType_codes (Q₁:=λobj s₁=>obj= .ref s.heap.objs.size/\s₁= { s with heap:=s.heap.push { cls:=.type "dict",data:=.dict #[] } }) F.kt_called_dict (F.kt_typeCall_dict_1 _) F.entry_dict_init (kt_code_dict_new _ ⟨rfl,rfl⟩) ?_
 rintro obj s₁ ⟨rfl,rfl⟩
 have I1:Inv X pins σ (upd H s.heap.objs.size (.dT [])) { s with heap:=s.heap.push { cls:=.type "dict",data:=.dict #[] } }:=I.laid (a:=s.heap.objs.size) (o:=.dT []) (t':=s.toks) (λ_ _ q=>Lq _ q) (Lv _) (By s.heap I.big)
 have hT:({ s with heap:=s.heap.push { cls:=.type "dict",data:=.dict #[] } }:Lj).TypeIs (.ref s.heap.objs.size) "dict":=⟨_,LB _ rfl,rfl⟩
 have hl1:upd H s.heap.objs.size (.dT []) l=some (.lst xs):=by rw[aH hlp];exact hl
 obtain⟨z,its,n,r,hlen,e⟩:=I1.Kf hl1;refine⟨hT,F.args_dict_init_2 _ _,?_⟩
 unfold Builtin.«dict.__init__»;refine Li ?_
 unfold Builtin.Dict.selfAndRest;refine Li (wpAny_notOrdered_dict hT ?_)
 show wpAny _ _ (pure (s.heap.objs.size,[LR l])) _ _ _
 refine Lr ?_
 show wpAny _ _ (PJ "dict.__init__" s.heap.objs.size (.ref l) [] .none) _ _ _
 unfold PJ;refine Li (OB (T:="list") ⟨_,e,rfl⟩ ?_)
 rw[if_pos (by decide)]
 refine Li (nF e hh λh' tk' kp=> ?_)
 have I2:Inv X pins σ (upd H s.heap.objs.size (.dT [])) { s with heap:=h',toks:=tk' }:=I1.kept (t':=tk') kp
 rw[if_pos (by rfl)]
 refine Li (Rt ?_)
 have eL:({ s with heap:=h',toks:=tk' }:Lj).heap.IsList l its.toArray:=⟨_,kp _ _ e,rfl,n,rfl⟩
 refine Li (PB eL ?_)
 have I3:Inv X pins σ (upd H s.heap.objs.size (.dT [])) { s with heap:=h'.push { cls:=.type "list_iterator",data:=.fields #[.ref l,.int 0 0] },toks:=tk' }:=I2.kept (t':=tk') λb u q=>Lq _ q
 have hpl:s.heap.objs.size<h'.objs.size:=Lw (kp _ _ (LB _ rfl))
 have hni:upd H s.heap.objs.size (.dT []) h'.objs.size=none:=by
  rw[aH (Pc hpl)];exact I.hok.fresh (N4 hpl)
 have hp1:PairsAt (upd H s.heap.objs.size (.dT [])) xs ps:=hp.same (aZ hn _);refine Lr ⟨plainId_quiet F.plain_dict_update_loop _,?_⟩
 refine yH (A:=A.in1) (X:=X) (pins:=pins) (σ:=σ) (l:=l) (xs:=xs) (it:=h'.objs.size) hh (by show A.units+1+3<cLine;omega) xs.length 0 _ (upd H s.heap.objs.size (.dT [])) [] ps (by omega) (Nk _) hl1 aQ (by simp;omega) I3 ⟨_,LB _ rfl,rfl,rfl⟩ (I2.Ku (Lv _) hni) hp1 λs' I'=> ?_
 rw[qk]at I';exact⟨rfl,h _ _ ⟨hn,hk⟩ I'⟩
end
theorem hu8 {k:Nat}{A:L3}(h:Room k A):A.units+8<cLine:=by have:=h.un;omega
theorem vi {kvs:List (List Key×V)}{k:List Key}{v:V}(h:(kvs.map (·.1)).Nodup):((dy kvs k v).map (·.1)).Nodup:=by
 unfold dy
 by_cases a:(kvs.any λkv=>decide (kv.1=k))=true
 ·rw[if_pos a,N5]
  have:((λx=>x.1)∘λkv:List Key×V=>if kv.1=k then(kv.1,v)else kv)=λx=>x.1:=by
   funext x
   show(if x.1=k then(x.1,v)else x).1=x.1
   by_cases e:x.1=k
   ·rw[if_pos e]
   ·rw[if_neg e]
  rw[this];exact h
 ·rw[if_neg a,MY,Mt]
  refine⟨h,by simp,λx hx y hy=> ?_⟩
  simp only[Lk,P7,Ly]at hy;subst hy;intro z;subst z;obtain⟨p,hp,e⟩:=LQ.mp hx;exact a (List.any_eq_true.mpr ⟨p,hp,decide_eq_true e⟩)
def J7 (K:Ld)(O:Ow)(H:Hp):List (T×T)->List (List Key×V)->Prop
 | [],ps=>ps= []
 | a::l,ps=> ∃p r,ps=p::r/\keyOf a.1=some p.1/\Rep K O H a.2 p.2/\J7 K O H l r
theorem pW {K:Ld}{O:Ow}{H:Hp}:∀{l:List (T×T)} {ps:List (List Key×V)} {ks ts:List T} {kvs:List (List Key×V)},J7 K O H l ps->ks.map keyOf=kvs.map (λp=>some p.1)->Reps K O H ts (kvs.map (·.2))->(kvs.map (·.1)).Nodup →
  (iH l (ks,ts)).1.map keyOf=(iw kvs ps).map (λp=>some p.1)/\Reps K O H (iH l (ks,ts)).2 ((iw kvs ps).map (·.2))
 | [],ps,ks,ts,kvs,h,h1,h2,hn=>by unfold J7 at h;subst h;exact⟨h1,h2⟩
 | (a,b)::l,ps,ks,ts,kvs,h,h1,h2,hn=>by
  obtain⟨p,r,rfl,e1,e2,e3⟩:=h;obtain⟨g1,g2⟩:=nW (vT:=b) e1 e2 h1 h2 hn
  show(iH l (gM a b ks ts)).1.map keyOf=(iw (dy kvs p.1 p.2) r).map (λp=>some p.1)/\Reps K O H (iH l (gM a b ks ts)).2 ((iw (dy kvs p.1 p.2) r).map (·.2))
  exact pW (l:=l) e3 g1 g2 (vi hn)
theorem wB {K:Ld}{O:Ow}{H:Hp}:∀{l:List T} {tps:List (T×T)} {xs:List V},Hz l=some tps->Reps K O H l xs->∃ps,PairsAt H xs ps/\J7 K O H tps ps
 | [],tps,xs,h,r=>by cases Reps.AC.mp r;cases h;exact⟨[],rfl,rfl⟩
 | t::l,tps,xs,h,r=>by
  obtain⟨v,ws,rfl,p,q⟩:=Reps.me.mp r;unfold Hz at h
  split at h
  ·rename_i heq;cases heq
  ·rename_i k v' l' heq
   cases heq
   split at h
   ·rename_i kk rr hk hr
    cases h;obtain⟨ps,g1,g2⟩:=wB hr q;obtain⟨b,vs,e1,e2,e3,e4⟩:=Rep.Fk.mp p;obtain⟨u1,us1,rfl,f1,f2⟩:=Reps.me.mp e4;obtain⟨u2,us2,rfl,f3,f4⟩:=Reps.me.mp f2;cases Reps.AC.mp f4;obtain⟨kb,f5,f6⟩:=ki hk f1;subst f5;exact⟨(kk,u2)::ps,⟨b,kb,(kk,u2),ps,rfl,e1,e3,f6,g1⟩,⟨(kk,u2),ps,rfl,hk,f3,g2⟩⟩
   ·cases h
  ·cases h
section
variable {X:Cx}{e:Expr}{f:En->Rs T}{x y:Str}{p pos p2 p3:Pos}
def FC (X:Cx)(f:En->Rs T):TE:=λσ H Q=>tP X f σ H λv H'=> ∃a xs ps,v= .ref a/\H' a=some (.lst xs)/\xs.length<=1000/\PairsAt H' xs ps/\∀q,Nw X.K H' q->Q (.ref q) (upd H' q (.dT (iw [] ps)))
theorem zW (hu:X.A.units+8<cLine)(hc:X.calm=true)(hm:X.mg "dict" =none)(ha:b6 X e f)(hg:Gl X "dict")(hs:bD e=true):PE X (.Call (.Name "dict" p) [e] [] pos) (FC X f):=by
 have h1:LA [e] X.env=(false,eval e X.env)::LA [] X.env:=bz hs;intro pins s σ H Q I hq;refine MH (jB I hg hm (show Ma "dict" =some (.type "dict")by decide+kernel) ?_ (by decide) (by decide))
 refine M7 (bR (fM (te:=tP X f) ha kI h1 pos pins s σ H (λxs H'=> ∃v,xs= [v]/\∃a xs ps,v= .ref a/\H' a=some (.lst xs)/\xs.length<=1000/\PairsAt H' xs ps/\∀q,Nw X.K H' q->Q (.ref q) (upd H' q (.dT (iw [] ps)))) I ?_) λus s1 hh=> ?_) h1 rfl
 ·obtain⟨Z,O,E,h⟩:=hq
  exact⟨Z,O,E,Post.mono h λt H' _ g v r=>⟨v,rfl,g v r⟩⟩
 ·obtain⟨vs,H1,I1,r1,v,rfl,a,xs,ps,ev,e1,e2,e3,e4⟩:=hh
  subst ev;obtain⟨u,rfl,ru⟩:=r1.one;obtain rfl:u=LR a:=ru;exact BB (I1.ok.hd hc) hu I1 e1 e2 e3 λq s' nw I'=>⟨.ref q,_,I',rfl,e4 q nw⟩
theorem CL (i:Nat)(hu:X.A.units+8<cLine)(hc:X.calm=true)(hm:X.mg "dict" =none)(hN:X.N.Nodup)(ha:b6 X e f)(hst:autoParam (bD e=true) aqd._auto_1)(hg:autoParam (Gl X "dict") aqd._auto_1)(hi:autoParam (X.N[i]? =some x) aqd._auto_1)(hx:autoParam (Loc X.env.scope x) aqh._auto_1)(hs:autoParam (Me (.Call (.Name "dict" p) [e] [] p2) (some (.Name x p3)) pos.line X.env=pure false) aqd._auto_1)
  (hf:autoParam (X.fn x=true\/X.env.scope.names.lookup x=some .local) aqa._auto_1):mx X (.Assign [.Name x p3] (.Call (.Name "dict" p) [e] [] p2) pos) (pD i f):=PS.imp (qH hN hi hx (zW hu hc hm ha hg hst) hs hf) λD σ H hh_=>by
 obtain⟨Z,B,M,E,h⟩:=hh_;refine⟨Z,OO B M,E.o,?_⟩
 unfold pD at h
 cases q:f Z with
 | bad=>rw[q]at h;exact h.elim
 | err c=>rw[q]at h;exact PostF.xa h
 | ok t=>
  rw[q,az]at h;intro H1 s1 v r
  have h1:=h.later (SameO.of s1) (P1:=M.u) λa z=> .inl z
  cases t with
  | lst l=>
   obtain⟨a,xs,rfl,e2,e3,e4⟩:=Rep.Do.mp r;unfold xv at h1
   split at h1
   ·rename_i l' heq
    cases heq
    split at h1
    ·rename_i tps hps
     by_cases hz:l.length<=1000
     ·rw[if_pos hz,az]at h1
      obtain⟨ps,g1,g2⟩:=wB hps e4;refine⟨a,xs,ps,rfl,e3,by rw[<-e4.length];exact hz,g1,λnd nw=> ?_⟩
      by_cases hl:i<Z.length
      ·simp only[if_pos hl]at h1
       have hm:∀a,a=nd->Nw X.K H1 a:=λa z=>z▸nw
       obtain⟨k1,k2⟩:=pW (ks:=[]) (ts:=[]) (kvs:=[]) g2 rfl Reps.Gc NB;obtain⟨E2,sub⟩:=(E.same s1).new (m:=λa=>a=nd) (o:=.dct (iH tps ([],[])).1 (iH tps ([],[])).2) (v:=.ref nd) (H':=upd H1 nd (.dT (iw [] ps))) hl hm (aZ nw.1 _) ⟨nd,_,rfl,λb=>Oo,aQ,k1,(k2.more (Ev.subO hm)).same (aZ nw.1 _)⟩
       exact h1 _ _ _ (SameO.of (aZ nw.1 _)) E2 sub
      ·simp only[if_neg hl]at h1;exact h1.elim
     ·rw[if_neg hz]at h1;exact h1.elim
    ·exact h1.elim
   ·rename_i hno
    exact(hno l rfl).elim
  | _=>exact h1.elim
end
theorem jy {K:Ld}{O:Ow}{H:Hp}:∀{l:List T} {ns:List Int} {xs:List V} {us:List Lh},j9 l=some ns->Reps K O H l xs->Vals xs us->OJ us ns
 | [],ns,xs,us,h,r,v=>by cases Reps.AC.mp r;cases v;cases h;exact .nil
 | t::l,ns,xs,us,h,r,v=>by
  obtain⟨w,ws,rfl,p,q⟩:=Reps.me.mp r
  cases v with
  | cons v1 v2=>
   cases t with
   | int i=>
    unfold j9 at h;obtain⟨m,h1,rfl⟩:=NF.mp h;cases Rep.Da.mp p;obtain⟨k,rfl⟩:=v1
    exact .cons _ _ (jy h1 q v2)
   | _=>cases h
section
variable {X:Cx}
theorem Ht (hc:X.calm=true):CallT X (.builtin "sum") zo:=by
 intro pins s σ H O ts vs us Q I hf rs rv hp;unfold zo at hp
 split at hp
 ·rename_i l
  obtain⟨v,rfl,r⟩:=rs.one
  split at hp
  ·rename_i ns hk
   obtain⟨a,ws,rfl,n,q,z⟩:=Rep.Do.mp r;obtain⟨u,rfl,ru⟩:=jN rv;cases ru;obtain⟨its,r',pl,hz⟩:=I.list (SqL.of q)
   have hi:=jy hk z r';obtain⟨xs,e⟩:=hi.allInts.items
   have hns:ns=xs.toList.map (·.1):=by rw[<-hi.numsOf,<-nums_intItems,<-e]
   have hl:s.heap.IsList a (Qt xs):=by rw[<-e];exact pl.isList
   refine sum_intListG (I.ok.hd hc) hl λh' tk t' hk'=>⟨.int _,H,I.kept (t':=tk) hk',⟨_,rfl⟩,?_⟩
   have:preSum (numAt xs) xs.size=ns.sum:=by rw[hns,preSum_eq,Ol (by simp)]
   rw[this];exact hp H (Same.refl H) _ (Rep.GT _)
  ·exact hp.elim
 ·exact hp.elim
end
end Tr
namespace Tr
theorem t9:∀l,fj l l=false
 | [] =>rfl
 | a::l=>by unfold fj;rw[if_pos rfl];exact t9 l
theorem rF:∀a b c,fj a b=true->fj b c=true->fj a c=true
 | [],[],_,h,_=>absurd h (by simp[fj])
 | _::_,[],_,h,_=>absurd h (by simp[fj])
 | [],_::_,[],_,h=>absurd h (by simp[fj])
 | [],_::_,_::_,_,_=>rfl
 | _::_,_::_,[],_,h=>absurd h (by simp[fj])
 | x::a,y::b,z::c,h,g=>by
  unfold fj at h g ⊢
  by_cases e:x=y
  ·subst e
   rw[if_pos rfl]at h
   by_cases e2:x=z
   ·rw[if_pos e2]at g ⊢;exact rF a b c h g
   ·rw[if_neg e2]at g ⊢;exact g
  ·rw[if_neg e]at h
   by_cases e2:y=z
   ·subst e2;rw[if_neg e];exact h
   ·rw[if_neg e2]at g
    have h1:=of_decide_eq_true h
    have h2:=of_decide_eq_true g;rw[if_neg (by omega)]
    exact decide_eq_true (by omega)
theorem nC:∀a b,fj a b=false->fj b a=false->a=b
 | [],[],_,_=>rfl
 | [],_::_,h,_=>absurd h (by simp[fj])
 | _::_,[],_,h=>absurd h (by simp[fj])
 | x::a,y::b,h,g=>by
  unfold fj at h g
  by_cases e:x=y
  ·subst e
   rw[if_pos rfl]at h g;rw[nC a b h g]
  ·rw[if_neg e]at h
   rw[if_neg (λz=>e z.symm)]at g
   have h1:=of_decide_eq_false h
   have h2:=of_decide_eq_false g;omega
theorem Ao (a b c:List Int)(h:fj a c=true):fj a b=true\/fj b c=true:=by
 cases h1:fj a b with
 | true=>exact .inl rfl
 | false=>
  cases h2:fj b a with
  | true=>exact .inr (rF _ _ _ h2 h)
  | false=>rw[<-nC _ _ h1 h2];exact .inr h
end Tr
namespace Tr
open PySem PySem.Spec PyProof.Rows L2
abbrev gk (κ:KeyKind)(st:SortSt)(i:Nat):κ.α:=KK κ (arrOf st) i
section
variable {X:Cx}
theorem iU:∀{m:List T} {ns:List Int},j9 m=some ns->m=ns.map .int
 | [],ns,h=>by cases h;rfl
 | t::m,ns,h=>by
  cases t with
  | int i=>
   unfold j9 at h;obtain⟨k,h1,rfl⟩:=NF.mp h
   rw[iU h1];rfl
  | _=>cases h
end
variable (R:RK)
variable {R:RK}
def RK.kind (R:RK)(h:Heap):PyProof.Rows.KeyKind:={ α:=List Int,blt:=fj,irrefl:=t9,trans:=rF,negTrans:=Ao,total:=nC,keyOf:=R.key h,dflt:=[] }
def RK.row (R:RK)(h:Heap)(v:Lh):List Int:=(R.key h v).getD []
end Tr
namespace PySem
open Sem (wp)
theorem FA {h h':Heap}{a:Addr}{xs:Array Lh}(x:h.IsTuple a xs)(e:∀o,h.get? a=some o->h'.get? a=some o):h'.IsTuple a xs:=let ⟨o,ho,r⟩:=x;⟨o,e _ ho,r⟩
end PySem
namespace Tr
def FE:List T->Rs T
 | [.tup l] =>zo [.lst l]
 | ts=>zo ts
end Tr
namespace PySem
section
variable {prog:LP}{w:Mh}{A:L3}{E:Lh->Lj->Prop}{s:Lj}{l:Addr}{xs:Array (Int×Tok)}
theorem zk {Q:Lh->Lj->Prop}(hl:s.heap.IsTuple l (Qt xs))
  (h:∀s₂:Lj,s₂= { s with heap:=s.heap.push { cls:=.type "tuple_iterator",data:=.fields #[.ref l,.int 0 0] } }->(s₂.heap.IsTupleIter s.heap.objs.size l 0/\s₂.heap.IsTuple l (Qt xs))->(∀b∈ [s.heap.objs.size,l],b<s₂.heap.objs.size)->l≠s.heap.objs.size->Q (.ref s.heap.objs.size) s₂) :
  wpAny (model prog w) A (pyIter (.ref l)) Q E s:=by
 have hlt:l<s.heap.objs.size:=by obtain⟨_,e,_⟩:=hl;exact Lw e
 refine NH hl (h _ rfl ⟨⟨_,LB _ rfl,rfl,rfl⟩,FA hl λo e=>Lq _ e⟩ (λb hb=> ?_) (My hlt))
 show b<(s.heap.push _).objs.size
 rw[M5];simp only[Lp,Mj,or_false]at hb;rcases hb with rfl | rfl
 ·exact OF _
 ·exact Pu hlt
theorem zl {h':Heap}{o0:Obj}(hk:∀b o,b∉ [s.heap.objs.size]->(s.heap.push o0).get? b=some o->h'.get? b=some o):∀b o,s.heap.get? b=some o->h'.get? b=some o:=λb o e=>
 hk b o (λhm=>absurd (Ly.mp hm▸Lw e) (LV _)) (Lq _ e)
theorem Cq {Q:Lh->Lj->Prop}(hh:A.handled=none)(hl:s.heap.IsTuple l (Qt xs))(h:∀h' tk t',(∀b o,s.heap.get? b=some o->h'.get? b=some o)->Q (.int (preSum (numAt xs) xs.size) t') { s with heap:=h',toks:=tk }) :
  wpAny (model prog w) A (call (.builtin "sum") [.ref l]) Q E s:=by
 refine call_sum_walkG (zk hl λs₂ e st hfp hlI=> ?_)
 subst e;refine⟨_,_,_,_,_,_,numAt xs,rfl,Walks.tuple (A:=A.in1) hh _ l hlI (Qt xs),st,hfp,(λ_ _=>intItems_at),λh' tk t' hk=> ?_⟩
 have:=h h' tk t' (zl hk)
 simpa [Qt]using this
end
end PySem
namespace Tr
open PySem PySem.Spec PyProof.Rows L2
section
variable {X:Cx}
theorem Ef (hc:X.calm=true):CallT X (.builtin "sum") FE:=by
 intro pins s σ H O ts vs us Q I hf rs rv hp;unfold FE at hp
 split at hp
 ·rename_i l
  unfold zo at hp;obtain⟨v,rfl,r⟩:=rs.one
  dsimp only at hp
  split at hp
  ·rename_i ns hk
   obtain⟨a,ws,rfl,n,q,z⟩:=Rep.Fk.mp r;obtain⟨u,rfl,ru⟩:=jN rv;cases ru;obtain⟨its,r',pl,hz⟩:=I.tuple (SqT.of q)
   have hi:=jy hk z r';obtain⟨xs,e⟩:=hi.allInts.items
   have hns:ns=xs.toList.map (·.1):=by rw[<-hi.numsOf,<-nums_intItems,<-e]
   have hl:s.heap.IsTuple a (Qt xs):=by rw[<-e];exact pl
   refine Cq (I.ok.hd hc) hl λh' tk t' hk'=>⟨.int _,H,I.kept (t':=tk) hk',⟨_,rfl⟩,?_⟩
   have:preSum (numAt xs) xs.size=ns.sum:=by rw[hns,preSum_eq,Ol (by simp)]
   rw[this];exact hp H (Same.refl H) _ (Rep.GT _)
  ·exact hp.elim
 ·exact Ht hc pins s σ H O _ vs us Q I hf rs rv hp
end
end Tr
namespace L2
open PySem PySem.Spec PyProof.Rows
theorem uj {n b:Nat}:b∈ [n+4,n,n+1,n+2,n+3] ↔n<=b/\b<n+5:=by
 simp only[Lp,Mj,or_false];omega
end L2
namespace Tr
open PySem PySem.Spec PyProof.Rows L2
def Wk (K:Ld)(O:Ow)(H1:Hp)(l:List T)(v:V):Prop:=∃(aa:Addr) (tt:Bool) (ws:List V),v= .ref aa/\¬ O aa/\Reps K O H1 l ws/\B3 K H1 aa tt ws/\(∀P Hc,SameO P H1 Hc->¬ P aa->B3 K Hc aa tt ws)/\¬ Nw K H1 aa
end Tr
namespace Tr
open PySem
def c0 (g:List T->Rs T)(_:En):Rs T:=match g []with
 | .ok t=> .ok t
 | _=> .bad
end Tr
namespace PySem
open Sem (wp)
open L2 (itAt)
structure PW (prog:LP)(w:Mh)(A:L3)(I:Addr)(T:String)(fp wr:List Addr)(n:Nat)(R:Nat->Lh->Lh->Prop)(St:Nat->Option Addr->Heap->Prop):Prop where
 sub:∀b∈wr,b∈fp
 ty:∀i o (s:Lj),St i o s.heap->s.TypeIs (.ref I) T
 frame:∀i o h h',St i o h->(∀b∈fp,∀ob,h.get? b=some ob->h'.get? b=some ob)->St i o h'
 item:∀i o (s:Lj) (Q:Option Lh->Lj->Prop) (E:Lh->Lj->Prop),i<n->St i o s.heap->(∀t,o=some t->∃ob,s.heap.get? t=some ob) →
  (∀p h' tk x y,R i x y->s.heap.objs.size<=p->IsPair h' p x y->St (i+1) (some (o.getD p)) h'->(∀b ob,b∉wr->s.heap.get? b=some ob->h'.get? b=some ob)->Q (some (.ref p)) { s with heap:=h',toks:=tk })->wpAny (model prog w) A (pyNext (.ref I)) Q E s
 done:∀o (s:Lj) (Q:Option Lh->Lj->Prop) (E:Lh->Lj->Prop),St n o s.heap->(∀t,o=some t->∃ob,s.heap.get? t=some ob)->(∀h' tk,(∀b ob,b∉wr->s.heap.get? b=some ob->h'.get? b=some ob)->Q none { s with heap:=h',toks:=tk })->wpAny (model prog w) A (pyNext (.ref I)) Q E s
 self:∀i o (s:Lj) (Q:Lh->Lj->Prop) (E:Lh->Lj->Prop),St i o s.heap->Q (.ref I) s->wpAny (model prog w) A (pyIter (.ref I)) Q E s
end PySem
namespace Tr
open PySem
inductive Fx where
 | nx (Z:En) | rt (t:T) (Z:En)
def kn {α:Type}(f:Str):List Str->List α->Option α
 | n::ns,l::ls=>if n=f then some l else kn f ns ls
 | _,_=>none
def jE (f:Str)(l':List T):List Str->List (List T)->List (List T)
 | n::ns,l::ls=>if n=f then l'::ls else l::jE f l' ns ls
 | _,ls=>ls
def vM (c f:Str):T->Rs T
 | .ob c' ns ts=>if c'=c then(match kn f ns ts with | some t=> .ok t | none=> .bad)else .bad
 | _=> .bad
def mf (c m:Str)(g:List T->Rs T)(fo:En->Rs T)(fs:En->Rs (List T))(Z:En):Rs T:=do
 let o <-fo Z
 match o with
 | .ob c' ns ts=>if c'=c/\ns.contains m=false then fs Z >>= λl=>g (.ob c' ns ts::l)else .bad
 | _=> .bad
def xP (f:En->Rs T)(Z:En):Rs (T×En):=f Z >>= λt=> .ok (t,Z)
def xU (i:Nat)(c f:Str)(fa:En->Rs T)(Z:En):Rs (T×En):=match Z[i]? with
 | some (.ow (.ob c' ns ls))=>if c'=c then(match kn f ns ls with
  | some l=>fa Z >>= λt=>if l.length<sizeLine then .ok (.non,Z.set i (.ow (.ob c' ns (jE f (l++ [t]) ns ls))))else .bad
  | none=> .bad)else .bad
 | _=> .bad
def xT (i:Nat)(c f:Str)(Z:En):Rs (T×En):=match Z[i]? with
 | some (.ow (.ob c' ns ls))=>if c'=c then(match kn f ns ls with
  | some l=>(match l.getLast? with
   | some t=> .ok (t,Z.set i (.ow (.ob c' ns (jE f l.dropLast ns ls))))
   | none=> .bad)
  | none=> .bad)else .bad
 | _=> .bad
def ze (i:Nat)(Z:En):Rs (T×OT)->Rs (T×En)
 | .ok p=> .ok (p.1,Z.set i (.ow p.2))
 | .err c=> .err c
 | .bad=> .bad
def fK (i:Nat)(c m:Str)(g:List Sl->Rs (T×OT))(fs:En->Rs (List T))(Z:En):Rs (T×En):=match Z[i]? with
 | some (.ow (.ob c' ns ls))=>if c'=c/\ns.contains m=false then fs Z >>= λts=>ze i Z (g (.ow (.ob c' ns ls)::ts.map Sl.va))else .bad
 | _=> .bad
def lM (i:Nat)(g:List Sl->Rs (T×OT))(fs:En->Rs (List T))(Z:En):Rs (T×En):=match Z[i]? with
 | some (.ow o)=>fs Z >>= λts=>ze i Z (g (.ow o::ts.map Sl.va))
 | _=> .bad
def dS (n:Nat)(sls:List Sl):En:=sls++LG (n - sls.length) Sl.em
def oN (j:Nat):Fx->Rs (T×OT)
 | .nx Z=>match Z[j]? with
  | some (.ow o)=> .ok (.non,o)
  | _=> .bad
 | .rt t Z=>match Z[j]? with
  | some (.ow o)=> .ok (t,o)
  | _=> .bad
def hI (n j m:Nat)(F:En->Rs Fx)(sls:List Sl):Rs (T×OT):=if sls.length=n then F (dS m sls) >>= oN j else .bad
def yS {α:Type}:Rs α->Rs α
 | .err _=> .bad
 | r=>r
def mN (Z:En):Rs Fx:=.ok (.nx Z)
def nA (F G:En->Rs Fx)(Z:En):Rs Fx:=match F Z with
 | .ok (.nx Z')=>yS (G Z')
 | r=>r
def An (x:En->Rs (T×En))(Z:En):Rs Fx:=x Z >>= λp=> .ok (.nx p.2)
def rE (x:En->Rs (T×En))(Z:En):Rs Fx:=x Z >>= λp=> .ok (.rt p.1 p.2)
def GK (f:En->Rs Bool)(F G:En->Rs Fx)(Z:En):Rs Fx:=f Z >>= λk=>if k then F Z else G Z
def DH (c:Str)(_:En):Rs Fx:=.err c
def yq (i:Nat)(c f:Str)(fs:En->Rs (List T))(Z:En):Rs Fx:=match Z[i]? with
 | some (.ow (.ob c' ns ls))=>fs Z >>= λl=>if c'=c/\l.length<=sizeLine/\ns.length<1000 then
   .ok (.nx (Z.set i (.ow (if ns.contains f then .ob c' ns (jE f l ns ls)else .ob c' (ns++ [f]) (ls++ [l])))))else .bad
 | _=> .bad
def tZ (F:En->Rs Fx)(h:Str->Rs T)(Z:En):Rs Fx:=match F Z with
 | .err c=>(match h c with
  | .ok t=> .ok (.rt t Z)
  | _=> .bad)
 | r=>r
def AW (c:Str)(t:T)(d:Str):Rs T:=if d=c then .ok t else .bad
def uX (x:En->Rs (T×En))(Z:En):Rs Fl:=x Z >>= λp=> .ok (.nx p.2)
def uZ (i:Nat)(x:En->Rs (T×En))(Z:En):Rs Fl:=x Z >>= λp=>if i<p.2.length then .ok (.nx (p.2.set i (.va p.1)))else .bad
def mS (i:Nat)(c:Str)(g:List Sl->Rs (T×OT))(fs:En->Rs (List T))(Z:En):Rs Fl:=fs Z >>= λts=>yS (g (.ow (.ob c [] [])::ts.map Sl.va)) >>= λp=>match p.1 with
 | .non=>if i<Z.length then .ok (.nx (Z.set i (.ow p.2)))else .bad
 | _=> .bad
def BW (x:En->Rs (T×En))(Z:En):Rs (Bool×En):=x Z >>= λp=>match p.1 with
 | .bl b=> .ok (b,p.2)
 | _=> .bad
def EF (g:T->T->Rs T)(x:En->Rs (T×En))(f:En->Rs T)(Z:En):Rs (T×En):=x Z >>= λp=>yS (f p.2 >>= g p.1) >>= λt=> .ok (t,p.2)
def uJ (f:En->Rs Bool)(Z:En):Rs (Bool×En):=f Z >>= λb=> .ok (b,Z)
def gx (x y:En->Rs (Bool×En))(Z:En):Rs (Bool×En):=x Z >>= λp=>if p.1 then yS (y p.2)else .ok (false,p.2)
def je (x:En->Rs (Bool×En))(Z:En):Rs (Bool×En):=x Z >>= λp=> .ok (!p.1,p.2)
def oK (x:En->Rs (Bool×En))(F G:En->Rs Fl)(Z:En):Rs Fl:=x Z >>= λp=>if p.1 then F p.2 else G p.2
end Tr
namespace Tr
open PySem PySem.Spec PyProof.Rows L2
abbrev one (j:Nat)(m:Ow):Mn:=noM.set j m
abbrev BM (B m:Ow):Ow:=λa=>B a\/m a
theorem one_u {j:Nat}{m:Ow}{a:Addr}:(one j m).u a↔m a:=⟨λz=>(Mn.Kb z).elim id λ⟨_,w⟩=>w.elim,λz=>⟨j,by unfold one;rw[Mn.Kh];exact z⟩⟩
theorem one_oo {B:Ow}{j:Nat}{m:Ow}{a:Addr}:OO B (one j m) a↔BM B m a:=or_congr Oo one_u
section
variable {K:Ld}{B:Ow}{M:Mn}{H H':Hp}{Z:En}{σ:L2.St}{i:Nat}{o o':OT}{v:V}{m:Ow}
theorem Ev.old (E:Ev K B M H Z σ){a:Addr}(w:Nw K H a):¬ OO B M a:=λz=>by
 obtain⟨o,e⟩:=(E.env.trk a z).some;rw[w.1]at e;cases e
theorem Ev.back (E:Ev K B M H Z σ)(hi:Z[i]? =some (.ow o))(hs:σ[i]? =some (some v))(s:SameO (M i) H H')(r:ORep K (OO B (M.set i m)) m H' o' v)(hm:∀a,m a->M i a\/Nw K H a) :
  Ev K B (M.set i m) H' (Z.set i (.ow o')) σ/\SameO M.u H H'/\∀a,(M.set i m).u a->M.u a\/Nw K H a:=by
 have hl:i<Z.length:=(Lz.mp hi).1
 have sub:∀a,(M.set i m).u a->M.u a\/Nw K H a:=λa z=>(Mn.Kb z).elim (λw=>(hm a w).imp_left λy=>⟨i,y⟩) .inl
 have subO:∀a,OO B (M.set i m) a->OO B M a\/Nw K H a:=λa z=>z.elim (λw=> .inl (.inl w)) λw=>(sub a w).elim (λy=> .inl (.inr y)) .inr
 have inO:∀a,M i a->OO B M a\/Nw K H a:=λa z=> .inl (.inr ⟨i,z⟩)
 refine⟨⟨⟨by rw[MF];exact E.env.len,λj t e=> ?_,λj o2 e=> ?_,λj a z=> .inr ⟨j,z⟩,λj k a z1 z2=> ?_,λa z=> ?_⟩,λa z hb=> ?_⟩,λb u e n=>s b u e λz=>n ⟨i,z⟩,sub⟩
 ·by_cases hj:i=j
  ·subst hj;rw[LN hl]at e;cases e
  ·rw[LL hj]at e
   obtain⟨w,e1,e2⟩:=E.env.val j t e;exact⟨w,e1,e2.move inO subO s⟩
 ·by_cases hj:i=j
  ·subst hj
   rw[LN hl]at e
   cases e;exact⟨v,hs,by rw[Mn.Kh];exact r⟩
  ·rw[LL hj]at e
   obtain⟨w,e1,e2⟩:=E.env.own j o2 e;refine⟨w,e1,?_⟩
   rw[Mn.Kl (λz=>hj z.symm)]
   exact e2.move inO subO s λa z y=>hj (E.env.dis i j a y z)
 ·unfold Mn.set at z1 z2
  by_cases hj:j=i
  ·by_cases hk:k=i
   ·exact hj.trans hk.symm
   ·rw[if_pos hj]at z1;rw[if_neg hk]at z2
    exact(hm a z1).elim (λw=>(hk (E.env.dis k i a z2 w)).elim) λw=>(E.old w (.inr ⟨k,z2⟩)).elim
  ·by_cases hk:k=i
   ·rw[if_neg hj]at z1;rw[if_pos hk]at z2
    exact(hm a z2).elim (λw=>(hj (E.env.dis j i a z1 w)).elim) λw=>(E.old w (.inr ⟨j,z1⟩)).elim
   ·rw[if_neg hj]at z1;rw[if_neg hk]at z2
    exact E.env.dis j k a z1 z2
 ·rcases z with z | ⟨j,z⟩
  ·exact(E.env.trk a (.inl z)).at λo e=>s _ _ e λw=>E.mine a ⟨i,w⟩ z
  ·unfold Mn.set at z
   by_cases hj:j=i
   ·rw[if_pos hj]at z;exact r.mtb a z
   ·rw[if_neg hj]at z
    exact(E.env.trk a (.inr ⟨j,z⟩)).at λo e=>s _ _ e λw=>hj (E.env.dis j i a z w)
 ·rcases Mn.Kb z with w | w
  ·exact(hm a w).elim (λy=>E.mine a ⟨i,y⟩ hb) λy=>E.old y (.inl hb)
  ·exact E.mine a w hb
end
section
variable {X:Cx}{a e:Expr}{es:List Expr}{fa:En->Rs T}{fs:En->Rs (List T)}{pos p2 apos cpos:Pos}{x c f:Str}
def PostX (X:Cx)(B P:Ow)(σ:L2.St)(H:Hp)(r:Rs (T×En))(Q:VK):Prop:=match r with
 | .ok p=> ∀v H' M',SameO P H H'->Ev X.K B M' H' p.2 σ->(∀a,M'.u a->P a\/Nw X.K H a)->Rep X.K (OO B M') H' p.1 v->Q v H'
 | .err c=>XA X kB H c
 | .bad=>False
def tX (X:Cx)(f:En->Rs (T×En)):TE:=λσ H Q=> ∃Z B M,Ev X.K B M H Z σ/\PostX X B M.u σ H (f Z) Q
abbrev xQ (X:Cx)(e:Expr)(f:En->Rs (T×En)):Prop:=PE X e (tX X f)
theorem Fw (h:b6 X a fa):xQ X a (xP fa):=PE.imp h λσ H Q hh_=>by
 obtain⟨Z,B,M,E,q⟩:=hh_;refine⟨Z,OO B M,E.o,?_⟩
 unfold xP at q
 cases z:fa Z with
 | bad=>rw[z]at q;exact q
 | err c=>rw[z]at q;exact q
 | ok t=>
  rw[z,az]at q;exact λH' s v r=>q v H' M (SameO.of s) (E.same s) (λ_ w=> .inl w) r
theorem AZ {K:Ld}{O:Ow}{H:Hp}:∀{fs:List (Str×V)} {ts:List T} {t:T},kn f (fs.map (·.1)) ts=some t->Reps K O H ts (fs.map (·.2))->∃v,fs.lookup f=some v/\Rep K O H t v
 | [],ts,t,h,_=>by cases h
 | (n,w)::fs,[],t,h,_=>by cases h
 | (n,w)::fs,u::ts,t,h,r=>by
  obtain⟨w',ws,e,p,q⟩:=Reps.me.mp r;cases e
  have h':(if n=f then some u else kn f (fs.map (·.1)) ts)=some t:=h
  rw[L8]
  by_cases z:n=f
  ·subst z
   rw[if_pos rfl]at h';cases h';exact⟨w,by rw[beq_self_eq_true],p⟩
  ·rw[if_neg z]at h'
   rw[beq_eq_false_iff_ne.mpr (NZ z)];exact AZ h' q
theorem IB (hc:Cls X.K (bK X.K c))(hn:NoAttr X.K (bK X.K c) f)(ha:b6 X a fa)(hb:autoParam (LU a f X.env (eval a X.env)=eval a X.env) aqd._auto_1):b6 X (.Attribute a f pos) (o1 (vM c f) fa):=PE.imp (u9 ha hb) λσ H Q hh_=>by
 obtain⟨Z,O,E,h⟩:=hh_;refine wj (aT (k:=vM c f) E h) λv H' ⟨t,r,s,E',q⟩=> ?_
 cases t with
 | ob c' ns ts=>
  unfold vM at q
  dsimp only at q
  split at q
  ·rename_i hcc
   subst hcc;obtain⟨b,dx,fs,e1,e2,e3,e4,e5⟩:=Rep.Km.mp r;subst e4
   split at q
   ·rename_i t ht
    obtain⟨w,l1,l2⟩:=AZ ht e5;exact⟨b,_,dx,fs,w,e1,e3,hc,hn,l1,q H' (Same.refl _) w l2⟩
   ·exact q.elim
  ·exact q.elim
 | _=>exact q.elim
theorem vL {K:Ld}{O:Ow}{H:Hp}:∀{ns:List Str} {as:List Addr} {ls:List (List T)} {l:List T},kn f ns ls=some l->LsR K O H ls as->ns.length=as.length->as.Nodup →
  ∃b vs,(ns.zip (as.map V.ref)).lookup f=some (.ref b)/\b∈as/\H b=some (.lst vs)/\Reps K O H l vs/\∀(l':List T) (vs':List V),O b->Reps K O H l' vs'->LsR K O (upd H b (.lst vs')) (jE f l' ns ls) as
 | [],as,ls,l,h,_,_,_=>by cases ls <;> cases h
 | n::ns,[],ls,l,h,_,hl,_=>by cases hl
 | n::ns,b::as,[],l,h,_,_,_=>by cases h
 | n::ns,b::as,u::ls,l,h,r,hl,nd=>by
  obtain⟨b',bs,vs,e1,e2,e3,e4⟩:=r;cases e1
  have nb:b∉as:=(LJ.mp nd).1
  have h':(if n=f then some u else kn f ns ls)=some l:=h
  show ∃c ws,((n,V.ref b)::ns.zip (as.map V.ref)).lookup f=_/\_
  rw[L8]
  have keep:∀(c:Addr) (vs':List V),O c->∀{t:List T} {ws:List V},Reps K O H t ws->Reps K O (upd H c (.lst vs')) t ws:=λc vs' hc t ws q=>Reps.keep (P:=λa=>a=c) (λd o e n=>by rw[aH n];exact e) (λa z=>z▸hc) q
  by_cases z:n=f
  ·subst z
   rw[if_pos rfl]at h';cases h';refine⟨b,vs,by rw[beq_self_eq_true],Ll,e2,e3,λl' vs' ob rl=> ?_⟩
   show LsR K O _ (if n=n then l'::ls else _) _
   rw[if_pos rfl];refine⟨b,as,vs',rfl,aQ,keep _ _ ob rl,?_⟩
   clear h hl nd e3 e2
   induction ls generalizing as with
   | nil=>exact e4
   | cons w ls ih=>
    obtain⟨c,cs,ws,f1,f2,f3,f4⟩:=e4;subst f1;exact⟨c,cs,ws,rfl,by rw[aH (λy=>nb (by rw[<-y];exact Ll))];exact f2,keep _ _ ob f3,ih cs f4 λy=>nb (Lg _ y)⟩
  ·rw[if_neg z]at h'
   rw[beq_eq_false_iff_ne.mpr (NZ z)];obtain⟨d,ws,g1,g2,g3,g4,g5⟩:=vL h' e4 (by simpa using hl) (LJ.mp nd).2
   refine⟨d,ws,g1,Lg _ g2,g3,g4,λl' vs' od rl=> ?_⟩
   show LsR K O _ (if n=f then l'::ls else u::jE f l' ns ls) _
   rw[if_neg z];exact⟨b,as,vs,rfl,by rw[aH (λy=>nb (by rw[y];exact g2))];exact e2,keep _ _ od e3,g5 l' vs' od rl⟩
theorem Ev.putF {K:Ld}{B:Ow}{M:Mn}{H:Hp}{Z:En}{σ:L2.St}{i:Nat}{ns:List Str}{ls:List (List T)}{l:List T}(E:Ev K B M H Z σ)(hi:Z[i]? =some (.ow (.ob c ns ls)))(hf:kn f ns ls=some l) :
  ∃p dx fs b vs,σ[i]? =some (some (.ref p))/\H p=some (.ins (bK K c) dx fs)/\fs.lookup f=some (.ref b)/\H b=some (.lst vs)/\Reps K (OO B M) H l vs/\∀(l':List T) (vs':List V),Reps K (OO B M) H l' vs' →
   Ev K B M (upd H b (.lst vs')) (Z.set i (.ow (.ob c ns (jE f l' ns ls)))) σ/\SameO M.u H (upd H b (.lst vs')):=by
 obtain⟨v0,s0,p,dx,as,e1,e2,⟨n1,n2,n3,n4⟩,e4,e5,e6,e7,e8⟩:=E.env.own i _ hi;subst e1;obtain⟨b,vs,g1,g2,g3,g4,g5⟩:=vL hf e8 e6 n4
 have Mb:M i b:=(e2 b).mpr (.inr (.inr g2));refine⟨p,dx,_,b,vs,s0,e4,g1,g3,g4,λl' vs' rl=> ?_⟩
 have sm:SameO (M i) H (upd H b (.lst vs')):=λd u e nb=>by rw[aH (λz=>nb (by rw[z];exact Mb))];exact e
 refine E.put hi s0 sm ⟨p,dx,as,rfl,e2,⟨n1,n2,n3,n4⟩,?_,?_,e6,e7,g5 l' vs' (.inr ⟨i,Mb⟩) rl⟩
 ·rw[aH (ny e4 g3 (λz=>nomatch z))];exact e4
 ·rw[aH (ny e5 g3 (λz=>nomatch z))];exact e5
theorem HJ (i:Nat){p3:Pos}(hc:Cls X.K (bK X.K c))(hn:NoAttr X.K (bK X.K c) f)(ha:b6 X a fa)(hN:autoParam (X.N[i]? =some x) aqd._auto_1)(hv:autoParam (oo X.env.scope x) aqe._auto_1)(hs:autoParam (bD a=true) aqd._auto_1)
  (hb1:autoParam (LU (.Name x p2) f X.env (eval (.Name x p2) X.env)=eval (.Name x p2) X.env) aqd._auto_1)
  (hbase:autoParam (LU (.Attribute (.Name x p2) f p3) "append" X.env (eval (.Attribute (.Name x p2) f p3) X.env)=eval (.Attribute (.Name x p2) f p3) X.env) aqd._auto_1) (hline:autoParam ((apos.endLine == cpos.line)=true) aqd._auto_1)
  (hd:autoParam ((x == ("__debug__" : Str))=false) aqb._auto_1) (hcd:autoParam ((x == ("__classdict__" : Str))=false) aqb._auto_1):xQ X (.Call (.Attribute (.Attribute (.Name x p2) f p3) "append" apos) [a] [] cpos) (xU i c f fa):=by
 have h1:LA [a] X.env=(false,eval a X.env)::LA [] X.env:=bz hs;refine PE.imp (zY M4 Pp Pq kU (u9 (fY hN hv hd hcd) hb1) (fM ha kI h1) hbase (by rw[h1];rfl) hline h1 rfl) λσ H Q ⟨Z,B,M,E,h⟩=> ?_
 unfold xU at h
 split at h
 ·rename_i c' ns ls hl
  split at h
  ·rename_i hcc
   subst hcc
   split at h
   ·rename_i l hf
    obtain⟨p,dx,fs,b,vs,s0,e1,e2,e3,e4,k⟩:=E.putF hl hf;refine⟨.ref p,s0,p,_,dx,fs,.ref b,rfl,e1,hc,hn,e2,.inl ⟨rfl,vs,SqL.of e3⟩,Z,OO B M,E.o,?_⟩
    cases q:fa Z with
    | bad=>rw[q]at h;exact h.elim
    | err c=>rw[q]at h;exact h
    | ok t=>
     rw[q,az]at h
     split at h
     ·rename_i hz
      intro H1 s1 v r;obtain⟨p',dx',fs',b',vs',s0',e1',e2',e3',e4',k'⟩:=(E.same s1).putF hl hf;cases s0.symm.trans s0'
      have z1:=(s1 _ _ e1).symm.trans e1';cases z1;cases e2.symm.trans e2'
      have z3:=(s1 _ _ e3).symm.trans e3';cases z3;obtain⟨g1,g2⟩:=k' (l++ [t]) (vs++ [v]) (e4'.append (Reps.FS r Reps.Gc));exact⟨b,vs,v,rfl,rfl,e3',by rw[<-e4.length];exact hz,h .non _ M (λc o e nb=>g2 c o (s1 _ _ e) nb) g1 (λc z=> .inl z) Rep.Kx⟩
     ·exact h.elim
   ·exact h.elim
  ·exact h.elim
 ·exact h.elim
theorem HG (i:Nat){p3:Pos}(hc:Cls X.K (bK X.K c))(hn:NoAttr X.K (bK X.K c) f)(hN:autoParam (X.N[i]? =some x) aqd._auto_1)(hv:autoParam (oo X.env.scope x) aqe._auto_1)
  (hb1:autoParam (LU (.Name x p2) f X.env (eval (.Name x p2) X.env)=eval (.Name x p2) X.env) aqd._auto_1)
  (hbase:autoParam (LU (.Attribute (.Name x p2) f p3) "pop" X.env (eval (.Attribute (.Name x p2) f p3) X.env)=eval (.Attribute (.Name x p2) f p3) X.env) aqd._auto_1) (hline:autoParam ((apos.endLine == cpos.line)=true) aqd._auto_1)
  (hd:autoParam ((x == ("__debug__" : Str))=false) aqb._auto_1) (hcd:autoParam ((x == ("__classdict__" : Str))=false) aqb._auto_1):xQ X (.Call (.Attribute (.Attribute (.Name x p2) f p3) "pop" apos) [] [] cpos) (xT i c f):=by
 refine PE.imp (Gn M4 PySem.F.slot_list_pop PySem.F.type_list_pop GH (u9 (fY hN hv hd hcd) hb1) hbase hline) λσ H Q ⟨Z,B,M,E,h⟩=> ?_
 unfold xT at h
 split at h
 ·rename_i c' ns ls hl
  split at h
  ·rename_i hcc
   subst hcc
   split at h
   ·rename_i l hf
    split at h
    ·rename_i t ht
     obtain⟨p,dx,fs,b,vs,s0,e1,e2,e3,e4,k⟩:=E.putF hl hf
     have hlen:=e4.length
     have hne:l≠ []:=λz=>by rw[z]at ht;cases ht
     rw[List.getLast?_eq_getElem?]at ht
     obtain⟨w,w1,w2⟩:=e4.get ht;rw[hlen]at w1;obtain⟨g1,g2⟩:=k l.dropLast vs.dropLast (by rw[Qc,Qc,hlen];exact e4.take _)
     refine⟨.ref p,s0,p,_,dx,fs,.ref b,rfl,e1,hc,hn,e2,.inl ⟨rfl,vs,SqL.of e3⟩,b,vs,w,rfl,rfl,e3,w1,?_⟩
     refine h w _ M g2 g1 (λc z=> .inl z) (w2.keep (P:=λa=>a=b) (λd o e n=>by rw[aH n];exact e) λa z=> ?_)
     obtain⟨v0,s1,p',dx',as,f1,f2,f3,f4,f5,f6,f7,f8⟩:=E.env.own i _ hl;rw[f1]at s1;cases s0.symm.trans s1;cases e1.symm.trans f4;obtain⟨b2,vs2,y1,y2,_⟩:=vL hf f8 f6 f3.2.2.2;rw[e2]at y1;cases y1;exact .inr ⟨i,(f2 a).mpr (.inr (.inr (z▸y2)))⟩
    ·exact h.elim
   ·exact h.elim
  ·exact h.elim
 ·exact h.elim
end
theorem mi {m:Str}:∀{fs:List (Str×V)},(fs.map (·.1)).contains m=false->fs.lookup m=none
 | [],_=>rfl
 | (n,v)::fs,h=>by
  rw[Lk,Oc,Qv]at h;rw[L8,h.1];exact mi h.2
section
variable {X:Cx}{o e:Expr}{es:List Expr}{fo:En->Rs T}{fs:En->Rs (List T)}{pos p2 apos:Pos}{x c m:Str}{k n j:Nat}{f:Addr}{fd:Mo}{ps:List Str}
theorem CZ {pl:Sem Bool}{g:List T->Rs T}(hc:Cls X.K (bK X.K c))(hm:uD X.K (bK X.K c) m f)(F:B6 X.prog X.w X.K X.mg X.base k f fd ps 1 g)(hr:Room k X.A)(hb:Binds X.K fd ps [])(hps:ps.length=1)(ho:b6 X o fo)
  (ht:eval (.Call (.Attribute o m apos) [] [] pos) X.env=(do
   let ov <-eval o X.env
   standAt apos.atName
   let (f,first) <-holding [ov] (O0 ov m pl)
   Rg pos f first (backTo pos (LA [] X.env)) (Pg pos (NN [] X.env))):=by rfl):b6 X (.Call (.Attribute o m apos) [] [] pos) (mf c m g fo aj):=by
 intro pins s σ H Q I ⟨Z,O,E,hq⟩;refine Ox (pl:=pl) (bR (ho pins s σ H _ I (aT E hq)) λu s1 ⟨v,H1,I1,rx,t,r,sm,E1,q⟩=> ?_) ht
 cases t with
 | ob c' ns ts=>
  dsimp only at q
  split at q
  ·rename_i hcc
   obtain⟨h1,h2⟩:=hcc;subst h1;obtain⟨p,dx,fs',rfl,n,e3,e4,e5⟩:=Rep.Km.mp r;obtain rfl:u= .ref p:=rx;subst e4;refine jD I1 e3 hc hm (mi h2) ?_
   exact QB (first:=[.ref p]) I1.kIn hm.kp (Ia (us:=[.ref p]) (vs:=[.ref p]) F hr hb hps I1 (.cons rfl .nil) (Reps.FS r Reps.Gc) E1.mtb rfl q)
  ·exact q.elim
 | _=>exact q.elim
end
def spE (K:Ld)(n j:Nat)(g:List Sl->Rs (T×OT)):Sp:=λvs H Q _=> ∃sls B m v,Ev K B (one j m) H sls (vs.map some)/\sls.length=n/\vs[j]? =some v ∧
 match g sls with
 | .ok p=> ∀u H' m',SameO m H H'->ORep K (BM B m') m' H' p.2 v->(∀a,m' a->m a\/Nw K H a)->Rep K (BM B m') H' p.1 u->Q u H'
 | _=>False
def FnXE (P:LP)(w:Mh)(K:Ld)(mg:Str->Option Lh)(base:Heap)(k:Nat)(f:Addr)(fd:Mo)(ps:List Str)(n j:Nat)(g:List Sl->Rs (T×OT)):Prop:=
 ∀(A:L3) (outer:List Env) (s:Lj) (H:Hp) (args:Args) (us:List Lh) (vs:List V) (B m:Ow) (sls:List Sl) (c:Str) (R:Sd->Lj->Prop),Room k A->Env0 P w K mg base A outer s H->Qm s fd args (ps.zip us)->Vals vs us →
  Ev K B (one j m) H sls (vs.map some)->sls.length=n->g sls= .err c->(∀ev s',RzC P w mg outer H s c ev s'->R (.error ev) s')->codeAny (model P w) A (.call (.ref f) args) R s
structure EA (P:LP)(w:Mh)(K:Ld)(mg:Str->Option Lh)(base:Heap)(k:Nat)(f:Addr)(fd:Mo)(ps:List Str)(n j:Nat)(g:List Sl->Rs (T×OT)):Prop where
 h:ox P w K mg base CX0 k f fd ps (spE K n j g)
 x:FnXE P w K mg base k f fd ps n j g
section
variable {K:Ld}{B:Ow}{M:Mn}{H H':Hp}{Z:En}{σ:L2.St}{i:Nat}{o o':OT}{v v0:V}{m:Ow}{ts:List T}{vs:List V}
abbrev BC (B:Ow)(M:Mn)(i:Nat):Ow:=λa=>OO B M a/\¬ M i a
theorem vQ {j:Nat}{a:Addr}:OO (BC B M i) (one j (M i)) a->OO B M a:=λz=>(one_oo.mp z).elim (λw=>w.1) λw=> .inr ⟨i,w⟩
theorem Ev.args {j:Nat}{sls:List Sl}{ws:List V}(E:Ev K B M H Z σ)(hi:Z[i]? =some (.ow o))(hs:σ[i]? =some (some v0))(hl:sls.length=ws.length)(hj:sls[j]? =some (.ow o))(hw:ws[j]? =some v0)
  (ho:∀(k:Nat) (o':OT),sls[k]? =some (Sl.ow o')->k=j) (hv:∀(k:Nat) (t:T),sls[k]? =some (Sl.va t)->∃w,ws[k]? =some w/\Rep K (OO B M) H t w):Ev K (BC B M i) (one j (M i)) H sls (ws.map some):=by
 obtain⟨v',s',r⟩:=E.env.own i o hi;rw[hs]at s';cases s';refine⟨⟨by rw[Ln];exact hl,λk t e=> ?_,λk o' e=> ?_,λk a z=> .inr ⟨k,z⟩,λk k' a z1 z2=> ?_,λa z=>E.env.trk a (vQ z)⟩,λa z y=>y.2 (one_u.mp z)⟩
 ·obtain⟨w,e1,e2⟩:=hv k t e
  exact⟨w,by rw[LI,e1];rfl,e2.less λa z=>vQ z⟩
 ·have hk:=ho k o' e
  subst hk;rw[hj]at e;cases e;refine⟨v0,by rw[LI,hw];rfl,?_⟩
  rw[show one k (M i) k=M i from Mn.Kh]
  exact r.move (P:=kB) (λ_ z=>z.elim) (λa z=> .inl (vQ z)) (λb u q _=>q) λ_ _ z=>z
 ·unfold one Mn.set at z1 z2
  by_cases h1:k=j
  ·by_cases h2:k'=j
   ·exact h1.trans h2.symm
   ·rw[if_neg h2]at z2;exact z2.elim
  ·rw[if_neg h1]at z1;exact z1.elim
theorem Ev.ret {t:T}{u:V}(E:Ev K B M H Z σ)(hi:Z[i]? =some (.ow o))(hs:σ[i]? =some (some v0))(s:SameO (M i) H H')(r:ORep K (BM (BC B M i) m) m H' o' v0)(hm:∀a,m a->M i a\/Nw K H a)(rt:Rep K (BM (BC B M i) m) H' t u) :
  Ev K B (M.set i m) H' (Z.set i (.ow o')) σ/\SameO M.u H H'/\(∀a,(M.set i m).u a->M.u a\/Nw K H a)/\Rep K (OO B (M.set i m)) H' t u:=by
 have sub:∀a,OO B (M.set i m) a->BM (BC B M i) m a:=λa z=>by
  rcases z with z | ⟨k,z⟩
  ·exact .inl ⟨.inl z,λw=>E.mine a ⟨i,w⟩ z⟩
  ·unfold Mn.set at z
   by_cases hk:k=i
   ·rw[if_pos hk]at z;exact .inr z
   ·rw[if_neg hk]at z;exact .inl ⟨.inr ⟨k,z⟩,λw=>hk (E.env.dis k i a z w)⟩
 obtain⟨g1,g2,g3⟩:=E.back hi hs s (r.move (P:=kB) (λ_ z=>z.elim) (λa z=> .inl (sub a z)) (λb u q _=>q) λ_ _ z=>z) hm
 exact⟨g1,g2,g3,rt.less sub⟩
end
section
variable {X:Cx}{k n j:Nat}{f:Addr}{fd:Mo}{ps:List Str}{g:List Sl->Rs (T×OT)}{pins:List (Addr×Obj)}{σ:L2.St}{H:Hp}{s:Lj}{us:List Lh}{vs:List V}{sls:List Sl}{B m:Ow}{Q:VK}{v:V}
def Fe (X:Cx)(B m:Ow)(v:V)(H:Hp)(r:Rs (T×OT))(Q:VK):Prop:=match r with
 | .ok p=> ∀u H' m',SameO m H H'->ORep X.K (BM B m') m' H' p.2 v->(∀a,m' a->m a\/Nw X.K H a)->Rep X.K (BM B m') H' p.1 u->Q u H'
 | .err c=>XA X kB H c
 | .bad=>False
theorem zA (F:EA X.prog X.w X.K X.mg X.base k f fd ps n j g)(hr:Room k X.A)(hb:Binds X.K fd ps [])(hps:ps.length=n)(I:Inv X pins σ H s)(r:Vals vs us)(Ea:Ev X.K B (one j m) H sls (vs.map some))(hl:sls.length=n)(hv:vs[j]? =some v)
  (hq:Fe X B m v H (g sls) Q):wpAny (model X.prog X.w) X.A (call (.ref f) us) (EP X pins σ Q) X.xe s:=by
 cases q2:g sls with
 | bad=>rw[q2]at hq;exact hq.elim
 | ok p=>
  rw[q2]at hq;refine u4 (E:=E0) (dvs:=[]) (ds:=[]) F.h hr hb .nil wI I r ⟨sls,B,m,v,by simpa using Ea,hl,by simpa using hv,?_⟩
  rw[q2]
  exact hq
 | err c=>
  rw[q2]at hq
  have hlen:us.length=ps.length:=by rw[<-r.length,hps,<-hl,Ea.env.len,Ln]
  have hb':=hb s us I.kIn (by rw[LZ];exact hlen)
  rw[LZ]at hb';refine Qr (N6 (F.x X.A X.stack s H ⟨us,[]⟩ us vs B m sls c (λr s'=>match r with | .error ev=>X.xe ev s' | _=>False) hr I.Kw hb' r Ea hl q2 λev s' w=> ?_) λr s' hq=> ?_)
  ·obtain⟨ea,T,C,H',rfl,hmc,ho,hbare,hun,hok,sm2,hea,heo,fl,hT,hTo⟩:=w
   have I2:Inv X pins σ H' s':=I.Kq ho hun hok hbare (λb z=>absurd z (by simp))
   exact hq pins _ _ ⟨ea,some T,C,σ,H',rfl,hmc,I2,λb o q _=>sm2 b o q,hea,λhex=>gc I hex heo,fl,(λt zt=>by cases zt;exact⟨hT,λhex=>gc I hex hTo⟩),λpp hpp=>⟨λzz=>(by have:=(I.pin pp hpp).1;rw[zz,heo]at this;cases this),λzz=>(by cases zz;have:=(I.pin pp hpp).1;rw[hTo]at this;cases this)⟩⟩
  ·cases r with
   | error ev=>exact hq
   | ok fl=>exact hq.elim
theorem u6 {M:Mn}{Z:En}{i:Nat}{o:OT}{v0:V}{H0:Hp}{P0:Ow}(E:Ev X.K B M H Z σ)(hi:Z[i]? =some (.ow o))(hs:σ[i]? =some (some v0)){r:Rs (T×OT)}(h:PostX X B M.u σ H (ze i Z r) Q):Fe X (BC B M i) (M i) v0 H r Q:=by
 cases r with
 | bad=>exact h
 | err c=>exact h
 | ok p=>
  intro u H' m' s r hm rt;obtain⟨g1,g2,g3,g4⟩:=E.ret hi hs s r hm rt;exact h u H' _ g2 g1 g3 g4
theorem PostX.later {P:Ow}{H1:Hp}{r:Rs (T×En)}(h:PostX X B P σ H r Q)(s:Same H H1):PostX X B P σ H1 r Q:=by
 cases r with
 | bad=>exact h
 | err c=>exact XA.later h (SameO.of s) λ_ z=>z.elim
 | ok p=>exact λv H' M' s' E' o' r'=>h v H' M' (λb o e nb=>s' b o (s _ _ e) nb) E' (λa z=>(o' a z).imp_right (j8 s)) r'
theorem rS {o:OT}{ts:List T}{k:Nat}{o':OT}(h:(Sl.ow o::ts.map Sl.va)[k]? =some (.ow o')):k=0:=by
 cases k with
 | zero=>rfl
 | succ k=>
  rw[MG,LI]at h
  cases z:ts[k]? <;> rw[z]at h <;> cases h
theorem rR {K:Ld}{O:Ow}{H:Hp}{o:OT}{v0:V}{ts:List T}{vs:List V}(r:Reps K O H ts vs){k:Nat}{t:T}(h:(Sl.ow o::ts.map Sl.va)[k]? =some (.va t)):∃w,(v0::vs)[k]? =some w/\Rep K O H t w:=by
 cases k with
 | zero=>cases h
 | succ k=>
  rw[MG,LI]at h
  cases z:ts[k]? with
  | none=>rw[z]at h;cases h
  | some u=>
   rw[z]at h;cases h;exact r.get z
end
section
variable {X:Cx}{e:Expr}{es:List Expr}{fs:En->Rs (List T)}{pos p p2 apos:Pos}{x y c m:Str}{k n:Nat}{f:Addr}{fd:Mo}{ps:List Str}{g:List Sl->Rs (T×OT)}
theorem Fy {pl:Sem Bool}(i:Nat)(hc:Cls X.K (bK X.K c))(hm:uD X.K (bK X.K c) m f)(F:EA X.prog X.w X.K X.mg X.base k f fd ps n 0 g)(hr:Room k X.A)(hb:Binds X.K fd ps [])(hps:ps.length=n)(hl:∀Z ts,fs Z= .ok ts->ts.length+1=n)(ha:pd X (e::es) fs)
  (hN:autoParam (X.N[i]? =some x) aqd._auto_1) (hv:autoParam (oo X.env.scope x) aqe._auto_1) (hd:autoParam ((x == ("__debug__" : Str))=false) aqb._auto_1) (hcd:autoParam ((x == ("__classdict__" : Str))=false) aqb._auto_1)
  (hst:autoParam (LA (e::es) X.env=(false,eval e X.env)::LA es X.env) aqd._auto_1) (hpl:autoParam ((backTo pos (LA es X.env)).any (·.1)=false) aqd._auto_1)
  (ht:eval (.Call (.Attribute (.Name x p2) m apos) (e::es) [] pos) X.env=(do
   let ov <-eval (.Name x p2) X.env
   standAt apos.atName
   let (f,first) <-holding [ov] (O0 ov m pl)
   Rg pos f first (backTo pos (LA (e::es) X.env)) (Pg pos (NN [] X.env))):=by rfl) :
  xQ X (.Call (.Attribute (.Name x p2) m apos) (e::es) [] pos) (fK i c m g fs):=by
 intro pins s σ H Q I ⟨Z,B,M,E,h⟩;unfold fK at h
 split at h
 ·rename_i c' ns ls hi
  split at h
  ·rename_i hcc
   obtain⟨h1,h2⟩:=hcc;subst h1;obtain⟨v0,s0,q,dx,as,e1,e2,e3,e4,e5,e6,e7,e8⟩:=E.env.own i _ hi;subst e1;refine Ox (pl:=pl) (bR (fY (pos:=p2) hN hv hd hcd pins s σ H (λv H'=>v= .ref q/\H'=H) I ⟨_,s0,rfl,rfl⟩) λu s1 ⟨v,H1,I1,rx,ev,eH⟩=> ?_) ht
   subst ev eH;obtain rfl:u= .ref q:=rx;refine jD I1 e4 hc hm (mi (by rw[l5 (by rw[Ln];exact e6)];exact h2)) ?_
   refine NG (first:=[.ref q]) (h₀:=X.base) I.ok.mod.kin hm.kp (bR (ha pos pins s1 σ H1 (λvs H2=> ∃ts,fs Z= .ok ts/\Same H1 H2/\Reps X.K (OO B M) H2 ts vs) I1 ⟨Z,OO B M,E.o,?_⟩) λus s2 ⟨vs,H2,I2,r,ts,q1,sm,rs⟩=>⟨I2.kIn,?_⟩) hst hpl
   ·cases z:fs Z with
    | bad=>rw[z]at h;exact h.elim
    | err c=>rw[z]at h;exact h
    | ok ts=>exact λH' s' vs rs=>⟨ts,rfl,s',rs⟩
   ·rw[q1,az]at h
    have E2:=E.same sm;refine zA (us:=.ref q::us) (vs:=.ref q::vs) (v:=.ref q) F hr hb hps I2 (.cons rfl r) (E2.args (o:=.ob c' ns ls) hi s0 (by rw[Lm,Lm,Ln,rs.length]) rfl rfl (λk o' z=>rS z) λk t z=>rR rs z) ?_ rfl (u6 (H0:=H1) (P0:=kB) E2 hi s0 (h.later sm))
    rw[Lm,Ln];exact hl Z ts q1
  ·exact h.elim
 ·exact h.elim
theorem Cg {pl:Sem Bool}(i:Nat)(hc:Cls X.K (bK X.K c))(hm:uD X.K (bK X.K c) m f)(F:EA X.prog X.w X.K X.mg X.base k f fd ps 1 0 g)(hr:Room k X.A)(hb:Binds X.K fd ps [])(hps:ps.length=1)
  (hN:autoParam (X.N[i]? =some x) aqd._auto_1) (hv:autoParam (oo X.env.scope x) aqe._auto_1) (hd:autoParam ((x == ("__debug__" : Str))=false) aqb._auto_1) (hcd:autoParam ((x == ("__classdict__" : Str))=false) aqb._auto_1)
  (ht:eval (.Call (.Attribute (.Name x p2) m apos) [] [] pos) X.env=(do
   let ov <-eval (.Name x p2) X.env
   standAt apos.atName
   let (f,first) <-holding [ov] (O0 ov m pl)
   Rg pos f first (backTo pos (LA [] X.env)) (Pg pos (NN [] X.env))):=by rfl) :
  xQ X (.Call (.Attribute (.Name x p2) m apos) [] [] pos) (fK i c m g aj):=by
 intro pins s σ H Q I ⟨Z,B,M,E,h⟩;unfold fK at h
 split at h
 ·rename_i c' ns ls hi
  split at h
  ·rename_i hcc
   obtain⟨h1,h2⟩:=hcc;subst h1;obtain⟨v0,s0,q,dx,as,e1,e2,e3,e4,e5,e6,e7,e8⟩:=E.env.own i _ hi;subst e1;refine Ox (pl:=pl) (bR (fY (pos:=p2) hN hv hd hcd pins s σ H (λv H'=>v= .ref q/\H'=H) I ⟨_,s0,rfl,rfl⟩) λu s1 ⟨v,H1,I1,rx,ev,eH⟩=> ?_) ht
   subst ev eH;obtain rfl:u= .ref q:=rx;refine jD I1 e4 hc hm (mi (by rw[l5 (by rw[Ln];exact e6)];exact h2)) ?_
   exact QB (first:=[.ref q]) I1.kIn hm.kp (zA (us:=[.ref q]) (vs:=[.ref q]) (v:=.ref q) F hr hb hps I1 (.cons rfl .nil) (E.args (o:=.ob c' ns ls) hi s0 rfl rfl rfl (λk o' z=>rS (ts:=[]) z) λk t z=>rR (ts:=[]) Reps.Gc z) rfl rfl (u6 (H0:=H1) (P0:=kB) E hi s0 h))
  ·exact h.elim
 ·exact h.elim
theorem HI (i:Nat)(F:EA X.prog X.w X.K X.mg X.base k f fd ps n 0 g)(hr:Room k X.A)(hm:X.mg y=some (.ref f))(hk:Ni X.K (.ref f)=true)(hb:Binds X.K fd ps [])(hps:ps.length=n)(hl:∀Z ts,fs Z= .ok ts->ts.length+1=n)(ha:pd X es fs)
  (hN:autoParam (X.N[i]? =some x) aqd._auto_1) (hv:autoParam (oo X.env.scope x) aqe._auto_1) (hd:autoParam ((x == ("__debug__" : Str))=false) aqb._auto_1) (hcd:autoParam ((x == ("__classdict__" : Str))=false) aqb._auto_1)
  (hg:autoParam (Gl X y) aqd._auto_1) (hdb:autoParam ((y == ("__debug__" : Str))=false) aqb._auto_1) (he:autoParam (LA (.Name x p2::es) X.env=(false,eval (.Name x p2) X.env)::LA es X.env) aqd._auto_1) (hpl:autoParam ((backTo pos (LA es X.env)).any (·.1)=false) aqd._auto_1) :
  xQ X (.Call (.Name y p) (.Name x p2::es) [] pos) (lM i g fs):=by
 intro pins s σ H Q I ⟨Z,B,M,E,h⟩;unfold lM at h
 split at h
 ·rename_i o hi
  obtain⟨v0,s0,r0⟩:=E.env.own i _ hi;refine MH (gL I hg hm ?_ hdb)
  refine NG (h₀:=X.base) I.ok.mod.kin hk (bR (fM (fY (pos:=p2) hN hv hd hcd) ha he pos pins s σ H (λws H2=> ∃ts vs,ws=v0::vs/\fs Z= .ok ts/\Same H H2/\Reps X.K (OO B M) H2 ts vs) I ⟨v0,s0,Z,OO B M,E.o,?_⟩) λus s2 ⟨ws,H2,I2,r,ts,vs,e1,q1,sm,rs⟩=>⟨I2.kIn,?_⟩) he hpl
  ·cases z:fs Z with
   | bad=>rw[z]at h;exact h.elim
   | err c=>rw[z]at h;exact h
   | ok ts=>exact λH' s' vs rs=>⟨ts,vs,rfl,rfl,s',rs⟩
  ·subst e1
   rw[q1,az]at h
   have E2:=E.same sm;refine zA (v:=v0) F hr hb hps I2 r (E2.args (o:=o) hi s0 (by rw[Lm,Lm,Ln,rs.length]) rfl rfl (λk o' z=>rS z) λk t z=>rR rs z) ?_ rfl (u6 (H0:=H) (P0:=kB) E2 hi s0 (h.later sm))
   rw[Lm,Ln];exact hl Z ts q1
 ·exact h.elim
end
section
variable {X:Cx}{a b e c:Expr}{es:List Expr}{fb:En->Rs T}{x y:En->Rs (T×En)}{fs:En->Rs (List T)}{pos p2 p3 apos cpos:Pos}{bN:List Expr}
theorem HH {B:Ow}{M:Mn}{Z:En}{σ:L2.St}{H:Hp}(E:Ev X.K B M H Z σ)(he:∀c,x Z= .err c->XA X kB H c)(hb:x Z≠ .bad) :
  tX X x σ H λv H1=> ∃p M1,x Z= .ok p/\SameO M.u H H1/\Ev X.K B M1 H1 p.2 σ/\(∀a,M1.u a->M.u a\/Nw X.K H a)/\Rep X.K (OO B M1) H1 p.1 v:=by
 refine⟨Z,B,M,E,?_⟩
 cases z:x Z with
 | bad=>exact(hb z).elim
 | err c=>exact he c z
 | ok p=>exact λv H' M' s e o r=>⟨p,M',rfl,s,e,o,r⟩
def PostXB (X:Cx)(B P:Ow)(σ:L2.St)(H:Hp)(r:Rs (Bool×En))(Q:Bool->Hp->Prop):Prop:=match r with
 | .ok p=> ∀H' M',SameO P H H'->Ev X.K B M' H' p.2 σ->(∀a,M'.u a->P a\/Nw X.K H a)->Q p.1 H'
 | .err c=>XA X kB H c
 | .bad=>False
def tXB (X:Cx)(f:En->Rs (Bool×En)):TT:=λσ H Q=> ∃Z B M,Ev X.K B M H Z σ/\PostXB X B M.u σ H (f Z) Q
abbrev Et (X:Cx)(e:Expr)(f:En->Rs (Bool×En)):Prop:=PT X e (tXB X f)
theorem Cf {f:En->Rs Bool}(h:uC X a f):Et X a (uJ f):=PT.imp h λσ H Q hh_=>by
 obtain⟨Z,B,M,E,q⟩:=hh_;refine⟨Z,OO B M,E.o,?_⟩
 unfold uJ at q
 cases z:f Z with
 | bad=>rw[z]at q;exact q
 | err c=>rw[z]at q;exact q
 | ok t=>
  rw[z,az]at q;exact λH' s=>q H' M (SameO.of s) (E.same s) λ_ w=> .inl w
theorem zd {op:Sm}{g:T->T->Rs T}{pins:List (Addr×Obj)}{s1:Lj}{B:Ow}{M:Mn}{σ:L2.St}{H H1:Hp}{p:T×En}{M1:Mn}{v:Lh}{vx:V}{Q:VK}(ho:OpT X (L7 op) g)(hb:b6 X b fb)(I1:Inv X pins σ H1 s1)(r1:RelV vx v)(sm:SameO M.u H H1)(E1:Ev X.K B M1 H1 p.2 σ)
  (gr:∀a,M1.u a->M.u a\/Nw X.K H a) (rt:Rep X.K (OO B M1) H1 p.1 vx) (h:PostX X B M.u σ H (yS (fb p.2 >>= g p.1) >>= λt=> .ok (t,p.2)) Q) :
  wpAny (model X.prog X.w) X.A (eval b X.env) (λu s2=>wpAny (model X.prog X.w) X.A (L7 op v u) (EP X pins σ Q) X.xe s2) X.xe s1:=by
 cases z:fb p.2 with
 | bad=>rw[z]at h;exact h.elim
 | err c=>rw[z]at h;exact h.elim
 | ok t2=>
  rw[z,az]at h;refine bR (hb pins s1 σ H1 (λu H2=>Same H1 H2/\Rep X.K (OO B M1) H2 t2 u) I1 ⟨p.2,OO B M1,E1.o,by rw[z];exact λH' s u r=>⟨s,r⟩⟩) λu s2 hh_=> ?_
  obtain⟨y,H2,I2,r2,s',rt2⟩:=hh_;refine ho pins s2 σ H2 (OO B M1) p.1 t2 vx y v u Q I2 (λp=>(E1.same s').o.fresh) (rt.same s') rt2 r1 r2 ?_
  cases z2:g p.1 t2 with
  | bad=>rw[z2]at h;exact h.elim
  | err c=>rw[z2]at h;exact h.elim
  | ok t3=>
   rw[z2]at h;exact λH' s3 v r=>h v H' M1 (λb o e nb=>s3 _ _ (s' _ _ (sm b o e nb))) ((E1.same s').same s3) gr r
theorem x_o2 {op:Sm}{g:T->T->Rs T}(ho:OpT X (L7 op) g)(ha:xQ X a x)(hb:b6 X b fb)(hm:autoParam (Og op b=false) aqd._auto_1):xQ X (.Compare a [op] [b] pos) (EF g x fb):=by
 intro pins s σ H Q I ⟨Z,B,M,E,h⟩;unfold EF at h;refine wpAny_Compare1 (bR (ha pins s σ H _ I (HH E (λc z=>by rw[z]at h;exact h) (λz=>by rw[z]at h;exact h))) λv s1 ⟨vx,H1,I1,r1,p,M1,hx,sm,E1,gr,rt⟩=> ?_) hm
 rw[hx,az]at h;exact zd ho hb I1 r1 sm E1 gr rt h
theorem Fu (h:xQ X e x)(he:autoParam (∀whole,isTrue e X.env whole=(do let v <-whole;standAt e.pos;holding [v] (truthy v))) aqc._auto_1):Et X e (BW x):=PT.imp (zI h he) λσ H Q hh_=>by
 obtain⟨Z,B,M,E,q⟩:=hh_;refine⟨Z,B,M,E,?_⟩
 unfold BW at q
 cases z:x Z with
 | bad=>rw[z]at q;exact q
 | err c=>rw[z]at q;exact q
 | ok p=>
  rw[z,az]at q;obtain⟨t,Z'⟩:=p
  cases t with
  | bl k=>exact λv H' M' s e o r=>⟨k,Rep.FM.mp r,q H' M' s e o⟩
  | _=>exact q.elim
theorem PostXB.later {B P P1:Ow}{σ:L2.St}{H H1:Hp}{r:Rs (Bool×En)}{Q:Bool->Hp->Prop}(h:PostXB X B P σ H (yS r) Q)(s:SameO P H H1)(sub:∀a,P1 a->P a\/Nw X.K H a):PostXB X B P1 σ H1 r Q:=by
 cases r with
 | bad=>exact h
 | err c=>exact h.elim
 | ok p=>exact λH' M' s' E' o'=>h H' M' (s.trans s' sub) E' λa z=>(o' a z).elim (sub a) (eG s)
abbrev JR (X:Cx)(e:Expr)(f:En->Rs (Bool×En)):Prop:=PW X e (tXB X f)
variable {f g:En->Rs (Bool×En)}
theorem Cd (ha:Et X a f):JR X (.BoolOp .And [a] pos) f:=wu ha
theorem Ft (ha:Et X a f)(hb:JR X (.BoolOp .And (b::bN) pos) g):JR X (.BoolOp .And (a::b::bN) pos) (gx f g):=by
 intro wh pins s σ H Q I ⟨Z,B,M,E,h⟩;refine zH ha hb wh pins s σ H Q I ⟨Z,B,M,E,?_⟩
 unfold gx at h
 cases z:f Z with
 | bad=>rw[z]at h;exact h
 | err c=>rw[z]at h;exact h
 | ok p=>
  rw[z,az]at h;obtain⟨k,Z'⟩:=p;intro H' M' s' E' o'
  cases k with
  | true=>rw[if_pos rfl];exact⟨Z',B,M',E',PostXB.later (by simpa using h) s' o'⟩
  | false=>rw[if_neg LM];exact(show PostXB X B M.u σ H (.ok (false,Z')) Q by simpa using h) H' M' s' E' o'
theorem xt_w (h:JR X e f):Et X e f:=h.pt
theorem Fv (ha:Et X a f):Et X (.UnaryOp .Not a pos) (je f):=by
 intro pins s σ H Q I ⟨Z,B,M,E,h⟩;refine zJ ha pins s σ H Q I ⟨Z,B,M,E,?_⟩
 unfold je at h
 cases z:f Z with
 | bad=>rw[z]at h;exact h
 | err c=>rw[z]at h;exact h
 | ok p=>rw[z,az]at h;exact λH' M' s' E' o'=>h H' M' s' E' o'
theorem FW {A C:List Stmt}{F G:En->Rs Fl}(hc:Et X c f)(ha:jI X A F)(hb:jI X C G):mx X (.If c A C pos) (oK f F G):=PS.imp (zM hc ha hb) λD σ H hh_=>by
 obtain⟨Z,B,M,E,h⟩:=hh_;refine⟨Z,B,M,E,?_⟩
 unfold oK at h
 cases z:f Z with
 | bad=>rw[z]at h;exact h.elim
 | err c=>rw[z]at h;exact PostF.xa h
 | ok p=>
  rw[z,az]at h;obtain⟨k,Z'⟩:=p;intro H' M' s' E' o'
  cases k with
  | true=>refine L2.iteT ?_;exact⟨Z',B,M',E',PostF.later (by simpa using h) s' o'⟩
  | false=>refine L2.iteF ?_;exact⟨Z',B,M',E',PostF.later (by simpa using h) s' o'⟩
theorem FZ (ha:xQ X a x)(hs:autoParam (Me a none pos.line X.env=pure false) aqd._auto_1):mx X (.Expr a pos) (uX x):=PS.imp (j6 ha hs) λD σ H hh_=>by
 obtain⟨Z,B,M,E,h⟩:=hh_;refine⟨Z,B,M,E,?_⟩
 unfold uX at h
 cases z:x Z with
 | bad=>rw[z]at h;exact h.elim
 | err c=>rw[z]at h;exact PostF.xa h
 | ok p=>rw[z,az]at h;exact λv H' M' s' E' o' r=>h σ H' M' s' E' o'
theorem F2 (i:Nat){n:Str}(hN:X.N.Nodup)(ha:xQ X a x)(hi:autoParam (X.N[i]? =some n) aqd._auto_1)(hx:autoParam (Loc X.env.scope n) aqh._auto_1)(hs:autoParam (Me a (some (.Name n p3)) pos.line X.env=pure false) aqd._auto_1)
  (hf:autoParam (X.fn n=true\/X.env.scope.names.lookup n=some .local) aqa._auto_1):mx X (.Assign [.Name n p3] a pos) (uZ i x):=PS.imp (qH hN hi hx ha hs hf) λD σ H hh_=>by
 obtain⟨Z,B,M,E,h⟩:=hh_;refine⟨Z,B,M,E,?_⟩
 unfold uZ at h
 cases z:x Z with
 | bad=>rw[z]at h;exact h.elim
 | err c=>rw[z]at h;exact PostF.xa h
 | ok p=>
  rw[z,az]at h;intro v H' M' s' E' o' r
  by_cases hl:i<p.2.length
  ·rw[if_pos hl]at h
   exact h _ H' M' s' ⟨E'.env.set hl r,E'.mine⟩ o'
  ·rw[if_neg hl]at h;exact h.elim
end
def PostM (X:Cx)(B P:Ow)(j:Nat)(σ:L2.St)(H:Hp)(r:Rs Fx)(D:lY):Prop:=match r with
 | .ok (.nx Z')=> ∀σ' H' M',SameO P H H'->Ev X.K B M' H' Z' σ'->(∀a,M'.u a->P a\/Nw X.K H a)->σ'[j]? =σ[j]?->D.nx σ' H'
 | .ok (.rt t Z')=> ∀v σ' H' M',SameO P H H'->Ev X.K B M' H' Z' σ'->(∀a,M'.u a->P a\/Nw X.K H a)->σ'[j]? =σ[j]?->Rep X.K (OO B M') H' t v->D.rt v H'
 | .err c=>XA X kB H c
 | .bad=>False
def tPM (X:Cx)(j:Nat)(F:En->Rs Fx):TS:=λD σ H=> ∃Z B M,Ev X.K B M H Z σ/\PostM X B M.u j σ H (F Z) D
abbrev Eu (X:Cx)(j:Nat)(s:Stmt)(F:En->Rs Fx):Prop:=PS X s (tPM X j F)
abbrev B4 (X:Cx)(j:Nat)(s:List Stmt)(F:En->Rs Fx):Prop:=PSs X s (tPM X j F)
section
variable {X:Cx}{j:Nat}{a c:Expr}{es:List Expr}{x:En->Rs (T×En)}{fs:En->Rs (List T)}{pos p2 p3:Pos}
theorem PostM.later {B P P1:Ow}{σ σ1:L2.St}{H H1:Hp}{r:Rs Fx}{D:lY}(h:PostM X B P j σ H (yS r) D)(s:SameO P H H1)(sub:∀a,P1 a->P a\/Nw X.K H a)(hj:σ1[j]? =σ[j]?):PostM X B P1 j σ1 H1 r D:=by
 have back:∀a,P1 a\/Nw X.K H1 a->P a\/Nw X.K H a:=λa z=>z.elim (sub a) (eG s)
 cases r with
 | bad=>exact h
 | err c=>exact h.elim
 | ok f=>
  cases f with
  | nx Z'=>exact λσ' H' M' s' E' o' k=>h σ' H' M' (s.trans s' sub) E' (λa z=>back a (o' a z)) (k.trans hj)
  | rt t Z'=>exact λv σ' H' M' s' E' o' k r=>h v σ' H' M' (s.trans s' sub) E' (λa z=>back a (o' a z)) (k.trans hj) r
theorem PostM.same {B P:Ow}{σ:L2.St}{H H1:Hp}{r:Rs Fx}{D:lY}(h:PostM X B P j σ H r D)(s:Same H H1):PostM X B P j σ H1 r D:=by
 cases r with
 | err c=>exact XA.later h (SameO.of s) λ_ z=>z.elim
 | bad=>exact h
 | ok f=>exact PostM.later (r:=.ok f) h (SameO.of s) (λa z=> .inl z) rfl
theorem Jc:B4 X j [] mN:=PSs.imp wA λD σ H ⟨Z,B,M,E,h⟩=>h σ H M (λ_ _ e _=>e) E (λa z=> .inl z) rfl
theorem Jb {st:Stmt}{F:En->Rs Fx}(h:Eu X j st F):B4 X j [st] F:=wz h
theorem GJ {st:Stmt}{bN:List Stmt}{F G:En->Rs Fx}(h1:Eu X j st F)(h2:B4 X j bN G):B4 X j (st::bN) (nA F G):=PSs.imp (tD h1 h2) λD σ H hh_=>by
 obtain⟨Z,B,M,E,h⟩:=hh_;refine⟨Z,B,M,E,?_⟩
 unfold nA at h
 cases q:F Z with
 | bad=>rw[q]at h;exact h.elim
 | err c=>rw[q]at h;exact h
 | ok f=>
  rw[q]at h
  cases f with
  | nx Z'=>exact λσ' H' M' s' E' o' k=>⟨Z',B,M',E',PostM.later h s' o' k⟩
  | rt t Z'=>exact h
theorem m_ex (ha:xQ X a x)(hs:autoParam (Me a none pos.line X.env=pure false) aqd._auto_1):Eu X j (.Expr a pos) (An x):=PS.imp (j6 ha hs) λD σ H hh_=>by
 obtain⟨Z,B,M,E,h⟩:=hh_;refine⟨Z,B,M,E,?_⟩
 unfold An at h
 cases z:x Z with
 | bad=>rw[z]at h;exact h.elim
 | err c=>rw[z]at h;exact h
 | ok p=>rw[z,az]at h;exact λv H' M' s' E' o' r=>h σ H' M' s' E' o' rfl
theorem Ja (ha:xQ X a x):Eu X j (.Return (some a) pos) (rE x):=PS.imp (zL ha) λD σ H hh_=>by
 obtain⟨Z,B,M,E,h⟩:=hh_;refine⟨Z,B,M,E,?_⟩
 unfold rE at h
 cases z:x Z with
 | bad=>rw[z]at h;exact h.elim
 | err c=>rw[z]at h;exact h
 | ok p=>rw[z,az]at h;exact λv H' M' s' E' o' r=>h v σ H' M' s' E' o' rfl r
theorem m_if {f:En->Rs Bool}{A C:List Stmt}{F G:En->Rs Fx}(hc:uC X c f)(ha:B4 X j A F)(hb:B4 X j C G):Eu X j (.If c A C pos) (GK f F G):=PS.imp (zM hc ha hb) λD σ H hh_=>by
 obtain⟨Z,B,M,E,h⟩:=hh_;refine⟨Z,OO B M,E.o,?_⟩
 unfold GK at h
 cases q:f Z with
 | bad=>rw[q]at h;exact h.elim
 | err c=>rw[q]at h;exact h
 | ok k=>
  rw[q,az]at h;intro H' s
  have E':Ev X.K B M H' Z σ:=E.same s
  cases k with
  | true=>refine L2.iteT ?_;exact⟨Z,B,M,E',PostM.same (by simpa using h) s⟩
  | false=>refine L2.iteF ?_;exact⟨Z,B,M,E',PostM.same (by simpa using h) s⟩
theorem Ev.blank {K:Ld}{B:Ow}{M:Mn}{H:Hp}{Z:En}{σ:L2.St}(E:Ev K B M H Z σ):Ev K (OO B M) noM H (LG σ.length .em) σ:=
 ⟨⟨by simp,λi t e=>(by rw[Mi]at e;split at e <;> cases e),λi o e=>(by rw[Mi]at e;split at e <;> cases e),λ_ _ z=>z.elim,λ_ _ _ z=>z.elim,λa z=>E.env.trk a (z.elim id λ⟨_,w⟩=>w.elim)⟩,λa ⟨_,z⟩=>z.elim⟩
theorem Je {st:Stmt}{c:Str}(h:mx X st (uY c)):Eu X j st (DH c):=PS.imp h λD σ H hh_=>by
 obtain⟨Z,B,M,E,q⟩:=hh_;refine⟨_,_,_,E.blank,?_⟩
 exact XA.later (P:=kB) q (λ_ _ e _=>e) λ_ ⟨_,z⟩=>z.elim
end
section
variable {K:Ld}
theorem pF {f:Str}{b:Addr}:∀{ns:List Str} {as:List Addr},ns.length=as.length->ns.contains f=true->∃as1 d as2,as=as1++d::as2/\putF f (.ref b) (ns.zip (as.map V.ref))=ns.zip ((as1++b::as2).map V.ref) ∧
  ∀{O:Ow} {H:Hp} {ls:List (List T)} {l:List T} {vs:List V},H b=some (.lst vs)->Reps K O H l vs->LsR K O H ls as->LsR K O H (jE f l ns ls) (as1++b::as2)
 | [],as,_,h=>by cases h
 | n::ns,[],hl,_=>by cases hl
 | n::ns,d::as,hl,h=>by
  by_cases z:n=f
  ·subst z
   refine⟨[],d,as,rfl,?_,λ{O H ls l vs} e1 e2 r=> ?_⟩
   ·show(if n=n then(n,V.ref b)::_ else _)=_
    rw[if_pos rfl];rfl
   ·cases ls with
    | nil=>cases (show d::as= []from r)
    | cons u ls=>
     obtain⟨b',bs,ws,f1,f2,f3,f4⟩:=r;cases f1
     show LsR K O H (if n=n then l::ls else _) _
     rw[if_pos rfl];exact⟨b,as,vs,rfl,e1,e2,f4⟩
  ·have h':ns.contains f=true:=by
    rw[Oc,R7]at h;rcases h with h | h
    ·exact absurd (eq_of_beq h).symm z
    ·exact h
   obtain⟨as1,d',as2,g1,g2,g3⟩:=pF (f:=f) (b:=b) (by simpa using hl) h'
   refine⟨d::as1,d',as2,by rw[g1];rfl,?_,λ{O H ls l vs} e1 e2 r=> ?_⟩
   ·show(if n=f then _ else(n,V.ref d)::putF f (.ref b) (ns.zip (as.map V.ref)))=_
    rw[if_neg z,g2];rfl
   ·cases ls with
    | nil=>cases (show d::as= []from r)
    | cons u ls=>
     obtain⟨b',bs,ws,f1,f2,f3,f4⟩:=r;cases f1
     show LsR K O H (if n=f then _ else u::jE f l ns ls) _
     rw[if_neg z];exact⟨d,_,ws,rfl,f2,f3,g3 e1 e2 f4⟩
theorem wy {f:Str}{b:Addr}:∀{ns:List Str} {as:List Addr},ns.length=as.length->ns.contains f=false->putF f (.ref b) (ns.zip (as.map V.ref))=(ns++ [f]).zip ((as++ [b]).map V.ref)
 | [],[],_,_=>rfl
 | n::ns,[],hl,_=>by cases hl
 | n::ns,d::as,hl,h=>by
  rw[Oc,Qv]at h
  show(if n=f then _ else(n,V.ref d)::putF f (.ref b) (ns.zip (as.map V.ref)))=_
  rw[if_neg (λz=>by rw[z,beq_self_eq_true]at h;exact Bool.noConfusion h.1),wy (by simpa using hl) h.2];rfl
theorem LsR.app {O:Ow}{H:Hp}{b:Addr}{l:List T}{vs:List V}(e1:H b=some (.lst vs))(e2:Reps K O H l vs):∀{ls:List (List T)} {as:List Addr},LsR K O H ls as->LsR K O H (ls++ [l]) (as++ [b])
 | [],as,r=>by cases (show as= []from r);exact⟨b,[],vs,rfl,e1,e2,rfl⟩
 | u::ls,as,⟨d,ds,ws,f1,f2,f3,f4⟩=>by subst f1;exact⟨d,ds++ [b],ws,rfl,f2,f3,LsR.app e1 e2 f4⟩
end
section
variable {X:Cx}{j:Nat}{es:List Expr}{fs:En->Rs (List T)}{pos p2 p3 p4:Pos}
theorem Jd (i:Nat){n c f:Str}(hc:Cls X.K (bK X.K c))(hn:NoAttr X.K (bK X.K c) f)(ha:pd X es fs)(hN:autoParam (X.N[i]? =some n) aqd._auto_1)(hv:autoParam (oo X.env.scope n) aqe._auto_1)
  (hd:autoParam ((n == ("__debug__" : Str))=false) aqb._auto_1) (hcd:autoParam ((n == ("__classdict__" : Str))=false) aqb._auto_1) (hs:autoParam (Me (.List es p4) (some (.Attribute (.Name n p2) f p3)) pos.line X.env=pure false) aqd._auto_1) :
  Eu X j (.Assign [.Attribute (.Name n p2) f p3] (.List es p4) pos) (yq i c f fs):=PS.imp (Gd (fY hN hv hd hcd) (wC ha) hs) λD σ H hh_=>by
 obtain⟨Z,B,M,E,h⟩:=hh_;unfold yq at h
 split at h
 ·rename_i c' ns ls hi
  refine⟨Z,OO B M,E.o,?_⟩
  cases z:fs Z with
  | bad=>rw[z]at h;exact h.elim
  | err c=>rw[z]at h;exact h
  | ok l=>
   rw[z,az]at h;intro H1 s1 vs rs
   split at h
   ·rename_i hcc
    obtain⟨h1,h2,h3⟩:=hcc;subst h1;refine⟨by rw[<-rs.length];exact h2,λb hb=> ?_⟩
    have E1:=E.same s1;obtain⟨v0,s0,p,dx,as,e1,e2,⟨n1,n2,n3,n4⟩,e4,e5,e6,e7,e8⟩:=E1.env.own i _ hi;subst e1
    have nb:∀{d:Addr} {o:HO},H1 d=some o->d≠b:=λe z=>by rw[z,hb.1]at e;cases e
    have mb:∀a,M i a->a≠b:=λa w=>nb (E1.env.trk a (.inr ⟨i,w⟩)).some.choose_spec
    have pb:p≠b:=nb e4
    have hbas:b∉as:=λw=>mb b ((e2 b).mpr (.inr (.inr w))) rfl
    have sm1:Same H1 (upd H1 b (.lst vs)):=aZ hb.1 _;refine⟨_,s0,p,_,dx,_,rfl,sm1 _ _ e4,hc,hn,by rw[List.length_zip,Ln,<-e6];simpa using h3,?_⟩
    have key:∀(ns':List Str) (as':List Addr) (ls':List (List T)),putF f (.ref b) (ns.zip (as.map V.ref))=ns'.zip (as'.map V.ref)->ns'.length=as'.length->ns'.Nodup->as'.Nodup->(∀a,a∈as'->a=b\/a∈as) →
      (∀{O:Ow} {H:Hp},H b=some (.lst vs)->Reps X.K O H l vs->LsR X.K O H ls as->LsR X.K O H ls' as')->PostM X B M.u j σ H (.ok (.nx (Z.set i (.ow (.ob c' ns' ls'))))) D->D.nx σ (upd (upd H1 b (.lst vs)) p (.ins (bK X.K c') dx (putF f (.ref b) (ns.zip (as.map V.ref))))):=λns' as' ls' k1 k2 k3 k4 k5 k6 k7=>by
     rw[k1]
     generalize hm:(λa=>a=p\/a=dx\/a∈as':Ow)=m
     have hsub:∀a,m a->M i a\/Nw X.K H1 a:=λa w=>by
      subst hm;rcases w with w | w | w
      ·exact .inl ((e2 a).mpr (.inl w))
      ·exact .inl ((e2 a).mpr (.inr (.inl w)))
      ·exact(k5 a w).elim (λy=> .inr (y▸hb)) λy=> .inl ((e2 a).mpr (.inr (.inr y)))
     have hO:∀a,OO B (M.set i m) a->OO B M a\/Nw X.K H1 a:=λa w=>w.elim (λy=> .inl (.inl y)) λy=>(Mn.Kb y).elim (λq=>(hsub a q).imp_left λt=> .inr ⟨i,t⟩) λq=> .inl (.inr q)
     have sm2:SameO (λa=>a=p) (upd H1 b (.lst vs)) (upd (upd H1 b (.lst vs)) p (.ins (bK X.K c') dx (ns'.zip (as'.map V.ref)))):=λd o e ne=>by rw[aH ne];exact e
     have smi:SameO (M i) H1 (upd (upd H1 b (.lst vs)) p (.ins (bK X.K c') dx (ns'.zip (as'.map V.ref)))):=λd o e ne=>sm2 d o (sm1 _ _ e) λw=>ne ((e2 d).mpr (.inl w))
     have nin:∀a∈as',a≠p:=λa ha w=>(k5 a ha).elim (λy=>pb (w▸y)) λy=>n1 (w▸y)
     have rp:∀{t:List T} {ws:List V},Reps X.K (OO B M) H1 t ws->Reps X.K (OO B (M.set i m)) (upd (upd H1 b (.lst vs)) p (.ins (bK X.K c') dx (ns'.zip (as'.map V.ref)))) t ws:=λr=>r.move (P:=M i) (λa w=> .inl (.inr ⟨i,w⟩)) hO smi
     have smp:SameO (λa=>a=p) H1 (upd (upd H1 b (.lst vs)) p (.ins (bK X.K c') dx (ns'.zip (as'.map V.ref)))):=λd o e ne=>sm2 d o (sm1 _ _ e) ne
     have fin:=k6 (O:=OO B (M.set i m)) (H:=upd (upd H1 b (.lst vs)) p (.ins (bK X.K c') dx (ns'.zip (as'.map V.ref)))) (by rw[aH (NZ pb)];exact aQ) (rp rs) (e8.move (P:=λa=>a=p) (λa w=> .inl (.inr ⟨i,(e2 a).mpr (.inl w)⟩)) hO smp λd hd w=>n1 (w▸hd))
     have ndx:dx∉as':=λw=>(k5 dx w).elim (nb e5) n2
     obtain⟨g1,g2,g3⟩:=E1.back (m:=m) (o':=.ob c' ns' ls') hi s0 smi ⟨p,dx,as',rfl,λd=>by subst hm;exact Oo,⟨λw=>nin p w rfl,ndx,n3,k4⟩,aQ,by rw[aH n3];exact sm1 _ _ e5,k2,k3,fin⟩ hsub
     exact k7 σ _ _ (λd o e ne=>g2 d o (s1 _ _ e) ne) g1 (λa w=>(g3 a w).imp_right (j8 s1)) rfl
    cases hf:ns.contains f with
    | true=>
     rw[hf,if_pos rfl]at h;obtain⟨as1,d,as2,q1,q2,q3⟩:=pF (K:=X.K) (f:=f) (b:=b) e6 hf;subst q1;refine key ns (as1++b::as2) (jE f l ns ls) q2 (by rw[e6];simp) e7 ?_ (λa w=> ?_) (λa1 a2 a3=>q3 a1 a2 a3) h
     ·rw[Mt]at n4 ⊢
      obtain⟨m1,m2,m3⟩:=n4
      have nb1:b∉as1:=λw=>hbas (LW _ w)
      have nb2:b∉as2:=λw=>hbas (LF _ (Lg _ w))
      refine⟨m1,LJ.mpr ⟨nb2,(LJ.mp m2).2⟩,λu hu w hw=> ?_⟩
      rcases Lp.mp hw with hw | hw
      ·exact λy=>nb1 (by rw[<-hw,<-y];exact hu)
      ·exact m3 u hu w (Lg _ hw)
     ·rcases LH.mp w with w | w
      ·exact .inr (LW _ w)
      ·rcases Lp.mp w with w | w
       ·exact .inl w
       ·exact .inr (LF _ (Lg _ w))
    | false=>
     rw[hf,if_neg LM]at h;refine key (ns++ [f]) (as++ [b]) (ls++ [l]) (wy e6 hf) (by simp[e6]) ?_ ?_ (λa w=> ?_) (λa1 a2 a3=>LsR.app a1 a2 a3) h
     ·rw[Mt]
      refine⟨e7,by simp,λu hu w hw y=> ?_⟩
      rw[Ly.mp hw]at y
      have:ns.contains f=true:=by rw[List.contains_iff_mem,<-y];exact hu
      rw[hf]at this;cases this
     ·rw[Mt]
      exact⟨n4,by simp,λu hu w hw y=>hbas (by rw[<-Ly.mp hw,<-y];exact hu)⟩
     ·rcases LH.mp w with w | w
      ·exact .inr w
      ·exact .inl (Ly.mp w)
   ·exact h.elim
 ·exact h.elim
end
theorem mE {K:Ld}{B:Ow}{M:Mn}{H:Hp}{N:List Str}{sls:List Sl}{vs:List V}(E:Ev K B M H sls (vs.map some))(hl:sls.length<=N.length):Ev K B M H (dS N.length sls) (start N vs):=by
 have hlen:sls.length=vs.length:=by rw[E.env.len,Ln]
 have low:∀(i:Nat) (z:Sl),(dS N.length sls)[i]? =some z->z= .em\/(sls[i]? =some z/\(start N vs)[i]? =(vs.map some)[i]?):=λi z e=>by
  unfold dS at e;unfold L2.start
  by_cases hi:i<sls.length
  ·rw[Mq hi]at e
   exact .inr ⟨e,Mq (by rw[Ln,<-hlen];exact hi)⟩
  ·rw[Nc (by omega),Mi]at e
   split at e
   ·cases e;exact .inl rfl
   ·cases e
 refine⟨⟨by unfold dS L2.start;simp;omega,λi t e=> ?_,λi o e=> ?_,E.env.sub,E.env.dis,E.env.trk⟩,E.mine⟩
 ·rcases low i _ e with z | ⟨e1,e2⟩
  ·cases z
  ·rw[e2];exact E.env.val i t e1
 ·rcases low i _ e with z | ⟨e1,e2⟩
  ·cases z
  ·rw[e2];exact E.env.own i o e1
theorem Ds {j:Nat}{f:Fx}{p:T×OT}(h:oN j f= .ok p):(∃Z,f= .nx Z/\p.1= .non/\Z[j]? =some (.ow p.2))\/∃Z,f= .rt p.1 Z/\Z[j]? =some (.ow p.2):=by
 cases f with
 | nx Z=>
  unfold oN at h
  dsimp only at h
  split at h
  ·rename_i o e;cases h;exact .inl ⟨Z,rfl,rfl,e⟩
  ·cases h
 | rt t Z=>
  unfold oN at h
  dsimp only at h
  split at h
  ·rename_i o e;cases h;exact .inr ⟨Z,rfl,e⟩
  ·cases h
section
variable {P:LP}{w:Mh}{K:Ld}{mg:Str->Option Lh}{base:Heap}
theorem JE {x qual:Str}{st:Stmt}{f:Addr}{fd:Mo}{N ps:List Str}{k n j:Nat}{F:En->Rs Fx}(Fn:L2.Fun K x qual st f fd)(S:aw N ps (ai st))(hn:ps.length=n)
  (hbody:∀(cdv:Lh) (A:L3) (outer:List Env) (s:Lj) (H:Hp) (E:XK),Room k (A.deeper (envOfC qual (ai st) s.heap.objs.size f cdv)) →
   B4 (fI CX0 P w K mg base N qual (ai st) f cdv A outer s H E).nox j (bF st) F):ox P w K mg base CX0 (k+1) f fd ps (spE K n j (hI n j N.length F)):=by
 have hpl:ps.length<=N.length:=by have:=congrArg M8 S.pre;rw[Ng]at this;omega
 refine Fn.ok S (λvs H Q E h=> ?_) (λcdv A outer s H vs Q E hr h=> ?_)
 ·obtain⟨sls,B,m,v,Ea,hl,_⟩:=h
  rw[<-Ln (as:=vs) (f:=some),<-Ea.env.len,hl,hn]
 ·obtain⟨sls,B,m,v,Ea,hl,hv,h⟩:=h
  refine⟨_,hbody cdv A outer s H E hr,dS N.length sls,B,one j m,mE Ea (by omega),?_⟩
  have hjs:(start N vs)[j]? =some (some v):=by
   unfold L2.start;rw[Mq (by rw[Ln];exact(Lz.mp hv).1),LI,hv];rfl
  unfold hI at h;rw[if_pos hl]at h
  have fin:∀{p:T×OT} {Z':En} {σ':L2.St} {H':Hp} {M':Mn} {u:V},(∀u H' m',SameO m H H'->ORep K (BM B m') m' H' p.2 v->(∀a,m' a->m a\/Nw K H a)->Rep K (BM B m') H' p.1 u->Q u H')->Z'[j]? =some (.ow p.2) →
    SameO (one j m).u H H'->Ev K B M' H' Z' σ'->(∀a,M'.u a->(one j m).u a\/Nw K H a)->σ'[j]? =(start N vs)[j]?->Rep K (OO B M') H' p.1 u->Q u H':=λ{p Z' σ' H' M' u} h hj s' E' o' k r=>by
   obtain⟨v',e1,e2⟩:=E'.env.own j _ hj;rw[k,hjs]at e1;cases e1
   have sub:∀a,BM B (M' j) a->OO B M' a:=λa z=>z.imp_right λy=>⟨j,y⟩
   exact h u H' (M' j) (λb o e n=>s' b o e λz=>n (one_u.mp z)) (e2.move (P:=kB) (λ_ z=>z.elim) (λa z=> .inl (sub a z)) (λb u q _=>q) λ_ _ z=>z) (λa z=>(o' a ⟨j,z⟩).imp_left one_u.mp) (r.less sub)
  cases q:F (dS N.length sls)with
  | bad=>rw[q]at h;exact h.elim
  | err c=>rw[q]at h;exact h.elim
  | ok fl=>
   rw[q,az]at h
   cases q2:oN j fl with
   | bad=>rw[q2]at h;exact h.elim
   | err c=>rw[q2]at h;exact h.elim
   | ok p=>
    rw[q2]at h;rcases Ds q2 with⟨Z',rfl,e1,e2⟩ | ⟨Z',rfl,e2⟩
    ·exact λσ' H' M' s' E' o' k=>fin h e2 s' E' o' k (by rw[e1];exact Rep.Kx)
    ·exact λu σ' H' M' s' E' o' k r=>fin h e2 s' E' o' k r
theorem DU {x qual:Str}{st:Stmt}{f:Addr}{fd:Mo}{N ps:List Str}{k:Nat}(Fn:L2.Fun K x qual st f fd)(S:aw N ps (ai st)){A:L3}{outer:List Env}{s:Lj}{H:Hp}{args:Args}{us:List Lh}{vs:List V}{c:Str}{R:Sd->Lj->Prop}
  (hr:Room (k+1) A) (e0:Env0 P w K mg base A outer s H) (hb:Qm s fd args (ps.zip us)) (r:Vals vs us) (hlen:vs.length=ps.length) (hR:∀ev s',RzC P w mg outer H s c ev s'->R (.error ev) s')
  (hbody:∀cdv,Room k (A.deeper (envOfC qual (ai st) s.heap.objs.size f cdv))->∀xe,∃t,PSs ((fI CX0 P w K mg base N qual (ai st) f cdv A outer s H E0).FB xe) (bF st) t ∧
   (XA ((fI CX0 P w K mg base N qual (ai st) f cdv A outer s H E0).FB xe) kB H c->t { nx:=λ_ _=>False,rt:=λ_ _=>False,bk:=λ_ _=>False,ct:=λ_ _=>False } (start N vs) H)) :
  codeAny (model P w) A (.call (.ref f) args) R s:=by
 obtain⟨oc,od,kV,doc,pm,an,cdv,ct,osl,rfl,lk,hcd⟩:=Fn.ex
 have KX:K.In s.heap:=e0.mod.kin.keeps λb o e=>(e0.bs b o e).1
 have lim:s.heap.NoLimit:=e0.mod.nolimit.keeps λb o e=>(e0.bs b o e).1
 have hkind:∀y∈ps.zip us,(ai st).names.lookup y.1=some .local\/((ai st).names.lookup y.1=some .cell/\((Nt (s.heap.objs.size+1) (ai st).names []).lookup y.1).isSome=true):=λ⟨n,v⟩ hy=>by
  rcases S.par n (Oa hy).1 with q | q
  ·exact .inl q
  ·exact .inr ⟨q,NC _ _ _ (.inl q)⟩
 refine OA hr.depth (KX _ _ lk) rfl S.co S.gen rfl (Pa KX hcd) (hb _ _ _ _ ?_)
 refine NU S.kind hkind λenv he s1 x=> ?_
 subst he;refine⟨lim.keeps x.toInCall.keep,RI ?_⟩
 let xe:Lh->Lj->Prop:=λev s'=>wpAny (model P w) (A.deeper (envOfC qual (ai st) s.heap.objs.size f cdv)) (leaving (envOfC qual (ai st) s.heap.objs.size f cdv) ev) (λ_ s''=>R (.error ev) s'') (λe' s''=>R (.error e') s'') s'
 obtain⟨t,ht,hgo⟩:=hbody cdv (hr.deeper _) xe
 have I:Inv ((fI CX0 P w K mg base N qual (ai st) f cdv A outer s H E0).FB xe) [] (start N vs) H s1:=(lh S hr.hd e0 hlen r x).FB _;refine Nh (ht [] s1 (start N vs) H _ I (hgo ?_)) (λfl s' z=> ?_) λe s' hs=>hs
 rotate_left
 ·cases fl with
  | next=>obtain⟨_,_,_,z⟩:=z;exact z.elim
  | cont=>obtain⟨_,_,_,z⟩:=z;exact z.elim
  | brk=>obtain⟨_,_,_,z⟩:=z;exact z.elim
  | ret v=>obtain⟨_,_,_,_,_,z⟩:=z;exact z.elim
 intro pins ev s' w'
 show wpAny _ _ _ _ _ _
 obtain⟨e,T,C,σ',H',rfl,hm,I',sm,he,heo,fl,hT,_⟩:=w'
 have heo:=heo rfl
 have hT:∀t,T=some t->H' t=none/\s.heap.get? t=none:=λt z=>⟨(hT t z).1,(hT t z).2 rfl⟩
 refine Av (base:=base) (outer:=outer) (L:=s.heap.objs.size) I'.ok.frames I'.stack rfl fl λh' T' g=>hR _ _ ?_
 have hex:((fI CX0 P w K mg base N qual (ai st) f cdv A outer s H E0).FB xe).ex= []:=rfl
 have Tn:H' T'=none/\s.heap.get? T'=none:=by
  rcases g.new with z | z
  ·exact hT T' z
  ·exact⟨ka I' z,gc I' hex z⟩
 have out:∀b o,s.heap.get? b=some o->b≠s.heap.objs.size:=λb o q z=>by
  have:=Lw q;rw[z]at this;exact absurd this (LV _)
 have mem:∀b,b∈nN ((envOfC qual (ai st) s.heap.objs.size f cdv)::outer)->b=s.heap.objs.size\/b∈nN outer:=λb z=>by
  have z':b∈s.heap.objs.size::nN outer:=z;exact Lp.mp z'
 have ne:∀b o,s.heap.get? b=some o->b≠e/\T≠some b:=λb o q=>⟨λz=>(by subst z;rw[show s.heap.get? b=none from heo]at q;cases q),λz=>(by rw[show s.heap.get? b=none from(hT b z).2]at q;cases q)⟩
 have keepH:∀b u,H' b≠none->s'.heap.get? b=some u->h'.get? b=some u:=λb u hb q=>by
  refine g.keep b u (λz=>hb (I'.Kd b z)) (λz=>hb (by rw[z];exact he)) (λz=>hb (hT b z).1) q
 refine⟨e,T',C,H',rfl,hm,I'.os,I'.bare,⟨λb o q n hb hx=> ?_,λb o q n hb hx=> ?_,λb o q n hx=>I'.base.free b o q n hx,λb o q hx=> ?_,I'.base.tups,I'.base.frzs,I'.base.tbls⟩,λa o q=> ?_,λb o q=>sm b o q λz=>z,he,heo,g.flt,Tn.1,Tn.2⟩
 ·exact g.keep b o (λz=>(mem b z).elim (out b o q) hb) (ne b o q).1 (ne b o q).2 (I'.base.keep b o q n hb hx)
 ·obtain⟨sl,q1⟩:=I'.base.slot b o q n hb hx
  obtain⟨sl',q2⟩:=g.slot b _ (Lg _ hb) q1;exact⟨sl',q2⟩
 ·obtain⟨o',q1⟩:=I'.base.there b o q hx
  by_cases z:b∈nN ((envOfC qual (ai st) s.heap.objs.size f cdv)::outer)
  ·obtain⟨sl,q2⟩:=g.slot b o' z q1
   exact⟨_,q2⟩
  ·exact⟨o',g.keep b o' z (ne b o q).1 (ne b o q).2 q1⟩
 ·refine(I'.hok a o q).Ki (λb u hb z=>keepH b u ?_ z) (λ_ z=>z) λ_ _ z=>z
  rcases hb with rfl | hb
  ·rw[q];simp
  ·rw[hb];simp
theorem zh {n j m:Nat}{F:En->Rs Fx}{sls:List Sl}{c:Str}(h:hI n j m F sls= .err c):F (dS m sls)= .err c:=by
 unfold hI at h
 split at h
 ·cases z:F (dS m sls)with
  | bad=>rw[z]at h;cases h
  | err c'=>rw[z]at h;cases h;rfl
  | ok f=>
   rw[z,az]at h;cases f <;> unfold oN at h <;> dsimp only at h <;> split at h <;> cases h
 ·cases h
theorem Bd {x qual:Str}{st:Stmt}{f:Addr}{fd:Mo}{N ps:List Str}{k n j:Nat}{F:En->Rs Fx}(Fn:L2.Fun K x qual st f fd)(S:aw N ps (ai st))(hn:ps.length=n)
  (hbody:∀(cdv:Lh) (A:L3) (outer:List Env) (s:Lj) (H:Hp) (E:XK),Room k (A.deeper (envOfC qual (ai st) s.heap.objs.size f cdv)) →
   ∀xe,B4 ((fI CX0 P w K mg base N qual (ai st) f cdv A outer s H E).FB xe) j (bF st) F):EA P w K mg base (k+1) f fd ps n j (hI n j N.length F):=
 ⟨JE Fn S hn λcdv A outer s H E hr=>hbody cdv A outer s H E hr _,λA outer s H args us vs B m sls c R hr e0 hb r Ea hl hg hR=>by
  have hpl:ps.length<=N.length:=by have:=congrArg M8 S.pre;rw[Ng]at this;omega
  refine DU Fn S hr e0 hb r ?_ hR λcdv hr' xe=>⟨_,hbody cdv A outer s H E0 hr' xe,λxa=>⟨dS N.length sls,B,one j m,mE Ea (by omega),?_⟩⟩
  ·rw[<-Ln (as:=vs) (f:=some),<-Ea.env.len,hl,hn]
  ·rw[zh hg];exact xa⟩
end
section
variable {X:Cx}{pins:List (Addr×Obj)}{σ:L2.St}{H:Hp}{s:Lj}{Q:VK}{us:List Lh}{vs:List V}{ts:List T}{B O:Ow}{k n:Nat}{f:Addr}{fd:Mo}{ps:List Str}{g:List Sl->Rs (T×OT)}{c:Str}
theorem yb (M:Mk X.K (bK X.K c) f)(F:EA X.prog X.w X.K X.mg X.base k f fd ps n 0 g)(hr:Room (k+1) X.A)(hb:Binds X.K fd ps [])(hn:ts.length+1=n)(hps:ps.length=n)(I:Inv X pins σ H s)(r:Vals vs us)(rs:Reps X.K O H ts vs)(mt:∀a,O a->Mtb H a){o:OT}
  (hg:g (.ow (.ob c [] [])::ts.map Sl.va)= .ok (.non,o)) (h:∀p H' m,Same H H'->ORep X.K (BM O m) m H' o (.ref p)->(∀a,m a->Nw X.K H a)->Q (.ref p) H'):wpAny (model X.prog X.w) X.A (call (.ref (bK X.K c)) us) (EP X pins σ Q) X.xe s:=by
 have nk:∀q,s.heap.objs.size<=q->X.K.lookup q=none:=λq hq=>by
  cases z:X.K.lookup q with
  | none=>rfl
  | some o=>exact absurd (Lw (I.kIn _ o z)) (Nat.not_lt.mpr hq)
 generalize hp:s.heap.objs.size+1=p
 have np:Nw X.K H p:=⟨I.hok.fresh (by omega),nk p (by omega)⟩
 generalize hd:s.heap.objs.size=dx at hp
 have nd:Nw X.K H dx:=⟨I.hok.fresh (by omega),nk dx (by omega)⟩
 have ne:dx≠p:=by omega
 have sm0:Same H (upd (upd H dx (.own p)) p (.ins (bK X.K c) dx [])):=λb o e=>by
  rw[aH (λz=>by rw[z,np.1]at e;cases e),aH (λz=>by rw[z,nd.1]at e;cases e)];exact e
 have hm:∀a,(λa=>a=p\/a=dx:Ow) a->Nw X.K H a:=λa z=>z.elim (λy=>y▸np) λy=>y▸nd
 have subO:∀a,OO O (one 0 λa=>a=p\/a=dx) a->O a\/Nw X.K H a:=λa z=>(one_oo.mp z).imp_right (hm a)
 have hlen:=rs.length
 have Ea:Ev X.K O (one 0 λa=>a=p\/a=dx) (upd (upd H dx (.own p)) p (.ins (bK X.K c) dx [])) (.ow (.ob c [] [])::ts.map Sl.va) ((V.ref p::vs).map some):=by
  refine⟨⟨by simp[hlen],λi t e=> ?_,λi o' e=> ?_,λi a z=> .inr ⟨i,z⟩,λi k a z1 z2=> ?_,λa z=> ?_⟩,λa z y=> ?_⟩
  ·obtain⟨w,e1,e2⟩:=rR (v0:=V.ref p) rs e
   exact⟨w,by rw[LI,e1];rfl,(e2.more subO).same sm0⟩
  ·have hi:=rS e
   subst hi;cases e;refine⟨.ref p,rfl,p,dx,[],rfl,λb=> ?_,⟨by simp,by simp,ne,by simp⟩,aQ,?_,rfl,by simp,rfl⟩
   ·rw[show one 0 (λa=>a=p\/a=dx) 0=_ from Mn.Kh];simp
   ·rw[aH ne];exact aQ
  ·unfold one Mn.set at z1 z2
   by_cases h1:i=0
   ·by_cases h2:k=0
    ·rw[h1,h2]
    ·rw[if_neg h2]at z2;exact z2.elim
   ·rw[if_neg h1]at z1;exact z1.elim
  ·rcases one_oo.mp z with y | y | y
   ·exact(mt a y).same sm0
   ·rw[y];exact .inr (.inr ⟨_,aQ,rfl⟩)
   ·rw[y];exact .inr (.inr ⟨_,by rw[aH ne];exact aQ,rfl⟩)
  ·obtain⟨o,e⟩:=(mt a y).some
   rw[(hm a (one_u.mp z)).1]at e;cases e
 have hq:spE X.K n 0 g (.ref p::(vs++ [])) (upd (upd H dx (.own p)) p (.ins (bK X.K c) dx [])) (λv H2=>v= .non/\Q (.ref p) H2) E0:=by
  refine⟨_,O,_,.ref p,by rw[LZ];exact Ea,by simp[hn],rfl,?_⟩
  rw[hg];intro u H' m' s' ro hm' rt;refine⟨Rep.Ka.mp rt,h p H' m' (λb o e=>s' b o (sm0 _ _ e) λz=> ?_) ro λa z=> ?_⟩
  ·rw[(hm b z).1]at e;cases e
  ·rcases hm' a z with y | y
   ·exact hm a y
   ·exact j8 sm0 y
 have I2:=Inv.made (C:=bK X.K c) I;rw[hd,hp]at I2
 have r2:Vals (V.ref p::(vs++ [])) (LR p::(us++ [])):=.cons rfl (r.append .nil)
 have hl:(LR p::us++ []).length=ps.length:=by rw[LZ,Lm,<-r.length,<-hlen,hps,hn]
 refine Qr (Am (f:=f) I.kIn M.makes M.init (beq_iff_eq.mp M.fn) ?_)
 rw[hd,hp]
 have hb2:=hb _ (LR p::us) I2.kIn hl;rw[RU]at hb2;refine N6 (F.h.run _ X.stack _ _ ⟨LR p::us,[]⟩ (LR p::(us++ [])) _ _ E0 (hr.make (bK X.K c) us []) (I2.Kw.make (bK X.K c) us []) hb2 r2 hq) λr s' hq'=> ?_
 cases r with
 | error e=>exact hq'.elim
 | ok fl=>
  cases fl with
  | ret u=>
   obtain⟨v,H',I3,rv,ev,q3⟩:=I2.after hq';subst ev
   exact⟨rv,⟨V.ref p,H',I3,rfl,q3⟩⟩
  | next=>exact Nf hq'
  | brk=>exact Nf hq'
  | cont=>exact Nf hq'
theorem CM (i:Nat){e:Expr}{es:List Expr}{fs:En->Rs (List T)}{n0:Str}{p pos spos p3:Pos}(M:Mk X.K (bK X.K c) f)(F:EA X.prog X.w X.K X.mg X.base k f fd ps n 0 g)(hr:Room (k+1) X.A)(hm:X.mg c=some (.ref (bK X.K c)))(hb:Binds X.K fd ps [])(hps:ps.length=n)
  (hl:∀Z ts,fs Z= .ok ts->ts.length+1=n) (hN:X.N.Nodup) (ha:pd X (e::es) fs) (hi:autoParam (X.N[i]? =some n0) aqd._auto_1) (hx:autoParam (Loc X.env.scope n0) aqh._auto_1)
  (hs:autoParam (Me (.Call (.Name c p) (e::es) [] pos) (some (.Name n0 p3)) spos.line X.env=pure false) aqd._auto_1) (hf:autoParam (X.fn n0=true\/X.env.scope.names.lookup n0=some .local) aqa._auto_1)
  (hg:autoParam (Gl X c) aqd._auto_1) (hdb:autoParam ((c == ("__debug__" : Str))=false) aqb._auto_1) (he:autoParam (LA (e::es) X.env=(false,eval e X.env)::LA es X.env) aqd._auto_1) (hpl:autoParam ((backTo pos (LA es X.env)).any (·.1)=false) aqd._auto_1) :
  mx X (.Assign [.Name n0 p3] (.Call (.Name c p) (e::es) [] pos) spos) (mS i c g fs):=by
 let te:TE:=λσ H Q=> ∃Z B M',Ev X.K B M' H Z σ/\(∀c,fs Z= .err c->XA X kB H c)/\fs Z≠ .bad/\(∀ts,fs Z= .ok ts->∃o,g (.ow (.ob c [] [])::ts.map Sl.va)= .ok (.non,o)/\∀q H1 H' m,Same H H1->Same H1 H'->ORep X.K (BM (OO B M') m) m H' o (.ref q)->(∀a,m a->Nw X.K H1 a)->Q (.ref q) H')
 have pe:PE X (.Call (.Name c p) (e::es) [] pos) te:=by
  intro pins s σ H Q I ⟨Z,B,M',E,h1,h2,h3⟩;refine MH (gL I hg hm ?_ hdb)
  refine NG (h₀:=X.base) I.ok.mod.kin M.kp (bR (ha pos pins s σ H (λvs H2=> ∃ts,fs Z= .ok ts/\Same H H2/\Reps X.K (OO B M') H2 ts vs) I ⟨Z,OO B M',E.o,?_⟩) λus s1 ⟨vs,H1,I1,r,ts,q1,sm,rs⟩=>⟨I1.kIn,?_⟩) he hpl
  ·cases z:fs Z with
   | bad=>exact(h2 z).elim
   | err c=>exact h1 c z
   | ok ts=>exact λH' s' vs rs=>⟨ts,rfl,s',rs⟩
  ·obtain⟨o,hgo,hq⟩:=h3 ts q1
   exact yb M F hr hb (hl Z ts q1) hps I1 r rs (E.same sm).env.trk hgo λq H' m s' ro hm'=>hq q H1 H' m sm s' ro hm'
 refine PS.imp (qH hN hi hx pe hs hf) λD σ H ⟨Z,B,M',E,h⟩=> ?_
 unfold mS at h;refine⟨Z,B,M',E,λc z=> ?_,λz=> ?_,λts z=> ?_⟩
 ·rw[z]at h;exact PostF.xa h
 ·rw[z]at h;exact h
 ·rw[z,az]at h
  cases z2:g (.ow (.ob c [] [])::ts.map Sl.va)with
  | bad=>rw[z2]at h;exact h.elim
  | err c=>rw[z2]at h;exact h.elim
  | ok q=>
   rw[z2]at h
   replace h:PostF X B M'.u H (match q.1 with
    | .non=>if i<Z.length then .ok (.nx (Z.set i (.ow q.2)))else .bad
    | _=> .bad) D:=h
   obtain⟨t,o⟩:=q
   cases t with
   | non=>
    dsimp only at h
    refine⟨o,rfl,λq H1 H' m s1 s' ro hm'=> ?_⟩
    by_cases hl:i<Z.length
    ·rw[if_pos hl]at h
     obtain⟨E2,sub⟩:=(E.same s1).new (m:=m) (o:=o) (v:=.ref q) hl hm' s' (ro.move (P:=kB) (λ_ z=>z.elim) (λa z=> .inl (z.elim (λw=> .inl (.inl w)) λw=>(Mn.Kb w).elim .inr λy=> .inl (.inr y))) (λb u q _=>q) λ_ _ z=>z)
     exact h _ _ _ (SameO.of (s1.trans s')) E2 λa z=>(sub a z).imp_right (j8 s1)
    ·rw[if_neg hl]at h;exact h.elim
   | _=>exact h.elim
end
section
variable {X:Cx}{j:Nat}
def BP (X:Cx)(suite:List Stmt)(CE:Addr)(h:Str->Rs T):Prop:=
 ∀(c:Str) (C:Addr) (t:T),X.mg c=some (.ref C)->h c= .ok t->∃bm,OX X.K C bm/\(LR C::bm).contains (.ref CE)=true/\∀(e:Addr) (oe:Obj),jI (E6 X e oe) suite (aI (cn t))
theorem GI {body suite:List Stmt}{b0:Stmt}{F:En->Rs Fx}{h:Str->Rs T}{ce:Str}{CE:Addr}{bmE:List Lh}{np hpos pos:Pos}(hst:X.stack=X.env::X.outer)(hfe:X.env.frame=some X.env.locals)(hcl:∀x c,X.env.cells.lookup x≠some c)(hex:X.ex= [])
  (hm:X.mg ce=some (.ref CE)) (OE:OX X.K CE bmE)
  (hb:∀pn xe,B4 { X with pn:=pn,xe:=xe } j body F) (hs:BP X (b0::suite) CE h) (hg:autoParam (Gl X ce) aqd._auto_1) (hd:autoParam ((ce == ("__debug__" : Str))=false) aqb._auto_1) :
  Eu X j (.Try body [.ExceptHandler (some (.Name ce np)) none (b0::suite) hpos] [] [] pos) (tZ F h):=by
 intro pins s σ H D I ⟨Z,B,M,E,hq⟩;refine wpAny_Try_except ?_
 unfold tZ at hq
 cases q:F Z with
 | bad=>rw[q]at hq;exact hq.elim
 | ok fl=>
  rw[q]at hq;refine Nh (hb X.pn (λ_ _=>False) pins s σ H D (I.FB _) ⟨Z,B,M,E,by rw[q];cases fl <;> exact hq⟩) (λf s1 r=> ?_) (λe s1 z=>z.elim)
  cases f with
  | next=>obtain⟨σ7,H7,I7,q7⟩:=r;exact Oe ⟨σ7,H7,I7.FB _,q7⟩
  | ret u=>obtain⟨x7,σ7,H7,I7,r7,q7⟩:=r;exact⟨x7,σ7,H7,I7.FB _,r7,q7⟩
  | brk=>obtain⟨σ7,H7,I7,q7⟩:=r;exact⟨σ7,H7,I7.FB _,q7⟩
  | cont=>obtain⟨σ7,H7,I7,q7⟩:=r;exact⟨σ7,H7,I7.FB _,q7⟩
 | err c=>
  rw[q]at hq
  cases q2:h c with
  | bad=>simp only[q2]at hq;exact hq.elim
  | err c'=>simp only[q2]at hq;exact hq.elim
  | ok t=>
   simp only[q2]at hq
   have hq':∀v H',Same H H'->Rep X.K (OO B M) H' t v->D.rt v H':=λv H' s' r=>hq v σ H' M (SameO.of s') (E.same s') (λa z=> .inl z) rfl r
   refine Nh (hb (X.pn++pins) _ [] s σ H { nx:=λ_ _=>False,rt:=λ_ _=>False,bk:=λ_ _=>False,ct:=λ_ _=>False } ((Tr.Inv.KY pins I).FB _) ⟨Z,B,M,E,?_⟩) (λfl s' z=> ?_) λ_ _ z=>z
   rotate_left
   ·cases fl with
    | next=>obtain⟨_,_,_,z⟩:=z;exact z.elim
    | cont=>obtain⟨_,_,_,z⟩:=z;exact z.elim
    | brk=>obtain⟨_,_,_,z⟩:=z;exact z.elim
    | ret v=>obtain⟨_,_,_,_,_,z⟩:=z;exact z.elim
   rw[q];intro pins1 ev s1 w;obtain⟨e,T,C,σ1,H1,rfl,hmc,I1,smn,he,heo,fl,hT,hpp⟩:=w
   have sm:Same H H1:=λb o z=>smn b o z λy=>y
   have I1:Inv X pins σ1 H1 s1:=Tr.Inv.KP (X:=X) I1
   have hpp:∀p∈X.pn++pins,p.1≠e/\T≠some p.1:=λp hp=>hpp p (LW _ hp)
   have heo:=heo hex
   have hT:∀t,T=some t->H1 t=none/\X.s₀.heap.get? t=none:=λt z=>⟨(hT t z).1,(hT t z).2 hex⟩
   show wpAny _ _ _ _ _ _
   have hfr:X.A.frames=some (X.env::X.outer):=by rw[<-hst];exact I1.ok.frames
   have hstk:s1.heap.FunFrames X.base (X.env::X.outer):=by rw[<-hst];exact I1.stack
   refine IY hfr hstk hfe fl λh' T' g=> ?_
   have I2:=Inv.gone I1 hst hfe hcl hex g he heo hT hpp
   have Tn:H1 T'=none/\X.s₀.heap.get? T'=none/\∀p∈X.pn++pins,p.1≠T':=by
    rcases g.new with z | z
    ·exact⟨(hT T' z).1,(hT T' z).2,λp hp y=>(hpp p hp).2 (by rw[z,y])⟩
    ·exact⟨ka I1 z,gc I1 hex z,λp hp y=>by have:=(I1.pin p hp).1;rw[y,z]at this;cases this⟩
   obtain⟨bm,OC,hin,run⟩:=hs c C t hmc q2;obtain⟨hTe,oe,ev,hoe,hoc,hod,h1,oT,ts,hoT,hdT,h3⟩:=g.flt
   have nfr:∀b o vs,h'.get? b=some o->o.data= .fields vs->b∉(X.env::X.outer).filterMap (·.frame):=λb o vs hb hd z=>by
    have:=I2.stack;rw[hst]at this;obtain⟨_,o',ho',hnf⟩:=this.mem z;rw[show h'.get? b=some o' from ho']at hb
    cases hb;exact hnf vs hd
   have hel:e≠X.env.locals:=λz=>nfr e oe ev hoe hod (by rw[MC,hfe];exact z▸Ll)
   have hef:e∉X.fs:=λz=>nfr e oe ev hoe hod (by rw[MC,hfe];exact Lg _ z)
   have hcell:∀v,oe.data≠ .cell v:=λv z=>by rw[hod]at z;cases z
   have I3:Inv (E6 X e oe) pins σ1 H1 { s1 with heap:=h' }:=xk I2 hoe he hel hef hcell
   refine wpAny_handleBy_cons (codeAny_handlers_test (gL (X:=E6 X e oe) I3 hg hm ?_ hd)) (by intro z;cases z)
   obtain⟨nm,qq,N,bs,hdct,sn,sub,ab,col,dd,k0,k1,k2,k3,k5,mN,hC,_⟩:=OC.at_ h' I3.kIn;obtain⟨nm',qq',N',bs',hdct',sn',sub',ab',col',dd',k0',k1',k2',k3',k5',mN',hD,_,_,TD⟩:=OE.at_ h' I3.kIn;refine yp hC hD hoe hoc (TD.tail.hasType (by decide)) hin (codeAny_handlers_suite ?_)
   refine wpAny_setFlight_none hoe hod h1 hoT hdT (MK.mp h3).1 ?_
   generalize hU:h'.update T' (Q1 (·.setIfInBounds 3 L1))=h2
   have kp:∀b,b≠T'->h2.get? b=h'.get? b:=λb hb=>by rw[<-hU];exact Oi _ _ (NZ hb)
   have hT2:h2.get? T'=some (Q1 (·.setIfInBounds 3 L1) oT):=by rw[<-hU];exact P8 _ hoT (P9 (Ob hdT _))
   have hoe2:h2.get? e=some oe:=(kp e (NZ hTe)).trans hoe
   have g2:Ez ((X.env::X.outer).filterMap (·.frame)) C e (some T') h' h2 T':=⟨⟨hTe,oe,ev,hoe2,hoc,hod,h1,_,_,hT2,Ob hdT _,by simp[(MK.mp h3).1]⟩,.inl rfl,λb o _ _ n3 q=>(kp b λz=>n3 (by rw[z])).trans q,λb o m q=>⟨o.slots,(kp b λz=>nfr T' oT ts hoT hdT (z▸m)).trans q⟩⟩
   have I4:Inv X pins σ1 H1 { s1 with heap:=h2 }:=Inv.gone (s:={ s1 with heap:=h' }) I2 hst hfe hcl hex g2 he heo (λt z=>by cases z;exact⟨Tn.1,Tn.2.1⟩) λp hp=>⟨(hpp p hp).1,λz=>Tn.2.2 p hp (LY z).symm⟩
   have I5:Inv (E6 X e oe) pins σ1 H1 { s1 with heap:=h2 }:=xk I4 hoe2 he hel hef hcell
   have Eb:=(E.same sm).blank;obtain⟨Zb,hρb⟩:∃Zb:En,Zb=LG σ1.length Sl.em:=⟨_,rfl⟩
   have E1:Ev X.K (OO B M) noM H1 Zb σ1:=by
    subst hρb;exact⟨⟨by simp,λi t e=>(by rw[Mi]at e;split at e <;> cases e),λi o e=>(by rw[Mi]at e;split at e <;> cases e),λ_ _ z=>z.elim,λ_ _ _ z=>z.elim,Eb.env.trk⟩,λa ⟨_,z⟩=>z.elim⟩
   refine Nh (run e oe pins _ σ1 H1 { nx:=λ_ _=>False,rt:=λv H'=>Same H1 H'/\Rep X.K (OO B M) H' t v } I5 ⟨Zb,OO B M,noM,E1,λv H' s' r=>⟨λb o z=>s' b o z λ⟨_,y⟩=>y,r⟩⟩) (λf s4 r=> ?_) λ_ _ z=>z.elim
   cases f with
   | next=>obtain⟨_,_,_,z⟩:=r;exact z.elim
   | brk=>obtain⟨_,_,_,z⟩:=r;exact z.elim
   | cont=>obtain⟨_,_,_,z⟩:=r;exact z.elim
   | ret u=>
    obtain⟨v,σ',H',I7,rv,s',rt⟩:=r;exact⟨v,_,H',DS I.ok I7,rv,hq' v H' (λb o y=>s' b o (sm b o y)) rt⟩
end
structure QE (X:Cx)(e:Expr)(f:En->Rs T):Prop where
 h:b6 X e f
structure QA (X:Cx)(e:List Expr)(f:En->Rs (List T)):Prop where
 h:pd X e f
structure QT (X:Cx)(e:Expr)(f:En->Rs Bool):Prop where
 h:uC X e f
structure QW (X:Cx)(e:Expr)(f:En->Rs Bool):Prop where
 h:Ff X e f
structure QS (X:Cx)(e:Stmt)(f:En->Rs Fl):Prop where
 h:mx X e f
structure vW (X:Cx)(e:List Stmt)(f:En->Rs Fl):Prop where
 h:jI X e f
structure QG (X:Cx)(e:Expr)(f:T->En->Rs En):Prop where
 h:Fg X e f
structure J6 (X:Cx)(e:List Expr)(f:List T->En->Rs En):Prop where
 h:BR X e f
structure QI (X:Cx)(t e:Expr)(f:En->Rs (List T)):Prop where
 h:Ew X t e f
structure QO (X:Cx)(e:Option Expr)(f:En->Rs (Option Int)):Prop where
 h:JS X e f
structure QIf (X:Cx)(e:List Expr)(f:En->Rs Bool):Prop where
 h:B5 X e (BX X f)
theorem af {X:Cx}(i:Nat){x:Str}{pos:Pos}(hN:autoParam ((Cx.N X)[i]? =some x) aqd._auto_1)(hv:autoParam (oo (NM (Cx.env X)) x) aqe._auto_1)(hd:autoParam ((x == Lu "__debug__")=false) aqb._auto_1)(hcd:autoParam ((x == Lu "__classdict__")=false) aqb._auto_1):QE X (L9 x pos) (vr i):=
 ⟨Im (i:=i) (hN:=hN) (hv:=hv) (hd:=hd) (hcd:=hcd)⟩
theorem ak {X:Cx}{i:Int}{j:Nat}{pos:Pos}:QE X (PM (Const.int i) j pos) (cn (T.int i)):=
 ⟨IA ⟩
theorem eV {X:Cx}{i:Bool}{j:Nat}{pos:Pos}:QE X (PM (Const.bool i) j pos) (cn (T.bl i)):=
 ⟨q_bl ⟩
theorem cq {X:Cx}{j:Nat}{pos:Pos}:QE X (PM Const.none j pos) (cn T.non):=
 ⟨Iu ⟩
theorem Cb {X:Cx}{x:Str}{i:Int}{u:Lh}{pos:Pos}(hm:Cx.mg X x=some u)(r:L2.RelV (V.int i) u)(hg:autoParam (Gl X x) aqd._auto_1)(hd:autoParam ((x == Lu "__debug__")=false) aqb._auto_1):QE X (L9 x pos) (cn (T.int i)):=
 ⟨F8 (hm:=hm) (r:=r) (hg:=hg) (hd:=hd)⟩
theorem ah {X:Cx}:QA X [] aj:=
 ⟨F7 ⟩
theorem ag {X:Cx}{e:Expr}{es:List Expr}{f:En->Rs T}{g:En->Rs (List T)}(he:QE X e f)(hr:QA X es g)(hn:autoParam (bD e=true) aqd._auto_1):QA X (e::es) (ae f g):=
 ⟨qa_c (he:=he.h) (hr:=hr.h) (hn:=hn)⟩
theorem bM {X:Cx}{es:List Expr}{x1:Nat}{pos:Pos}{f:En->Rs (List T)}(h:QA X es f):QE X (Expr.Tuple es x1 pos) (bJ f):=
 ⟨Io (h:=h.h)⟩
theorem fT {X:Cx}{es:List Expr}{pos:Pos}{f:En->Rs (List T)}(h:QA X es f):QE X (Expr.List es pos) (eM f):=
 ⟨Iy (h:=h.h)⟩
theorem ay {X:Cx}{a b:Expr}{fa fb:En->Rs T}{pos:Pos}{op:Operator}{g:T->T->Rs T}(ho:OpT X (MZ op) g)(ha:QE X a fa)(hb:QE X b fb):QE X (Expr.BinOp a op b pos) (o2 g fa fb):=
 ⟨IE (ho:=ho) (ha:=ha.h) (hb:=hb.h)⟩
theorem fU {X:Cx}{a b:Expr}{fa fb:En->Rs T}{pos:Pos}{op:Sm}{g:T->T->Rs T}(ho:OpT X (L7 op) g)(ha:QE X a fa)(hb:QE X b fb)(hm:autoParam (Og op b=false) aqd._auto_1):QE X (RG a [op] [b] pos) (o2 g fa fb):=
 ⟨ID (ho:=ho) (ha:=ha.h) (hb:=hb.h) (hm:=hm)⟩
theorem mB {X:Cx}{a:Expr}{fa:En->Rs T}{pos:Pos}(ha:QE X a fa):QE X (Qd UnaryOp.USub a pos) (o1 o7 fa):=
 ⟨Iw (ha:=ha.h)⟩
theorem sL {X:Cx}{a b c:Expr}{fa fb fc:En->Rs T}{pos:Pos}{op op':Sm}{g g':T->T->Rs T}(ho:OpT X (L7 op) g)(ho':OpT X (L7 op') g')(ha:QE X a fa)(hb:QE X b fb)(hc:QE X c fc)(hm:autoParam (lastMarks [op,op'] [b,c] =false) aqf._auto_1):QE X (RG a [op,op'] [b,c] pos) (ch g g' fa fb fc):=
 ⟨C8 (ho:=ho) (ho':=ho') (ha:=ha.h) (hb:=hb.h) (hc:=hc.h) (hm:=hm)⟩
theorem cA {X:Cx}{e:Expr}{f:En->Rs T}(h:QE X e f)(he:autoParam (∀(whole:Sem Lh),PySem.isTrue e (Cx.env X) whole=(do let v <-whole;standAt (Expr.pos e);holding [v] (truthy v))) aqc._auto_1):QT X e (tb f):=
 ⟨FN (h:=h.h) (he:=he)⟩
theorem bc {X:Cx}{a b:Expr}{fa fb:En->Rs T}{pos:Pos}{op:Sm}{g:T->T->Rs T}(ho:OpT X (L7 op) g)(ha:QE X a fa)(hb:QE X b fb)(hm:autoParam (Og op b=false) aqd._auto_1):QT X (RG a [op] [b] pos) (tb (o2 g fa fb)):=
 ⟨FP (ho:=ho) (ha:=ha.h) (hb:=hb.h) (hm:=hm)⟩
theorem mz {X:Cx}{a:Expr}{pos:Pos}{f:En->Rs Bool}(ha:QT X a f):QW X (Nl Qq [a] pos) f:=
 ⟨CJ (ha:=ha.h)⟩
theorem fJ {X:Cx}{a:Expr}{pos:Pos}{f:En->Rs Bool}(ha:QT X a f):QW X (Nl Q2 [a] pos) f:=
 ⟨FK (ha:=ha.h)⟩
theorem qg {X:Cx}{a b:Expr}{pos:Pos}{f g:En->Rs Bool}{bN:List Expr}(ha:QT X a f)(hb:QW X (Nl Qq (b::bN) pos) g):QW X (Nl Qq (a::b::bN) pos) (lX f g):=
 ⟨FL (ha:=ha.h) (hb:=hb.h)⟩
theorem hY {X:Cx}{a b:Expr}{pos:Pos}{f g:En->Rs Bool}{bN:List Expr}(ha:QT X a f)(hb:QW X (Nl Q2 (b::bN) pos) g):QW X (Nl Q2 (a::b::bN) pos) (kA f g):=
 ⟨Ih (ha:=ha.h) (hb:=hb.h)⟩
theorem hZ {X:Cx}{f:En->Rs Bool}{e:Expr}(h:QW X e f):QT X e f:=
 ⟨qt_w (h:=h.h)⟩
theorem cL {X:Cx}{a:Expr}{pos:Pos}{f:En->Rs Bool}(ha:QT X a f):QT X (Qd UnaryOp.Not a pos) (cK f):=
 ⟨FO (ha:=ha.h)⟩
theorem dk {X:Cx}{a:Expr}{fa:En->Rs T}{pos:Pos}{op:BoolOp}(h:QE X a fa):QE X (Nl op [a] pos) fa:=
 ⟨Iq (h:=h.h)⟩
theorem c7 {X:Cx}{a b:Expr}{fa fb:En->Rs T}{pos:Pos}{bN:List Expr}(ha:QE X a fa)(hb:QE X (Nl Qq (b::bN) pos) fb):QE X (Nl Qq (a::b::bN) pos) (bX fa fb):=
 ⟨IF (ha:=ha.h) (hb:=hb.h)⟩
theorem ED {X:Cx}{a b:Expr}{fa fb:En->Rs T}{pos:Pos}{bN:List Expr}(ha:QE X a fa)(hb:QE X (Nl Q2 (b::bN) pos) fb):QE X (Nl Q2 (a::b::bN) pos) (BZ fa fb):=
 ⟨q_or (ha:=ha.h) (hb:=hb.h)⟩
theorem Fq {X:Cx}{a:Expr}{fa:En->Rs T}{pos:Pos}(ha:QE X a fa):QE X (Qd UnaryOp.Not a pos) (o1 DA fa):=
 ⟨Ir (ha:=ha.h)⟩
theorem yZ {X:Cx}{a b c:Expr}{fa fb:En->Rs T}{pos:Pos}{f:En->Rs Bool}(hc:QT X c f)(ha:QE X a fa)(hb:QE X b fb):QE X (Expr.IfExp c a b pos) (EY f fa fb):=
 ⟨q_if (hc:=hc.h) (ha:=ha.h) (hb:=hb.h)⟩
theorem aE {X:Cx}{a b:Expr}{fa fb:En->Rs T}{pos:Pos}(ha:QE X a fa)(hb:QE X b fb)(hs:autoParam (xO b) aqg._auto_1):QE X (NX a b pos) (o2 aU fa fb):=
 ⟨q_ix (ha:=ha.h) (hb:=hb.h) (hs:=hs)⟩
theorem yX {X:Cx}:QO X none pN:=
 ⟨CQ ⟩
theorem yW {X:Cx}{a:Expr}{fa:En->Rs T}(ha:QE X a fa):QO X (some a) (pS fa):=
 ⟨CP (ha:=ha.h)⟩
theorem yY {X:Cx}{a:Expr}{fa:En->Rs T}{pos:Pos}{lo hi:Option Expr}{p2:Pos}{fl fu:En->Rs (Option Int)}(ha:QE X a fa)(hl:QO X lo fl)(hu:QO X hi fu):QE X (NX a (Expr.Slice lo hi none p2) pos) (sl fa fl fu):=
 ⟨CY (ha:=ha.h) (hl:=hl.h) (hu:=hu.h)⟩
theorem Fp {X:Cx}{a:Expr}{fa:En->Rs T}{pos:Pos}{j:Nat}{p1 p2 p3:Pos}(ha:QE X a fa):QE X (NX a (Expr.Slice none none (some (Qd UnaryOp.USub (PM (Const.int 1) j p1) p2)) p3) pos) (o1 CB fa):=
 ⟨Ip (ha:=ha.h)⟩
theorem cu {X:Cx}{e:Expr}{es:List Expr}{fs:En->Rs (List T)}{pos p:Pos}{x:Str}{id:String}{g:List T->Rs T}(hc:CallT X (Value.builtin id) g)(hm:Cx.mg X x=none)(hv:Ma x=some (Value.builtin id))(ha:QA X (e::es) fs)(hn:autoParam (bx (e::es)=true) aqd._auto_1)(hg:autoParam (Gl X x) aqd._auto_1)(h1:autoParam (x≠Lu "__name__") aqb._auto_1)(h2:autoParam ((x == Lu "__debug__")=false) aqb._auto_1):QE X (Nr (L9 x p) (e::es) [] pos) (cl g fs):=
 ⟨q_cB (hc:=hc) (hm:=hm) (hv:=hv) (ha:=ha.h) (hn:=hn) (hg:=hg) (h1:=h1) (h2:=h2)⟩
theorem pq {X:Cx}{e:Expr}{es:List Expr}{fs:En->Rs (List T)}{pos p:Pos}{x:Str}{Ty:String}{g:List T->Rs T}(hc:CallT X (OP Ty) g)(hm:Cx.mg X x=none)(hv:Ma x=some (OP Ty))(ha:QA X (e::es) fs)(hn:autoParam (bx (e::es)=true) aqd._auto_1)(hg:autoParam (Gl X x) aqd._auto_1)(h1:autoParam (x≠Lu "__name__") aqb._auto_1)(h2:autoParam ((x == Lu "__debug__")=false) aqb._auto_1):QE X (Nr (L9 x p) (e::es) [] pos) (cl g fs):=
 ⟨q_cT (hc:=hc) (hm:=hm) (hv:=hv) (ha:=ha.h) (hn:=hn) (hg:=hg) (h1:=h1) (h2:=h2)⟩
theorem zq_c {X:Cx}{e:Expr}{es:List Expr}{fs:En->Rs (List T)}{pos p:Pos}{x:Str}{n k:Nat}{f:Addr}{fd:Mo}{ps:List Str}{g:List T->Rs T}(F:B6 (Cx.prog X) (Cx.w X) (Cx.K X) (Cx.mg X) (Cx.base X) k f fd ps n g)(hr:Room k (Cx.A X))(hm:Cx.mg X x=some (LR f))(hk:W.keepIn (Cx.K X) (LR f)=true)(hb:L2.Binds (Cx.K X) fd ps [])(hl:∀(Z:En) (ts:List T),fs Z=Rs.ok ts->M8 ts=n)(ha:QA X (e::es) fs)(hps:autoParam (M8 ps=n) aqd._auto_1)(hn:autoParam (bx (e::es)=true) aqd._auto_1)(hg:autoParam (Gl X x) aqd._auto_1)(h2:autoParam ((x == Lu "__debug__")=false) aqb._auto_1):QE X (Nr (L9 x p) (e::es) [] pos) (cl g fs):=
 ⟨q_c (F:=F) (hr:=hr) (hm:=hm) (hk:=hk) (hb:=hb) (hl:=hl) (ha:=ha.h) (hps:=hps) (hn:=hn) (hg:=hg) (h2:=h2)⟩
theorem wa {X:Cx}{a:Expr}{fa:En->Rs T}{pos p p2:Pos}{tn:Str}{Ty:String}(hm:Cx.mg X (Lu "isinstance")=none)(hmt:Cx.mg X tn=none)(hv:Ma tn=some (OP Ty))(ha:QE X a fa)(hn:autoParam (bD a=true) aqd._auto_1)(hg:autoParam (Gl X (Lu "isinstance")) aqd._auto_1)(hgt:autoParam (Gl X tn) aqd._auto_1)(h1:autoParam (tn≠Lu "__name__") aqb._auto_1)(h2:autoParam ((tn == Lu "__debug__")=false) aqb._auto_1):QE X (Nr (L9 (Lu "isinstance") p) [a,L9 tn p2] [] pos) (o1 (AS Ty) fa):=
 ⟨q_is (hm:=hm) (hmt:=hmt) (hv:=hv) (ha:=ha.h) (hn:=hn) (hg:=hg) (hgt:=hgt) (h1:=h1) (h2:=h2)⟩
theorem aq {X:Cx}{pos:Pos}{x:Str}(i:Nat)(hN:MQ (Cx.N X))(hi:autoParam ((Cx.N X)[i]? =some x) aqd._auto_1)(hx:autoParam (L2.Loc (NM (Cx.env X)) x) aqh._auto_1)(hf:autoParam (Cx.fn X x=true\/MN x (QJ (NM (Cx.env X)))=some NameKind.local) aqa._auto_1):QG X (L9 x pos) (gN i):=
 ⟨CV (i:=i) (hN:=hN) (hi:=hi) (hx:=hx) (hf:=hf)⟩
theorem jM {X:Cx}:J6 X [] B2:=
 ⟨CU ⟩
theorem dt {X:Cx}{e:Expr}{es:List Expr}{g:T->En->Rs En}{gs:List T->En->Rs En}(h1:QG X e g)(h2:J6 X es gs)(hs:autoParam (List.map (λx=>Prod.snd x) (MS (e::es) (Cx.env X))=assign e (Cx.env X)::List.map (λx=>Prod.snd x) (MS es (Cx.env X))) aqd._auto_1):J6 X (e::es) (ue g gs):=
 ⟨zE (h1:=h1.h) (h2:=h2.h) (hs:=hs)⟩
theorem lZ {X:Cx}{es:List Expr}{pos:Pos}{k n:Nat}{gs:List T->En->Rs En}(hc:Cx.calm X=true)(h:J6 X es gs)(hn:autoParam (M8 (MS es (Cx.env X))=n) aqd._auto_1)(hst:autoParam (List.findIdx? (λx=>Prod.fst x) (MS es (Cx.env X))=none) aqd._auto_1):QG X (Expr.Tuple es k pos) (gT n gs):=
 ⟨F6 (hc:=hc) (h:=h.h) (hn:=hn) (hst:=hst)⟩
theorem cN {X:Cx}{a:Expr}{fs:En->Rs (List T)}{pos p:Pos}{tg:Expr}(hm:Cx.mg X (Lu "range")=none)(ha:QA X [a] fs)(hg:autoParam (Gl X (Lu "range")) aqd._auto_1)(hs:autoParam (LA [a] (Cx.env X)= [(false,eval a (Cx.env X))]) aqd._auto_1):QI X tg (Nr (L9 (Lu "range") p) [a] [] pos) (iR fs):=
 ⟨yc (hm:=hm) (ha:=ha.h) (hg:=hg) (hs:=hs)⟩
theorem cF {X:Cx}:QIf X [] bT:=
 ⟨CS ⟩
theorem ia {X:Cx}{pos:Pos}{elt tg iter:Expr}{ifs:List Expr}{scope:OI}{N':List Str}{src:List (Option Nat)}{fi:En->Rs (List T)}{tgt:T->En->Rs En}{fc:En->Rs Bool}{fe:En->Rs T}(hc:Cx.calm X=true)(S:LcScope X scope N' src)(hi:QI X tg iter fi)(block:∀(cl:List (Str×Addr)) (C:Addr) (s₀:Lj) (H₀:Hp) (fp:List Addr),QG (cy X scope cl N' C s₀ H₀ fp) tg tgt/\QIf (cy X scope cl N' C s₀ H₀ fp) ifs fc/\QE (cy X scope cl N' C s₀ H₀ fp) elt fe)(hs:autoParam (∀(x:Lh),Mv iter (Cx.env X) x=pure x) aqc._auto_1):QE X (Q3 elt [{ target:=tg,iter:=iter,ifs:=ifs,is_async:=0 }] scope pos) (hW fi src tgt fc fe):=
 ⟨q_lc (hc:=hc) (S:=S) (hi:=hi.h) (block:=λa1 a2 a3 a4 a5=>⟨(block a1 a2 a3 a4 a5).1.h,(block a1 a2 a3 a4 a5).2.1.h,(block a1 a2 a3 a4 a5).2.2.h⟩) (hs:=hs)⟩
theorem bB {X:Cx}:vW X [] sN:=
 ⟨FV ⟩
theorem ao {X:Cx}{st:Stmt}{bN:List Stmt}{F G:En->Rs Fl}(h1:QS X st F)(h2:vW X bN G):vW X (st::bN) (aA F G):=
 ⟨CO (h1:=h1.h) (h2:=h2.h)⟩
theorem ar {X:Cx}{st:Stmt}{F:En->Rs Fl}(h:QS X st F):vW X [st] F:=
 ⟨FT (h:=h.h)⟩
theorem ax {X:Cx}{a:Expr}{fa:En->Rs T}{pos:Pos}(ha:QE X a fa):QS X (Stmt.Return (some a) pos) (aI fa):=
 ⟨FQ (ha:=ha.h)⟩
theorem cC {X:Cx}{c:Expr}{pos:Pos}{f:En->Rs Bool}{A B:List Stmt}{F G:En->Rs Fl}(hc:QT X c f)(ha:vW X A F)(hb:vW X B G):QS X (Stmt.If c A B pos) (fH f F G):=
 ⟨Ik (hc:=hc.h) (ha:=ha.h) (hb:=hb.h)⟩
theorem Fm {X:Cx}{pos:Pos}{elt tg iter:Expr}{ifs:List Expr}{scope:OI}{spos py:Pos}{N':List Str}{src:List (Option Nat)}{fi:En->Rs (List T)}{tgt:T->En->Rs En}{fc:En->Rs Bool}{fe:En->Rs T}(i:Nat){y:Str}(hc:Cx.calm X=true)(S:LcScope X scope N' src)(hi:QI X tg iter fi)(block:∀(cl:List (Str×Addr)) (C:Addr) (s₀:Lj) (H₀:Hp) (fp:List Addr),QG (cy X scope cl N' C s₀ H₀ fp) tg tgt/\QIf (cy X scope cl N' C s₀ H₀ fp) ifs fc/\QE (cy X scope cl N' C s₀ H₀ fp) elt fe)(hN:MQ (Cx.N X))(hiy:autoParam ((Cx.N X)[i]? =some y) aqd._auto_1)(hy:autoParam (L2.Loc (NM (Cx.env X)) y) aqh._auto_1)(hsw:autoParam (Me (Q3 elt [{ target:=tg,iter:=iter,ifs:=ifs,is_async:=0 }] scope pos) (some (L9 y py)) (Od spos) (Cx.env X)=pure true) aqd._auto_1)(hf:autoParam (Cx.fn X y=true\/MN y (QJ (NM (Cx.env X)))=some NameKind.local) aqa._auto_1)(hs:autoParam (∀(x:Lh),Mv iter (Cx.env X) x=pure x) aqc._auto_1):QS X (PN [L9 y py] (Q3 elt [{ target:=tg,iter:=iter,ifs:=ifs,is_async:=0 }] scope pos) spos) (cv (hW fi src tgt fc fe) (gN i)):=
 ⟨Ij (i:=i) (hc:=hc) (S:=S) (hi:=hi.h) (block:=λa1 a2 a3 a4 a5=>⟨(block a1 a2 a3 a4 a5).1.h,(block a1 a2 a3 a4 a5).2.1.h,(block a1 a2 a3 a4 a5).2.2.h⟩) (hN:=hN) (hiy:=hiy) (hy:=hy) (hsw:=hsw) (hf:=hf) (hs:=hs)⟩
theorem aF {X:Cx}{a:Expr}{fa:En->Rs T}{pos:Pos}{tg:Expr}{g:T->En->Rs En}(ha:QE X a fa)(hg:QG X tg g)(hs:autoParam (Q8 [tg] a (Od pos) (Cx.env X)=pure false) aqd._auto_1)(hw:autoParam (Q9 [tg] a (Cx.env X)=pure none) aqd._auto_1)(h1:autoParam (List.map (λx=>Prod.snd x) (MS [tg] (Cx.env X))= [assign tg (Cx.env X)]) aqd._auto_1):QS X (PN [tg] a pos) (cv fa g):=
 ⟨F1 (ha:=ha.h) (hg:=hg.h) (hs:=hs) (hw:=hw) (h1:=h1)⟩
theorem dB {X:Cx}{a:Expr}{fa:En->Rs T}{pos:Pos}(ha:QE X a fa)(hs:autoParam (Me a none (Od pos) (Cx.env X)=pure false) aqd._auto_1):QS X (Stmt.Expr a pos) (uH fa):=
 ⟨CN (ha:=ha.h) (hs:=hs)⟩
theorem dA {X:Cx}{pos:Pos}{tg iter:Expr}{body:List Stmt}{fi:En->Rs (List T)}{g:T->En->Rs En}{F:En->Rs Fl}(hc:Cx.calm X=true)(hi:QI X tg iter fi)(hg:QG (Cx.nox X) tg g)(hb:vW (Cx.nox X) body F)(hs:autoParam (∀(x:Lh),Mv iter (Cx.env X) x=pure x) aqc._auto_1):QS X (Stmt.For tg iter body [] pos) (ir fi g F):=
 ⟨FX (hc:=hc) (hi:=hi.h) (hg:=hg.h) (hb:=hb.h) (hs:=hs)⟩
theorem pk {X:Cx}{pos:Pos}{c:Expr}{body:List Stmt}{fc:En->Rs Bool}{F:En->Rs Fl}(n:Nat)(hc:QT (Cx.nox X) c fc)(hb:vW (Cx.nox X) body F):QS X (Stmt.While c body [] pos) (bw fc F n):=
 ⟨zC (n:=n) (hc:=hc.h) (hb:=hb.h)⟩
theorem dC {X:Cx}{a:Expr}{fa:En->Rs T}{tg:Expr}(ha:QE X a fa):QI X tg a (iS fa):=
 ⟨F5 (ha:=ha.h)⟩
theorem jL {X:Cx}{a:Expr}{fs:En->Rs (List T)}{p pos:Pos}{elts:List Expr}{kk:Nat}{tpos:Pos}(hm:Cx.mg X (Lu "enumerate")=none)(ha:QA X [a] fs)(hg:autoParam (Gl X (Lu "enumerate")) aqd._auto_1)(hs:autoParam (LA [a] (Cx.env X)= [(false,eval a (Cx.env X))]) aqd._auto_1):QI X (Expr.Tuple elts kk tpos) (Nr (L9 (Lu "enumerate") p) [a] [] pos) (iE fs):=
 ⟨CT (hm:=hm) (ha:=ha.h) (hg:=hg) (hs:=hs)⟩
theorem jJ {X:Cx}{es:List Expr}{pos p2 p3:Pos}{x:Str}(i:Nat){f:En->Rs (List T)}(hN:MQ (Cx.N X))(ha:QA X es f)(hi:autoParam ((Cx.N X)[i]? =some x) aqd._auto_1)(hx:autoParam (L2.Loc (NM (Cx.env X)) x) aqh._auto_1)(hs:autoParam (Me (Expr.List es p2) (some (L9 x p3)) (Od pos) (Cx.env X)=pure false) aqd._auto_1)(hf:autoParam (Cx.fn X x=true\/MN x (QJ (NM (Cx.env X)))=some NameKind.local) aqa._auto_1):QS X (PN [L9 x p3] (Expr.List es p2) pos) (jm i f):=
 ⟨CK (i:=i) (hN:=hN) (ha:=ha.h) (hi:=hi) (hx:=hx) (hs:=hs) (hf:=hf)⟩
theorem qi {X:Cx}{a:Expr}{fa:En->Rs T}{pos p2:Pos}{x:Str}(i:Nat){apos cpos:Pos}(ha:QE X a fa)(hN:autoParam ((Cx.N X)[i]? =some x) aqd._auto_1)(hv:autoParam (oo (NM (Cx.env X)) x) aqe._auto_1)(hn:autoParam (bD a=true) aqd._auto_1)(hbase:autoParam (LU (L9 x p2) (Lu "append") (Cx.env X) (eval (L9 x p2) (Cx.env X))=eval (L9 x p2) (Cx.env X)) aqd._auto_1)(hline:autoParam ((QK apos == Od cpos)=true) aqd._auto_1)(hd:autoParam ((x == Lu "__debug__")=false) aqb._auto_1)(hcd:autoParam ((x == Lu "__classdict__")=false) aqb._auto_1)(hsw:autoParam (Me (Nr (NY (L9 x p2) (Lu "append") apos) [a] [] cpos) none (Od pos) (Cx.env X)=pure false) aqd._auto_1):QS X (Stmt.Expr (Nr (NY (L9 x p2) (Lu "append") apos) [a] [] cpos) pos) (oM i fa):=
 ⟨F3 (i:=i) (ha:=ha.h) (hN:=hN) (hv:=hv) (hn:=hn) (hbase:=hbase) (hline:=hline) (hd:=hd) (hcd:=hcd) (hsw:=hsw)⟩
theorem qh {X:Cx}{a:Expr}{fa:En->Rs T}{pos p2:Pos}{x:Str}(i:Nat){apos cpos:Pos}(ha:QE X a fa)(hN:autoParam ((Cx.N X)[i]? =some x) aqd._auto_1)(hv:autoParam (oo (NM (Cx.env X)) x) aqe._auto_1)(hn:autoParam (bD a=true) aqd._auto_1)(hbase:autoParam (LU (L9 x p2) (Lu "extend") (Cx.env X) (eval (L9 x p2) (Cx.env X))=eval (L9 x p2) (Cx.env X)) aqd._auto_1)(hline:autoParam ((QK apos == Od cpos)=true) aqd._auto_1)(hd:autoParam ((x == Lu "__debug__")=false) aqb._auto_1)(hcd:autoParam ((x == Lu "__classdict__")=false) aqb._auto_1)(hsw:autoParam (Me (Nr (NY (L9 x p2) (Lu "extend") apos) [a] [] cpos) none (Od pos) (Cx.env X)=pure false) aqd._auto_1):QS X (Stmt.Expr (Nr (NY (L9 x p2) (Lu "extend") apos) [a] [] cpos) pos) (mT i fa):=
 ⟨FY (i:=i) (ha:=ha.h) (hN:=hN) (hv:=hv) (hn:=hn) (hbase:=hbase) (hline:=hline) (hd:=hd) (hcd:=hcd) (hsw:=hsw)⟩
theorem jK {X:Cx}(i:Nat){st:Stmt}{F:En->Rs Fl}(h:QS X st F):QS X st (qC i F):=
 ⟨F0 (i:=i) (h:=h.h)⟩
theorem gw {X:Cx}(i:Nat){e:Expr}{f:En->Rs T}(h:QE X e f):QE X e (ln i f):=
 ⟨q_ln (i:=i) (h:=h.h)⟩
theorem Fj {X:Cx}(i:Nat){e:Expr}{f:En->Rs Bool}(h:QT X e f):QT X e (GL i f):=
 ⟨Ii (i:=i) (h:=h.h)⟩
theorem Fo {X:Cx}{pos:Pos}:QS X (Stmt.Continue pos) EH:=
 ⟨Il ⟩
theorem gv {X:Cx}{c:Str}{msg:Str}{C:Addr}{bm:List Lh}{np p1 cpos pos:Pos}{j:Nat}(O:OX X.K C bm)(hm:X.mg c=some (.ref C))(hc:autoParam (X.calm=true) aqd._auto_1)(hg:autoParam (Gl X c) aqd._auto_1)(hd:autoParam ((c == ("__debug__" : Str))=false) aqb._auto_1) :
  QS X (.Raise (some (.Call (.Name c np) [.Constant (.str msg) j p1] [] cpos)) none pos) (uY c):=⟨zD O.own hc hm hg hd⟩
theorem qj {P:LP}{w:Mh}{K:Ld}{mg:Str->Option Lh}{base:Heap}{x qual:Str}{st:Stmt}{f:Addr}{fd:Mo}{N ps:List Str}{k n:Nat}{F:En->Rs Fl}(Fn:L2.Fun K x qual st f fd)(S:aw N ps (ai st))(hn:ps.length=n)
  (hbody:∀(cdv:Lh) (A:L3) (outer:List Env) (s:Lj) (H:Hp) (E:XK),Room k (A.deeper (envOfC qual (ai st) s.heap.objs.size f cdv)) →
   ∀xe,vW ((fI CX0 P w K mg base N qual (ai st) f cdv A outer s H E).FB xe) (bF st) F):B6 P w K mg base (k+1) f fd ps n (val n N.length F):=He Fn S hn λcdv A outer s H E hr xe=>(hbody cdv A outer s H E hr xe).h
theorem y8 {X:Cx}{a b:Expr}{fa fb:En->Rs T}{pos:Pos}(hu:Pd (Cx.A X)+1<cLine)(ha:QE X a fa)(hb:QE X b fb)(hs:autoParam (Ex b) aqg._auto_1):QE X (NX a b pos) (o2 r6 fa fb):=
 ⟨IC (hu:=hu) (ha:=ha.h) (hb:=hb.h) (hs:=hs)⟩
theorem wb {X:Cx}{a b:Expr}{fa fb:En->Rs T}{apos cpos:Pos}(hu:Pd (Cx.A X)+1<cLine)(ha:QE X a fa)(hb:QE X b fb)(hn:autoParam (bD b=true) aqd._auto_1)(hbase:autoParam (LU a (Lu "get") (Cx.env X) (eval a (Cx.env X))=eval a (Cx.env X)) aqd._auto_1)(hline:autoParam ((QK apos == Od cpos)=true) aqd._auto_1):QE X (Nr (NY a (Lu "get") apos) [b] [] cpos) (oD g9 fa fb):=
 ⟨F9 (hu:=hu) (ha:=ha.h) (hb:=hb.h) (hn:=hn) (hbase:=hbase) (hline:=hline)⟩
theorem xS {X:Cx}{a b:Expr}{fa fb:En->Rs T}{apos cpos:Pos}(hu:Pd (Cx.A X)+61<cLine)(ha:QE X a fa)(hb:QE X b fb)(hn:autoParam (bD b=true) aqd._auto_1)(hbase:autoParam (LU a (Lu "index") (Cx.env X) (eval a (Cx.env X))=eval a (Cx.env X)) aqd._auto_1)(hline:autoParam ((QK apos == Od cpos)=true) aqd._auto_1):QE X (Nr (NY a (Lu "index") apos) [b] [] cpos) (oL fO fa fb):=
 ⟨zF (hu:=hu) (ha:=ha.h) (hb:=hb.h) (hn:=hn) (hbase:=hbase) (hline:=hline)⟩
theorem yV {X:Cx}{e:Expr}{f:En->Rs T}{x:Str}{p pos p2 p3:Pos}(i:Nat)(hu:Pd (Cx.A X)+8<cLine)(hc:Cx.calm X=true)(hm:Cx.mg X (Lu "dict")=none)(hN:MQ (Cx.N X))(ha:QE X e f)(hst:autoParam (bD e=true) aqd._auto_1)(hg:autoParam (Gl X (Lu "dict")) aqd._auto_1)(hi:autoParam ((Cx.N X)[i]? =some x) aqd._auto_1)(hx:autoParam (L2.Loc (NM (Cx.env X)) x) aqh._auto_1)(hs:autoParam (Me (Nr (L9 (Lu "dict") p) [e] [] p2) (some (L9 x p3)) (Od pos) (Cx.env X)=pure false) aqd._auto_1)(hf:autoParam (Cx.fn X x=true\/MN x (QJ (NM (Cx.env X)))=some NameKind.local) aqa._auto_1):QS X (PN [L9 x p3] (Nr (L9 (Lu "dict") p) [e] [] p2) pos) (pD i f):=
 ⟨CL (i:=i) (hu:=hu) (hc:=hc) (hm:=hm) (hN:=hN) (ha:=ha.h) (hst:=hst) (hg:=hg) (hi:=hi) (hx:=hx) (hs:=hs) (hf:=hf)⟩
theorem B8 {X:Cx}{b c:Expr}{fb fc:En->Rs T}{pos p2 p3:Pos}{x:Str}(i:Nat)(hu:Pd (Cx.A X)+1<cLine)(hb:QE X b fb)(hc:QE X c fc)(hN:autoParam ((Cx.N X)[i]? =some x) aqd._auto_1)(hv:autoParam (oo (NM (Cx.env X)) x) aqe._auto_1)(hd:autoParam ((x == Lu "__debug__")=false) aqb._auto_1)(hcd:autoParam ((x == Lu "__classdict__")=false) aqb._auto_1)(hs:autoParam (Me c (some (NX (L9 x p2) b p3)) (Od pos) (Cx.env X)=pure false) aqd._auto_1):QS X (PN [NX (L9 x p2) b p3] c pos) (ya i fb fc):=
 ⟨FR (i:=i) (hu:=hu) (hb:=hb.h) (hc:=hc.h) (hN:=hN) (hv:=hv) (hd:=hd) (hcd:=hcd) (hs:=hs)⟩
end Tr
namespace Tr
open PySem PySem.Spec PyProof.Rows L2 PySem.W
theorem Bb (h:Heap):(uh h).In h:=by
 have key:∀(l:List Nat) (a:Addr) (o:Obj),(l.filterMap λa=>(h.get? a).map λo=>(a,o)).lookup a=some o->h.get? a=some o:=by
  intro l
  induction l with
  | nil=>intro a o e;cases e
  | cons b r ih=>
   intro a o e
   cases hb:h.get? b with
   | none=>rw[List.filterMap_cons_none (by rw[hb];rfl)]at e;exact ih a o e
   | some ob=>
    rw[List.filterMap_cons_some (b:=(b,ob)) (by rw[hb];rfl),L8]at e
    cases q:a == b with
    | true=>rw[q]at e;cases e;rw[eq_of_beq q];exact hb
    | false=>rw[q]at e;exact ih a o e
 exact λa o e=>key _ a o e
theorem EZ {K:Frag}{n:Str}{st:Stmt}(e:obF K n=exF n st):∃f fd,nsIn K LX n=some (some (.ref f))/\L2.Fun K n n st f fd:=by
 unfold obF at e
 split at e
 ·rename_i f hf
  split at e
  ·rename_i oc od d sl hl
   cases d;unfold exF at e;simp only[Pr,PK]at e;obtain⟨h1,h2,h3,h4,h5,h6,h7,h8,h9,h10,h11⟩:=e;subst h1 h2 h3 h4 h5 h6 h7 h8 h9;exact⟨f,_,hf,A9 hl h10 h11⟩
  ·cases e
 ·cases e
theorem nh {K:Frag}{N:Addr}{n:Str}(e:IV K N n=true):nsIn K N n=some none:=by
 unfold IV at e
 split at e
 ·assumption
 ·cases e
theorem GD {K:Frag}{n:Str}{i:Int}(e:J2 K n=some i):∃t,nsIn K LX n=some (some (.int i t)):=by
 unfold J2 at e
 split at e
 ·rename_i i' t h;cases e;exact⟨t,h⟩
 ·cases e
theorem mC:∀{l:List Lh},wg l=true->l=sH:=by
 intro l e;unfold wg at e
 split at e
 ·simp only[Lf,beq_iff_eq]at e
  obtain⟨⟨⟨h1,h2⟩,h3⟩,h4⟩:=e;subst h1 h2 h3 h4;rfl
 ·cases e
theorem f9 {K:Frag}{D:Option Addr}{n:Str}{C:Addr}(e:Dz K D n=some C):nsIn K LX n=some (some (.ref C)) ∧
  ∃nm q N bs bm hd sn su ab co dd k0 k1 k2 k3 k5,under D bm=true/\K.lookup C=some (N0 nm q C N bs bm hd sn su ab co dd k0 k1 k2 k3 k5 "ValueError.__new__")/\∀h:Heap,K.In h->∃mN,h.Ns N mN/\∀n∈calmNames,mN n=none:=by
 unfold Dz at e
 split at e
 ·rename_i C' hC
  split at e
  ·rename_i t dd c k0 k1 k2 k3 b k5 hl
   split at e
   ·rename_i E m ob oe es ep oz hm hN
    split at e
    ·rename_i hq
     cases e;simp only[Lf,beq_iff_eq,Ro]at hq;obtain⟨⟨⟨⟨⟨⟨h1,h2⟩,h3⟩,h4⟩,h5⟩,h6⟩,h7⟩:=hq
     have z:=LK.mp h5;refine⟨hC,c.name,c.qualname,c.ns,c.bases,m,c.hasDict,c.slotNames,c.subclasses,c.abstract,c.collection,dd,k0,k1,k2,k3,k5,h7,?_,IX hN h4 (nh (z _ (.head _))) (nh (z _ (.tail _ (.head _)))) (nh (z _ (.tail _ (.tail _ (.head _))))) (nh (z _ (.tail _ (.tail _ (.tail _ (.head _))))))⟩
     rw[hl];cases c;simp only at hm h3;subst h1 h2 hm h3 h6
     rfl
    ·cases e
   ·cases e
  ·cases e
 ·cases e
theorem ox0 {K:Frag}{C:Addr}{n:Str}(e:Dz K none n=some C):OX K C sH:=by
 obtain⟨_,_,_,_,_,_,_,_,_,_,_,_,_,_,_,_,_,hu,hl,hn⟩:=f9 e;cases mC hu;exact Dr hl hn
theorem HA {K:Frag}{C D:Addr}{n m:Str}(e:Dz K (some D) n=some C)(d:Dz K none m=some D):OX K C (.ref D::sH):=by
 obtain⟨_,_,_,_,_,bm,_,_,_,_,_,_,_,_,_,_,_,hu,hl,hn⟩:=f9 e;obtain⟨_,_,_,_,_,_,_,_,_,_,_,_,_,_,_,_,_,hu',hl',hn'⟩:=f9 d;cases mC hu';unfold under at hu;simp only at hu
 split at hu
 ·rw[Lf]at hu
  cases eq_of_beq hu.1;cases mC hu.2;exact z4 hl hn hl' hn'
 ·cases hu
theorem eU {α:Type}{o:Option α}{r:List (Option α)}{l:List α}(e:vU (o::r)=some l):∃a l',o=some a/\l=a::l'/\vU r=some l':=by
 cases o with
 | none=>cases e
 | some a=>
  unfold vU at e
  split at e
  ·rename_i l' h;cases e;exact⟨a,l',rfl,rfl,h⟩
  ·cases e
theorem BL {α:Type}{l:List α}(e:vU ([]:List (Option α))=some l):l= []:=by cases e;rfl
theorem pH:∀{l:List Addr},qZ l=true->l.Nodup
 | [],_=> .nil
 | a::r,h=>by
  unfold qZ at h;rw[Lf]at h;refine LJ.mpr ⟨λhm=> ?_,pH h.2⟩
  have:=LK.mp h.1 a hm
  simp at this
theorem GC {K:Frag}{m:Str}{es:List Str}(e:J0 K (m::es)=true):∃D l,Dz K none m=some D/\vU (es.map (Dz K (some D)))=some l/\(l++ [D]).Nodup:=by
 rw[J0]at e
 split at e
 ·rename_i D hD
  split at e
  ·rename_i l hl;exact⟨D,l,hD,hl,pH e⟩
  ·cases e
 ·cases e
section
variable {S:BV}{top:Nat->Stmt}{K:Frag}{h:Heap}{mg:Str->Option Lh}
theorem kW {α β:Type}{f g:α->β}:∀{l:List α} (j:Nat) {a:α},l.map f=l.map g->l[j]? =some a->f a=g a
 | [],_,_,_,q=>by cases q
 | b::l,0,a,e,q=>by cases q;exact(OY.inj e).1
 | b::l,j+1,a,e,q=>kW (l:=l) j (OY.inj e).2 q
theorem bZ (j:Nat){n:Str}{i:Nat}{ps:List Str}(X:K.In h)(G:h.Ns LX mg)(e:tL S K=sO S top)(q:S.tab[j]? =some (n,i))
  (hb:∀(kV doc pm:Lh) (an:Option Addr) (cdv ct:Lh) (us:List Lh),us.length=ps.length->RY (fnOf n n (eK (top i)) (bF (top i)) (ai (top i)) .none kV doc pm an cdv ct) ⟨us,[]⟩=pure (ps.zip us)) :
  ∃f fd,Fn K mg n (top i) ps f fd:=by
 obtain⟨f,fd,h1,h2⟩:=EZ (kW j (congrArg (·.1) e) q)
 exact⟨f,fd,h2,h2.binds hb,mg_of X G h1⟩
theorem Jr (j:Nat){n:Str}{i:Nat}{x:Str}{fa:Addr}(X:K.In h)(G:h.Ns LX mg)(e:tL S K=sO S top)(q:S.tab[j]? =some (n,i))(hfa:mg n=some (.ref fa))
  (hb:∀(kV doc pm:Lh) (an:Option Addr) (cdv ct u:Lh),RY (fnOf n n (eK (top i)) (bF (top i)) (ai (top i)) .none kV doc pm an cdv ct) ⟨[u],[]⟩=pure [(x,u)]) :
  ∃fd,Fn K mg n (top i) [x] fa fd/\∀(s:Lj) (u:Lh),Qm s fd ⟨[u],[]⟩ [(x,u)]:=by
 obtain⟨f,fd,h1,h2⟩:=EZ (kW j (congrArg (·.1) e) q)
 have z:=hfa.symm.trans (mg_of X G h1);cases z
 have hh:=h2;obtain⟨oc,od,kV,doc,pm,an,cdv,ct,osl,rfl,lk,hcd⟩:=hh.ex;exact⟨_,⟨h2,.all λus hl=>match us,hl with | [u],_=>hb kV doc pm an cdv ct u,mg_of X G h1⟩,λs u=> .of_eq (hb kV doc pm an cdv ct u)⟩
theorem fm (j:Nat){n:Str}(X:K.In h)(G:h.Ns LX mg)(e:tL S K=sO S top)(q:S.zs[j]? =some n):mg n=none:=
 mg_none_of X G (nh (LK.mp (congrArg (·.2.1) e:S.zs.all (IV K LX)=true) n (Mw q)))
theorem pM (j:Nat){n:Str}{i:Int}(X:K.In h)(G:h.Ns LX mg)(e:tL S K=sO S top)(q:S.cs[j]? =some (n,i)):∃t,mg n=some (.int i t):=by
 obtain⟨t,ht⟩:=GD (kW (f:=λc=>J2 K c.1) (g:=λc=>some c.2) j (congrArg (·.2.2.1) e) q)
 exact⟨t,mg_of X G ht⟩
theorem Jv (e:tL S K=sO S top):J0 K S.es=true:=congrArg (·.2.2.2) e
end
theorem left_of {p q:LP}{loose:List Str}{Xt:Lj->Bool}{α:Type}{Yf:Lj->α}{Ya:Mh->α}{N:Nat}{g0:Bool}
  (e:opening p=plainProg p.main.scope.names) (hN:Nat.ble 600 N=true) (f:∀s,fenceModules? p s=some s)
  (h:∀(w:Mh) (os:Pk),(topFrom Q7 p w N ⟨boot_heap w.params,⟨[]⟩,boot_drawn,boot_toks,os⟩).map (λs=>(openSeen q loose (Qk p.main.body) Xt g0 s,Yf s))=some (openGood q loose,Ya w)) :
  LeftO p q loose Xt Yf Ya N g0:=λw=>by
 obtain⟨⟨h0,gs,d,k,os⟩,e1,e2⟩:=NF.mp (boot_open e hN f w);simp only[PK]at e2;obtain⟨rfl,rfl,rfl,rfl⟩:=e2;unfold openEnds;rw[e1];exact h w os
structure Cl (P:LP)(w:Mh)(K:Frag)(mg:Str->Option Lh)(base:Heap)(k:Nat)(x:Str)(n:Nat)(m:List T->Rs T):Prop where
 ex:∃f fd ps,mg x=some (.ref f)/\keepIn K (.ref f)=true/\Binds K fd ps []/\ps.length=n/\B6 P w K mg base k f fd ps n m
abbrev fF (K:Frag)(mg:Str->Option Lh)(x:Str)(st:Stmt)(ps:List Str):Prop:=∃f fd,Fn K mg x st ps f fd
section
variable {P:LP}{w:Mh}{K:Frag}{mg:Str->Option Lh}{base:Heap}{x:Str}{st:Stmt}{N ps:List Str}{k n:Nat}{F:En->Rs Fl}
theorem a9 (H:fF K mg x st ps)(S:aw N ps (ai st))(hn:ps.length=n)
  (hbody:∀(f:Addr) (cdv:Lh) (A:L3) (outer:List Env) (s:Lj) (H:Hp) (E:XK),Room k (A.deeper (envOfC x (ai st) s.heap.objs.size f cdv)) →
   ∀xe,vW ((fI CX0 P w K mg base N x (ai st) f cdv A outer s H E).FB xe) (bF st) F):Cl P w K mg base (k+1) x n (val n N.length F):=by
 obtain⟨f,fd,h⟩:=H;exact⟨f,fd,ps,h.mg,h.fn.kp,h.bd,hn,qj h.fn S hn (hbody f)⟩
end
section
variable {X:Cx}{e:Expr}{es:List Expr}{fs:En->Rs (List T)}{pos p:Pos}{x:Str}{n k k':Nat}{g:List T->Rs T}
theorem aM (c:Cl X.prog X.w X.K X.mg X.base k x n g)(hr:Room k' X.A)(ha:QA X (e::es) fs)(hk:autoParam (k<=k') aqb._auto_1)(hl:∀(Z:En) (ts:List T),fs Z= .ok ts->ts.length=n:=by repeat first | exact xN | refine xM ?_)
  (hn:autoParam (bx (e::es)=true) aqd._auto_1) (hg:autoParam (Gl X x) aqd._auto_1) (h2:autoParam ((x == Lu "__debug__")=false) aqb._auto_1):QE X (.Call (.Name x p) (e::es) [] pos) (cl g fs):=by
 obtain⟨f,fd,ps,h1,h3,h4,h5,h6⟩:=c.ex;exact zq_c h6 (hr.mono hk) h1 h3 h4 hl ha h5 hn hg h2
theorem sJ {i:Int}(h:∃t,X.mg x=some (.int i t))(hg:autoParam (Gl X x) aqd._auto_1)(hd:autoParam ((x == Lu "__debug__")=false) aqb._auto_1):QE X (.Name x pos) (cn (.int i)):=by
 obtain⟨t,h⟩:=h;exact Cb h ⟨_,rfl⟩ hg hd
end
theorem DE {K:Frag}{C:Addr}{m q:Str}{st:Stmt}(e:IW K C m q=JH m q st):∃f fd,uD K C m f/\L2.Fun K m q st f fd:=by
 unfold IW at e
 split at e
 ·rename_i f hf
  split at e
  ·rename_i oc od d sl hl
   cases d;unfold JH at e;simp only[Pr,PK]at e;obtain⟨h1,h2,h3,h4,h5,h6,h7,h8,h9,h10,h11,h12⟩:=e;subst h1 h2 h3 h4 h5 h6 h7 h8 h9;exact⟨f,_,⟨hf,h12,h11⟩,A9 hl h10 h11⟩
  ·cases e
 ·cases e
theorem DB {K:Frag}{C:Addr}{f:Str}(e:GF K C f=true):NoAttr K C f:=by
 unfold GF at e
 split at e
 ·assumption
 ·cases e
theorem Cz {K:Frag}{C:Addr}(e:FG K C=true):findIn K (.ref C) "__setattr__" =some (some (.builtin "object.__setattr__")):=by
 unfold FG at e
 split at e
 ·rename_i b h;rw[h,eq_of_beq e]
 ·cases e
structure pj (K:Frag)(mg:Str->Option Lh)(c:Str):Prop where
 cl:Cls K (bK K c)
 mg:mg c=some (.ref (bK K c))
 mks:makesIn K (bK K c)=true
 kp:keepIn K (.ref (bK K c))=true
abbrev sA (K:Frag)(c m q:Str)(st:Stmt)(ps:List Str):Prop:=∃f fd,uD K (bK K c) m f/\L2.Fun K m q st f fd/\Binds K fd ps []
section
variable {K:Frag}{h:Heap}{mg:Str->Option Lh}{top:Nat->Stmt}{A:EC}
theorem Jy (X:K.In h)(G:h.Ns LX mg)(e:J1 K A=J4 top A):pj K mg A.c/\(∀f∈A.as,NoAttr K (bK K A.c) f)/\A.ms.map (λ(m:Str×Str×Nat)=>IW K (bK K A.c) m.1 m.2.1)=A.ms.map (λ(m:Str×Str×Nat)=>JH m.1 m.2.1 (cY (top A.i) m.2.2)):=by
 unfold J1 at e
 split at e
 ·rename_i C hC
  unfold J4 at e;simp only[Pr,PK]at e;obtain⟨e1,e2⟩:=e
  have hc:bK K A.c=C:=by unfold bK;rw[hC]
  unfold E8 at e1;simp only[Lf]at e1;obtain⟨⟨⟨⟨⟨⟨h1,h2⟩,h3⟩,h4⟩,h5⟩,h6⟩,h7⟩:=e1;rw[hc];exact⟨⟨by rw[hc];exact⟨h1,h2,h3,Cz h4⟩,by rw[hc];exact mg_of X G hC,by rw[hc];exact h5,by rw[hc];exact h6⟩,λf hf=>DB (LK.mp h7 f hf),e2⟩
 ·cases e
theorem lg (j:Nat){m q:Str}{i:Nat}{ps:List Str}(e:A.ms.map (λ(m:Str×Str×Nat)=>IW K (bK K A.c) m.1 m.2.1)=A.ms.map (λ(m:Str×Str×Nat)=>JH m.1 m.2.1 (cY (top A.i) m.2.2)))(z:A.ms[j]? =some (m,q,i))
  (hb:∀(kV doc pm:Lh) (an:Option Addr) (cdv ct:Lh) (us:List Lh),us.length=ps.length->RY (fnOf m q (eK (cY (top A.i) i)) (bF (cY (top A.i) i)) (ai (cY (top A.i) i)) .none kV doc pm an cdv ct) ⟨us,[]⟩=pure (ps.zip us)) :
  sA K A.c m q (cY (top A.i) i) ps:=by
 obtain⟨f,fd,h1,h2⟩:=DE (kW j e z);exact⟨f,fd,h1,h2,h2.binds hb⟩
end
def hookC (S:uG)(top:Nat->Stmt):Hook:=
 ⟨_,λs=>Ab S (uh s.heap),λ_=>zi S top,λ_ h=> ∃K:Frag,K.In h/\Ab S K=zi S top,λ_ s e=>⟨_,Bb s.heap,e⟩,λ_ _ _ ⟨K,a,b⟩ k=>⟨K,a.keeps k,b⟩⟩
theorem walk_c {l:OpenLaw}{n k:Nat}{q:LP}{loose:List Str}{XP:(Str->Option Lh)->Heap->Prop}{d:DefRec}{S:uG}{top:Nat->Stmt}{CX:B7}{sp:Frag->Sp}{x:Str}
  (hn:l.most=some n) (hn2:n<=sizeLine) (hdf:d.params.defaults= []) (hr:Room k callerA)
  (F:∀(w:Mh) (K:Frag) (mg:Str->Option Lh) (fa:Addr) (h:Heap),K.In h->Ab S K=zi S top->h.Ns LX mg->mg d.name=some (.ref fa) →
   ∃fd:Mo,(∀(s:Lj) (u:Lh),Qm s fd ⟨[u],[]⟩ [(x,u)])/\∀base:Heap,K.In base->base.Ns LX mg->ox l.prog w K mg base CX k fa fd [x] (sp K))
  (hsp:∀(K:Frag) (H:Hp) (a:Addr) (ns:List Int),ns.length<=n->Hy H->SqL K H a (ns.map V.int)->sp K [.ref a] H (λv _=>v= .bl true) λ_ _ _=>False)
  (hCX:∀(H:Hp) (s:Lj) (e:Lh) (s':Lj),CX [] H s (λ_ _ _=>False) e s'->False) :
  WalkO q loose XP (hookC S top).says l.row.toRowW d [] (λf vs=>PySem.call f vs):=by
 refine Att.attach_call hn hdf λw s₀ s₁ mg mb fa o pm cd doc a vs ns G Y ho hd hcd hmg hobj hints hlen hg=> ?_
 obtain⟨K,KX,e⟩:=Y;obtain⟨fd,hb,hF⟩:=F w K mg fa _ KX e G.T.g hmg;exact AA KX G.T.g G.T.b G.T.builtins G.T.nolimit hg hobj hints (Mf hlen hn2) hr hF hb (λH hO hS=>hsp K H a ns hlen hO hS) λH e s'=>hCX H s₁ e s'
structure Ml (P:LP)(w:Mh)(K:Frag)(mg:Str->Option Lh)(base:Heap)(k:Nat)(c m:Str)(g:List T->Rs T):Prop where
 ex:∃f fd ps,uD K (bK K c) m f/\Binds K fd ps []/\ps.length=1/\B6 P w K mg base k f fd ps 1 g
structure Mm (P:LP)(w:Mh)(K:Frag)(mg:Str->Option Lh)(base:Heap)(k:Nat)(c m:Str)(n:Nat)(g:List Sl->Rs (T×OT)):Prop where
 ex:∃f fd ps,uD K (bK K c) m f/\Binds K fd ps []/\ps.length=n/\EA P w K mg base k f fd ps n 0 g
structure Ce (P:LP)(w:Mh)(K:Frag)(mg:Str->Option Lh)(base:Heap)(k:Nat)(x:Str)(n j:Nat)(g:List Sl->Rs (T×OT)):Prop where
 ex:∃f fd ps,mg x=some (.ref f)/\keepIn K (.ref f)=true/\Binds K fd ps []/\ps.length=n/\EA P w K mg base k f fd ps n j g
structure QX (X:Cx)(e:Expr)(f:En->Rs (T×En)):Prop where
 h:xQ X e f
structure Fd (X:Cx)(e:Expr)(f:En->Rs (Bool×En)):Prop where
 h:Et X e f
structure J5 (X:Cx)(e:Expr)(f:En->Rs (Bool×En)):Prop where
 h:JR X e f
structure QM (X:Cx)(j:Nat)(e:Stmt)(f:En->Rs Fx):Prop where
 h:Eu X j e f
structure Es (X:Cx)(j:Nat)(e:List Stmt)(f:En->Rs Fx):Prop where
 h:B4 X j e f
section
variable {P:LP}{w:Mh}{K:Frag}{mg:Str->Option Lh}{base:Heap}{x c m q:Str}{st:Stmt}{N ps:List Str}{k n j:Nat}
theorem EO {F:En->Rs Fl}(H:sA K c m q st ps)(S:aw N ps (ai st))(hn:ps.length=1)
  (hbody:∀(f:Addr) (cdv:Lh) (A:L3) (outer:List Env) (s:Lj) (H:Hp) (E:XK),Room k (A.deeper (envOfC q (ai st) s.heap.objs.size f cdv)) →
   ∀xe,vW ((fI CX0 P w K mg base N q (ai st) f cdv A outer s H E).FB xe) (bF st) F):Ml P w K mg base (k+1) c m (val 1 N.length F):=by
 obtain⟨f,fd,h1,h2,h3⟩:=H;exact⟨f,fd,ps,h1,h3,hn,qj h2 S hn (hbody f)⟩
theorem wN {F:En->Rs Fx}(H:sA K c m q st ps)(S:aw N ps (ai st))(hn:ps.length=n)
  (hbody:∀(f:Addr) (cdv:Lh) (A:L3) (outer:List Env) (s:Lj) (H:Hp) (E:XK),Room k (A.deeper (envOfC q (ai st) s.heap.objs.size f cdv)) →
   ∀xe,Es ((fI CX0 P w K mg base N q (ai st) f cdv A outer s H E).FB xe) 0 (bF st) F):Mm P w K mg base (k+1) c m n (hI n 0 N.length F):=by
 obtain⟨f,fd,h1,h2,h3⟩:=H;exact⟨f,fd,ps,h1,h3,hn,Bd h2 S hn λcdv A outer s H E hr xe=>(hbody f cdv A outer s H E hr xe).h⟩
theorem JP {F:En->Rs Fx}(H:fF K mg x st ps)(S:aw N ps (ai st))(hn:ps.length=n)
  (hbody:∀(f:Addr) (cdv:Lh) (A:L3) (outer:List Env) (s:Lj) (H:Hp) (E:XK),Room k (A.deeper (envOfC x (ai st) s.heap.objs.size f cdv)) →
   ∀xe,Es ((fI CX0 P w K mg base N x (ai st) f cdv A outer s H E).FB xe) j (bF st) F):Ce P w K mg base (k+1) x n j (hI n j N.length F):=by
 obtain⟨f,fd,h⟩:=H;exact⟨f,fd,ps,h.mg,h.fn.kp,h.bd,hn,Bd h.fn S hn λcdv A outer s H E hr xe=>(hbody f cdv A outer s H E hr xe).h⟩
end
section
variable {X:Cx}{a b e c o:Expr}{es bN:List Expr}{fa fb fo:En->Rs T}{fs:En->Rs (List T)}{pos p p2 p3 p4 apos cpos spos:Pos}{x y n cn' f m:Str}{k k' l j:Nat}{g:List T->Rs T}{ge:List Sl->Rs (T×OT)}{ex ey:En->Rs (T×En)}{tx ty:En->Rs (Bool×En)}
theorem v7 (h:QE X a fa):QX X a (xP fa):=⟨Fw h.h⟩
theorem y6 (C:pj X.K X.mg m)(hn:NoAttr X.K (bK X.K m) f)(ha:QE X a fa)(hb:autoParam (LU a f X.env (eval a X.env)=eval a X.env) aqd._auto_1):QE X (.Attribute a f pos) (o1 (vM m f) fa):=⟨IB C.cl hn ha.h hb⟩
theorem di {pl:Sem Bool}(C:pj X.K X.mg n)(M:Ml X.prog X.w X.K X.mg X.base k n m g)(hr:Room k' X.A)(ho:QE X o fo)(hk:autoParam (k<=k') aqb._auto_1)
  (ht:eval (.Call (.Attribute o m apos) [] [] pos) X.env=(do
   let ov <-eval o X.env
   standAt apos.atName
   let (f,first) <-holding [ov] (O0 ov m pl)
   Rg pos f first (backTo pos (LA [] X.env)) (Pg pos (NN [] X.env))):=by rfl):QE X (.Call (.Attribute o m apos) [] [] pos) (mf n m g fo aj):=by
 obtain⟨f,fd,ps,h1,h2,h3,h4⟩:=M.ex;exact⟨CZ (pl:=pl) C.cl h1 h4 (hr.mono hk) h2 h3 ho.h ht⟩
theorem Fi (i:Nat)(C:pj X.K X.mg m)(hn:NoAttr X.K (bK X.K m) f)(ha:QE X a fa)(hN:autoParam (X.N[i]? =some x) aqd._auto_1)(hv:autoParam (oo X.env.scope x) aqe._auto_1)(hs:autoParam (bD a=true) aqd._auto_1)
  (hb1:autoParam (LU (.Name x p2) f X.env (eval (.Name x p2) X.env)=eval (.Name x p2) X.env) aqd._auto_1)
  (hbase:autoParam (LU (.Attribute (.Name x p2) f p3) "append" X.env (eval (.Attribute (.Name x p2) f p3) X.env)=eval (.Attribute (.Name x p2) f p3) X.env) aqd._auto_1) (hline:autoParam ((apos.endLine == cpos.line)=true) aqd._auto_1)
  (hd:autoParam ((x == ("__debug__" : Str))=false) aqb._auto_1) (hcd:autoParam ((x == ("__classdict__" : Str))=false) aqb._auto_1):QX X (.Call (.Attribute (.Attribute (.Name x p2) f p3) "append" apos) [a] [] cpos) (xU i m f fa):=⟨HJ i C.cl hn ha.h hN hv hs hb1 hbase hline hd hcd⟩
theorem Fh (i:Nat)(C:pj X.K X.mg m)(hn:NoAttr X.K (bK X.K m) f)(hN:autoParam (X.N[i]? =some x) aqd._auto_1)(hv:autoParam (oo X.env.scope x) aqe._auto_1)
  (hb1:autoParam (LU (.Name x p2) f X.env (eval (.Name x p2) X.env)=eval (.Name x p2) X.env) aqd._auto_1)
  (hbase:autoParam (LU (.Attribute (.Name x p2) f p3) "pop" X.env (eval (.Attribute (.Name x p2) f p3) X.env)=eval (.Attribute (.Name x p2) f p3) X.env) aqd._auto_1) (hline:autoParam ((apos.endLine == cpos.line)=true) aqd._auto_1)
  (hd:autoParam ((x == ("__debug__" : Str))=false) aqb._auto_1) (hcd:autoParam ((x == ("__classdict__" : Str))=false) aqb._auto_1):QX X (.Call (.Attribute (.Attribute (.Name x p2) f p3) "pop" apos) [] [] cpos) (xT i m f):=⟨HG i C.cl hn hN hv hb1 hbase hline hd hcd⟩
theorem GN {fs:En->Rs (List T)}{l:Nat}(h:∀(Z:En) (ts:List T),fs Z= .ok ts->ts.length=l)(Z:En)(ts:List T)(z:fs Z= .ok ts):ts.length+1=l+1:=congrArg (· +1) (h Z ts z)
theorem v8 {pl:Sem Bool}(i:Nat)(C:pj X.K X.mg n)(M:Mm X.prog X.w X.K X.mg X.base k n m (l+1) ge)(hr:Room k' X.A)(ha:QA X (e::es) fs)(hk:autoParam (k<=k') aqb._auto_1)(hl:∀(Z:En) (ts:List T),fs Z= .ok ts->ts.length=l:=by repeat first | exact xN | refine xM ?_)
  (hN:autoParam (X.N[i]? =some x) aqd._auto_1) (hv:autoParam (oo X.env.scope x) aqe._auto_1) (hd:autoParam ((x == ("__debug__" : Str))=false) aqb._auto_1) (hcd:autoParam ((x == ("__classdict__" : Str))=false) aqb._auto_1)
  (hns:autoParam (bx (e::es)=true) aqd._auto_1)
  (ht:eval (.Call (.Attribute (.Name x p2) m apos) (e::es) [] pos) X.env=(do
   let ov <-eval (.Name x p2) X.env
   standAt apos.atName
   let (f,first) <-holding [ov] (O0 ov m pl)
   Rg pos f first (backTo pos (LA (e::es) X.env)) (Pg pos (NN [] X.env))):=by rfl):QX X (.Call (.Attribute (.Name x p2) m apos) (e::es) [] pos) (fK i n m ge fs):=by
 obtain⟨f,fd,ps,h1,h2,h3,h4⟩:=M.ex
 have hn2:bD e=true/\bx es=true:=Mx.mp hns;exact⟨Fy (pl:=pl) i C.cl h1 h4 (hr.mono hk) h2 h3 (GN hl) ha.h hN hv hd hcd (bz hn2.1) (dZ hn2.2) ht⟩
theorem yU {pl:Sem Bool}(i:Nat)(C:pj X.K X.mg n)(M:Mm X.prog X.w X.K X.mg X.base k n m 1 ge)(hr:Room k' X.A)(hk:autoParam (k<=k') aqb._auto_1)
  (hN:autoParam (X.N[i]? =some x) aqd._auto_1) (hv:autoParam (oo X.env.scope x) aqe._auto_1) (hd:autoParam ((x == ("__debug__" : Str))=false) aqb._auto_1) (hcd:autoParam ((x == ("__classdict__" : Str))=false) aqb._auto_1)
  (ht:eval (.Call (.Attribute (.Name x p2) m apos) [] [] pos) X.env=(do
   let ov <-eval (.Name x p2) X.env
   standAt apos.atName
   let (f,first) <-holding [ov] (O0 ov m pl)
   Rg pos f first (backTo pos (LA [] X.env)) (Pg pos (NN [] X.env))):=by rfl):QX X (.Call (.Attribute (.Name x p2) m apos) [] [] pos) (fK i n m ge aj):=by
 obtain⟨f,fd,ps,h1,h2,h3,h4⟩:=M.ex;exact⟨Cg (pl:=pl) i C.cl h1 h4 (hr.mono hk) h2 h3 hN hv hd hcd ht⟩
theorem uI (i:Nat)(M:Ce X.prog X.w X.K X.mg X.base k y (l+1) 0 ge)(hr:Room k' X.A)(ha:QA X es fs)(hk:autoParam (k<=k') aqb._auto_1)(hl:∀(Z:En) (ts:List T),fs Z= .ok ts->ts.length=l:=by repeat first | exact xN | refine xM ?_)
  (hN:autoParam (X.N[i]? =some x) aqd._auto_1) (hv:autoParam (oo X.env.scope x) aqe._auto_1) (hd:autoParam ((x == ("__debug__" : Str))=false) aqb._auto_1) (hcd:autoParam ((x == ("__classdict__" : Str))=false) aqb._auto_1)
  (hg:autoParam (Gl X y) aqd._auto_1) (hdb:autoParam ((y == ("__debug__" : Str))=false) aqb._auto_1) (hns:autoParam (bx es=true) aqd._auto_1):QX X (.Call (.Name y p) (.Name x p2::es) [] pos) (lM i ge fs):=by
 obtain⟨f,fd,ps,h1,h0,h2,h3,h4⟩:=M.ex;exact⟨HI i h4 (hr.mono hk) h1 h0 h2 h3 (GN hl) ha.h hN hv hd hcd hg hdb rfl (dZ hns)⟩
theorem HF {op:Sm}{r:T->T->Rs T}(ho:OpT X (L7 op) r)(ha:QX X a ex)(hb:QE X b fb)(hm:autoParam (Og op b=false) aqd._auto_1):QX X (.Compare a [op] [b] pos) (EF r ex fb):=⟨x_o2 ho ha.h hb.h hm⟩
theorem my {t:En->Rs Bool}(h:QT X a t):Fd X a (uJ t):=⟨Cf h.h⟩
theorem v3 (h:QX X e ex)(he:autoParam (∀whole,isTrue e X.env whole=(do let v <-whole;standAt e.pos;holding [v] (truthy v))) aqc._auto_1):Fd X e (BW ex):=⟨Fu h.h he⟩
theorem yT (ha:Fd X a tx):J5 X (.BoolOp .And [a] pos) tx:=⟨Cd ha.h⟩
theorem qf (ha:Fd X a tx)(hb:J5 X (.BoolOp .And (b::bN) pos) ty):J5 X (.BoolOp .And (a::b::bN) pos) (gx tx ty):=⟨Ft ha.h hb.h⟩
theorem HE (h:J5 X e tx):Fd X e tx:=⟨xt_w h.h⟩
theorem v5 (ha:Fd X a tx):Fd X (.UnaryOp .Not a pos) (je tx):=⟨Fv ha.h⟩
theorem v9 {A C:List Stmt}{F G:En->Rs Fl}(hc:Fd X c tx)(ha:vW X A F)(hb:vW X C G):QS X (.If c A C pos) (oK tx F G):=⟨FW hc.h ha.h hb.h⟩
theorem B9 (ha:QX X a ex)(hs:autoParam (Me a none pos.line X.env=pure false) aqd._auto_1):QS X (.Expr a pos) (uX ex):=⟨FZ ha.h hs⟩
theorem Ca (i:Nat)(hN:X.N.Nodup)(ha:QX X a ex)(hi:autoParam (X.N[i]? =some n) aqd._auto_1)(hx:autoParam (Loc X.env.scope n) aqh._auto_1)(hs:autoParam (Me a (some (.Name n p3)) pos.line X.env=pure false) aqd._auto_1)
  (hf:autoParam (X.fn n=true\/X.env.scope.names.lookup n=some .local) aqa._auto_1):QS X (.Assign [.Name n p3] a pos) (uZ i ex):=⟨F2 i hN ha.h hi hx hs hf⟩
theorem sI (i:Nat)(hN:X.N.Nodup)(C:pj X.K X.mg m)(M:Mm X.prog X.w X.K X.mg X.base k m "__init__" (l+1) ge)(hr:Room k' X.A)(ha:QA X (e::es) fs)(hk:autoParam (k+1<=k') aqb._auto_1)(hl:∀(Z:En) (ts:List T),fs Z= .ok ts->ts.length=l:=by repeat first | exact xN | refine xM ?_)
  (hi:autoParam (X.N[i]? =some n) aqd._auto_1) (hx:autoParam (Loc X.env.scope n) aqh._auto_1) (hs:autoParam (Me (.Call (.Name m p) (e::es) [] pos) (some (.Name n p3)) spos.line X.env=pure false) aqd._auto_1) (hf:autoParam (X.fn n=true\/X.env.scope.names.lookup n=some .local) aqa._auto_1)
  (hg:autoParam (Gl X m) aqd._auto_1) (hdb:autoParam ((m == ("__debug__" : Str))=false) aqb._auto_1) (hns:autoParam (bx (e::es)=true) aqd._auto_1):QS X (.Assign [.Name n p3] (.Call (.Name m p) (e::es) [] pos) spos) (mS i m ge fs):=by
 obtain⟨f,fd,ps,h1,h2,h3,h4⟩:=M.ex
 have hn2:bD e=true/\bx es=true:=Mx.mp hns;exact⟨CM i ⟨C.mks,h1.at_,h1.fn,C.kp⟩ h4 (hr.mono hk) C.mg h2 h3 (GN hl) hN ha.h hi hx hs hf hg hdb (bz hn2.1) (dZ hn2.2)⟩
theorem za:Es X j [] mN:=⟨Jc⟩
theorem ib {s:Stmt}{F:En->Rs Fx}(h:QM X j s F):Es X j [s] F:=⟨Jb h.h⟩
theorem l0 {s:Stmt}{ss:List Stmt}{F G:En->Rs Fx}(h1:QM X j s F)(h2:Es X j ss G):Es X j (s::ss) (nA F G):=⟨GJ h1.h h2.h⟩
theorem wc (ha:QX X a ex)(hs:autoParam (Me a none pos.line X.env=pure false) aqd._auto_1):QM X j (.Expr a pos) (An ex):=⟨m_ex ha.h hs⟩
theorem y9 (ha:QX X a ex):QM X j (.Return (some a) pos) (rE ex):=⟨Ja ha.h⟩
theorem EE {t:En->Rs Bool}{A C:List Stmt}{F G:En->Rs Fx}(hc:QT X c t)(ha:Es X j A F)(hb:Es X j C G):QM X j (.If c A C pos) (GK t F G):=⟨m_if hc.h ha.h hb.h⟩
theorem zc {s:Stmt}{d:Str}(h:QS X s (uY d)):QM X j s (DH d):=⟨Je h.h⟩
theorem Fs (i:Nat)(C:pj X.K X.mg m)(hn:NoAttr X.K (bK X.K m) f)(ha:QA X es fs)(hN:autoParam (X.N[i]? =some n) aqd._auto_1)(hv:autoParam (oo X.env.scope n) aqe._auto_1)
  (hd:autoParam ((n == ("__debug__" : Str))=false) aqb._auto_1) (hcd:autoParam ((n == ("__classdict__" : Str))=false) aqb._auto_1) (hs:autoParam (Me (.List es p4) (some (.Attribute (.Name n p2) f p3)) pos.line X.env=pure false) aqd._auto_1) :
  QM X j (.Assign [.Attribute (.Name n p2) f p3] (.List es p4) pos) (yq i m f fs):=⟨Jd i C.cl hn ha.h hN hv hd hcd hs⟩
theorem x5 {suite:List Stmt}{c:Str}{C:Addr}{bm:List Lh}{t:T}(hm:X.mg c=some (.ref C))(O:OX X.K C bm)(h:∀e oe,vW (E6 X e oe) suite (aI (cn t))):BP X suite C (AW c t):=λd D u hd hu=>by
 unfold AW at hu
 split at hu
 ·rename_i z
  cases hu;subst z;cases hm.symm.trans hd;exact⟨bm,O,by simp,λe oe=>(h e oe).h⟩
 ·cases hu
theorem Cc {body suite:List Stmt}{b0:Stmt}{F:En->Rs Fx}{ce:Str}{CE:Addr}{bmE:List Lh}{t:T}{np hpos:Pos}(hm:X.mg ce=some (.ref CE))(OE:OX X.K CE bmE)
  (hb:∀pn xe,Es { X with pn:=pn,xe:=xe } j body F) (hs:∀e oe,vW (E6 X e oe) (b0::suite) (aI (Tr.cn t))) (hst:autoParam (X.stack=X.env::X.outer) aqd._auto_1) (hfe:autoParam (X.env.frame=some X.env.locals) aqd._auto_1) (hcl:∀x c,X.env.cells.lookup x≠some c) (hex:autoParam (X.ex= []) aqd._auto_1)
  (hg:autoParam (Gl X ce) aqd._auto_1) (hd:autoParam ((ce == ("__debug__" : Str))=false) aqb._auto_1) :
  QM X j (.Try body [.ExceptHandler (some (.Name ce np)) none (b0::suite) hpos] [] [] pos) (tZ F (AW ce t)):=⟨GI hst hfe hcl hex hm OE (λpn xe=>(hb pn xe).h) (x5 hm OE hs) hg hd⟩
end
end Tr
namespace Tr
open PySem PySem.Spec PyProof.Rows L2
theorem et {N P:List Str}{sc:OI}(h1:autoParam (sc.kind= .function) aqd._auto_1)(h2:autoParam (sc.isCoroutine=false) aqd._auto_1)(h3:autoParam (sc.isGenerator=false) aqd._auto_1)(h4:autoParam (N.Nodup) aqi._auto_1)(h5:autoParam (N.take P.length=P) aqd._auto_1)
  (h6:autoParam (∀x∈P,sc.names.lookup x=some .local\/sc.names.lookup x=some .cell) aqi._auto_1) (h7:autoParam (∀y∈sc.names,y.2≠ .free) aqi._auto_1):aw N P sc:=⟨h1,h2,h3,h4,h5,h6,h7⟩
end Tr
namespace G
open PySem PySem.Spec PyProof.Rows L2 Tr
structure Bl (mg:Str->Option Lh):Prop where
 b_all:mg "all" =none
 b_bool:mg "bool" =none
 b_dict:mg "dict" =none
 b_enumerate:mg "enumerate" =none
 b_int:mg "int" =none
 b_isinstance:mg "isinstance" =none
 b_len:mg "len" =none
 b_list:mg "list" =none
 b_range:mg "range" =none
 b_sum:mg "sum" =none
 b_tuple:mg "tuple" =none
structure Cs (mg:Str->Option Lh):Prop where
 MOST_CLOCKS:∃t,mg "MOST_CLOCKS" =some (.int 4 t)
 MOST_LETTERS:∃t,mg "MOST_LETTERS" =some (.int 8 t)
 MOST_READINGS:∃t,mg "MOST_READINGS" =some (.int 4 t)
 LAST_READING:∃t,mg "LAST_READING" =some (.int 99 t)
 SLOWEST:∃t,mg "SLOWEST" =some (.int 9 t)
 LONGEST:∃t,mg "LONGEST" =some (.int 999 t)
structure eO (K:Ld)(mg:Str->Option Lh):Prop where
 k:pj K mg "Desk"
 a_kept:NoAttr K (bK K "Desk") "kept"
theorem si:Ma "bool" =some (.type "bool"):=by decide+kernel
theorem iJ:Ma "int" =some (.type "int"):=by decide+kernel
theorem sh:Ma "list" =some (.type "list"):=by decide+kernel
theorem df:Ma "tuple" =some (.type "tuple"):=by decide+kernel
structure Xs (K:Ld)(mg:Str->Option Lh)(C_NoRecord C_NoEvent C_NoNumber C_NoWorld C_Barred C_Nothing C_ClockError:Addr):Prop where
 m_NoRecord:mg "NoRecord" =some (.ref C_NoRecord)
 m_NoEvent:mg "NoEvent" =some (.ref C_NoEvent)
 m_NoNumber:mg "NoNumber" =some (.ref C_NoNumber)
 m_NoWorld:mg "NoWorld" =some (.ref C_NoWorld)
 m_Barred:mg "Barred" =some (.ref C_Barred)
 m_Nothing:mg "Nothing" =some (.ref C_Nothing)
 m_ClockError:mg "ClockError" =some (.ref C_ClockError)
 o_NoRecord:OX K C_NoRecord (.ref C_ClockError::sH)
 o_NoEvent:OX K C_NoEvent (.ref C_ClockError::sH)
 o_NoNumber:OX K C_NoNumber (.ref C_ClockError::sH)
 o_NoWorld:OX K C_NoWorld (.ref C_ClockError::sH)
 o_Barred:OX K C_Barred (.ref C_ClockError::sH)
 o_Nothing:OX K C_Nothing (.ref C_ClockError::sH)
 o_ClockError:OX K C_ClockError sH
 d:[C_NoRecord,C_NoEvent,C_NoNumber,C_NoWorld,C_Barred,C_Nothing,C_ClockError].Nodup
end G
namespace G
open PySem Tr
def qd:En->Rs Fl:=
 (aI (bX (o1 (AS "tuple") (vr 0)) (ch Jh Jh (vr 1) (cl cz (ae (vr 0) aj)) (vr 2))))
def aL:List T->Rs T:=val 3 3 qd
def vY:En->Rs Fl:=
 (aI (bX (o1 (AS "int") (vr 0)) (o1 DA (o1 (AS "bool") (vr 0)))))
def gK:List T->Rs T:=val 1 1 vY
def iM:En->Rs Fl:=
 (aI (bX (cl gK (ae (vr 0) aj)) (ch Jh Jh (vr 1) (vr 0) (vr 2))))
def aP:List T->Rs T:=val 3 3 iM
def lz:En->Rs Fl:=
 (aI (bX (cl aP (ae (vr 0) (ae (cn (.int 1)) (ae (cn (.int 9)) aj)))) (cl aP (ae (vr 1) (ae (vr 0) (ae (cn (.int 9)) aj))))))
def eQ:List T->Rs T:=val 2 2 lz
def xR:En->Rs Fl:=
 (aI (cl om (ae (hW (iR (ae (o2 hV (cl cz (ae (vr 0) aj)) (cn (.int 1))) aj)) [none,some 0] (gN 0) bT (o2 DI (o2 aU (vr 1) (vr 0)) (o2 aU (vr 1) (o2 aX (vr 0) (cn (.int 1)))))) aj)))
def iZ:List T->Rs T:=val 1 1 xR
def dP:En->Rs Fl:=
 (aA (fH (cK (tb (cl aL (ae (vr 0) (ae (cn (.int 1)) (ae (cn (.int 4)) aj)))))) (aI (cn (.bl false))) sN) (aI (bX (cl om (ae (hW (iS (vr 0)) [none] (gN 0) bT (cl aP (ae (vr 0) (ae (cn (.int 0)) (ae (cn (.int 99)) aj))))) aj)) (cl iZ (ae (vr 0) aj)))))
def bH:List T->Rs T:=val 1 1 dP
def gS:En->Rs Fl:=
 (aI (bX (cl aL (ae (vr 0) (ae (cn (.int 3)) (ae (cn (.int 3)) aj)))) (bX (cl eQ (ae (o2 aU (vr 0) (cn (.int 0))) (ae (o2 aU (vr 0) (cn (.int 1))) aj))) (cl bH (ae (o2 aU (vr 0) (cn (.int 2))) aj)))))
def cP:List T->Rs T:=val 1 1 gS
def gU:En->Rs Fl:=
 (aI (bX (cl aL (ae (vr 0) (ae (cn (.int 1)) (ae (cn (.int 4)) aj)))) (cl om (ae (hW (iS (vr 0)) [none] (gN 0) bT (cl cP (ae (vr 0) aj))) aj))))
def cX:List T->Rs T:=val 1 1 gU
def gQ:En->Rs Fl:=
 (aA (fH (kA (cK (tb (cl aL (ae (vr 1) (ae (cn (.int 2)) (ae (cn (.int 2)) aj)))))) (cK (tb (cl aP (ae (o2 aU (vr 1) (cn (.int 0))) (ae (cn (.int 0)) (ae (o2 hV (cl cz (ae (vr 0) aj)) (cn (.int 1))) aj))))))) (aI (cn (.bl false))) sN) (aI (cl aP (ae (o2 aU (vr 1) (cn (.int 1))) (ae (cn (.int 0)) (ae (o2 hV (cl cz (ae (o2 aU (o2 aU (vr 0) (o2 aU (vr 1) (cn (.int 0)))) (cn (.int 2))) aj)) (cn (.int 1))) aj))))))
def cg:List T->Rs T:=val 2 2 gQ
def gR:En->Rs Fl:=
 (aI (bX (cl aP (ae (vr 0) (ae (cn (.int 0)) (ae (cn (.int 999)) aj)))) (BZ (o2 jC (vr 1) (cn .non)) (cl aP (ae (vr 1) (ae (vr 0) (ae (cn (.int 999)) aj)))))))
def dm:List T->Rs T:=val 2 2 gR
def dw:En->Rs Fl:=
 (aA (fH (kA (cK (tb (cl aL (ae (vr 1) (ae (cn (.int 4)) (ae (cn (.int 4)) aj)))))) (cK (tb (cl dm (ae (o2 aU (vr 1) (cn (.int 2))) (ae (o2 aU (vr 1) (cn (.int 3))) aj)))))) (aI (cn (.bl false))) sN) (aI (bX (cl cg (ae (vr 0) (ae (o2 aU (vr 1) (cn (.int 0))) aj))) (bX (cl cg (ae (vr 0) (ae (o2 aU (vr 1) (cn (.int 1))) aj))) (o2 kS (o2 aU (vr 1) (cn (.int 0))) (o2 aU (vr 1) (cn (.int 1))))))))
def bO:List T->Rs T:=val 2 2 dw
def gp:En->Rs Fl:=
 (aI (bX (cl aL (ae (vr 1) (ae (cn (.int 0)) (ae (cn (.int 8)) aj)))) (cl om (ae (hW (iS (vr 1)) [none,some 0] (gN 0) bT (cl bO (ae (vr 1) (ae (vr 0) aj)))) aj))))
def cJ:List T->Rs T:=val 2 2 gp
def fS:En->Rs Fl:=
 (aI (bX (cl aL (ae (vr 0) (ae (cn (.int 2)) (ae (cn (.int 2)) aj)))) (bX (cl cX (ae (o2 aU (vr 0) (cn (.int 0))) aj)) (cl cJ (ae (o2 aU (vr 0) (cn (.int 0))) (ae (o2 aU (vr 0) (cn (.int 1))) aj))))))
def cO:List T->Rs T:=val 1 1 fS
def dg:En->Rs Fl:=
 (fH (cK (tb (cl cO (ae (vr 0) aj)))) (uY "NoRecord") sN)
def aW:List T->Rs T:=val 1 1 dg
def oA:En->Rs Fl:=
 (aA (uH (cl aW (ae (vr 0) aj))) (aA (jm 1 aj) (aA (ir (iE (ae (o2 aU (vr 0) (cn (.int 0))) aj)) (gT 2 (ue (gN 2) (ue (gN 3) B2))) (mT 1 (hW (iR (ae (cl cz (ae (o2 aU (vr 3) (cn (.int 2))) aj)) aj)) [none,some 2] (gN 0) bT (bJ (ae (vr 1) (ae (vr 0) aj)))))) (qC 1 (aI (vr 1))))))
def dG:List T->Rs T:=val 1 4 oA
def iN:En->Rs Fl:=
 (aA (cv (oD g9 (vr 0) (o2 aU (vr 1) (cn (.int 1)))) (gN 3)) (aI (BZ (o2 jC (vr 3) (cn .non)) (o2 DI (o2 aX (o2 aU (vr 2) (cn (.int 0))) (o2 aU (vr 1) (cn (.int 2)))) (o2 aU (vr 3) (cn (.int 0)))))))
def cQ:List T->Rs T:=val 3 4 iN
def iK:En->Rs Fl:=
 (aA (pD 2 (hW (iS (vr 1)) [none] (gN 0) bT (bJ (ae (vr 0) (ae (bJ (ae (cn (.int 0)) (ae (eM aj) aj))) aj))))) (aA (cv (cn (.bl true)) (gN 3)) (aA (bw (tb (vr 3)) (aA (cv (cn (.bl false)) (gN 3)) (ir (iE (ae (vr 0) aj)) (gT 2 (ue (gN 4) (ue (gN 5) B2))) (aA (cv (ln 2 (oD g9 (vr 2) (o2 aU (vr 5) (cn (.int 0))))) (gN 6)) (aA (fH (kA (tb (o2 jC (vr 6) (cn .non))) (cK (GL 2 (tb (cl cQ (ae (vr 2) (ae (vr 5) (ae (vr 6) aj)))))))) EH sN) (aA (cv (o2 aX (o2 aU (vr 6) (cn (.int 1))) (eM (ae (vr 4) aj))) (gN 7)) (aA (cv (hW (iS (vr 7)) [none,some 0] (gN 0) bT (o2 aU (o2 aU (vr 1) (vr 0)) (cn (.int 0)))) (gN 8)) (aA (fH (tb (o2 HC (o2 aU (vr 5) (cn (.int 1))) (vr 8))) (aI (bJ (ae (cn .non) (ae (sl (vr 7) (pS (oL fO (vr 8) (o2 aU (vr 5) (cn (.int 1))))) pN) aj)))) sN) (aA (ya 2 (o2 aU (vr 5) (cn (.int 1))) (bJ (ae (o2 aX (o2 aU (vr 6) (cn (.int 0))) (o2 aU (vr 5) (cn (.int 2)))) (ae (vr 7) aj)))) (cv (cn (.bl true)) (gN 3)))))))))) FU) (qC 2 (aI (bJ (ae (vr 2) (ae (cn .non) aj))))))))
def c8:List T->Rs T:=val 2 9 iK
def dW:En->Rs Fl:=
 (aA (cv (cl dG (ae (vr 0) aj)) (gN 2)) (aA (cv (o2 aU (cl c8 (ae (vr 1) (ae (vr 2) aj))) (cn (.int 0))) (gN 3)) (aA (fH (tb (o2 jC (vr 3) (cn .non))) (aI (cn .non)) sN) (aI (cl fV (ae (hW (iS (vr 2)) [none,some 3] (gN 0) bT (o2 aU (o2 r6 (vr 1) (vr 0)) (cn (.int 0)))) aj))))))
def cW:List T->Rs T:=val 2 4 dW
def dO:En->Rs Fl:=
 (aA (cv (o2 aU (vr 1) (cn (.int 2))) (gN 2)) (aA (jm 3 aj) (aA (ir (iR (ae (o2 hV (cl cz (ae (vr 2) aj)) (cn (.int 1))) aj)) (gN 4) (aA (cv (bJ (ae (vr 0) (ae (vr 4) aj))) (gN 5)) (aA (cv (bJ (ae (vr 0) (ae (o2 aX (vr 4) (cn (.int 1))) aj))) (gN 6)) (aA (cv (o2 hV (o2 aU (vr 2) (o2 aX (vr 4) (cn (.int 1)))) (o2 aU (vr 2) (vr 4))) (gN 7)) (aA (oM 3 (bJ (ae (vr 5) (ae (vr 6) (ae (o2 bY (vr 7) (o2 aU (vr 1) (cn (.int 1)))) aj))))) (oM 3 (bJ (ae (vr 6) (ae (vr 5) (ae (o2 bY (o1 o7 (vr 7)) (o2 aU (vr 1) (cn (.int 0)))) aj)))))))))) (qC 3 (aI (vr 3))))))
def b7:List T->Rs T:=val 2 8 dO
def dq:En->Rs Fl:=
 (aA (jm 1 (ae (bJ (ae (o2 aU (vr 0) (cn (.int 1))) (ae (o2 aU (vr 0) (cn (.int 0))) (ae (o1 o7 (o2 aU (vr 0) (cn (.int 2)))) aj)))) aj)) (aA (fH (tb (o2 fh (o2 aU (vr 0) (cn (.int 3))) (cn .non))) (oM 1 (bJ (ae (o2 aU (vr 0) (cn (.int 0))) (ae (o2 aU (vr 0) (cn (.int 1))) (ae (o2 aU (vr 0) (cn (.int 3))) aj))))) sN) (qC 1 (aI (vr 1)))))
def bU:List T->Rs T:=val 1 2 dq
def oB:En->Rs Fl:=
 (aA (uH (cl aW (ae (vr 0) aj))) (aA (jm 1 aj) (aA (ir (iE (ae (o2 aU (vr 0) (cn (.int 0))) aj)) (gT 2 (ue (gN 2) (ue (gN 3) B2))) (mT 1 (cl b7 (ae (vr 2) (ae (vr 3) aj))))) (aA (ir (iS (o2 aU (vr 0) (cn (.int 1)))) (gN 4) (mT 1 (cl bU (ae (vr 4) aj)))) (qC 1 (aI (vr 1)))))))
def cR:List T->Rs T:=val 1 5 oB
def EB:En->Rs Fl:=
 (aI (cl cW (ae (vr 0) (ae (cl cR (ae (vr 0) aj)) aj))))
def iY:List T->Rs T:=val 1 1 EB
def uE:En->Rs Fl:=
 (aI (o2 fh (cl iY (ae (vr 0) aj)) (cn .non)))
def br:List T->Rs T:=val 1 1 uE
def gO:En->Rs Fl:=
 (fH (cK (tb (cl br (ae (vr 0) aj)))) (uY "NoWorld") sN)
def cD:List T->Rs T:=val 1 1 gO
def eE:En->Rs Fx:=
 (nA (An (xP (cl cD (ae (vr 1) aj)))) (yq 0 "Desk" "kept" (ae (vr 1) aj)))
def cH:List Sl->Rs (T×OT):=hI 2 0 2 eE
def gP:En->Rs Fl:=
 (fH (cK (tb (cl cg (ae (o2 aU (vr 0) (cn (.int 0))) (ae (vr 1) aj))))) (uY "NoEvent") sN)
def dF:List T->Rs T:=val 2 2 gP
def gi:En->Rs Fl:=
 (aA (uH (cl aW (ae (vr 0) aj))) (aA (uH (cl dF (ae (vr 0) (ae (vr 1) aj)))) (uH (cl dF (ae (vr 0) (ae (vr 2) aj))))))
def dX:List T->Rs T:=val 3 3 gi
def yP:En->Rs Fl:=
 (aI (EY (tb (o2 BA (vr 1) (vr 0))) (o2 aU (o2 r6 (vr 0) (vr 1)) (cn (.int 0))) (cn .non)))
def kX:List T->Rs T:=val 2 2 yP
def sC:En->Rs Fl:=
 (aI (o2 aU (cl c8 (ae (cl cR (ae (vr 0) aj)) (ae (eM (ae (vr 1) aj)) aj))) (cn (.int 0))))
def eI:List T->Rs T:=val 2 2 sC
def fG:En->Rs Fl:=
 (aA (uH (cl dX (ae (vr 0) (ae (vr 1) (ae (vr 2) aj))))) (aA (uH (cl cD (ae (vr 0) aj))) (aI (cl kX (ae (cl eI (ae (vr 0) (ae (vr 1) aj))) (ae (vr 2) aj))))))
def ba:List T->Rs T:=val 3 3 fG
def eC:En->Rs Fl:=
 (aA (cv (cl ba (ae (vr 0) (ae (vr 2) (ae (vr 1) aj)))) (gN 3)) (aI (EY (tb (o2 jC (vr 3) (cn .non))) (cn .non) (o1 o7 (vr 3)))))
def cG:List T->Rs T:=val 3 4 eC
def ph:En->Rs Fl:=
 (aI (o2 aU (o1 (vM "Desk" "kept") (vr 0)) (o1 o7 (cn (.int 1)))))
def aJ:List T->Rs T:=val 1 1 ph
def uF:En->Rs Fl:=
 (aI (o2 hV (cl cz (ae (o1 (vM "Desk" "kept") (vr 0)) aj)) (cn (.int 1))))
def bP:List T->Rs T:=val 1 1 uF
def iP:En->Rs Fx:=
 (nA (GK (tb (o2 o8 (ln 0 (mf "Desk" "many" bP (vr 0) aj)) (cn (.int 0)))) (DH "Nothing") mN) (An (xT 0 "Desk" "kept")))
def d7:List Sl->Rs (T×OT):=hI 1 0 1 iP
def iO:En->Rs Fl:=
 (aA (fH (tb (o2 o8 (vr 0) (eM aj))) (aI (o2 bY (cn (.int 7)) (vr 1))) sN) (aI (o2 aX (o2 aU (vr 0) (o2 kc (vr 1) (cl cz (ae (vr 0) aj)))) (o2 bY (cn (.int 6553)) (o2 km (vr 1) (cl cz (ae (vr 0) aj)))))))
def d6:List T->Rs T:=val 2 2 iO
def gV:En->Rs Fl:=
 (aA (cv (o2 kc (o2 aX (o2 bY (o2 kc (cl d6 (ae (vr 0) (ae (vr 1) aj))) (cn (.int 2147483563))) (cn (.int 69069))) (o2 bY (cn (.int 104723)) (o2 aX (vr 1) (cn (.int 1))))) (cn (.int 2147483563))) (gN 3)) (aA (cv (o2 kc (o2 aX (o2 bY (vr 3) (vr 3)) (o2 km (vr 3) (cn (.int 3)))) (cn (.int 2147483399))) (gN 3)) (aI (o2 kc (o2 km (o2 kc (o2 aX (o2 bY (vr 3) (vr 3)) (o2 km (vr 3) (cn (.int 7)))) (cn (.int 2147483647))) (cn (.int 11))) (vr 2)))))
def aB:List T->Rs T:=val 3 4 gV
def ju:En->Rs Fl:=
 (aA (cv (eM aj) (gN 1)) (aA (ir (iE (ae (vr 0) aj)) (gT 2 (ue (gN 2) (ue (gN 3) B2))) (cv (o2 aX (vr 1) (hW (iR (ae (cl cz (ae (o2 aU (vr 3) (cn (.int 2))) aj)) aj)) [none,some 2] (gN 0) bT (bJ (ae (vr 1) (ae (vr 0) aj))))) (gN 1))) (aI (vr 1))))
def da:List T->Rs T:=val 1 4 ju
def dh:En->Rs Fl:=
 (aA (cv (cl da (ae (vr 2) aj)) (gN 3)) (aA (fH (tb (o2 DI (cl cz (ae (vr 3) aj)) (cn (.int 2)))) (aI (cn .non)) sN) (aA (cv (cl aB (ae (vr 0) (ae (vr 1) (ae (cl cz (ae (vr 3) aj)) aj)))) (gN 4)) (aA (cv (o2 kc (o2 aX (o2 aX (vr 4) (cn (.int 1))) (cl aB (ae (vr 0) (ae (o2 aX (vr 1) (cn (.int 1))) (ae (o2 hV (cl cz (ae (vr 3) aj)) (cn (.int 1))) aj))))) (cl cz (ae (vr 3) aj))) (gN 5)) (aA (cv (cl aB (ae (vr 0) (ae (o2 aX (vr 1) (cn (.int 2))) (ae (cn (.int 8)) aj)))) (gN 6)) (aA (cv (EY (tb (o2 o8 (cl aB (ae (vr 0) (ae (o2 aX (vr 1) (cn (.int 3))) (ae (cn (.int 3)) aj)))) (cn (.int 0)))) (cn .non) (o2 aX (vr 6) (cl aB (ae (vr 0) (ae (o2 aX (vr 1) (cn (.int 4))) (ae (cn (.int 9)) aj)))))) (gN 7)) (aI (bJ (ae (o2 aU (vr 3) (vr 4)) (ae (o2 aU (vr 3) (vr 5)) (ae (vr 6) (ae (vr 7) aj))))))))))))
def bj:List T->Rs T:=val 3 8 dh
def gW:En->Rs Fl:=
 (aA (cv (o2 aX (cn (.int 1)) (cl aB (ae (vr 0) (ae (vr 1) (ae (cn (.int 3)) aj))))) (gN 2)) (aA (cv (bJ (ae (cl aB (ae (vr 0) (ae (o2 aX (vr 1) (cn (.int 2))) (ae (cn (.int 6)) aj)))) aj)) (gN 3)) (aA (ir (iR (ae (cl aB (ae (vr 0) (ae (o2 aX (vr 1) (cn (.int 1))) (ae (cn (.int 3)) aj)))) aj)) (gN 4) (cv (o2 aX (vr 3) (bJ (ae (o2 aX (o2 aX (o2 aU (vr 3) (o1 o7 (cn (.int 1)))) (cn (.int 1))) (cl aB (ae (vr 0) (ae (o2 aX (o2 aX (vr 1) (cn (.int 3))) (vr 4)) (ae (cn (.int 5)) aj))))) aj))) (gN 3))) (aI (bJ (ae (vr 2) (ae (o2 aX (vr 2) (cl aB (ae (vr 0) (ae (o2 aX (vr 1) (cn (.int 6))) (ae (cn (.int 3)) aj))))) (ae (vr 3) aj))))))))
def b8:List T->Rs T:=val 2 5 gW
def gu:En->Rs Fl:=
 (aA (cv (cl fV (ae (hW (iR (ae (o2 aX (cn (.int 1)) (cl aB (ae (vr 0) (ae (vr 1) (ae (cn (.int 3)) aj))))) aj)) [none,some 0,some 1] (gN 0) bT (cl b8 (ae (vr 1) (ae (o2 aX (o2 aX (vr 2) (cn (.int 1))) (o2 bY (cn (.int 8)) (vr 0))) aj)))) aj)) (gN 3)) (aA (cv (eM aj) (gN 4)) (aA (ir (iR (ae (cl aB (ae (vr 0) (ae (o2 aX (vr 1) (cn (.int 30))) (ae (o2 aX (vr 2) (cn (.int 1))) aj)))) aj)) (gN 5) (aA (cv (cl bj (ae (vr 0) (ae (o2 aX (o2 aX (vr 1) (cn (.int 31))) (o2 bY (cn (.int 6)) (vr 5))) (ae (vr 3) aj)))) (gN 6)) (cv (o2 aX (vr 4) (o2 bY (eM (ae (vr 6) aj)) (cl vJ (ae (o2 fh (vr 6) (cn .non)) aj)))) (gN 4)))) (aI (bJ (ae (vr 3) (ae (cl fV (ae (vr 4) aj)) aj)))))))
def dY:List T->Rs T:=val 3 7 gu
def eg:En->Rs Fl:=
 (aA (uH (cl aW (ae (vr 0) aj))) (aI (vr 0)))
def dv:List T->Rs T:=val 1 1 eg
def gh:En->Rs Fl:=
 (aA (uH (cl aW (ae (vr 0) aj))) (aI (cl dv (ae (bJ (ae (o2 aU (vr 0) (cn (.int 0))) (ae (o2 aX (o2 aU (vr 0) (cn (.int 1))) (bJ (ae (vr 1) aj))) aj))) aj))))
def a8:List T->Rs T:=val 2 2 gh
def ej:En->Rs Fx:=
 (nA (GK (cK (tb (cl br (ae (vr 1) aj)))) (DH "Barred") mN) (An (xU 0 "Desk" "kept" (vr 1))))
def d9:List Sl->Rs (T×OT):=hI 2 0 2 ej
def eh:En->Rs Fx:=
 (nA (An (fK 0 "Desk" "keep" d9 (ae (cl a8 (ae (ln 0 (mf "Desk" "record" aJ (vr 0) aj)) (ae (vr 1) aj))) aj))) (rE (xP (o2 hV (cl cz (ae (o2 aU (ln 0 (mf "Desk" "record" aJ (vr 0) aj)) (cn (.int 1))) aj)) (cn (.int 1))))))
def d8:List Sl->Rs (T×OT):=hI 2 0 2 eh
def sG:En->Rs Fx:=
 (tZ (rE (EF o8 (fK 0 "Desk" "take" d8 (ae (vr 1) aj)) (o2 hV (cl cz (ae (o2 aU (ln 0 (mf "Desk" "record" aJ (vr 0) aj)) (cn (.int 1))) aj)) (cn (.int 1))))) (AW "Barred" (.bl false)))
def bq:List Sl->Rs (T×OT):=hI 2 0 2 sG
def gn:En->Rs Fl:=
 (aI (bX (o1 (AS "list") (vr 1)) (cl om (ae (hW (iS (vr 1)) [none,some 0] (gN 0) bT (cl aP (ae (vr 0) (ae (cn (.int 0)) (ae (o2 hV (cl cz (ae (vr 1) aj)) (cn (.int 1))) aj))))) aj))))
def cj:List T->Rs T:=val 2 2 gn
def kz:En->Rs Fl:=
 (aA (fH (cK (tb (cl cj (ae (vr 0) (ae (vr 3) aj))))) (aI (cn (.bl false))) sN) (aA (cv (vr 1) (gN 4)) (aA (ir (iS (vr 3)) (gN 5) (aA (fH (tb (o2 kS (o2 aU (o2 aU (vr 0) (vr 5)) (cn (.int 0))) (vr 4))) (aI (cn (.bl false))) sN) (cv (o2 aU (o2 aU (vr 0) (vr 5)) (cn (.int 1))) (gN 4)))) (aI (o2 o8 (vr 4) (vr 2))))))
def kf:List T->Rs T:=val 4 6 kz
def gj:En->Rs Fl:=
 (aA (fH (kA (cK (tb (cl cj (ae (vr 0) (ae (vr 1) aj))))) (tb (o2 o8 (vr 1) (eM aj)))) (aI (cn (.bl false))) sN) (aA (cv (o2 aU (o2 aU (vr 0) (o2 aU (vr 1) (cn (.int 0)))) (cn (.int 0))) (gN 2)) (aI (cl kf (ae (vr 0) (ae (vr 2) (ae (vr 2) (ae (vr 1) aj))))))))
def c9:List T->Rs T:=val 2 3 gj
def oy:En->Rs Fl:=
 (aI (cl FE (ae (hW (iS (vr 1)) [none,some 0] (gN 0) bT (o2 aU (o2 aU (vr 1) (vr 0)) (cn (.int 2)))) aj)))
def ke:List T->Rs T:=val 2 2 oy
def vZ:En->Rs Fl:=
 (aA (cv (cl cR (ae (vr 0) aj)) (gN 2)) (aI (bX (cl c9 (ae (vr 2) (ae (vr 1) aj))) (o2 DI (cl ke (ae (vr 2) (ae (vr 1) aj))) (cn (.int 0))))))
def kY:List T->Rs T:=val 2 3 vZ
def yQ:En->Rs Fl:=
 (aI (o2 aU (cl c8 (ae (cl cR (ae (vr 0) aj)) (ae (cl dG (ae (vr 0) aj)) aj))) (cn (.int 1))))
def dU:List T->Rs T:=val 1 1 yQ
def BU:En->Rs Fl:=
 (aA (cv (bJ (ae (o2 aU (cl dY (ae (vr 0) (ae (cn (.int 0)) (ae (cn (.int 0)) aj)))) (cn (.int 0))) (ae (bJ aj) aj))) (gN 1)) (aA (mS 2 "Desk" cH (ae (vr 1) aj)) (aA (cv (cl dG (ae (vr 1) aj)) (gN 3)) (aA (cv (o2 aU (vr 3) (cl aB (ae (vr 0) (ae (cn (.int 80)) (ae (cl cz (ae (vr 3) aj)) aj))))) (gN 4)) (aA (cv (o2 aU (vr 3) (cl aB (ae (vr 0) (ae (cn (.int 81)) (ae (cl cz (ae (vr 3) aj)) aj))))) (gN 5)) (aA (cv (eM aj) (gN 6)) (aA (cv (cl ba (ae (vr 1) (ae (vr 4) (ae (vr 5) aj)))) (gN 7)) (aA (ir (iR (ae (cn (.int 6)) aj)) (gN 8) (aA (cv (cl bj (ae (vr 0) (ae (o2 aX (cn (.int 90)) (o2 bY (cn (.int 6)) (vr 8))) (ae (o2 aU (vr 1) (cn (.int 0))) aj)))) (gN 9)) (fH (lX (tb (o2 fh (vr 9) (cn .non))) (tb (o2 DI (cl cz (ae (vr 6) aj)) (cn (.int 7))))) (aA (cv (ln 2 (mf "Desk" "record" aJ (vr 2) aj)) (gN 10)) (aA (cv (cl a8 (ae (vr 10) (ae (vr 9) aj))) (gN 11)) (aA (uZ 12 (lM 2 bq (ae (vr 9) aj))) (aA (fH (kA (tb (o2 kS (vr 12) (cl br (ae (vr 11) aj)))) (lX (cK (tb (vr 12))) (kA (tb (o2 kS (ln 2 (mf "Desk" "record" aJ (vr 2) aj)) (vr 10))) (cK (tb (cl kY (ae (vr 11) (ae (cl dU (ae (vr 11) aj)) aj)))))))) (aI (cn (.bl false))) sN) (aA (cv (o2 aX (vr 6) (o2 bY (eM (ae (vr 9) aj)) (cl vJ (ae (vr 12) aj)))) (gN 6)) (aA (cv (cl ba (ae (ln 2 (mf "Desk" "record" aJ (vr 2) aj)) (ae (vr 4) (ae (vr 5) aj)))) (gN 13)) (aA (fH (lX (tb (o2 fh (vr 7) (cn .non))) (kA (tb (o2 jC (vr 13) (cn .non))) (tb (o2 JC (vr 13) (vr 7))))) (aI (cn (.bl false))) sN) (cv (vr 13) (gN 7))))))))) sN))) (aA (fH (kA (tb (o2 kS (ln 2 (mf "Desk" "record" aJ (vr 2) aj)) (bJ (ae (o2 aU (vr 1) (cn (.int 0))) (ae (cl fV (ae (vr 6) aj)) aj))))) (tb (o2 kS (ln 2 (mf "Desk" "many" bP (vr 2) aj)) (cl cz (ae (vr 6) aj))))) (aI (cn (.bl false))) sN) (aA (cv (cl cG (ae (ln 2 (mf "Desk" "record" aJ (vr 2) aj)) (ae (vr 4) (ae (vr 5) aj)))) (gN 14)) (aA (oK (gx (uJ (tb (o2 kS (vr 4) (vr 5)))) (gx (uJ (tb (o2 fh (vr 14) (cn .non)))) (gx (uJ (tb (o2 J3 (vr 14) (cn (.int 0))))) (je (BW (lM 2 bq (ae (bJ (ae (vr 4) (ae (vr 5) (ae (vr 14) (ae (cn .non) aj))))) aj))))))) (aI (cn (.bl false))) sN) (aA (mS 15 "Desk" cH (ae (vr 1) aj)) (aA (ir (iS (o1 CB (vr 6))) (gN 9) (oK (je (BW (lM 15 bq (ae (vr 9) aj)))) (aI (cn (.bl false))) sN)) (aA (bw (tb (o2 JC (ln 2 (mf "Desk" "many" bP (vr 2) aj)) (cn (.int 0)))) (uX (fK 2 "Desk" "undo" d7 aj)) FU) (aI (o2 o8 (ln 2 (mf "Desk" "record" aJ (vr 2) aj)) (vr 1)))))))))))))))))
def m_law:List T->Rs T:=val 1 16 BU
end G
namespace G
open PySem PySem.Spec PyProof.Rows L2 Tr
section
variable (P:LP)(w:Mh){K:Ld}{mg:Str->Option Lh}(base:Heap)
abbrev mI:Stmt:=top 18
abbrev vm:List Str:=["thing","least","most"]
theorem uV:aw vm ["thing","least","most"] (ai mI):=et
theorem vf (F:fF K mg "is_long" mI ["thing","least","most"])(B:Bl mg):Cl P w K mg base 1 "is_long" 3 aL:=
 a9 F uV rfl λf c A o s H E hr x=>(ar (ax (c7 (wa B.b_isinstance B.b_tuple df (af 0)) (dk (sL wK wK (af 1) (cu ck B.b_len M0 (ag (af 0) ah)) (af 2))))))
abbrev lC:Stmt:=top 16
abbrev tQ:List Str:=["thing"]
theorem sY:aw tQ ["thing"] (ai lC):=et
theorem tH (F:fF K mg "is_whole" lC ["thing"])(B:Bl mg):Cl P w K mg base 1 "is_whole" 1 gK:=
 a9 F sY rfl λf c A o s H E hr x=>(ar (ax (c7 (wa B.b_isinstance B.b_int iJ (af 0)) (dk (Fq (wa B.b_isinstance B.b_bool si (af 0)))))))
abbrev jR:Stmt:=top 17
abbrev rf:List Str:=["thing","least","most"]
theorem qr:aw rf ["thing","least","most"] (ai jR):=et
theorem qM (F:fF K mg "is_within" jR ["thing","least","most"])(aaM:Cl P w K mg base 1 "is_whole" 1 gK):Cl P w K mg base 2 "is_within" 3 aP:=
 a9 F qr rfl λf c A o s H E hr x=>(ar (ax (c7 (aM aaM hr (ag (af 0) ah)) (dk (sL wK wK (af 1) (af 0) (af 2))))))
abbrev mH:Stmt:=top 21
abbrev vk:List Str:=["slow","fast"]
theorem uU:aw vk ["slow","fast"] (ai mH):=et
theorem ve (F:fF K mg "is_pace" mH ["slow","fast"])(aa1:Cl P w K mg base 2 "is_within" 3 aP)(C:Cs mg):Cl P w K mg base 3 "is_pace" 2 eQ:=
 a9 F uU rfl λf c A o s H E hr x=>(ar (ax (c7 (aM aa1 hr (ag (af 0) (ag ak (ag (sJ C.SLOWEST) ah)))) (dk (aM aa1 hr (ag (af 1) (ag (af 0) (ag (sJ C.SLOWEST) ah))))))))
abbrev mF:Stmt:=top 19
abbrev tO:List Str:=["numbers"]
theorem zx:aw tO ["numbers"] (ai mF):=et
theorem z9 (F:fF K mg "rises" mF ["numbers"])(B:Bl mg):Cl P w K mg base 1 "rises" 1 iZ:=
 a9 F zx rfl λf c A o s H E hr x=>(ar (ax (cu (nY rfl) B.b_all RZ (ag (ia (N':=["k","numbers"]) (src:=[none,some 0]) rfl (LcScope.by (N:=tO) (names:=(ai mF).names) rfl rfl rfl (by decide+kernel)) (cN B.b_range (ag (ay fZ (cu ck B.b_len M0 (ag (af 0) ah)) ak) ah)) (λ_ _ _ _ _=>⟨(aq 0 (show MQ (["k","numbers"]:List Str)by decide+kernel)),cF,(fU tG (aE (af 1) (af 0)) (aE (af 1) (ay aR (af 0) ak)))⟩)) ah))))
abbrev ez:Stmt:=top 20
abbrev gZ:List Str:=["thing"]
theorem lO:aw gZ ["thing"] (ai ez):=et
theorem lR (F:fF K mg "are_readings" ez ["thing"])(aa3:Cl P w K mg base 1 "is_long" 3 aL)(aaV:Cl P w K mg base 1 "rises" 1 iZ)(aa1:Cl P w K mg base 2 "is_within" 3 aP)(B:Bl mg)(C:Cs mg):Cl P w K mg base 3 "are_readings" 1 bH:=
 a9 F lO rfl λf c A o s H E hr x=>(ao (cC (cL (cA (aM aa3 hr (ag (af 0) (ag ak (ag (sJ C.MOST_READINGS) ah)))))) (ar (ax eV)) bB) (ar (ax (c7 (cu (nY rfl) B.b_all RZ (ag (ia (N':=["part"]) (src:=[none]) rfl (LcScope.by (N:=gZ) (names:=(ai ez).names) rfl rfl rfl (by decide+kernel)) (dC (af 0)) (λ_ _ _ _ _=>⟨(aq 0 (show MQ (["part"]:List Str)by decide+kernel)),cF,(aM aa1 hr (ag (af 0) (ag ak (ag (sJ C.LAST_READING) ah))))⟩)) ah)) (dk (aM aaV hr (ag (af 0) ah)))))))
abbrev lF:Stmt:=top 22
abbrev tT:List Str:=["thing"]
theorem ti:aw tT ["thing"] (ai lF):=et
theorem tK (F:fF K mg "is_clock" lF ["thing"])(aa3:Cl P w K mg base 1 "is_long" 3 aL)(aaQ:Cl P w K mg base 3 "is_pace" 2 eQ)(aat:Cl P w K mg base 3 "are_readings" 1 bH):Cl P w K mg base 4 "is_clock" 1 cP:=
 a9 F ti rfl λf c A o s H E hr x=>(ar (ax (c7 (aM aa3 hr (ag (af 0) (ag ak (ag ak ah)))) (c7 (aM aaQ hr (ag (aE (af 0) ak) (ag (aE (af 0) ak) ah))) (dk (aM aat hr (ag (aE (af 0) ak) ah)))))))
abbrev fX:Stmt:=top 23
abbrev jo:List Str:=["thing"]
theorem oH:aw jo ["thing"] (ai fX):=et
theorem oR (F:fF K mg "are_clocks" fX ["thing"])(aa3:Cl P w K mg base 1 "is_long" 3 aL)(aaN:Cl P w K mg base 4 "is_clock" 1 cP)(B:Bl mg)(C:Cs mg):Cl P w K mg base 5 "are_clocks" 1 cX:=
 a9 F oH rfl λf c A o s H E hr x=>(ar (ax (c7 (aM aa3 hr (ag (af 0) (ag ak (ag (sJ C.MOST_CLOCKS) ah)))) (dk (cu (nY rfl) B.b_all RZ (ag (ia (N':=["part"]) (src:=[none]) rfl (LcScope.by (N:=jo) (names:=(ai fX).names) rfl rfl rfl (by decide+kernel)) (dC (af 0)) (λ_ _ _ _ _=>⟨(aq 0 (show MQ (["part"]:List Str)by decide+kernel)),cF,(aM aaN hr (ag (af 0) ah))⟩)) ah))))))
abbrev lD:Stmt:=top 24
abbrev tR:List Str:=["clocks","thing"]
theorem sZ:aw tR ["clocks","thing"] (ai lD):=et
theorem tI (F:fF K mg "is_event" lD ["clocks","thing"])(aa1:Cl P w K mg base 2 "is_within" 3 aP)(aa3:Cl P w K mg base 1 "is_long" 3 aL)(B:Bl mg):Cl P w K mg base 3 "is_event" 2 cg:=
 a9 F sZ rfl λf c A o s H E hr x=>(ao (cC (hZ (hY (cL (cA (aM aa3 hr (ag (af 1) (ag ak (ag ak ah)))))) (fJ (cL (cA (aM aa1 hr (ag (aE (af 1) ak) (ag ak (ag (ay fZ (cu ck B.b_len M0 (ag (af 0) ah)) ak) ah))))))))) (ar (ax eV)) bB) (ar (ax (aM aa1 hr (ag (aE (af 1) ak) (ag ak (ag (ay fZ (cu ck B.b_len M0 (ag (aE (aE (af 0) (aE (af 1) ak)) ak) ah)) ak) ah)))))))
abbrev lE:Stmt:=top 25
abbrev tS:List Str:=["least","most"]
theorem tf:aw tS ["least","most"] (ai lE):=et
theorem tJ (F:fF K mg "is_delay" lE ["least","most"])(aa1:Cl P w K mg base 2 "is_within" 3 aP)(C:Cs mg):Cl P w K mg base 3 "is_delay" 2 dm:=
 a9 F tf rfl λf c A o s H E hr x=>(ar (ax (c7 (aM aa1 hr (ag (af 0) (ag ak (ag (sJ C.LONGEST) ah)))) (dk (ED (fU pG (af 1) cq) (dk (aM aa1 hr (ag (af 1) (ag (af 0) (ag (sJ C.LONGEST) ah))))))))))
abbrev jT:Stmt:=top 26
abbrev rh:List Str:=["clocks","thing"]
theorem qu:aw rh ["clocks","thing"] (ai jT):=et
theorem qO (F:fF K mg "is_letter" jT ["clocks","thing"])(aah:Cl P w K mg base 3 "is_event" 2 cg)(aa3:Cl P w K mg base 1 "is_long" 3 aL)(aaO:Cl P w K mg base 3 "is_delay" 2 dm):Cl P w K mg base 4 "is_letter" 2 bO:=
 a9 F qu rfl λf c A o s H E hr x=>(ao (cC (hZ (hY (cL (cA (aM aa3 hr (ag (af 1) (ag ak (ag ak ah)))))) (fJ (cL (cA (aM aaO hr (ag (aE (af 1) ak) (ag (aE (af 1) ak) ah)))))))) (ar (ax eV)) bB) (ar (ax (c7 (aM aah hr (ag (af 0) (ag (aE (af 1) ak) ah))) (c7 (aM aah hr (ag (af 0) (ag (aE (af 1) ak) ah))) (dk (fU (mV (kl hr)) (aE (af 1) ak) (aE (af 1) ak))))))))
abbrev eZ:Stmt:=top 27
abbrev iz:List Str:=["clocks","thing"]
theorem mQ:aw iz ["clocks","thing"] (ai eZ):=et
theorem m6 (F:fF K mg "are_letters" eZ ["clocks","thing"])(aa3:Cl P w K mg base 1 "is_long" 3 aL)(aaG:Cl P w K mg base 4 "is_letter" 2 bO)(B:Bl mg)(C:Cs mg):Cl P w K mg base 5 "are_letters" 2 cJ:=
 a9 F mQ rfl λf c A o s H E hr x=>(ar (ax (c7 (aM aa3 hr (ag (af 1) (ag ak (ag (sJ C.MOST_LETTERS) ah)))) (dk (cu (nY rfl) B.b_all RZ (ag (ia (N':=["part","clocks"]) (src:=[none,some 0]) rfl (LcScope.by (N:=iz) (names:=(ai eZ).names) rfl rfl rfl (by decide+kernel)) (dC (af 1)) (λ_ _ _ _ _=>⟨(aq 0 (show MQ (["part","clocks"]:List Str)by decide+kernel)),cF,(aM aaG hr (ag (af 1) (ag (af 0) ah)))⟩)) ah))))))
abbrev jS:Stmt:=top 28
abbrev rg:List Str:=["thing"]
theorem qt:aw rg ["thing"] (ai jS):=et
theorem qN (F:fF K mg "is_record" jS ["thing"])(aa3:Cl P w K mg base 1 "is_long" 3 aL)(aaB:Cl P w K mg base 5 "are_clocks" 1 cX)(aav:Cl P w K mg base 5 "are_letters" 2 cJ):Cl P w K mg base 6 "is_record" 1 cO:=
 a9 F qt rfl λf c A o s H E hr x=>(ar (ax (c7 (aM aa3 hr (ag (af 0) (ag ak (ag ak ah)))) (c7 (aM aaB hr (ag (aE (af 0) ak) ah)) (dk (aM aav hr (ag (aE (af 0) ak) (ag (aE (af 0) ak) ah))))))))
abbrev ij:Stmt:=top 29
abbrev nq:List Str:=["thing"]
theorem mM:aw nq ["thing"] (ai ij):=et
theorem mY (F:fF K mg "need_record" ij ["thing"])(aaH:Cl P w K mg base 6 "is_record" 1 cO){C_NoRecord C_NoEvent C_NoNumber C_NoWorld C_Barred C_Nothing C_ClockError:Addr}(S:Xs K mg C_NoRecord C_NoEvent C_NoNumber C_NoWorld C_Barred C_Nothing C_ClockError):Cl P w K mg base 7 "need_record" 1 aW:=
 a9 F mM rfl λf c A o s H E hr x=>(ar (cC (cL (cA (aM aaH hr (ag (af 0) ah)))) (ar (gv S.o_NoRecord S.m_NoRecord)) bB))
abbrev kD:Stmt:=top 32
abbrev pJ:List Str:=["record","told","number","clock"]
theorem aaF:aw pJ ["record"] (ai kD):=et
theorem yg (F:fF K mg "events" kD ["record"])(aa2:Cl P w K mg base 7 "need_record" 1 aW)(B:Bl mg):Cl P w K mg base 8 "events" 1 dG:=
 a9 F aaF rfl λf c A o s H E hr x=>(by(apply ao;exact(dB (aM aa2 hr (ag (af 0) ah)));apply ao;exact(jJ 1 aaF.nd ah);apply ao;exact(dA rfl (jL B.b_enumerate (ag (aE (af 0) ak) ah)) (lZ rfl (dt (aq 2 aaF.nd) (dt (aq 3 aaF.nd) jM))) (ar (qh 1 (ia (N':=["k","number"]) (src:=[none,some 2]) rfl (LcScope.by (N:=pJ) (names:=(ai kD).names) rfl rfl rfl (by decide+kernel)) (cN B.b_range (ag (cu ck B.b_len M0 (ag (aE (af 3) ak) ah)) ah)) (λ_ _ _ _ _=>⟨(aq 0 (show MQ (["k","number"]:List Str)by decide+kernel)),cF,(bM (ag (af 1) (ag (af 0) ah)))⟩)))));exact ar (jK 1 (ax (af 1)))))
abbrev jU:Stmt:=top 48
abbrev ri:List Str:=["best","bound","ahead","known"]
theorem aaR:aw ri ["best","bound","ahead"] (ai jU):=et
theorem qP (F:fF K mg "is_better" jU ["best","bound","ahead"]):Cl P w K mg base 1 "is_better" 3 cQ:=
 a9 F aaR rfl λf c A o s H E hr x=>(ao (aF (wb (HD hr) (af 0) (aE (af 1) ak)) (aq 3 aaR.nd)) (ar (ax (ED (fU pG (af 3) cq) (dk (fU tG (ay aR (aE (af 2) ak) (aE (af 1) ak)) (aE (af 3) ak)))))))
abbrev iQ:Stmt:=top 47
abbrev kO:List Str:=["limits","starts","best","moved","number","bound","ahead","walk","passed"]
theorem aa9:aw kO ["limits","starts"] (ai iQ):=et
theorem yf (F:fF K mg "settle" iQ ["limits","starts"])(aaI:Cl P w K mg base 1 "is_better" 3 cQ)(B:Bl mg):Cl P w K mg base 2 "settle" 2 c8:=
 a9 F aa9 rfl λf c A o s H E hr x=>(by(apply ao;exact(yV 2 (hu8 hr) rfl B.b_dict aa9.nd (ia (N':=["event"]) (src:=[none]) rfl (LcScope.by (N:=kO) (names:=(ai iQ).names) rfl rfl rfl (by decide+kernel)) (dC (af 1)) (λ_ _ _ _ _=>⟨(aq 0 (show MQ (["event"]:List Str)by decide+kernel)),cF,(bM (ag (af 0) (ag (bM (ag ak (ag (fT ah) ah))) ah)))⟩)));apply ao;exact(aF eV (aq 3 aa9.nd));apply ao;exact(pk FU (cA (af 3)) (ao (aF eV (aq 3 aa9.nd)) (ar (dA rfl (jL B.b_enumerate (ag (af 0) ah)) (lZ rfl (dt (aq 4 aa9.nd) (dt (aq 5 aa9.nd) jM))) (by(apply ao;exact(aF (gw 2 (wb (HD hr) (af 2) (aE (af 5) ak))) (aq 6 aa9.nd));apply ao;exact(cC (hZ (hY (bc pG (af 6) cq) (fJ (cL (Fj 2 (cA (aM aaI hr (ag (af 2) (ag (af 5) (ag (af 6) ah)))))))))) (ar Fo) bB);apply ao;exact(aF (ay aR (aE (af 6) ak) (fT (ag (af 4) ah))) (aq 7 aa9.nd));apply ao;exact(Fm 8 (N':=["step","limits"]) (src:=[none,some 0]) rfl (LcScope.by (N:=kO) (names:=(ai iQ).names) rfl rfl rfl (by decide+kernel)) (dC (af 7)) (λ_ _ _ _ _=>⟨(aq 0 (show MQ (["step","limits"]:List Str)by decide+kernel)),cF,(aE (aE (af 1) (af 0)) ak)⟩) aa9.nd);apply ao;exact(cC (bc (IL (JB hr)) (aE (af 5) ak) (af 8)) (ar (ax (bM (ag cq (ag (yY (af 7) (yW (xS (JB hr) (af 8) (aE (af 5) ak))) yX) ah))))) bB);apply ao;exact(B8 2 (HD hr) (aE (af 5) ak) (bM (ag (ay aR (aE (af 6) ak) (aE (af 5) ak)) (ag (af 7) ah))));exact ar (aF eV (aq 3 aa9.nd))))))));exact ar (jK 2 (ax (bM (ag (af 2) (ag cq ah)))))))
abbrev dD:Stmt:=top 50
abbrev fN:List Str:=["record","limits","places","best"]
theorem aan:aw fN ["record","limits"] (ai dD):=et
theorem j7 (F:fF K mg "greatest_world" dD ["record","limits"])(aai:Cl P w K mg base 8 "events" 1 dG)(aaj:Cl P w K mg base 2 "settle" 2 c8)(B:Bl mg):Cl P w K mg base 9 "greatest_world" 2 cW:=
 a9 F aan rfl λf c A o s H E hr x=>(by(apply ao;exact(aF (aM aai hr (ag (af 0) ah)) (aq 2 aan.nd));apply ao;exact(aF (aE (aM aaj hr (ag (af 1) (ag (af 2) ah))) ak) (aq 3 aan.nd));apply ao;exact(cC (bc pG (af 3) cq) (ar (ax cq)) bB);exact ar (ax (pq kr B.b_tuple df (ag (ia (N':=["event","best"]) (src:=[none,some 3]) rfl (LcScope.by (N:=fN) (names:=(ai dD).names) rfl rfl rfl (by decide+kernel)) (dC (af 2)) (λ_ _ _ _ _=>⟨(aq 0 (show MQ (["event","best"]:List Str)by decide+kernel)),cF,(aE (y8 (HD hr) (af 1) (af 0)) ak)⟩)) ah)))))
abbrev eX:Stmt:=top 39
abbrev jz:List Str:=["number","clock","readings","told","k","first","second","steps"]
theorem aa4:aw jz ["number","clock"] (ai eX):=et
theorem jx (F:fF K mg "bounds_of_clock" eX ["number","clock"])(B:Bl mg):Cl P w K mg base 1 "bounds_of_clock" 2 b7:=
 a9 F aa4 rfl λf c A o s H E hr x=>(by(apply ao;exact(aF (aE (af 1) ak) (aq 2 aa4.nd));apply ao;exact(jJ 3 aa4.nd ah);apply ao;exact(dA rfl (cN B.b_range (ag (ay fZ (cu ck B.b_len M0 (ag (af 2) ah)) ak) ah)) (aq 4 aa4.nd) (by(apply ao;exact(aF (bM (ag (af 0) (ag (af 4) ah))) (aq 5 aa4.nd));apply ao;exact(aF (bM (ag (af 0) (ag (ay aR (af 4) ak) ah))) (aq 6 aa4.nd));apply ao;exact(aF (ay fZ (aE (af 2) (ay aR (af 4) ak)) (aE (af 2) (af 4))) (aq 7 aa4.nd));apply ao;exact(qi 3 (bM (ag (af 5) (ag (af 6) (ag (ay cV (af 7) (aE (af 1) ak)) ah)))));exact ar (qi 3 (bM (ag (af 6) (ag (af 5) (ag (ay cV (mB (af 7)) (aE (af 1) ak)) ah))))))));exact ar (jK 3 (ax (af 3)))))
abbrev eF:Stmt:=top 40
abbrev jd:List Str:=["letter","told"]
theorem aas:aw jd ["letter"] (ai eF):=et
theorem jb (F:fF K mg "bounds_of_letter" eF ["letter"]):Cl P w K mg base 1 "bounds_of_letter" 1 bU:=
 a9 F aas rfl λf c A o s H E hr x=>(by(apply ao;exact(jJ 1 aas.nd (ag (bM (ag (aE (af 0) ak) (ag (aE (af 0) ak) (ag (mB (aE (af 0) ak)) ah)))) ah));apply ao;exact(cC (bc gD (aE (af 0) ak) cq) (ar (qi 1 (bM (ag (aE (af 0) ak) (ag (aE (af 0) ak) (ag (aE (af 0) ak) ah)))))) bB);exact ar (jK 1 (ax (af 1)))))
abbrev pB:Stmt:=top 41
abbrev yj:List Str:=["record","told","number","clock","letter"]
theorem aau:aw yj ["record"] (ai pB):=et
theorem yh (F:fF K mg "bounds" pB ["record"])(aa2:Cl P w K mg base 7 "need_record" 1 aW)(aao:Cl P w K mg base 1 "bounds_of_clock" 2 b7)(aal:Cl P w K mg base 1 "bounds_of_letter" 1 bU)(B:Bl mg):Cl P w K mg base 8 "bounds" 1 cR:=
 a9 F aau rfl λf c A o s H E hr x=>(by(apply ao;exact(dB (aM aa2 hr (ag (af 0) ah)));apply ao;exact(jJ 1 aau.nd ah);apply ao;exact(dA rfl (jL B.b_enumerate (ag (aE (af 0) ak) ah)) (lZ rfl (dt (aq 2 aau.nd) (dt (aq 3 aau.nd) jM))) (ar (qh 1 (aM aao hr (ag (af 2) (ag (af 3) ah))))));apply ao;exact(dA rfl (dC (aE (af 0) ak)) (aq 4 aau.nd) (ar (qh 1 (aM aal hr (ag (af 4) ah)))));exact ar (jK 1 (ax (af 1)))))
abbrev sT:Stmt:=top 51
abbrev Ae:List Str:=["record"]
theorem zw:aw Ae ["record"] (ai sT):=et
theorem z7 (F:fF K mg "world" sT ["record"])(aap:Cl P w K mg base 9 "greatest_world" 2 cW)(aa8:Cl P w K mg base 8 "bounds" 1 cR):Cl P w K mg base 10 "world" 1 iY:=
 a9 F zw rfl λf c A o s H E hr x=>(ar (ax (aM aap hr (ag (af 0) (ag (aM aa8 hr (ag (af 0) ah)) ah)))))
abbrev jW:Stmt:=top 52
abbrev rk:List Str:=["record"]
theorem qw:aw rk ["record"] (ai jW):=et
theorem qR (F:fF K mg "has_world" jW ["record"])(aaW:Cl P w K mg base 10 "world" 1 iY):Cl P w K mg base 11 "has_world" 1 br:=
 a9 F qw rfl λf c A o s H E hr x=>(ar (ax (fU gD (aM aaW hr (ag (af 0) ah)) cq)))
abbrev jh:Stmt:=top 53
abbrev oY:List Str:=["record"]
theorem oF:aw oY ["record"] (ai jh):=et
theorem oP (F:fF K mg "need_world" jh ["record"])(aa7:Cl P w K mg base 11 "has_world" 1 br){C_NoRecord C_NoEvent C_NoNumber C_NoWorld C_Barred C_Nothing C_ClockError:Addr}(S:Xs K mg C_NoRecord C_NoEvent C_NoNumber C_NoWorld C_Barred C_Nothing C_ClockError):Cl P w K mg base 12 "need_world" 1 cD:=
 a9 F oF rfl λf c A o s H E hr x=>(ar (cC (cL (cA (aM aa7 hr (ag (af 0) ah)))) (ar (gv S.o_NoWorld S.m_NoWorld)) bB))
abbrev gA:Stmt:=cY (top 57) 0
abbrev kQ:List Str:=["self","record"]
theorem kF:aw kQ ["self","record"] (ai gA):=et
theorem kK (F:sA K "Desk" "__init__" "Desk.__init__" gA ["self","record"])(aaf:Cl P w K mg base 12 "need_world" 1 cD)(K_Desk:eO K mg):Mm P w K mg base 13 "Desk" "__init__" 2 cH:=
 wN F kF rfl λf c A o s H E hr x=>(l0 (wc (v7 (aM aaf hr (ag (af 1) ah)))) (ib (Fs 0 K_Desk.k K_Desk.a_kept (ag (af 1) ah))))
abbrev ji:Stmt:=top 30
abbrev oZ:List Str:=["record","thing"]
theorem oG:aw oZ ["record","thing"] (ai ji):=et
theorem oQ (F:fF K mg "need_event" ji ["record","thing"])(aah:Cl P w K mg base 3 "is_event" 2 cg){C_NoRecord C_NoEvent C_NoNumber C_NoWorld C_Barred C_Nothing C_ClockError:Addr}(S:Xs K mg C_NoRecord C_NoEvent C_NoNumber C_NoWorld C_Barred C_Nothing C_ClockError):Cl P w K mg base 4 "need_event" 2 dF:=
 a9 F oG rfl λf c A o s H E hr x=>(ar (cC (cL (cA (aM aah hr (ag (aE (af 0) ak) (ag (af 1) ah))))) (ar (gv S.o_NoEvent S.m_NoEvent)) bB))
abbrev ik:Stmt:=top 59
abbrev nr:List Str:=["record","one","other"]
theorem mO:aw nr ["record","one","other"] (ai ik):=et
theorem mZ (F:fF K mg "need_events" ik ["record","one","other"])(aa2:Cl P w K mg base 7 "need_record" 1 aW)(aaq:Cl P w K mg base 4 "need_event" 2 dF):Cl P w K mg base 8 "need_events" 3 dX:=
 a9 F mO rfl λf c A o s H E hr x=>(by(apply ao;exact(dB (aM aa2 hr (ag (af 0) ah)));apply ao;exact(dB (aM aaq hr (ag (af 0) (ag (af 1) ah))));exact ar (dB (aM aaq hr (ag (af 0) (ag (af 2) ah))))))
abbrev mG:Stmt:=top 61
abbrev vj:List Str:=["walks","other"]
theorem uT:aw vj ["walks","other"] (ai mG):=et
theorem vd (F:fF K mg "most_of" mG ["walks","other"]):Cl P w K mg base 1 "most_of" 2 kX:=
 a9 F uT rfl λf c A o s H E hr x=>(ar (ax (yZ (bc (Gs (HD hr)) (af 1) (af 0)) (aE (y8 (HD hr) (af 0) (af 1)) ak) cq)))
abbrev jg:Stmt:=top 60
abbrev oX:List Str:=["record","one"]
theorem oE:aw oX ["record","one"] (ai jg):=et
theorem oO (F:fF K mg "walks_from" jg ["record","one"])(aaj:Cl P w K mg base 2 "settle" 2 c8)(aa8:Cl P w K mg base 8 "bounds" 1 cR):Cl P w K mg base 9 "walks_from" 2 eI:=
 a9 F oE rfl λf c A o s H E hr x=>(ar (ax (aE (aM aaj hr (ag (aM aa8 hr (ag (af 0) ah)) (ag (fT (ag (af 1) ah)) ah))) ak)))
abbrev gY:Stmt:=top 62
abbrev lS:List Str:=["record","one","other"]
theorem lN:aw lS ["record","one","other"] (ai gY):=et
theorem lQ (F:fF K mg "most_between" gY ["record","one","other"])(aaw:Cl P w K mg base 8 "need_events" 3 dX)(aaf:Cl P w K mg base 12 "need_world" 1 cD)(aaS:Cl P w K mg base 1 "most_of" 2 kX)(aaC:Cl P w K mg base 9 "walks_from" 2 eI):Cl P w K mg base 13 "most_between" 3 ba:=
 a9 F lN rfl λf c A o s H E hr x=>(by(apply ao;exact(dB (aM aaw hr (ag (af 0) (ag (af 1) (ag (af 2) ah)))));apply ao;exact(dB (aM aaf hr (ag (af 0) ah)));exact ar (ax (aM aaS hr (ag (aM aaC hr (ag (af 0) (ag (af 1) ah))) (ag (af 2) ah))))))
abbrev gz:Stmt:=top 63
abbrev kP:List Str:=["record","one","other","most"]
theorem aaD:aw kP ["record","one","other"] (ai gz):=et
theorem kJ (F:fF K mg "least_between" gz ["record","one","other"])(aa6:Cl P w K mg base 13 "most_between" 3 ba):Cl P w K mg base 14 "least_between" 3 cG:=
 a9 F aaD rfl λf c A o s H E hr x=>(ao (aF (aM aa6 hr (ag (af 0) (ag (af 2) (ag (af 1) ah)))) (aq 3 aaD.nd)) (ar (ax (yZ (bc pG (af 3) cq) cq (mB (af 3))))))
abbrev iq:Stmt:=cY (top 57) 1
abbrev nv:List Str:=["self"]
theorem mR:aw nv ["self"] (ai iq):=et
theorem ng (F:sA K "Desk" "record" "Desk.record" iq ["self"])(K_Desk:eO K mg):Ml P w K mg base 1 "Desk" "record" aJ:=
 EO F mR rfl λf c A o s H E hr x=>(ar (ax (aE (y6 K_Desk.k K_Desk.a_kept (af 0)) (mB ak))))
abbrev j0:Stmt:=cY (top 57) 7
abbrev rA:List Str:=["self"]
theorem qA:aw rA ["self"] (ai j0):=et
theorem qV (F:sA K "Desk" "many" "Desk.many" j0 ["self"])(B:Bl mg)(K_Desk:eO K mg):Ml P w K mg base 1 "Desk" "many" bP:=
 EO F qA rfl λf c A o s H E hr x=>(ar (ax (ay fZ (cu ck B.b_len M0 (ag (y6 K_Desk.k K_Desk.a_kept (af 0)) ah)) ak)))
abbrev jY:Stmt:=cY (top 57) 6
abbrev rq:List Str:=["self"]
theorem qy:aw rq ["self"] (ai jY):=et
theorem qT (F:sA K "Desk" "undo" "Desk.undo" jY ["self"])(c_Desk_many:Ml P w K mg base 1 "Desk" "many" bP)(K_Desk:eO K mg){C_NoRecord C_NoEvent C_NoNumber C_NoWorld C_Barred C_Nothing C_ClockError:Addr}(S:Xs K mg C_NoRecord C_NoEvent C_NoNumber C_NoWorld C_Barred C_Nothing C_ClockError):Mm P w K mg base 2 "Desk" "undo" 1 d7:=
 wN F qy rfl λf c A o s H E hr x=>(l0 (EE (bc (mW (kl hr)) (gw 0 (di K_Desk.k c_Desk_many hr (af 0))) ak) (ib (zc (gv S.o_Nothing S.m_Nothing))) za) (ib (wc (Fh 0 K_Desk.k K_Desk.a_kept))))
abbrev jX:Stmt:=top 65
abbrev rn:List Str:=["_law_script","_law_k"]
theorem qx:aw rn ["_law_script","_law_k"] (ai jX):=et
theorem qS (F:fF K mg "_law_cell" jX ["_law_script","_law_k"])(B:Bl mg):Cl P w K mg base 1 "_law_cell" 2 d6:=
 a9 F qx rfl λf c A o s H E hr x=>(ao (cC (bc (mW (kl hr)) (af 0) (fT ah)) (ar (ax (ay cV ak (af 1)))) bB) (ar (ax (ay aR (aE (af 0) (ay jw (af 1) (cu ck B.b_len M0 (ag (af 0) ah)))) (ay cV ak (ay l8 (af 1) (cu ck B.b_len M0 (ag (af 0) ah))))))))
abbrev jk:Stmt:=top 66
abbrev o5:List Str:=["_law_script","_law_k","_law_many","_law_cell_here"]
theorem aax:aw o5 ["_law_script","_law_k","_law_many"] (ai jk):=et
theorem oU (F:fF K mg "_law_drawn" jk ["_law_script","_law_k","_law_many"])(aaJ:Cl P w K mg base 1 "_law_cell" 2 d6):Cl P w K mg base 2 "_law_drawn" 3 aB:=
 a9 F aax rfl λf c A o s H E hr x=>(by(apply ao;exact(aF (ay jw (ay aR (ay cV (ay jw (aM aaJ hr (ag (af 0) (ag (af 1) ah))) ak) ak) (ay cV ak (ay aR (af 1) ak))) ak) (aq 3 aax.nd));apply ao;exact(aF (ay jw (ay aR (ay cV (af 3) (af 3)) (ay l8 (af 3) ak)) ak) (aq 3 aax.nd));exact ar (ax (ay jw (ay l8 (ay jw (ay aR (ay cV (af 3) (af 3)) (ay l8 (af 3) ak)) ak) ak) (af 2)))))
abbrev ff:Stmt:=top 69
abbrev iB:List Str:=["_law_clocks","_law_found","_law_number","_law_clock_here"]
theorem aag:aw iB ["_law_clocks"] (ai ff):=et
theorem m9 (F:fF K mg "_law_events" ff ["_law_clocks"])(B:Bl mg):Cl P w K mg base 1 "_law_events" 1 da:=
 a9 F aag rfl λf c A o s H E hr x=>(by(apply ao;exact(aF (fT ah) (aq 1 aag.nd));apply ao;exact(dA rfl (jL B.b_enumerate (ag (af 0) ah)) (lZ rfl (dt (aq 2 aag.nd) (dt (aq 3 aag.nd) jM))) (ar (aF (ay aR (af 1) (ia (N':=["_law_place","_law_number"]) (src:=[none,some 2]) rfl (LcScope.by (N:=iB) (names:=(ai ff).names) rfl rfl rfl (by decide+kernel)) (cN B.b_range (ag (cu ck B.b_len M0 (ag (aE (af 3) ak) ah)) ah)) (λ_ _ _ _ _=>⟨(aq 0 (show MQ (["_law_place","_law_number"]:List Str)by decide+kernel)),cF,(bM (ag (af 1) (ag (af 0) ah)))⟩))) (aq 1 aag.nd))));exact ar (ax (af 1))))
abbrev ip:Stmt:=top 68
abbrev nu:List Str:=["_law_script","_law_at","_law_clocks","_law_row","_law_place","_law_other","_law_least","_law_most"]
theorem aaa:aw nu ["_law_script","_law_at","_law_clocks"] (ai ip):=et
theorem m8 (F:fF K mg "_law_letter" ip ["_law_script","_law_at","_law_clocks"])(aay:Cl P w K mg base 1 "_law_events" 1 da)(aa0:Cl P w K mg base 2 "_law_drawn" 3 aB)(B:Bl mg):Cl P w K mg base 3 "_law_letter" 3 bj:=
 a9 F aaa rfl λf c A o s H E hr x=>(by(apply ao;exact(aF (aM aay hr (ag (af 2) ah)) (aq 3 aaa.nd));apply ao;exact(cC (bc tG (cu ck B.b_len M0 (ag (af 3) ah)) ak) (ar (ax cq)) bB);apply ao;exact(aF (aM aa0 hr (ag (af 0) (ag (af 1) (ag (cu ck B.b_len M0 (ag (af 3) ah)) ah)))) (aq 4 aaa.nd));apply ao;exact(aF (ay jw (ay aR (ay aR (af 4) ak) (aM aa0 hr (ag (af 0) (ag (ay aR (af 1) ak) (ag (ay fZ (cu ck B.b_len M0 (ag (af 3) ah)) ak) ah))))) (cu ck B.b_len M0 (ag (af 3) ah))) (aq 5 aaa.nd));apply ao;exact(aF (aM aa0 hr (ag (af 0) (ag (ay aR (af 1) ak) (ag ak ah)))) (aq 6 aaa.nd));apply ao;exact(aF (yZ (bc (mW (kl hr)) (aM aa0 hr (ag (af 0) (ag (ay aR (af 1) ak) (ag ak ah)))) ak) cq (ay aR (af 6) (aM aa0 hr (ag (af 0) (ag (ay aR (af 1) ak) (ag ak ah)))))) (aq 7 aaa.nd));exact ar (ax (bM (ag (aE (af 3) (af 4)) (ag (aE (af 3) (af 5)) (ag (af 6) (ag (af 7) ah))))))))
abbrev jl:Stmt:=top 67
abbrev o6:List Str:=["_law_script","_law_at","_law_slow","_law_readings","_law_k"]
theorem aak:aw o6 ["_law_script","_law_at"] (ai jl):=et
theorem oV (F:fF K mg "_law_clock" jl ["_law_script","_law_at"])(aa0:Cl P w K mg base 2 "_law_drawn" 3 aB)(B:Bl mg):Cl P w K mg base 3 "_law_clock" 2 b8:=
 a9 F aak rfl λf c A o s H E hr x=>(by(apply ao;exact(aF (ay aR ak (aM aa0 hr (ag (af 0) (ag (af 1) (ag ak ah))))) (aq 2 aak.nd));apply ao;exact(aF (bM (ag (aM aa0 hr (ag (af 0) (ag (ay aR (af 1) ak) (ag ak ah)))) ah)) (aq 3 aak.nd));apply ao;exact(dA rfl (cN B.b_range (ag (aM aa0 hr (ag (af 0) (ag (ay aR (af 1) ak) (ag ak ah)))) ah)) (aq 4 aak.nd) (ar (aF (ay aR (af 3) (bM (ag (ay aR (ay aR (aE (af 3) (mB ak)) ak) (aM aa0 hr (ag (af 0) (ag (ay aR (ay aR (af 1) ak) (af 4)) (ag ak ah))))) ah))) (aq 3 aak.nd))));exact ar (ax (bM (ag (af 2) (ag (ay aR (af 2) (aM aa0 hr (ag (af 0) (ag (ay aR (af 1) ak) (ag ak ah))))) (ag (af 3) ah)))))))
abbrev e9:Stmt:=top 70
abbrev iA:List Str:=["_law_script","_law_at","_law_most","_law_clocks","_law_letters","_law_k","_law_letter_here"]
theorem aab:aw iA ["_law_script","_law_at","_law_most"] (ai e9):=et
theorem m7 (F:fF K mg "_law_record" e9 ["_law_script","_law_at","_law_most"])(aa0:Cl P w K mg base 2 "_law_drawn" 3 aB)(aac:Cl P w K mg base 3 "_law_letter" 3 bj)(aaE:Cl P w K mg base 3 "_law_clock" 2 b8)(B:Bl mg):Cl P w K mg base 4 "_law_record" 3 dY:=
 a9 F aab rfl λf c A o s H E hr x=>(by(apply ao;exact(aF (pq kr B.b_tuple df (ag (ia (N':=["_law_k","_law_script","_law_at"]) (src:=[none,some 0,some 1]) rfl (LcScope.by (N:=iA) (names:=(ai e9).names) rfl rfl rfl (by decide+kernel)) (cN B.b_range (ag (ay aR ak (aM aa0 hr (ag (af 0) (ag (af 1) (ag ak ah))))) ah)) (λ_ _ _ _ _=>⟨(aq 0 (show MQ (["_law_k","_law_script","_law_at"]:List Str)by decide+kernel)),cF,(aM aaE hr (ag (af 1) (ag (ay aR (ay aR (af 2) ak) (ay cV ak (af 0))) ah)))⟩)) ah)) (aq 3 aab.nd));apply ao;exact(aF (fT ah) (aq 4 aab.nd));apply ao;exact(dA rfl (cN B.b_range (ag (aM aa0 hr (ag (af 0) (ag (ay aR (af 1) ak) (ag (ay aR (af 2) ak) ah)))) ah)) (aq 5 aab.nd) (ao (aF (aM aac hr (ag (af 0) (ag (ay aR (ay aR (af 1) ak) (ay cV ak (af 5))) (ag (af 3) ah)))) (aq 6 aab.nd)) (ar (aF (ay aR (af 4) (ay cV (fT (ag (af 6) ah)) (pq BG B.b_int iJ (ag (fU gD (af 6) cq) ah)))) (aq 4 aab.nd)))));exact ar (ax (bM (ag (af 3) (ag (pq kr B.b_tuple df (ag (af 4) ah)) ah))))))
abbrev jV:Stmt:=top 34
abbrev rj:List Str:=["thing"]
theorem qv:aw rj ["thing"] (ai jV):=et
theorem qQ (F:fF K mg "if_record" jV ["thing"])(aa2:Cl P w K mg base 7 "need_record" 1 aW):Cl P w K mg base 8 "if_record" 1 dv:=
 a9 F qv rfl λf c A o s H E hr x=>(ao (dB (aM aa2 hr (ag (af 0) ah))) (ar (ax (af 0))))
abbrev ig:Stmt:=top 35
abbrev nj:List Str:=["record","letter"]
theorem mL:aw nj ["record","letter"] (ai ig):=et
theorem mX (F:fF K mg "with_letter" ig ["record","letter"])(aa2:Cl P w K mg base 7 "need_record" 1 aW)(aaK:Cl P w K mg base 8 "if_record" 1 dv):Cl P w K mg base 9 "with_letter" 2 a8:=
 a9 F mL rfl λf c A o s H E hr x=>(ao (dB (aM aa2 hr (ag (af 0) ah))) (ar (ax (aM aaK hr (ag (bM (ag (aE (af 0) ak) (ag (ay aR (aE (af 0) ak) (bM (ag (af 1) ah))) ah))) ah)))))
abbrev j4:Stmt:=cY (top 57) 2
abbrev rB:List Str:=["self","record"]
theorem qB:aw rB ["self","record"] (ai j4):=et
theorem qW (F:sA K "Desk" "keep" "Desk.keep" j4 ["self","record"])(aa7:Cl P w K mg base 11 "has_world" 1 br)(K_Desk:eO K mg){C_NoRecord C_NoEvent C_NoNumber C_NoWorld C_Barred C_Nothing C_ClockError:Addr}(S:Xs K mg C_NoRecord C_NoEvent C_NoNumber C_NoWorld C_Barred C_Nothing C_ClockError):Mm P w K mg base 12 "Desk" "keep" 2 d9:=
 wN F qB rfl λf c A o s H E hr x=>(l0 (EE (cL (cA (aM aa7 hr (ag (af 1) ah)))) (ib (zc (gv S.o_Barred S.m_Barred))) za) (ib (wc (Fi 0 K_Desk.k K_Desk.a_kept (af 1)))))
abbrev jZ:Stmt:=cY (top 57) 3
abbrev rz:List Str:=["self","letter"]
theorem qz:aw rz ["self","letter"] (ai jZ):=et
theorem qU (F:sA K "Desk" "take" "Desk.take" jZ ["self","letter"])(c_Desk_keep:Mm P w K mg base 12 "Desk" "keep" 2 d9)(aad:Cl P w K mg base 9 "with_letter" 2 a8)(c_Desk_record:Ml P w K mg base 1 "Desk" "record" aJ)(B:Bl mg)(K_Desk:eO K mg):Mm P w K mg base 13 "Desk" "take" 2 d8:=
 wN F qz rfl λf c A o s H E hr x=>(l0 (wc (v8 0 K_Desk.k c_Desk_keep hr (ag (aM aad hr (ag (gw 0 (di K_Desk.k c_Desk_record hr (af 0))) (ag (af 1) ah))) ah))) (ib (y9 (v7 (ay fZ (cu ck B.b_len M0 (ag (aE (gw 0 (di K_Desk.k c_Desk_record hr (af 0))) ak) ah)) ak)))))
abbrev jj:Stmt:=top 71
abbrev o4:List Str:=["_law_desk","_law_letter_here"]
theorem oJ:aw o4 ["_law_desk","_law_letter_here"] (ai jj):=et
theorem oS (F:fF K mg "_law_takes" jj ["_law_desk","_law_letter_here"])(c_Desk_take:Mm P w K mg base 13 "Desk" "take" 2 d8)(c_Desk_record:Ml P w K mg base 1 "Desk" "record" aJ)(B:Bl mg)(K_Desk:eO K mg){C_NoRecord C_NoEvent C_NoNumber C_NoWorld C_Barred C_Nothing C_ClockError:Addr}(S:Xs K mg C_NoRecord C_NoEvent C_NoNumber C_NoWorld C_Barred C_Nothing C_ClockError):Ce P w K mg base 14 "_law_takes" 2 0 bq:=
 JP F oJ rfl λf c A o s H E hr x=>(ib (Cc S.m_Barred S.o_Barred (λ_ _=>(ib (y9 (HF (mW (kl hr)) (v8 0 K_Desk.k c_Desk_take hr (ag (af 1) ah)) (ay fZ (cu ck B.b_len M0 (ag (aE (gw 0 (di K_Desk.k c_Desk_record hr (af 0))) ak) ah)) ak))))) (λ_ _=>(ar (ax eV))) (hcl:=λ_ _ z=>by cases z)))
abbrev eY:Stmt:=top 43
abbrev iy:List Str:=["limits","thing"]
theorem mP:aw iy ["limits","thing"] (ai eY):=et
theorem m5 (F:fF K mg "are_numbers" eY ["limits","thing"])(aa1:Cl P w K mg base 2 "is_within" 3 aP)(B:Bl mg):Cl P w K mg base 3 "are_numbers" 2 cj:=
 a9 F mP rfl λf c A o s H E hr x=>(ar (ax (c7 (wa B.b_isinstance B.b_list sh (af 1)) (dk (cu (nY rfl) B.b_all RZ (ag (ia (N':=["part","limits"]) (src:=[none,some 0]) rfl (LcScope.by (N:=iy) (names:=(ai eY).names) rfl rfl rfl (by decide+kernel)) (dC (af 1)) (λ_ _ _ _ _=>⟨(aq 0 (show MQ (["part","limits"]:List Str)by decide+kernel)),cF,(aM aa1 hr (ag (af 0) (ag ak (ag (ay fZ (cu ck B.b_len M0 (ag (af 1) ah)) ak) ah))))⟩)) ah))))))
abbrev sU:Stmt:=top 45
abbrev Af:List Str:=["limits","one","other","thing","place","number"]
theorem aaP:aw Af ["limits","one","other","thing"] (ai sU):=et
theorem Aa (F:fF K mg "leads" sU ["limits","one","other","thing"])(aae:Cl P w K mg base 3 "are_numbers" 2 cj):Cl P w K mg base 4 "leads" 4 kf:=
 a9 F aaP rfl λf c A o s H E hr x=>(by(apply ao;exact(cC (cL (cA (aM aae hr (ag (af 0) (ag (af 3) ah))))) (ar (ax eV)) bB);apply ao;exact(aF (af 1) (aq 4 aaP.nd));apply ao;exact(dA rfl (dC (af 3)) (aq 5 aaP.nd) (ao (cC (bc (mV (kl hr)) (aE (aE (af 0) (af 5)) ak) (af 4)) (ar (ax eV)) bB) (ar (aF (aE (aE (af 0) (af 5)) ak) (aq 4 aaP.nd)))));exact ar (ax (fU (mW (kl hr)) (af 4) (af 2)))))
abbrev il:Stmt:=top 46
abbrev nt:List Str:=["limits","thing","start"]
theorem aaL:aw nt ["limits","thing"] (ai il):=et
theorem m4 (F:fF K mg "leads_round" il ["limits","thing"])(aaX:Cl P w K mg base 4 "leads" 4 kf)(aae:Cl P w K mg base 3 "are_numbers" 2 cj):Cl P w K mg base 5 "leads_round" 2 c9:=
 a9 F aaL rfl λf c A o s H E hr x=>(by(apply ao;exact(cC (hZ (hY (cL (cA (aM aae hr (ag (af 0) (ag (af 1) ah))))) (fJ (bc (mW (kl hr)) (af 1) (fT ah))))) (ar (ax eV)) bB);apply ao;exact(aF (aE (aE (af 0) (aE (af 1) ak)) ak) (aq 2 aaL.nd));exact ar (ax (aM aaX hr (ag (af 0) (ag (af 2) (ag (af 2) (ag (af 1) ah))))))))
abbrev kC:Stmt:=top 44
abbrev pI:List Str:=["limits","walk"]
theorem x9:aw pI ["limits","walk"] (ai kC):=et
theorem ye (F:fF K mg "sum_of" kC ["limits","walk"])(B:Bl mg):Cl P w K mg base 1 "sum_of" 2 ke:=
 a9 F x9 rfl λf c A o s H E hr x=>(ar (ax (cu (Ef rfl) B.b_sum boot_sum (ag (ia (N':=["number","limits"]) (src:=[none,some 0]) rfl (LcScope.by (N:=pI) (names:=(ai kC).names) rfl rfl rfl (by decide+kernel)) (dC (af 1)) (λ_ _ _ _ _=>⟨(aq 0 (show MQ (["number","limits"]:List Str)by decide+kernel)),cF,(aE (aE (af 1) (af 0)) ak)⟩)) ah))))
abbrev wm:Stmt:=top 55
abbrev DC:List Str:=["record","thing","limits"]
theorem ab0:aw DC ["record","thing"] (ai wm):=et
theorem Dx (F:fF K mg "bars" wm ["record","thing"])(aa8:Cl P w K mg base 8 "bounds" 1 cR)(aaz:Cl P w K mg base 5 "leads_round" 2 c9)(aaU:Cl P w K mg base 1 "sum_of" 2 ke):Cl P w K mg base 9 "bars" 2 kY:=
 a9 F ab0 rfl λf c A o s H E hr x=>(ao (aF (aM aa8 hr (ag (af 0) ah)) (aq 2 ab0.nd)) (ar (ax (c7 (aM aaz hr (ag (af 2) (ag (af 1) ah))) (dk (fU tG (aM aaU hr (ag (af 2) (ag (af 1) ah))) ak))))))
abbrev mJ:Stmt:=top 54
abbrev vn:List Str:=["record"]
theorem uW:aw vn ["record"] (ai mJ):=et
theorem vg (F:fF K mg "barring" mJ ["record"])(aaj:Cl P w K mg base 2 "settle" 2 c8)(aa8:Cl P w K mg base 8 "bounds" 1 cR)(aai:Cl P w K mg base 8 "events" 1 dG):Cl P w K mg base 9 "barring" 1 dU:=
 a9 F uW rfl λf c A o s H E hr x=>(ar (ax (aE (aM aaj hr (ag (aM aa8 hr (ag (af 0) ah)) (ag (aM aai hr (ag (af 0) ah)) ah))) ak)))
abbrev zr:Stmt:=top 72
abbrev GG:List Str:=["_law_script","_law_first","_law_desk","_law_row","_law_one","_law_other","_law_taken","_law_most","_law_k","_law_letter_here","_law_before","_law_more","_law_fine","_law_last","_law_least","_law_turned"]
theorem aa5:aw GG ["_law_script"] (ai zr):=et
theorem GB {f:Addr}{fd:Mo}(aaY:Fn K mg "law" zr ["_law_script"] f fd)(c_Desk___init__:Mm P w K mg base 13 "Desk" "__init__" 2 cH)(aai:Cl P w K mg base 8 "events" 1 dG)(aa6:Cl P w K mg base 13 "most_between" 3 ba)(aar:Cl P w K mg base 14 "least_between" 3 cG)(c_Desk_record:Ml P w K mg base 1 "Desk" "record" aJ)(c_Desk_many:Ml P w K mg base 1 "Desk" "many" bP)(c_Desk_undo:Mm P w K mg base 2 "Desk" "undo" 1 d7)(aa0:Cl P w K mg base 2 "_law_drawn" 3 aB)(aac:Cl P w K mg base 3 "_law_letter" 3 bj)(aaA:Cl P w K mg base 4 "_law_record" 3 dY)(aad:Cl P w K mg base 9 "with_letter" 2 a8)(aam:Ce P w K mg base 14 "_law_takes" 2 0 bq)(aa7:Cl P w K mg base 11 "has_world" 1 br)(aaZ:Cl P w K mg base 9 "bars" 2 kY)(aaT:Cl P w K mg base 9 "barring" 1 dU)(B:Bl mg)(K_Desk:eO K mg):B6 P w K mg base 15 f fd ["_law_script"] 1 m_law:=
 qj aaY.fn aa5 rfl λc A o s H E hr x=>(by(apply ao;exact(aF (bM (ag (aE (aM aaA hr (ag (af 0) (ag ak (ag ak ah)))) ak) (ag (bM ah) ah))) (aq 1 aa5.nd));apply ao;exact(sI 2 aa5.nd K_Desk.k c_Desk___init__ hr (ag (af 1) ah));apply ao;exact(aF (aM aai hr (ag (af 1) ah)) (aq 3 aa5.nd));apply ao;exact(aF (aE (af 3) (aM aa0 hr (ag (af 0) (ag ak (ag (cu ck B.b_len M0 (ag (af 3) ah)) ah))))) (aq 4 aa5.nd));apply ao;exact(aF (aE (af 3) (aM aa0 hr (ag (af 0) (ag ak (ag (cu ck B.b_len M0 (ag (af 3) ah)) ah))))) (aq 5 aa5.nd));apply ao;exact(aF (fT ah) (aq 6 aa5.nd));apply ao;exact(aF (aM aa6 hr (ag (af 1) (ag (af 4) (ag (af 5) ah)))) (aq 7 aa5.nd));apply ao;exact(dA rfl (cN B.b_range (ag ak ah)) (aq 8 aa5.nd) (ao (aF (aM aac hr (ag (af 0) (ag (ay aR ak (ay cV ak (af 8))) (ag (aE (af 1) ak) ah)))) (aq 9 aa5.nd)) (ar (cC (hZ (qg (bc gD (af 9) cq) (mz (bc tG (cu ck B.b_len M0 (ag (af 6) ah)) ak)))) (by(apply ao;exact(aF (gw 2 (di K_Desk.k c_Desk_record hr (af 2))) (aq 10 aa5.nd));apply ao;exact(aF (aM aad hr (ag (af 10) (ag (af 9) ah))) (aq 11 aa5.nd));apply ao;exact(Ca 12 aa5.nd (uI 2 aam hr (ag (af 9) ah)));apply ao;exact(cC (hZ (hY (bc (mV (kl hr)) (af 12) (aM aa7 hr (ag (af 11) ah))) (fJ (hZ (qg (cL (cA (af 12))) (mz (hZ (hY (bc (mV (kl hr)) (gw 2 (di K_Desk.k c_Desk_record hr (af 2))) (af 10)) (fJ (cL (cA (aM aaZ hr (ag (af 11) (ag (aM aaT hr (ag (af 11) ah)) ah)))))))))))))) (ar (ax eV)) bB);apply ao;exact(aF (ay aR (af 6) (ay cV (fT (ag (af 9) ah)) (pq BG B.b_int iJ (ag (af 12) ah)))) (aq 6 aa5.nd));apply ao;exact(aF (aM aa6 hr (ag (gw 2 (di K_Desk.k c_Desk_record hr (af 2))) (ag (af 4) (ag (af 5) ah)))) (aq 13 aa5.nd));apply ao;exact(cC (hZ (qg (bc gD (af 7) cq) (mz (hZ (hY (bc pG (af 13) cq) (fJ (bc EK (af 13) (af 7)))))))) (ar (ax eV)) bB);exact ar (aF (af 13) (aq 7 aa5.nd)))) bB))));apply ao;exact(cC (hZ (hY (bc (mV (kl hr)) (gw 2 (di K_Desk.k c_Desk_record hr (af 2))) (bM (ag (aE (af 1) ak) (ag (pq kr B.b_tuple df (ag (af 6) ah)) ah)))) (fJ (bc (mV (kl hr)) (gw 2 (di K_Desk.k c_Desk_many hr (af 2))) (cu ck B.b_len M0 (ag (af 6) ah)))))) (ar (ax eV)) bB);apply ao;exact(aF (aM aar hr (ag (gw 2 (di K_Desk.k c_Desk_record hr (af 2))) (ag (af 4) (ag (af 5) ah)))) (aq 14 aa5.nd));apply ao;exact(v9 (HE (qf (my (bc (mV (kl hr)) (af 4) (af 5))) (qf (my (bc gD (af 14) cq)) (qf (my (bc IM (af 14) ak)) (yT (v5 (v3 (uI 2 aam hr (ag (bM (ag (af 4) (ag (af 5) (ag (af 14) (ag cq ah))))) ah))))))))) (ar (ax eV)) bB);apply ao;exact(sI 15 aa5.nd K_Desk.k c_Desk___init__ hr (ag (af 1) ah));apply ao;exact(dA rfl (dC (Fp (af 6))) (aq 9 aa5.nd) (ar (v9 (v5 (v3 (uI 15 aam hr (ag (af 9) ah)))) (ar (ax eV)) bB)));apply ao;exact(pk FU (bc EK (gw 2 (di K_Desk.k c_Desk_many hr (af 2))) ak) (ar (B9 (yU 2 K_Desk.k c_Desk_undo hr))));exact ar (ax (fU (mW (kl hr)) (gw 2 (di K_Desk.k c_Desk_record hr (af 2))) (af 1)))))
end
@[elab_as_elim] theorem dI {α:Type} {p:List α->Prop} (h:∀a0,p [a0]):∀us:List α,us.length=1->p us
 | [a0],_=>h a0
@[elab_as_elim] theorem c6 {α:Type} {p:List α->Prop} (h:∀a0 a1,p [a0,a1]):∀us:List α,us.length=2->p us
 | [a0,a1],_=>h a0 a1
@[elab_as_elim] theorem kh {α:Type} {p:List α->Prop} (h:∀a0 a1 a2,p [a0,a1,a2]):∀us:List α,us.length=3->p us
 | [a0,a1,a2],_=>h a0 a1 a2
@[elab_as_elim] theorem Jg {α:Type} {p:List α->Prop} (h:∀a0 a1 a2 a3,p [a0,a1,a2,a3]):∀us:List α,us.length=4->p us
 | [a0,a1,a2,a3],_=>h a0 a1 a2 a3
theorem all_ok {l:PySem.W.OpenLaw}{w:Mh}{K:Ld}{h:Heap}{mg:Str->Option Lh}{fa:Addr}(X:K.In h)(e0:Ab asks K=zi asks top)(G:h.Ns LX mg)(hfa:mg "law" =some (.ref fa)) :
  ∃fd:Mo,(∀(s:Lj) (v:Lh),Qm s fd ⟨[v],[]⟩ [("_law_script",v)])/\∀base:Heap,K.In base->base.Ns LX mg->ox l.prog w K mg base CX0 15 fa fd ["_law_script"] (spP K 1 m_law):=by
 have e:tL BJ K=sO BJ top:=congrArg (·.1) e0
 obtain⟨kc0,ka0,km0⟩:=Jy (A:=⟨"Desk",57,["kept"],[("__init__","Desk.__init__",0),("record","Desk.record",1),("many","Desk.many",7),("undo","Desk.undo",6),("keep","Desk.keep",2),("take","Desk.take",3)]⟩) X G (kW 0 (congrArg (·.2) e0) rfl)
 have K_Desk:eO K mg:=⟨kc0,ka0 _ (by decide)⟩
 have B:Bl mg:=⟨fm 0 X G e rfl,fm 1 X G e rfl,fm 2 X G e rfl,fm 3 X G e rfl,fm 4 X G e rfl,fm 5 X G e rfl,fm 6 X G e rfl,fm 7 X G e rfl,fm 8 X G e rfl,fm 9 X G e rfl,fm 10 X G e rfl⟩
 have C:Cs mg:=⟨pM 0 X G e rfl,pM 1 X G e rfl,pM 2 X G e rfl,pM 3 X G e rfl,pM 4 X G e rfl,pM 5 X G e rfl⟩;obtain⟨C_ClockError,ls,xD,xl,nd⟩:=GC (Jv e);obtain⟨C_NoRecord,ls0,x_NoRecord,rfl,xl0⟩:=eU xl;obtain⟨C_NoEvent,ls1,x_NoEvent,rfl,xl1⟩:=eU xl0;obtain⟨C_NoNumber,ls2,x_NoNumber,rfl,xl2⟩:=eU xl1;obtain⟨C_NoWorld,ls3,x_NoWorld,rfl,xl3⟩:=eU xl2;obtain⟨C_Barred,ls4,x_Barred,rfl,xl4⟩:=eU xl3;obtain⟨C_Nothing,ls5,x_Nothing,rfl,xl5⟩:=eU xl4
 cases BL xl5
 have S:Xs K mg C_NoRecord C_NoEvent C_NoNumber C_NoWorld C_Barred C_Nothing C_ClockError:=⟨NO X G (f9 x_NoRecord).1,NO X G (f9 x_NoEvent).1,NO X G (f9 x_NoNumber).1,NO X G (f9 x_NoWorld).1,NO X G (f9 x_Barred).1,NO X G (f9 x_Nothing).1,NO X G (f9 xD).1,HA x_NoRecord xD,HA x_NoEvent xD,HA x_NoNumber xD,HA x_NoWorld xD,HA x_Barred xD,HA x_Nothing xD,ox0 xD,nd⟩
 obtain⟨fd45,aaY,bnd⟩:=Jr (n:="law") (i:=72) (x:="_law_script") 45 X G e rfl hfa λ_ _ _ _ _ _ _=>rfl
 refine⟨fd45,bnd,λbase _ _=> ?_⟩
 have aa3:=vf l.prog w base (bZ 0 X G e rfl λ_ _ _ _ _ _ us hl=>kh (λ_ _ _=>rfl) us hl) B
 have aaM:=tH l.prog w base (bZ 1 X G e rfl λ_ _ _ _ _ _ us hl=>dI (λ_=>rfl) us hl) B
 have aa1:=qM l.prog w base (bZ 2 X G e rfl λ_ _ _ _ _ _ us hl=>kh (λ_ _ _=>rfl) us hl) aaM
 have aaQ:=ve l.prog w base (bZ 3 X G e rfl λ_ _ _ _ _ _ us hl=>c6 (λ_ _=>rfl) us hl) aa1 C
 have aaV:=z9 l.prog w base (bZ 4 X G e rfl λ_ _ _ _ _ _ us hl=>dI (λ_=>rfl) us hl) B
 have aat:=lR l.prog w base (bZ 5 X G e rfl λ_ _ _ _ _ _ us hl=>dI (λ_=>rfl) us hl) aa3 aaV aa1 B C
 have aaN:=tK l.prog w base (bZ 6 X G e rfl λ_ _ _ _ _ _ us hl=>dI (λ_=>rfl) us hl) aa3 aaQ aat
 have aaB:=oR l.prog w base (bZ 7 X G e rfl λ_ _ _ _ _ _ us hl=>dI (λ_=>rfl) us hl) aa3 aaN B C
 have aah:=tI l.prog w base (bZ 8 X G e rfl λ_ _ _ _ _ _ us hl=>c6 (λ_ _=>rfl) us hl) aa1 aa3 B
 have aaO:=tJ l.prog w base (bZ 9 X G e rfl λ_ _ _ _ _ _ us hl=>c6 (λ_ _=>rfl) us hl) aa1 C
 have aaG:=qO l.prog w base (bZ 10 X G e rfl λ_ _ _ _ _ _ us hl=>c6 (λ_ _=>rfl) us hl) aah aa3 aaO
 have aav:=m6 l.prog w base (bZ 11 X G e rfl λ_ _ _ _ _ _ us hl=>c6 (λ_ _=>rfl) us hl) aa3 aaG B C
 have aaH:=qN l.prog w base (bZ 12 X G e rfl λ_ _ _ _ _ _ us hl=>dI (λ_=>rfl) us hl) aa3 aaB aav
 have aa2:=mY l.prog w base (bZ 13 X G e rfl λ_ _ _ _ _ _ us hl=>dI (λ_=>rfl) us hl) aaH S
 have aai:=yg l.prog w base (bZ 14 X G e rfl λ_ _ _ _ _ _ us hl=>dI (λ_=>rfl) us hl) aa2 B
 have aaI:=qP l.prog w base (bZ 15 X G e rfl λ_ _ _ _ _ _ us hl=>kh (λ_ _ _=>rfl) us hl)
 have aaj:=yf l.prog w base (bZ 16 X G e rfl λ_ _ _ _ _ _ us hl=>c6 (λ_ _=>rfl) us hl) aaI B
 have aap:=j7 l.prog w base (bZ 17 X G e rfl λ_ _ _ _ _ _ us hl=>c6 (λ_ _=>rfl) us hl) aai aaj B
 have aao:=jx l.prog w base (bZ 18 X G e rfl λ_ _ _ _ _ _ us hl=>c6 (λ_ _=>rfl) us hl) B
 have aal:=jb l.prog w base (bZ 19 X G e rfl λ_ _ _ _ _ _ us hl=>dI (λ_=>rfl) us hl)
 have aa8:=yh l.prog w base (bZ 20 X G e rfl λ_ _ _ _ _ _ us hl=>dI (λ_=>rfl) us hl) aa2 aao aal B
 have aaW:=z7 l.prog w base (bZ 21 X G e rfl λ_ _ _ _ _ _ us hl=>dI (λ_=>rfl) us hl) aap aa8
 have aa7:=qR l.prog w base (bZ 22 X G e rfl λ_ _ _ _ _ _ us hl=>dI (λ_=>rfl) us hl) aaW
 have aaf:=oP l.prog w base (bZ 23 X G e rfl λ_ _ _ _ _ _ us hl=>dI (λ_=>rfl) us hl) aa7 S
 have c_Desk___init__:=kK l.prog w base (lg 0 km0 rfl λ_ _ _ _ _ _ us hl=>c6 (λ_ _=>rfl) us hl) aaf K_Desk
 have aaq:=oQ l.prog w base (bZ 24 X G e rfl λ_ _ _ _ _ _ us hl=>c6 (λ_ _=>rfl) us hl) aah S
 have aaw:=mZ l.prog w base (bZ 25 X G e rfl λ_ _ _ _ _ _ us hl=>kh (λ_ _ _=>rfl) us hl) aa2 aaq
 have aaS:=vd l.prog w base (bZ 26 X G e rfl λ_ _ _ _ _ _ us hl=>c6 (λ_ _=>rfl) us hl)
 have aaC:=oO l.prog w base (bZ 27 X G e rfl λ_ _ _ _ _ _ us hl=>c6 (λ_ _=>rfl) us hl) aaj aa8
 have aa6:=lQ l.prog w base (bZ 28 X G e rfl λ_ _ _ _ _ _ us hl=>kh (λ_ _ _=>rfl) us hl) aaw aaf aaS aaC
 have aar:=kJ l.prog w base (bZ 29 X G e rfl λ_ _ _ _ _ _ us hl=>kh (λ_ _ _=>rfl) us hl) aa6
 have c_Desk_record:=ng l.prog w base (lg 1 km0 rfl λ_ _ _ _ _ _ us hl=>dI (λ_=>rfl) us hl) K_Desk
 have c_Desk_many:=qV l.prog w base (lg 2 km0 rfl λ_ _ _ _ _ _ us hl=>dI (λ_=>rfl) us hl) B K_Desk
 have c_Desk_undo:=qT l.prog w base (lg 3 km0 rfl λ_ _ _ _ _ _ us hl=>dI (λ_=>rfl) us hl) c_Desk_many K_Desk S
 have aaJ:=qS l.prog w base (bZ 30 X G e rfl λ_ _ _ _ _ _ us hl=>c6 (λ_ _=>rfl) us hl) B
 have aa0:=oU l.prog w base (bZ 31 X G e rfl λ_ _ _ _ _ _ us hl=>kh (λ_ _ _=>rfl) us hl) aaJ
 have aay:=m9 l.prog w base (bZ 32 X G e rfl λ_ _ _ _ _ _ us hl=>dI (λ_=>rfl) us hl) B
 have aac:=m8 l.prog w base (bZ 33 X G e rfl λ_ _ _ _ _ _ us hl=>kh (λ_ _ _=>rfl) us hl) aay aa0 B
 have aaE:=oV l.prog w base (bZ 34 X G e rfl λ_ _ _ _ _ _ us hl=>c6 (λ_ _=>rfl) us hl) aa0 B
 have aaA:=m7 l.prog w base (bZ 35 X G e rfl λ_ _ _ _ _ _ us hl=>kh (λ_ _ _=>rfl) us hl) aa0 aac aaE B
 have aaK:=qQ l.prog w base (bZ 36 X G e rfl λ_ _ _ _ _ _ us hl=>dI (λ_=>rfl) us hl) aa2
 have aad:=mX l.prog w base (bZ 37 X G e rfl λ_ _ _ _ _ _ us hl=>c6 (λ_ _=>rfl) us hl) aa2 aaK
 have c_Desk_keep:=qW l.prog w base (lg 4 km0 rfl λ_ _ _ _ _ _ us hl=>c6 (λ_ _=>rfl) us hl) aa7 K_Desk S
 have c_Desk_take:=qU l.prog w base (lg 5 km0 rfl λ_ _ _ _ _ _ us hl=>c6 (λ_ _=>rfl) us hl) c_Desk_keep aad c_Desk_record B K_Desk
 have aam:=oS l.prog w base (bZ 38 X G e rfl λ_ _ _ _ _ _ us hl=>c6 (λ_ _=>rfl) us hl) c_Desk_take c_Desk_record B K_Desk S
 have aae:=m5 l.prog w base (bZ 39 X G e rfl λ_ _ _ _ _ _ us hl=>c6 (λ_ _=>rfl) us hl) aa1 B
 have aaX:=Aa l.prog w base (bZ 40 X G e rfl λ_ _ _ _ _ _ us hl=>Jg (λ_ _ _ _=>rfl) us hl) aae
 have aaz:=m4 l.prog w base (bZ 41 X G e rfl λ_ _ _ _ _ _ us hl=>c6 (λ_ _=>rfl) us hl) aaX aae
 have aaU:=ye l.prog w base (bZ 42 X G e rfl λ_ _ _ _ _ _ us hl=>c6 (λ_ _=>rfl) us hl) B
 have aaZ:=Dx l.prog w base (bZ 43 X G e rfl λ_ _ _ _ _ _ us hl=>c6 (λ_ _=>rfl) us hl) aa8 aaz aaU
 have aaT:=vg l.prog w base (bZ 44 X G e rfl λ_ _ _ _ _ _ us hl=>dI (λ_=>rfl) us hl) aaj aa8 aai
 exact(GB l.prog w base aaY c_Desk___init__ aai aa6 aar c_Desk_record c_Desk_many c_Desk_undo aa0 aac aaA aad aam aa7 aaZ aaT B K_Desk).h
end G
namespace Tr
open PySem
abbrev RR (cs ls:List T):T:=.tup [.tup cs,.tup ls]
mutual
def T.pl:T->Bool
 | .scr _=>false
 | .dct _ _=>false
 | .ob _ _ _=>false
 | .tup l=>plS l
 | .lst l=>plS l
 | _=>true
def plS:List T->Bool
 | [] =>true
 | t::l=>t.pl&&plS l
end
theorem fL:∀{l:List T} {t:T},plS l=true->t∈l->t.pl=true
 | [],_,_,h=>by cases h
 | u::l,t,h,m=>by
  unfold plS at h;rw[Lf]at h;rcases Lp.mp m with rfl | m
  ·exact h.1
  ·exact fL h.2 m
mutual
theorem T.Kg:∀(t:T),t.pl=true->t.nd=true
 | .non,_=>rfl
 | .bl _,_=>rfl
 | .int _,_=>rfl
 | .str _,_=>rfl
 | .scr _,h=>by cases h
 | .dct _ _,h=>by cases h
 | .ob _ _ _,h=>by cases h
 | .tup l,h=>by unfold T.pl at h;unfold T.nd;exact plS_nds l h
 | .lst l,h=>by unfold T.pl at h;unfold T.nd;exact plS_nds l h
theorem plS_nds:∀(l:List T),plS l=true->nds l=true
 | [],_=>rfl
 | t::l,h=>by
  unfold plS at h;rw[Lf]at h;unfold nds;rw[T.Kg t h.1,plS_nds l h.2];rfl
end
theorem vA {fe:En->Rs T}{h:T->T}:∀(ts:List T) (Z:En),0<Z.length->(∀t∈ts,fe (Z.set 0 (.va t))= .ok (h t))->dJ (gN 0) bT fe ts Z= .ok (ts.map h)
 | [],_,_,_=>rfl
 | t::r,Z,hl,hf=>by
  unfold dJ
  have e1:gN 0 t Z= .ok (Z.set 0 (.va t)):=by unfold gN;rw[if_pos hl]
  have ih:=vA r (Z.set 0 (.va t)) (by rw[MF];exact hl) (λu hu=>by rw[List.set_set];exact hf u (Lg _ hu))
  simp only[e1,az,bT,if_true,hf t Ll,ih,Lk]
theorem pY (p:T->Bool):∀l:List T,n9 (l.map λt=>T.bl (p t))=some (l.map p)
 | [] =>rfl
 | t::l=>by rw[Lk,n9,pY p l];rfl
theorem all_map (p:T->Bool)(l:List T):om [.lst (l.map λt=>T.bl (p t))] = .ok (.bl (l.all p)):=by
 simp only[om,pY,List.all_map]
 rfl
theorem jH {α:Type}{l:List α}{k:Nat}{t:α}(h:l[k]? =some t):L2.atI l (k:Int)=some t:=by
 have hk:k<l.length:=(Lz.mp h).1
 unfold L2.atI L2.ixN;rw[if_pos (by omega),if_pos (by omega),Mr]
 exact h
theorem aD {n k:Nat}(h:n<=k)(hk:autoParam (k<=1000) aqb._auto_1):n<=sizeLine:=by unfold sizeLine;omega
section
variable {f fa fb fc:En->Rs T}{fs:En->Rs (List T)}{b c:En->Rs Bool}{F G:En->Rs Fl}{Z Z' Z1 Z2:En}{t u r:T}{ts l m:List T}
theorem Jn {i:Nat}(h:Z[i]? =some (.va t)):vr i Z= .ok t:=by unfold vr;rw[h]
theorem aG {g:T->T->Rs T}{x:Rs T}(ha:fa Z= .ok t)(hb:fb Z= .ok u)(hg:g t u=x):o2 g fa fb Z=x:=by unfold o2;rw[ha,hb];exact hg
theorem yy {g:T->Rs T}{x:Rs T}(ha:fa Z= .ok t)(hg:g t=x):o1 g fa Z=x:=by unfold o1;rw[ha];exact hg
theorem Jp {g:T->T->Rs T}{x:Rs T}{ks vs:List T}(ha:fa Z= .ok (.dct ks vs))(hb:fb Z= .ok u)(hg:g (.dct ks vs) u=x):oD g fa fb Z=x:=by unfold oD;rw[ha];show(fb Z >>= g (.dct ks vs))=_;rw[hb];exact hg
theorem k_oL {g:T->T->Rs T}{x:Rs T}{ks:List T}(ha:fa Z= .ok (.lst ks))(hb:fb Z= .ok u)(hg:g (.lst ks) u=x):oL g fa fb Z=x:=by unfold oL;rw[ha];show(fb Z >>= g (.lst ks))=_;rw[hb];exact hg
theorem au (h:f Z= .ok t)(hs:fs Z= .ok ts):ae f fs Z= .ok (t::ts):=by unfold ae;rw[h,hs];rfl
theorem aS {g:List T->Rs T}{x:Rs T}(h:fs Z= .ok ts)(hg:g ts=x):cl g fs Z=x:=by unfold cl;rw[h];exact hg
theorem bV {k:Bool}(h:f Z= .ok (.bl k)):tb f Z= .ok k:=by unfold tb;rw[h];rfl
theorem fR {k:Bool}(h:b Z= .ok k):cK b Z= .ok (!k):=by unfold cK;rw[h];rfl
theorem ET (h:b Z= .ok true):kA b c Z= .ok true:=by unfold kA;rw[h];rfl
theorem nL {x:Rs Bool}(h:b Z= .ok false)(h2:c Z=x):kA b c Z=x:=by unfold kA;rw[h];exact h2
theorem vG (h:b Z= .ok false):lX b c Z= .ok false:=by unfold lX;rw[h];rfl
theorem vF {x:Rs Bool}(h:b Z= .ok true)(h2:c Z=x):lX b c Z=x:=by unfold lX;rw[h];exact h2
theorem AQ (h:fa Z= .ok (.bl true)):bX fa fb Z=fb Z:=by unfold bX;rw[h];rfl
theorem mj (h:fa Z= .ok (.bl false)):bX fa fb Z= .ok (.bl false):=by unfold bX;rw[h];rfl
theorem DP {p q:Bool}(h:fa Z= .ok (.bl p))(h2:p=true->fb Z= .ok (.bl q)):bX fa fb Z= .ok (.bl (p&&q)):=by
 cases p with
 | true=>rw[AQ h,h2 rfl];rfl
 | false=>rw[mj h];rfl
theorem GZ (h:fa Z= .ok (.bl true)):BZ fa fb Z= .ok (.bl true):=by unfold BZ;rw[h];rfl
theorem G0 (h:fa Z= .ok (.bl false)):BZ fa fb Z=fb Z:=by unfold BZ;rw[h];rfl
theorem xg {p:Bool}(h:b Z= .ok p):EY b fa fb Z=if p then fa Z else fb Z:=by unfold EY;rw[h];rfl
theorem bQ {g:T->En->Rs En}(h:f Z= .ok t)(hg:g t Z= .ok Z'):cv f g Z= .ok (.nx Z'):=by unfold cv;rw[h];show(match g t Z with | .ok Z'=>Rs.ok (Fl.nx Z') | _=> .bad)=_;rw[hg]
theorem aC (h:F Z= .ok (.nx Z')):aA F G Z=G Z':=by unfold aA;rw[h];rfl
theorem gd (h:F Z= .ok (.rt t)):aA F G Z= .ok (.rt t):=by unfold aA;rw[h];rfl
theorem AF (h:F Z= .ok (.ct Z')):aA F G Z= .ok (.ct Z'):=by unfold aA;rw[h];rfl
theorem GX {c:Str}(h:F Z= .err c):aA F G Z= .err c:=by unfold aA;rw[h];rfl
theorem gG (h:b Z= .ok true):fH b F G Z=F Z:=by unfold fH;rw[h];rfl
theorem dR (h:b Z= .ok false):fH b F G Z=G Z:=by unfold fH;rw[h];rfl
theorem cb (h:f Z= .ok t):aI f Z= .ok (.rt t):=by unfold aI;rw[h];rfl
theorem GY {c:Str}(h:f Z= .err c):aI f Z= .err c:=by unfold aI;rw[h];rfl
theorem rN (h:f Z= .ok t):uH f Z= .ok (.nx Z):=by unfold uH;rw[h];rfl
theorem Ju {c:Str}(h:f Z= .err c):uH f Z= .err c:=by unfold uH;rw[h];rfl
theorem g8 {fi:En->Rs (List T)}{g:T->En->Rs En}{x:Fl}(h:fi Z= .ok ts)(h2:bp g F ts Z= .ok x):ir fi g F Z= .ok x:=by unfold ir;rw[h];show(match bp g F ts Z with | .ok f=>Rs.ok f | _=> .bad)=_;rw[h2]
theorem fq {g:T->En->Rs En}(h:g t Z= .ok Z1)(h2:F Z1= .ok (.nx Z2)):bp g F (t::ts) Z=bp g F ts Z2:=by rw[bp,h];show(F Z1 >>= _)=_;rw[h2];rfl
theorem DO {g:T->En->Rs En}(h:g t Z= .ok Z1)(h2:F Z1= .ok (.ct Z2)):bp g F (t::ts) Z=bp g F ts Z2:=by rw[bp,h];show(F Z1 >>= _)=_;rw[h2];rfl
theorem xf {g:T->En->Rs En}(h:g t Z= .ok Z1)(h2:F Z1= .ok (.rt r)):bp g F (t::ts) Z= .ok (.rt r):=by rw[bp,h];show(F Z1 >>= _)=_;rw[h2];rfl
theorem ub {n:Nat}(h:c Z= .ok false):bw c F (n+1) Z= .ok (.nx Z):=by unfold bw;rw[h]
theorem nK {n:Nat}(h:c Z= .ok true)(h2:F Z= .ok (.nx Z')):bw c F (n+1) Z=bw c F n Z':=by rw[bw,h];simp only[h2]
theorem AE {n:Nat}(h:c Z= .ok true)(h2:F Z= .ok (.rt t)):bw c F (n+1) Z= .ok (.rt t):=by rw[bw,h];simp only[h2]
theorem bA {n m:Nat}(hl:ts.length=n)(h:F (aK m ts)= .ok (.rt t)):val n m F ts= .ok t:=by unfold val;rw[if_pos hl];unfold bu;rw[h];rfl
theorem vB {n m:Nat}{c:Str}(hl:ts.length=n)(h:F (aK m ts)= .err c):val n m F ts= .err c:=by unfold val;rw[if_pos hl];unfold bu;rw[h];rfl
theorem rK {n m:Nat}(hl:ts.length=n)(h:F (aK m ts)= .ok (.nx Z)):val n m F ts= .ok .non:=by unfold val;rw[if_pos hl];unfold bu;rw[h];rfl
theorem uc {fi:En->Rs (List T)}{src:List (Option Nat)}{fe:En->Rs T}{h:T->T}(hi:fi Z= .ok ts)(hs:ts.length<=sizeLine)(hn:0<src.length)(hf:∀t∈ts,fe ((de src Z).set 0 (.va t))= .ok (h t)) :
  hW fi src (gN 0) bT fe Z= .ok (.lst (ts.map h)):=by
 have e:=vA (fe:=fe) (h:=h) ts (de src Z) (by unfold de;rw[Ln];exact hn) hf
 unfold hW;rw[hi,az,if_pos hs,e]
theorem cT (h:fs Z= .ok ts)(hl:ts.length<=sizeLine):bJ fs Z= .ok (.tup ts):=by unfold bJ;rw[h];show jq ts=_;unfold jq;rw[if_pos hl]
theorem kj (h:fs Z= .ok ts)(hl:ts.length<=sizeLine):eM fs Z= .ok (.lst ts):=by unfold eM;rw[h];show jr ts=_;unfold jr;rw[if_pos hl]
theorem AG {f:En->Rs (List T)}{i:Nat}(h:f Z= .ok l)(hi:i<Z.length)(hl:l.length<=1000):jm i f Z= .ok (.nx (Z.set i (.ow (.lst l)))):=by
 unfold jm;rw[h,az,if_pos ⟨hi,aD hl (by omega)⟩]
theorem AH {i:Nat}(hi:i<Z.length):jm i aj Z= .ok (.nx (Z.set i (.ow (.lst [])))):=AG rfl hi (Nk _)
theorem AO {i:Nat}(h:f Z= .ok t)(hi:Z[i]? =some (.ow (.lst l)))(hl:l.length<=1000):oM i f Z= .ok (.nx (Z.set i (.ow (.lst (l++ [t]))))):=by
 unfold oM;rw[hi];simp only[h,az];rw[if_pos (by unfold sizeLine;omega)]
theorem AN {i:Nat}(h:f Z= .ok (.lst m))(hi:Z[i]? =some (.ow (.lst l)))(hl:l.length+m.length<=1000):mT i f Z= .ok (.nx (Z.set i (.ow (.lst (l++m))))):=by
 unfold mT;rw[hi];simp only[h,az,Hf];rw[if_pos (by unfold sizeLine;omega)]
theorem lJ (h:f Z= .ok (.lst l)):iS f Z= .ok l:=by unfold iS;rw[h];rfl
theorem Jt (h:fs Z= .ok [.lst l]):iE fs Z= .ok (cI 0 l):=by unfold iE;rw[h];rfl
theorem Js {n:Nat}(e:l[n]? =some t):aU (.tup l) (.int (n:Int))= .ok t:=by show(match L2.atI l _ with | some t=>Rs.ok t | none=> .bad)=_;rw[jH e]
theorem G5 {n:Nat}(e:l[n]? =some t):aU (.lst l) (.int (n:Int))= .ok t:=by show(match L2.atI l _ with | some t=>Rs.ok t | none=> .bad)=_;rw[jH e]
theorem vE {n:Nat}(h:fa Z= .ok (.tup l))(h2:fb Z= .ok (.int (n:Int)))(e:l[n]? =some t):o2 aU fa fb Z= .ok t:=aG h h2 (Js e)
theorem AL {n:Nat}(h:fa Z= .ok (.lst l))(h2:fb Z= .ok (.int (n:Int)))(e:l[n]? =some t):o2 aU fa fb Z= .ok t:=aG h h2 (G5 e)
theorem Jo {fe:En->Rs T}{fl fu:En->Rs (Option Int)}{lo hi:Option Int}(h:fe Z= .ok (.lst l))(h1:fl Z= .ok lo)(h2:fu Z= .ok hi):sl fe fl fu Z= .ok (.lst (sd l lo hi)):=by
 unfold sl;rw[h,h1,h2];rfl
theorem k_pS {i:Int}(h:f Z= .ok (.int i)):pS f Z= .ok (some i):=by unfold pS;rw[h];rfl
theorem BF (l:List T)(n:Nat):sd l (some (n:Int)) none=l.drop n:=by
 unfold sd;rw[HT.sIx_none,HT.sIx_nat]
 by_cases h:n<=l.length
 ·rw[Nat.min_eq_left h]
  exact Ol (by rw[OG];omega)
 ·rw[Nat.min_eq_right (by omega),Oj (Lv _),Oj (by omega),List.take_nil]
theorem G4 {i:Nat}{o:OT}(hi:Z[i]? =some (.ow o))(h:f (disown i Z)= .ok t)(hk:t.nk o.isD=true):ln i f Z= .ok t:=by
 unfold ln;rw[hi];simp only[h,az,hk,if_true]
theorem Jq {i:Nat}{k:Bool}(h:b (disown i Z)= .ok k):GL i b Z= .ok k:=h
theorem Jx {i:Nat}{x:Rs Fl}(h:F (disown i Z)=x):qC i F Z=x:=h
end
theorem mk2 (a b:T):jq [a,b] = .ok (.tup [a,b]):=by unfold jq;rw[if_pos (aD (k:=1000) (by simp only[Lm,R8];omega))]
theorem j5 (n:Nat):(rng 0 n).length=n:=by unfold rng;rw[Ln,NP];omega
section
variable {Z Z':En}{f fa fo:En->Rs T}{fs:En->Rs (List T)}{t u:T}{ts l:List T}{x:En->Rs (T×En)}{c m n a:Str}{ns:List Str}{ls:List (List T)}{i j:Nat}{F G:En->Rs Fx}{o:OT}{g:List Sl->Rs (T×OT)}{d:Str}
theorem EU {gm:List T->Rs T}{r:Rs T}(h:fo Z= .ok (.ob c ns ts))(hm:ns.contains m=false)(hs:fs Z= .ok l)(hg:gm (.ob c ns ts::l)=r):mf c m gm fo fs Z=r:=by
 unfold mf;rw[h];show(if _ then _ else _)=_;rw[if_pos ⟨rfl,hm⟩,hs];exact hg
theorem EV (h:fa Z= .ok (.ob c ns ts))(hg:kn a ns ts=some t):o1 (vM c a) fa Z= .ok t:=yy h (by show(if _ then _ else _)=_;rw[if_pos rfl,hg])
theorem Jl (h:f Z= .ok t):xP f Z= .ok (t,Z):=by unfold xP;rw[h];rfl
theorem GW (hi:Z[i]? =some (.ow (.ob c ns ls)))(hf:kn a ns ls=some l)(h:fa Z= .ok t)(hl:l.length<=1000):xU i c a fa Z= .ok (.non,Z.set i (.ow (.ob c ns (jE a (l++ [t]) ns ls)))):=by
 unfold xU;rw[hi];show(if _ then _ else _)=_;rw[if_pos rfl,hf];show(fa Z >>= _)=_;rw[h];show(if _ then _ else _)=_;rw[if_pos (by unfold sizeLine;omega)]
theorem GU (hi:Z[i]? =some (.ow (.ob c ns ls)))(hf:kn a ns ls=some (l++ [t])):xT i c a Z= .ok (t,Z.set i (.ow (.ob c ns (jE a l ns ls)))):=by
 unfold xT;rw[hi];show(if _ then _ else _)=_;rw[if_pos rfl,hf];simp
theorem AD {r:Rs (T×OT)}(h:r= .ok (t,o)):ze i Z r= .ok (t,Z.set i (.ow o)):=by rw[h];rfl
theorem rH (hi:Z[i]? =some (.ow (.ob c ns ls)))(hm:ns.contains m=false)(hs:fs Z= .ok ts)(h:g (.ow (.ob c ns ls)::ts.map Sl.va)= .ok (t,o)):fK i c m g fs Z= .ok (t,Z.set i (.ow o)):=by
 unfold fK;rw[hi];show(if _ then _ else _)=_;rw[if_pos ⟨rfl,hm⟩,hs];exact AD h
theorem ua (hi:Z[i]? =some (.ow (.ob c ns ls)))(hm:ns.contains m=false)(hs:fs Z= .ok ts)(h:g (.ow (.ob c ns ls)::ts.map Sl.va)= .err d):fK i c m g fs Z= .err d:=by
 unfold fK;rw[hi];show(if _ then _ else _)=_;rw[if_pos ⟨rfl,hm⟩,hs];show ze i Z _=_;rw[h];rfl
theorem rJ (hi:Z[i]? =some (.ow o))(hs:fs Z= .ok ts){o':OT}(h:g (.ow o::ts.map Sl.va)= .ok (t,o')):lM i g fs Z= .ok (t,Z.set i (.ow o')):=by
 unfold lM;rw[hi];show(fs Z >>= _)=_;rw[hs];exact AD h
theorem rM {k:Fx}(h:F Z= .ok (.nx Z'))(h2:G Z'= .ok k):nA F G Z= .ok k:=by unfold nA;rw[h];show yS (G Z')=_;rw[h2];rfl
theorem w9 (h:F Z= .err d):nA F G Z= .err d:=by unfold nA;rw[h]
theorem xc (h:x Z= .ok (t,Z')):An x Z= .ok (.nx Z'):=by unfold An;rw[h];rfl
theorem G3 (h:x Z= .err d):An x Z= .err d:=by unfold An;rw[h];rfl
theorem AJ (h:x Z= .ok (t,Z')):rE x Z= .ok (.rt t Z'):=by unfold rE;rw[h];rfl
theorem DN (h:x Z= .err d):rE x Z= .err d:=by unfold rE;rw[h];rfl
theorem AK {b:En->Rs Bool}{k:Bool}(h:b Z= .ok k):GK b F G Z=if k then F Z else G Z:=by unfold GK;rw[h];rfl
theorem G2 (hi:Z[i]? =some (.ow (.ob c ns ls)))(hs:fs Z= .ok l)(hl:l.length<=1000)(hn:ns.length<1000):yq i c a fs Z= .ok (.nx (Z.set i (.ow (if ns.contains a then .ob c ns (jE a l ns ls)else .ob c (ns++ [a]) (ls++ [l]))))):=by
 unfold yq;rw[hi];show(fs Z >>= _)=_;rw[hs];show(if _ then _ else _)=_;rw[if_pos ⟨rfl,by unfold sizeLine;omega,hn⟩]
theorem G1 {h:Str->Rs T}{k:Fx}(e:F Z= .ok k):tZ F h Z= .ok k:=by unfold tZ;rw[e]
theorem DM {h:Str->Rs T}(e:F Z= .err d)(e2:h d= .ok t):tZ F h Z= .ok (.rt t Z):=by unfold tZ;rw[e];simp only[e2]
theorem vC {sls:List Sl}{N M:Nat}(hl:sls.length=N)(h:F (dS M sls)= .ok (.rt t Z))(hj:Z[j]? =some (.ow o)):hI N j M F sls= .ok (t,o):=by unfold hI;rw[if_pos hl,h];show oN j (.rt t Z)=_;unfold oN;simp only[hj]
theorem rL {sls:List Sl}{N M:Nat}(hl:sls.length=N)(h:F (dS M sls)= .ok (.nx Z))(hj:Z[j]? =some (.ow o)):hI N j M F sls= .ok (.non,o):=by unfold hI;rw[if_pos hl,h];show oN j (.nx Z)=_;unfold oN;simp only[hj]
theorem w8 {sls:List Sl}{N M:Nat}(hl:sls.length=N)(h:F (dS M sls)= .err d):hI N j M F sls= .err d:=by unfold hI;rw[if_pos hl,h];rfl
theorem Jw (h:x Z= .ok (t,Z')):uX x Z= .ok (.nx Z'):=by unfold uX;rw[h];rfl
theorem EW (h:x Z= .ok (t,Z'))(hl:i<Z'.length):uZ i x Z= .ok (.nx (Z'.set i (.va t))):=by unfold uZ;rw[h];show(if _ then _ else _)=_;rw[if_pos hl]
theorem AI (hs:fs Z= .ok ts)(h:g (.ow (.ob c [] [])::ts.map Sl.va)= .ok (.non,o))(hl:i<Z.length):mS i c g fs Z= .ok (.nx (Z.set i (.ow o))):=by
 unfold mS;rw[hs];show(yS (g _) >>= _)=_;rw[h];show(if _ then _ else _)=_;rw[if_pos hl]
theorem Jm {r:T->T->Rs T}{v:T}(h:x Z= .ok (t,Z'))(h2:f Z'= .ok u)(hr:r t u= .ok v):EF r x f Z= .ok (v,Z'):=by unfold EF;rw[h];show(yS (f Z' >>= _) >>= _)=_;rw[h2];show(yS (r t u) >>= _)=_;rw[hr];rfl
theorem ES {b:Bool}(h:x Z= .ok (.bl b,Z')):BW x Z= .ok (b,Z'):=by unfold BW;rw[h];rfl
theorem w4 {b:En->Rs Bool}{k:Bool}(h:b Z= .ok k):uJ b Z= .ok (k,Z):=by unfold uJ;rw[h];rfl
theorem AM {y:En->Rs (Bool×En)}{A B:En->Rs Fl}{b:Bool}(h:y Z= .ok (b,Z')):oK y A B Z=if b then A Z' else B Z':=by unfold oK;rw[h];rfl
end
end Tr
namespace Gr
variable {ν:Type}[DecidableEq ν]
abbrev bh (ν:Type):=List (ν×ν×Int)
inductive Wk (L:bh ν):ν->ν->Int->Prop
 | nil (a:ν):Wk L a a 0
 | step {a b c:ν} {m s:Int}:(a,b,m)∈L->Wk L b c s->Wk L a c (m+s)
theorem Wk.one {L:bh ν}{a b:ν}{m:Int}(h:(a,b,m)∈L):Wk L a b m:=by
 have:=Wk.step h (Wk.nil (L:=L) b)
 rwa [Int.add_zero]at this
theorem Wk.app {L:bh ν}{a b c:ν}{s t:Int}(h:Wk L a b s)(k:Wk L b c t):Wk L a c (s+t):=by
 induction h with
 | nil a=>rwa [Int.zero_add]
 | step e _ ih=>rw[Int.add_assoc];exact .step e (ih k)
theorem Wk.mono {L M:bh ν}(h:∀x∈L,x∈M){a b:ν}{s:Int}(w:Wk L a b s):Wk M a b s:=by
 induction w with
 | nil a=>exact .nil a
 | step e _ ih=>exact .step (h _ e) ih
def Holds (L:bh ν)(t:ν->Int):Prop:=∀a b m,(a,b,m)∈L->t b - t a<=m
theorem Holds.walk {L:bh ν}{t:ν->Int}(h:Holds L t){a b:ν}{s:Int}(w:Wk L a b s):t b - t a<=s:=by
 induction w with
 | nil a=>omega
 | step e _ ih=>have:=h _ _ _ e;omega
def NoNeg (L:bh ν):Prop:=∀a s,Wk L a a s->0<=s
theorem Holds.Kt {L:bh ν}{t:ν->Int}(h:Holds L t):NoNeg L:=λa s w=>by have:=h.walk w;omega
theorem NoNeg.mono {L M:bh ν}(h:∀x∈L,x∈M)(n:NoNeg M):NoNeg L:=λa s w=>n a s (w.mono h)
def Ch (L:bh ν):ν->List Nat->ν->Prop
 | a,[],b=>a=b
 | a,k::r,b=> ∃c m,L[k]? =some (a,c,m)/\Ch L c r b
def most (L:bh ν)(k:Nat):Int:=match L[k]? with
 | some x=>x.2.2
 | none=>0
def cM (L:bh ν):List Nat->Int
 | [] =>0
 | k::r=>most L k+cM L r
theorem ku (L:bh ν):∀(p q:List Nat),cM L (p++q)=cM L p+cM L q
 | [],q=>by simp[cM]
 | k::p,q=>by rw[RU,cM,cM,ku L p q];omega
theorem Ch.wk {L:bh ν}:∀{ks:List Nat} {a b:ν},Ch L a ks b->Wk L a b (cM L ks)
 | [],a,b,h=>by cases h;exact .nil a
 | k::r,a,b,⟨c,m,e,h⟩=>by
  have:cM L (k::r)=m+cM L r:=by rw[cM,most,e]
  rw[this];exact .step (Mw e) h.wk
theorem Ch.app {L:bh ν}:∀{p q:List Nat} {a b c:ν},Ch L a p b->Ch L b q c->Ch L a (p++q) c
 | [],q,a,b,c,h,k=>by cases h;exact k
 | x::p,q,a,b,c,⟨d,m,e,h⟩,k=>⟨d,m,e,Ch.app h k⟩
theorem Ch.fst {L:bh ν}{k:Nat}{r:List Nat}{a b:ν}(h:Ch L a (k::r) b):∃c m,L[k]? =some (a,c,m):=by
 obtain⟨c,m,e,_⟩:=h;exact⟨c,m,e⟩
theorem Ch.lt {L:bh ν}:∀{ks:List Nat} {a b:ν},Ch L a ks b->∀k∈ks,k<L.length
 | [],_,_,_,k,hk=>by simp at hk
 | x::r,a,b,⟨c,m,e,h⟩,k,hk=>by
  rcases Lp.mp hk with rfl | hk
  ·exact(Lz.mp e).1
  ·exact h.lt k hk
theorem Ch.snoc {L:bh ν}{p:List Nat}{k:Nat}{a b c:ν}{m:Int}(h:Ch L a p b)(e:L[k]? =some (b,c,m)):Ch L a (p++ [k]) c:=h.app ⟨c,m,e,rfl⟩
def src (L:bh ν)(k:Nat):Option ν:=(L[k]?).map (·.1)
abbrev bW (ν:Type):=ν->Option (Int×List Nat)
def put (b:bW ν)(v:ν)(x:Int×List Nat):bW ν:=λu=>if u=v then some x else b u
theorem dE {b:bW ν}{v:ν}{x:Int×List Nat}:put b v x v=some x:=by unfold put;rw[if_pos rfl]
theorem jv {b:bW ν}{u v:ν}{x:Int×List Nat}(h:u≠v):put b v x u=b u:=by unfold put;rw[if_neg h]
def dz (L:bh ν)(ks:List Nat):List ν:=ks.filterMap (src L)
def dN (b:bW ν)(v:ν)(d:Int):Bool:=match b v with
 | none=>true
 | some x=>decide (d<x.1)
def gC (L:bh ν)(b:bW ν)(k:Nat)(x:ν×ν×Int):Sum (Option (bW ν)) (List Nat):=match b x.1 with
 | none=> .inl none
 | some (d,w)=>if dN b x.2.1 (d+x.2.2)=true then
   if x.2.1∈dz L (w++ [k])then .inr ((w++ [k]).drop ((dz L (w++ [k])).idxOf x.2.1))else .inl (some (put b x.2.1 (d+x.2.2,w++ [k])))
  else .inl none
def gX (L:bh ν):Nat->bh ν->bW ν->Bool->Sum (bW ν×Bool) (List Nat)
 | _,[],b,mv=> .inl (b,mv)
 | k,x::r,b,mv=>match gC L b k x with
  | .inr q=> .inr q
  | .inl none=>gX L (k+1) r b mv
  | .inl (some b')=>gX L (k+1) r b' true
def settle (L:bh ν):Nat->bW ν->Option (Sum (bW ν) (List Nat))
 | 0,_=>none
 | n+1,b=>match gX L 0 L b false with
  | .inr q=>some (.inr q)
  | .inl (b',true)=>settle L n b'
  | .inl (b',false)=>some (.inl b')
theorem qK (L:bh ν)(p q:List Nat):dz L (p++q)=dz L p++dz L q:=by unfold dz;rw[List.filterMap_append]
theorem qJ {L:bh ν}{k:Nat}{x:ν×ν×Int}(e:L[k]? =some x):dz L [k] = [x.1]:=by unfold dz src;simp[e]
theorem Ch.J9 {L:bh ν}{k:Nat}{r:List Nat}{a b:ν}(h:Ch L a (k::r) b):dz L (k::r)=a::dz L r:=by
 obtain⟨c,m,e,_⟩:=h;rw[show k::r= [k] ++r from rfl,qK,qJ e];rfl
theorem Ch.Kr {L:bh ν}:∀{ks:List Nat} {a b:ν},Ch L a ks b->(dz L ks).length=ks.length
 | [],_,_,_=>rfl
 | k::r,a,b,h=>by
  rw[h.J9];obtain⟨c,m,e,h⟩:=h;rw[Lm,Lm,h.Kr]
theorem Ch.cut {L:bh ν}{v:ν}:∀{ks:List Nat} {a b:ν},Ch L a ks b->v∈dz L ks->Ch L a (ks.take ((dz L ks).idxOf v)) v/\Ch L v (ks.drop ((dz L ks).idxOf v)) b/\(dz L ks).idxOf v<ks.length
 | [],a,b,_,hv=>by simp[dz]at hv
 | k::r,a,b,h,hv=>by
  rw[h.J9]at hv ⊢
  have h0:=h;obtain⟨c,m,e,h⟩:=h
  by_cases z:a=v
  ·subst z
   rw[List.idxOf_cons_self];exact⟨rfl,h0,by simp⟩
  ·have hv':v∈dz L r:=by
    rcases Lp.mp hv with q | q
    ·exact absurd q.symm z
    ·exact q
   obtain⟨h1,h2,h3⟩:=h.cut hv'
   have ei:(a::dz L r).idxOf v=(dz L r).idxOf v+1:=by
    rw[Sa]
    have:(a == v)=false:=by rw[beq_eq_false_iff_ne];exact z
    rw[this];rfl
   rw[ei];exact⟨⟨c,m,e,h1⟩,h2,by simpa using h3⟩
structure Kept (L:bh ν)(S:List ν)(b:bW ν):Prop where
 walk:∀v d w,b v=some (d,w)->∃s∈S,Ch L s w v/\cM L w=d/\v∉dz L w/\(dz L w).Nodup/\∀p q u,w=p++q->Ch L s p u->∃d' w',b u=some (d',w')/\d'<=cM L p
 start:∀s∈S,∃d w,b s=some (d,w)/\d<=0
theorem Kept.put {L:bh ν}{S:List ν}{b:bW ν}(K:Kept L S b){k:Nat}{a c:ν}{m d:Int}{w:List Nat}(e:L[k]? =some (a,c,m))(ha:b a=some (d,w))(hb:dN b c (d+m)=true)(hn:c∉dz L (w++ [k])) :
  Kept L S (put b c (d+m,w++ [k])):=by
 have low:∀u d' w',b u=some (d',w')->∃d'' w'',Gr.put b c (d+m,w++ [k]) u=some (d'',w'')/\d''<=d':=λu d' w' h=>by
  by_cases z:u=c
  ·subst z
   refine⟨_,_,dE,?_⟩
   unfold dN at hb;rw[h]at hb
   have:=of_decide_eq_true hb;omega
  ·exact⟨d',w',by rw[jv z];exact h,Na _⟩
 obtain⟨s,hs,h1,h2,h3,h4,h5⟩:=K.walk a d w ha
 have hch:Ch L s (w++ [k]) c:=h1.snoc e
 have hcost:cM L (w++ [k])=d+m:=by rw[ku,h2,cM,cM,most,e];simp
 refine⟨λv d' w' h=> ?_,λs' hs'=> ?_⟩
 ·by_cases z:v=c
  ·subst z
   rw[dE]at h;cases h;refine⟨s,hs,hch,hcost,hn,?_,λp q u hpq hp=> ?_⟩
   ·rw[qK,qJ e]
    exact Mt.mpr ⟨h4,by simp,λx hx y hy=>by simp at hy;subst hy;exact λz=>h3 (z▸hx)⟩
   ·by_cases hq:q= []
    ·subst hq
     rw[LZ]at hpq;subst hpq
     have:u=v:=by
      clear low hb hn h5
      have aux:∀{ks:List Nat} {x y z:ν},Ch L x ks y->Ch L x ks z->y=z:=by
       intro ks
       induction ks with
       | nil=>intro x y z h1 h2;cases h1;cases h2;rfl
       | cons k r ih=>
        rintro x y z ⟨c1,m1,e1,r1⟩ ⟨c2,m2,e2,r2⟩
        rw[e1]at e2;cases e2;exact ih r1 r2
      exact aux hp hch
     subst this;exact⟨_,_,dE,by rw[hcost];exact Na _⟩
    ·have hw:∃q',w=p++q':=by
      refine⟨q.dropLast,?_⟩
      have:=congrArg List.dropLast hpq;rw[List.dropLast_concat,List.dropLast_append_of_ne_nil hq]at this;exact this
     obtain⟨q',hw⟩:=hw;obtain⟨d1,w1,e1,l1⟩:=h5 p q' u hw hp;obtain⟨d2,w2,e2,l2⟩:=low u d1 w1 e1;exact⟨d2,w2,e2,by omega⟩
  ·rw[jv z]at h
   obtain⟨s',hs',g1,g2,g3,g4,g5⟩:=K.walk v d' w' h;refine⟨s',hs',g1,g2,g3,g4,λp q u hpq hp=> ?_⟩
   obtain⟨d1,w1,e1,l1⟩:=g5 p q u hpq hp;obtain⟨d2,w2,e2,l2⟩:=low u d1 w1 e1;exact⟨d2,w2,e2,by omega⟩
 ·obtain⟨d1,w1,e1,l1⟩:=K.start s' hs'
  obtain⟨d2,w2,e2,l2⟩:=low s' d1 w1 e1;exact⟨d2,w2,e2,by omega⟩
def Bar (L:bh ν)(q:List Nat):Prop:=q≠ []/\(∃a,Ch L a q a)/\cM L q<0/\(dz L q).Nodup
theorem Ch.Kn {L:bh ν}:∀{ks:List Nat} {a b:ν} (i:Nat),Ch L a ks b->dz L (ks.drop i)=(dz L ks).drop i
 | [],_,_,i,_=>by simp[dz]
 | k::r,a,b,0,_=>rfl
 | k::r,a,b,i+1,h=>by
  have:=h;obtain⟨c,m,e,h'⟩:=this;rw[h.J9,QL,QL,h'.Kn i]
theorem Kept.round {L:bh ν}{S:List ν}{b:bW ν}(K:Kept L S b){k:Nat}{a c:ν}{m d:Int}{w:List Nat}(e:L[k]? =some (a,c,m))(ha:b a=some (d,w))(hb:dN b c (d+m)=true)(hn:c∈dz L (w++ [k])) :
  Bar L ((w++ [k]).drop ((dz L (w++ [k])).idxOf c)):=by
 obtain⟨s,hs,h1,h2,h3,h4,h5⟩:=K.walk a d w ha
 have hch:Ch L s (w++ [k]) c:=h1.snoc e
 have hcost:cM L (w++ [k])=d+m:=by rw[ku,h2,cM,cM,most,e];simp
 obtain⟨c1,c2,c3⟩:=hch.cut hn
 generalize hi:(dz L (w++ [k])).idxOf c=i at c1 c2 c3
 refine⟨λz=> ?_,⟨c,c2⟩,?_,?_⟩
 ·have:=congrArg M8 z
  rw[OG]at this
  simp at this c3
  omega
 ·have hsum:cM L ((w++ [k]).take i)+cM L ((w++ [k]).drop i)=d+m:=by rw[<-ku,Qe,hcost]
  have hiw:i<=w.length:=by simp at c3;omega
  have ht:(w++ [k]).take i=w.take i:=by rw[List.take_append_of_le_length hiw]
  rw[ht]at c1 hsum;obtain⟨d1,w1,e1,l1⟩:=h5 (w.take i) (w.drop i) c (Qe i w).symm c1;unfold dN at hb;rw[e1]at hb
  have:=of_decide_eq_true hb;simp only at this;omega
 ·rw[hch.Kn,qK,qJ e]
  refine(List.drop_sublist _ _).nodup (Mt.mpr ⟨h4,by simp,λx hx y hy=> ?_⟩)
  rw[Ly.mp hy];exact λz=>h3 (by have z:x=a:=z;rw[<-z];exact hx)
def size (L:bh ν):Nat:=(L.map λx=>x.2.2.natAbs).sum
theorem fW {f:Nat->Nat}:∀{ks rs:List Nat},ks.Nodup->(∀k∈ks,k∈rs)->(ks.map f).sum<=(rs.map f).sum
 | [],rs,_,_=>by simp
 | k::ks,rs,hn,hs=>by
  have hk:k∈rs:=hs k Ll;rw[LJ]at hn
  have hp:=List.perm_cons_erase hk
  have e:(rs.map f).sum=f k+((rs.erase k).map f).sum:=by
   have:=(hp.map f).sum_nat
   rwa [Lk,MV]at this
  rw[e,Lk,MV]
  have:=fW (f:=f) hn.2 (rs:=rs.erase k) λj hj=>by
   have h1:=hs j (Lg _ hj);exact(OL (λ(z:j=k)=>hn.1 (z▸hj))).mpr h1
  omega
theorem uP (L:bh ν):size L=((L6 L.length).map λk=>(most L k).natAbs).sum:=by
 unfold size
 congr 1
 apply List.ext_getElem
 ·simp
 ·intro i h1 h2
  simp only[PU,List.getElem_range];unfold most;rw[Ls (by simpa using h1)]
theorem xC (L:bh ν):∀(ks:List Nat),(cM L ks).natAbs<=(ks.map λk=>(most L k).natAbs).sum
 | [] =>by simp[cM]
 | k::r=>by
  have:=xC L r;rw[cM,Lk,MV];omega
theorem Ch.nodup {L:bh ν}:∀{ks:List Nat} {a b:ν},Ch L a ks b->(dz L ks).Nodup->ks.Nodup
 | [],_,_,_,_=>NB
 | k::r,a,b,h,hn=>by
  have h0:=h;rw[h.J9,LJ]at hn;obtain⟨c,m,e,h⟩:=h;rw[LJ];refine⟨λhk=>hn.1 ?_,h.nodup hn.2⟩
  unfold dz src;exact N8.mpr ⟨k,hk,by rw[e];rfl⟩
theorem Ch.small {L:bh ν}{ks:List Nat}{a b:ν}(h:Ch L a ks b)(hn:(dz L ks).Nodup):(cM L ks).natAbs<=size L:=by
 rw[uP];exact Mf (xC L ks) (fW (h.nodup hn) λk hk=>Mp.mpr (h.lt k hk))
def val (M:Nat)(b:bW ν)(v:ν):Nat:=match b v with
 | none=>2*M+1
 | some x=>(x.1+M).toNat
def left (M:Nat)(b:bW ν)(L:bh ν):Nat:=(L.map λx=>val M b x.2.1).sum
theorem wU {M:Nat}{b b':bW ν}:∀{L:bh ν},(∀x∈L,val M b' x.2.1<=val M b x.2.1)->left M b' L<=left M b L
 | [],_=>by simp[left]
 | x::L,h=>by
  have h1:=h x Ll
  have h2:=wU (L:=L) λy hy=>h y (Lg _ hy)
  unfold left at h2 ⊢;rw[Lk,MV,Lk,MV];omega
theorem wR {M:Nat}{b b':bW ν}{x:ν×ν×Int}:∀{L:bh ν},x∈L->(∀x∈L,val M b' x.2.1<=val M b x.2.1)->val M b' x.2.1<val M b x.2.1->left M b' L<left M b L
 | [],hx,_,_=>by simp at hx
 | y::L,hx,h,hl=>by
  have h1:=h y Ll
  have h2:=wU (L:=L) λy hy=>h y (Lg _ hy)
  unfold left at h2 ⊢;rw[Lk,MV,Lk,MV];rcases Lp.mp hx with rfl | hx
  ·omega
  ·have h3:=wR (L:=L) hx (λy hy=>h y (Lg _ hy)) hl
   unfold left at h3;omega
theorem As {L:bh ν}{S:List ν}{b:bW ν}(K:Kept L S b){k:Nat}{a c:ν}{m d:Int}{w:List Nat}(e:L[k]? =some (a,c,m))(ha:b a=some (d,w))(hb:dN b c (d+m)=true)(hn:c∉dz L (w++ [k])) :
  left (size L) (put b c (d+m,w++ [k])) L<left (size L) b L:=by
 have K':=K.put e ha hb hn;obtain⟨s,hs,h1,h2,h3,h4,h5⟩:=K'.walk c (d+m) (w++ [k]) dE
 have sm:=h1.small h4;rw[h2]at sm
 have lt:val (size L) (put b c (d+m,w++ [k])) c<val (size L) b c:=by
  unfold val dN at*;rw[dE]
  cases z:b c with
  | none=>simp only;omega
  | some y=>
   rw[z]at hb
   have hb:=of_decide_eq_true hb;simp only;omega
 refine wR (x:=(a,c,m)) (Mw e) (λy _=> ?_) lt
 by_cases z:y.2.1=c
 ·rw[z];exact N4 lt
 ·unfold val;rw[jv z];exact Lv _
def BQ (b:bW ν)(x:ν×ν×Int):Prop:=∀d w,b x.1=some (d,w)->∃d' w',b x.2.1=some (d',w')/\d'<=d+x.2.2
theorem zq {b:bW ν}{x:ν×ν×Int}(h:∀d w,b x.1=some (d,w)->dN b x.2.1 (d+x.2.2)=false):BQ b x:=λd w e=>by
 have:=h d w e;unfold dN at this
 cases z:b x.2.1 with
 | none=>rw[z]at this;cases this
 | some y=>
  rw[z]at this
  have:=of_decide_eq_false this;exact⟨y.1,y.2,rfl,by omega⟩
theorem ie {L:bh ν}{S:List ν}:∀(r:bh ν) (k:Nat) (b:bW ν) (mv:Bool),L.drop k=r->Kept L S b->match gX L k r b mv with
  | .inr q=>Bar L q
  | .inl (b',mv')=>Kept L S b'/\(mv'=false->mv=false/\b'=b/\∀x∈r,BQ b x)/\left (size L) b' L<=left (size L) b L/\(mv'=true->mv=true\/left (size L) b' L<left (size L) b L)
 | [],k,b,mv,_,K=>⟨K,λh=>⟨h,rfl,λx hx=>by simp at hx⟩,Lv _,λh=> .inl h⟩
 | x::r,k,b,mv,hr,K=>by
  have e:L[k]? =some x:=by
   have:=congrArg (·[0]?) hr
   simpa using this
  have hr':L.drop (k+1)=r:=by
   have:=congrArg (List.drop 1) hr
   simpa [List.drop_drop,RC]using this
  rw[gX];obtain⟨a,c,m⟩:=x;unfold gC
  cases z:b a with
  | none=>
   simp only[z]
   have ih:=ie r (k+1) b mv hr' K
   revert ih
   generalize gX L (k+1) r b mv=R
   cases R with
   | inr q=>exact id
   | inl p=>
    obtain⟨b',mv'⟩:=p
    rintro ⟨i1,i2,i3,i4⟩
    refine⟨i1,λh=> ?_,i3,i4⟩
    obtain⟨j1,j2,j3⟩:=i2 h;refine⟨j1,j2,λx hx=> ?_⟩
    rcases Lp.mp hx with rfl | hx
    ·intro d w q;rw[z]at q;cases q
    ·exact j3 x hx
  | some y=>
   obtain⟨d,w⟩:=y;simp only[z]
   by_cases hb:dN b c (d+m)=true
   ·rw[if_pos hb]
    by_cases hn:c∈dz L (w++ [k])
    ·rw[if_pos hn]
     exact K.round e z hb hn
    ·rw[if_neg hn]
     have K':=K.put e z hb hn
     have lt:=As K e z hb hn
     have ih:=ie r (k+1) (put b c (d+m,w++ [k])) true hr' K'
     revert ih
     simp only
     generalize gX L (k+1) r (put b c (d+m,w++ [k])) true=R
     cases R with
     | inr q=>exact id
     | inl p=>
      obtain⟨b',mv'⟩:=p
      rintro ⟨i1,i2,i3,i4⟩
      refine⟨i1,λh=> ?_,by omega,λ_=> .inr (by omega)⟩
      obtain⟨j1,_⟩:=i2 h;cases j1
   ·rw[if_neg hb]
    have ih:=ie r (k+1) b mv hr' K
    revert ih
    simp only
    generalize gX L (k+1) r b mv=R
    cases R with
    | inr q=>exact id
    | inl p=>
     obtain⟨b',mv'⟩:=p
     rintro ⟨i1,i2,i3,i4⟩
     refine⟨i1,λh=> ?_,i3,i4⟩
     obtain⟨j1,j2,j3⟩:=i2 h;refine⟨j1,j2,λx hx=> ?_⟩
     rcases Lp.mp hx with rfl | hx
     ·refine zq λd' w' q=> ?_
      simp only at q;rw[z]at q;cases q
      simpa using hb
     ·exact j3 x hx
structure Settled (L:bh ν)(S:List ν)(b:bW ν):Prop where
 walk:∀v d w,b v=some (d,w)->∃s∈S,Ch L s w v/\cM L w=d/\v∉dz L w/\(dz L w).Nodup
 least:∀s∈S,∀v t,Wk L s v t->∃d w,b v=some (d,w)/\d<=t
theorem uQ {L:bh ν}{S:List ν}{b:bW ν}(K:Kept L S b)(h:∀x∈L,BQ b x):Settled L S b where
 walk:=λv d w e=>by
  obtain⟨s,h1,h2,h3,h4,h5,_⟩:=K.walk v d w e;exact⟨s,h1,h2,h3,h4,h5⟩
 least:=by
  have go:∀{u v:ν} {t:Int},Wk L u v t->∀d w,b u=some (d,w)->∃d' w',b v=some (d',w')/\d'<=d+t:=by
   intro u v t hw
   induction hw with
   | nil a=>exact λd w e=>⟨d,w,e,by omega⟩
   | step e _ ih=>
    intro d w q;obtain⟨d1,w1,e1,l1⟩:=h _ e d w q;obtain⟨d2,w2,e2,l2⟩:=ih d1 w1 e1;exact⟨d2,w2,e2,by simp only at l1;omega⟩
  intro s hs v t hw;obtain⟨d,w,e,l⟩:=K.start s hs;obtain⟨d2,w2,e2,l2⟩:=go hw d w e;exact⟨d2,w2,e2,by omega⟩
theorem pC {L:bh ν}{S:List ν}:∀(n:Nat) (b:bW ν),Kept L S b->left (size L) b L<n->∃r,settle L n b=some r/\match r with
  | .inr q=>Bar L q
  | .inl b'=>Settled L S b'
 | 0,b,K,h=>by omega
 | n+1,b,K,h=>by
  have s:=ie (S:=S) L 0 b false rfl K;rw[settle]
  revert s
  generalize gX L 0 L b false=R
  cases R with
  | inr q=>exact λs=>⟨_,rfl,s⟩
  | inl p=>
   obtain⟨b',mv'⟩:=p
   rintro ⟨i1,i2,i3,i4⟩
   cases mv' with
   | false=>
    obtain⟨_,j2,j3⟩:=i2 rfl;subst j2
    exact⟨_,rfl,uQ i1 j3⟩
   | true=>
    rcases i4 rfl with z | z
    ·cases z
    ·exact pC n b' i1 (by omega)
def start (S:List ν):bW ν:=λv=>if v∈S then some (0,[])else none
theorem nI (L:bh ν)(S:List ν):Kept L S (start S) where
 walk:=λv d w e=>by
  unfold start at e
  split at e
  ·rename_i h
   cases e;refine⟨v,h,rfl,rfl,by simp[dz],by simp[dz],λp q u hpq hp=> ?_⟩
   obtain⟨rfl,rfl⟩:=List.append_eq_nil_iff.mp hpq.symm;cases hp;exact⟨0,[],by unfold start;rw[if_pos h],by simp[cM]⟩
  ·cases e
 start:=λs hs=>⟨0,[],by unfold start;rw[if_pos hs],Na _⟩
theorem Au (L:bh ν)(S:List ν):left (size L) (start S) L<=L.length*(2*size L+1):=by
 unfold left
 have:∀M:bh ν,(M.map λx=>val (size L) (start S) x.2.1).sum<=M.length*(2*size L+1):=by
  intro M
  induction M with
  | nil=>simp
  | cons x M ih=>
   rw[Lk,MV,Lm,Nat.succ_mul]
   have:val (size L) (start S) x.2.1<=2*size L+1:=by
    unfold val start;split
    ·exact Lv _
    ·rename_i h
     split at h
     ·cases h;simp;omega
     ·cases h
   omega
 exact this L
theorem uR (L:bh ν)(S:List ν){n:Nat}(h:L.length*(2*size L+1)<n):∃r,settle L n (start S)=some r/\match r with
  | .inr q=>Bar L q
  | .inl b'=>Settled L S b':=pC n (start S) (nI L S) (Q4 (Au L S) h)
theorem Bar.neg {L:bh ν}{q:List Nat}(h:Bar L q):¬ NoNeg L:=λn=>by
 obtain⟨_,⟨a,ha⟩,hc,_⟩:=h
 have:=n a _ ha.wk;omega
theorem Settled.holds {L:bh ν}{S:List ν}{b:bW ν}(h:Settled L S b)(hS:∀x∈L,x.1∈S/\x.2.1∈S){t:ν->Int}(ht:∀v∈S,∃w,b v=some (t v,w)):Holds L t:=λa c m hx=>by
 obtain⟨ha,hc⟩:=hS _ hx;obtain⟨w,e⟩:=ht a ha;obtain⟨s,hs,h1,h2,_⟩:=h.walk a _ _ e;obtain⟨d,w',e',l⟩:=h.least s hs c _ (h1.wk.app (.one hx));obtain⟨w2,e2⟩:=ht c hc;rw[e2]at e';cases e';omega
inductive Pth (L:bh ν):ν->List ν->ν->Int->Prop
 | one {a b:ν} {m:Int}:(a,b,m)∈L->Pth L a [] b m
 | cons {a x b:ν} {ms:List ν} {m s:Int}:(a,x,m)∈L->Pth L x ms b s->Pth L a (x::ms) b (m+s)
theorem Pth.cut {L:bh ν}{x:ν}{q:List ν}:∀{p:List ν} {a b:ν} {s:Int},Pth L a (p++x::q) b s->∃s1 s2,Pth L a p x s1/\Pth L x q b s2/\s=s1+s2
 | [],a,b,s,h=>by
  cases h with
  | cons e h=>exact⟨_,_,.one e,h,rfl⟩
 | y::p,a,b,s,h=>by
  cases h with
  | cons e h=>
   obtain⟨s1,s2,h1,h2,h3⟩:=Pth.cut h;exact⟨_,s2,.cons e h1,h2,by omega⟩
def Hw (L:bh ν)(u v:ν)(s:Int):Prop:=(u=v/\s=0)\/(u≠v/\∃ms,Pth L u ms v s/\ms.Nodup/\u∉ms/\v∉ms)
def BS (L:bh ν):Prop:=∃x ms s,Pth L x ms x s/\ms.Nodup/\x∉ms/\s<0
theorem Wk.simple {L:bh ν}{u v:ν}{s:Int}(w:Wk L u v s):BS L\/∃s',s'<=s/\Hw L u v s':=by
 induction w with
 | nil a=>exact .inr ⟨0,Na _,.inl ⟨rfl,rfl⟩⟩
 | @step a b c m s e w ih=>
  rcases ih with ih | ⟨s',hs,ih⟩
  ·exact .inl ih
  by_cases hab:a=b
  ·subst hab
   by_cases hm:m<0
   ·exact .inl ⟨a,[],m,.one e,NB,by simp,hm⟩
   ·exact .inr ⟨s',by omega,ih⟩
  rcases ih with⟨rfl,rfl⟩ | ⟨hbc,ms,hp,hn,hb,hc⟩
  ·exact .inr ⟨m,by omega,.inr ⟨hab,[],.one e,NB,by simp,by simp⟩⟩
  by_cases hac:a=c
  ·subst hac
   by_cases hm:m+s'<0
   ·exact .inl ⟨a,b::ms,m+s',.cons e hp,LJ.mpr ⟨hb,hn⟩,by simp[hab,hc],hm⟩
   ·exact .inr ⟨0,by omega,.inl ⟨rfl,rfl⟩⟩
  by_cases ham:a∈ms
  ·obtain⟨p,q,rfl⟩:=Q5 ham
   obtain⟨s1,s2,h1,h2,h3⟩:=hp.cut;rw[Mt]at hn;obtain⟨n1,n2,n3⟩:=hn;rw[LJ]at n2
   have hap:a∉p:=λz=>n3 a z a Ll rfl
   by_cases hm:m+s1<0
   ·refine .inl ⟨a,b::p,m+s1,.cons e h1,LJ.mpr ⟨λz=>hb (LW _ z),n1⟩,by simp[hab,hap],hm⟩
   ·exact .inr ⟨s2,by omega,.inr ⟨hac,q,h2,n2.2,n2.1,λz=>hc (LF _ (Lg _ z))⟩⟩
  ·refine .inr ⟨m+s',by omega,.inr ⟨hac,b::ms,.cons e hp,LJ.mpr ⟨hb,hn⟩,by simp[hab,ham],?_⟩⟩
   simp only[Lp,not_or];exact⟨λz=>hbc z.symm,hc⟩
abbrev fE (ν:Type):=ν->ν->Option Int
def ug (f:fE ν)(a b:ν)(x:Int):fE ν:=λu v=>if u=a/\v=b then some x else f u v
def rW (f:fE ν)(a b:ν)(x:Int):fE ν:=match f a b with
 | none=>ug f a b x
 | some y=>if x<y then ug f a b x else f
def nM (mid one other:ν)(f:fE ν):fE ν:=match f one mid,f mid other with
 | some x,some y=>rW f one other (x+y)
 | _,_=>f
def xZ (P:List ν):fE ν:=λu v=>if u∈P/\u=v then some 0 else none
def Cn (P:List ν)(L:bh ν):fE ν:=L.foldl (λf x=>rW f x.1 x.2.1 x.2.2) (xZ P)
def mn (mid one:ν)(P:List ν)(f:fE ν):fE ν:=P.foldl (λf other=>nM mid one other f) f
def pP (mid:ν)(Q P:List ν)(f:fE ν):fE ν:=Q.foldl (λf one=>mn mid one P f) f
def xo (M P:List ν)(f:fE ν):fE ν:=M.foldl (λf mid=>pP mid P P f) f
def table (P:List ν)(L:bh ν):fE ν:=xo P P (Cn P L)
def Le (f g:fE ν):Prop:=∀u v x,g u v=some x->∃y,f u v=some y/\y<=x
theorem Le.refl (f:fE ν):Le f f:=λu v x h=>⟨x,h,Na _⟩
theorem Le.trans {f g h:fE ν}(a:Le f g)(b:Le g h):Le f h:=λu v x e=>by
 obtain⟨y,e1,l1⟩:=b u v x e;obtain⟨z,e2,l2⟩:=a u v y e1;exact⟨z,e2,by omega⟩
theorem lj {f:fE ν}{a b:ν}{x:Int}:ug f a b x a b=some x:=by unfold ug;rw[if_pos ⟨rfl,rfl⟩]
theorem rV (f:fE ν)(a b:ν)(x:Int):Le (rW f a b x) f:=λu v y e=>by
 unfold rW
 cases q:f a b with
 | none=>
  by_cases z:u=a/\v=b
  ·obtain⟨rfl,rfl⟩:=z;rw[q]at e;cases e
  ·exact⟨y,by simp only;unfold ug;rw[if_neg z];exact e,Na _⟩
 | some y0=>
  simp only;split
  ·by_cases z:u=a/\v=b
   ·obtain⟨rfl,rfl⟩:=z;rw[q]at e;cases e
    exact⟨x,lj,by omega⟩
   ·exact⟨y,by unfold ug;rw[if_neg z];exact e,Na _⟩
  ·exact⟨y,e,Na _⟩
theorem xp (f:fE ν)(a b:ν)(x:Int):∃y,rW f a b x a b=some y/\y<=x:=by
 unfold rW
 cases q:f a b with
 | none=>exact⟨x,lj,Na _⟩
 | some y0=>
  simp only;split
  ·exact⟨x,lj,Na _⟩
  ·exact⟨y0,q,by omega⟩
theorem nR {L:bh ν}{f:fE ν}{a b:ν}{x:Int}(h:∀u v y,f u v=some y->Wk L u v y)(hx:Wk L a b x):∀u v y,rW f a b x u v=some y->Wk L u v y:=λu v y e=>by
 have key:ug f a b x u v=some y->Wk L u v y:=λe'=>by
  unfold ug at e'
  by_cases z:u=a/\v=b
  ·rw[if_pos z]at e';injection e' with e';rw[z.1,z.2,<-e'];exact hx
  ·rw[if_neg z]at e';exact h u v y e'
 unfold rW at e
 cases q:f a b with
 | none=>rw[q]at e;exact key e
 | some y0=>
  rw[q]at e;simp only at e
  split at e
  ·exact key e
  ·exact h u v y e
theorem uf (mid one other:ν)(f:fE ν):Le (nM mid one other f) f:=by
 unfold nM;split
 ·exact rV _ _ _ _
 ·exact Le.refl f
theorem Ba {mid one other:ν}{f:fE ν}{x y:Int}(h1:f one mid=some x)(h2:f mid other=some y):∃z,nM mid one other f one other=some z/\z<=x+y:=by
 unfold nM;rw[h1,h2];exact xp _ _ _ _
theorem i6 {α:Type}(step:fE ν->α->fE ν)(hs:∀f a,Le (step f a) f):∀(l:List α) (f:fE ν),Le (l.foldl step f) f
 | [],f=>Le.refl f
 | a::l,f=>(i6 step hs l (step f a)).trans (hs f a)
theorem nP (mid one:ν)(P:List ν)(f:fE ν):Le (mn mid one P f) f:=i6 _ (λf o=>uf mid one o f) P f
theorem ui (mid:ν)(Q P:List ν)(f:fE ν):Le (pP mid Q P f) f:=i6 _ (λf o=>nP mid o P f) Q f
theorem Be (M P:List ν)(f:fE ν):Le (xo M P f) f:=i6 _ (λf o=>ui o P P f) M f
theorem mq {α:Type}(step:fE ν->α->fE ν)(hs:∀f a,Le (step f a) f):∀(l:List α) (f:fE ν) (a:α),a∈l->∃g,Le g f/\Le (l.foldl step f) (step g a)
 | [],f,a,h=>by simp at h
 | b::l,f,a,h=>by
  rcases Lp.mp h with rfl | h
  ·exact⟨f,Le.refl f,i6 step hs l (step f a)⟩
  ·obtain⟨g,h1,h2⟩:=mq step hs l (step f b) a h
   exact⟨g,h1.trans (hs f b),h2⟩
theorem Bc {mid u v:ν}{P:List ν}{f:fE ν}{x y:Int}(hu:u∈P)(hv:v∈P)(h1:f u mid=some x)(h2:f mid v=some y):∃z,pP mid P P f u v=some z/\z<=x+y:=by
 obtain⟨g,g1,g2⟩:=mq (λf one=>mn mid one P f) (λf o=>nP mid o P f) P f u hu
 obtain⟨g',g3,g4⟩:=mq (λf other=>nM mid u other f) (λf o=>uf mid u o f) P g v hv
 have l:Le g' f:=g3.trans g1;obtain⟨x',e1,l1⟩:=l _ _ _ h1;obtain⟨y',e2,l2⟩:=l _ _ _ h2;obtain⟨z,e3,l3⟩:=Ba e1 e2;obtain⟨z',e4,l4⟩:=(g2.trans g4) _ _ _ e3;exact⟨z',e4,by omega⟩
def Up (L:bh ν)(M:List ν)(f:fE ν):Prop:=∀u v ms s,Pth L u ms v s->ms.Nodup->(∀x∈ms,x∈M)->∃y,f u v=some y/\y<=s
theorem Pth.ends {L:bh ν}{P:List ν}(hL:∀x∈L,x.1∈P/\x.2.1∈P){u v:ν}{ms:List ν}{s:Int}(h:Pth L u ms v s):u∈P/\v∈P/\∀x∈ms,x∈P:=by
 induction h with
 | one e=>exact⟨(hL _ e).1,(hL _ e).2,by simp⟩
 | cons e _ ih=>exact⟨(hL _ e).1,ih.2.1,λx hx=>by
   rcases Lp.mp hx with rfl | hx
   ·exact ih.1
   ·exact ih.2.2 x hx⟩
theorem Up.mid {L:bh ν}{P M:List ν}{f:fE ν}(hL:∀x∈L,x.1∈P/\x.2.1∈P)(h:Up L M f)(k:ν):Up L (k::M) (pP k P P f):=λu v ms s hp hn hm=>by
 by_cases hk:k∈ms
 ·obtain⟨p,q,rfl⟩:=Q5 hk
  obtain⟨s1,s2,h1,h2,h3⟩:=hp.cut;rw[Mt]at hn;obtain⟨n1,n2,n3⟩:=hn;rw[LJ]at n2
  have hp':∀x∈p,x∈M:=λx hx=>by
   rcases Lp.mp (hm x (LW _ hx))with rfl | z
   ·exact absurd rfl (n3 x hx x Ll)
   ·exact z
  have hq':∀x∈q,x∈M:=λx hx=>by
   rcases Lp.mp (hm x (LF _ (Lg _ hx)))with rfl | z
   ·exact absurd hx n2.1
   ·exact z
  obtain⟨y1,e1,l1⟩:=h u k p s1 h1 n1 hp';obtain⟨y2,e2,l2⟩:=h k v q s2 h2 n2.2 hq';obtain⟨z,e3,l3⟩:=Bc (P:=P) (h1.ends hL).1 (h2.ends hL).2.1 e1 e2;exact⟨z,e3,by omega⟩
 ·obtain⟨y,e,l⟩:=h u v ms s hp hn λx hx=>by
   rcases Lp.mp (hm x hx)with rfl | z
   ·exact absurd hx hk
   ·exact z
  obtain⟨z,e2,l2⟩:=ui k P P f u v y e;exact⟨z,e2,by omega⟩
theorem Up.KW {L:bh ν}{P:List ν}(hL:∀x∈L,x.1∈P/\x.2.1∈P):∀(Q M:List ν) (f:fE ν),Up L M f->∃M',(∀x,x∈Q\/x∈M->x∈M')/\Up L M' (xo Q P f)
 | [],M,f,h=>⟨M,λx hx=>hx.elim (λz=>by simp at z) id,h⟩
 | k::Q,M,f,h=>by
  obtain⟨M',h1,h2⟩:=Up.KW hL Q (k::M) (pP k P P f) (h.mid hL k);refine⟨M',λx hx=>h1 x ?_,h2⟩
  rcases hx with hx | hx
  ·rcases Lp.mp hx with rfl | hx
   ·exact .inr Ll
   ·exact .inl hx
  ·exact .inr (Lg _ hx)
theorem Cm {P:List ν}{L:bh ν}:Up L [] (Cn P L):=λu v ms s hp hn hm=>by
 have:ms= []:=by
  cases ms with
  | nil=>rfl
  | cons x r=>exact absurd (hm x Ll) (by simp)
 subst this
 cases hp with
 | one e=>
  obtain⟨g,h1,h2⟩:=mq (λ(f:fE ν) (x:ν×ν×Int)=>rW f x.1 x.2.1 x.2.2) (λf x=>rV f _ _ _) L (xZ P) _ e
  obtain⟨y,e1,l1⟩:=xp g u v s;obtain⟨z,e2,l2⟩:=h2 u v y e1;exact⟨z,e2,by omega⟩
theorem fy {α:Type}{L:bh ν}(step:fE ν->α->fE ν):∀(l:List α) (f:fE ν),(∀f,∀a∈l,(∀u v y,f u v=some y->Wk L u v y)->∀u v y,step f a u v=some y->Wk L u v y)->(∀u v y,f u v=some y->Wk L u v y)->∀u v y,l.foldl step f u v=some y->Wk L u v y
 | [],f,_,h=>h
 | a::l,f,hs,h=>fy step l (step f a) (λf b hb=>hs f b (Lg _ hb)) (hs f a Ll h)
theorem lA (P:List ν)(L:bh ν):∀u v y,table P L u v=some y->Wk L u v y:=by
 unfold table xo;refine fy _ P _ (λf m _ h=> ?_) ?_
 ·unfold pP
  refine fy _ P _ (λf o _ h=> ?_) h
  unfold mn;refine fy _ P _ (λf v _ h=> ?_) h
  unfold nM
  cases e1:f o m with
  | none=>exact h
  | some x=>
   cases e2:f m v with
   | none=>exact h
   | some y=>exact nR h ((h _ _ _ e1).app (h _ _ _ e2))
 ·unfold Cn
  refine fy _ L _ (λf x hx h=>nR h (.one hx)) λu v y e=> ?_
  unfold xZ at e
  split at e
  ·rename_i z;obtain⟨_,rfl⟩:=z;cases e;exact .nil u
  ·cases e
theorem sP {P:List ν}{L:bh ν}(hL:∀x∈L,x.1∈P/\x.2.1∈P):∀u v ms s,Pth L u ms v s->ms.Nodup->∃y,table P L u v=some y/\y<=s:=λu v ms s hp hn=>by
 obtain⟨M',h1,h2⟩:=Up.KW hL P [] (Cn P L) Cm;exact h2 u v ms s hp hn λx hx=>h1 x (.inl ((hp.ends hL).2.2 x hx))
theorem uN {P:List ν}{L:bh ν}{u:ν}(hu:u∈P):∃y,table P L u u=some y/\y<=0:=by
 have h0:xZ P u u=some 0:=by unfold xZ;rw[if_pos ⟨hu,rfl⟩]
 have h1:Le (table P L) (xZ P):=(Be P P _).trans (i6 _ (λf x=>rV f _ _ _) L _)
 exact h1 u u 0 h0
structure oq (L:bh ν)(P:List ν)(f:fE ν):Prop where
 is:∀u v d,f u v=some d->Wk L u v d
 le:∀u∈P,∀v t,Wk L u v t->∃d,f u v=some d/\d<=t
theorem xY {P:List ν}{L:bh ν}{u:ν}{y:Int}(h:table P L u u=some y)(hy:y<0):¬ NoNeg L:=λn=>by
 have:=n u y (lA P L u u y h);omega
theorem sQ {P:List ν}{L:bh ν}(hL:∀x∈L,x.1∈P/\x.2.1∈P)(h:∀u∈P,∀y,table P L u u=some y->0<=y):NoNeg L/\oq L P (table P L):=by
 have nc:¬ BS L:=λ⟨x,ms,s,hp,hn,_,hs⟩=>by
  obtain⟨y,e,l⟩:=sP hL x x ms s hp hn
  have:=h x (hp.ends hL).1 y e;omega
 have le:∀u∈P,∀v t,Wk L u v t->∃d,table P L u v=some d/\d<=t:=λu hu v t w=>by
  rcases w.simple with z | ⟨s',hs,z⟩
  ·exact absurd z nc
  ·rcases z with⟨rfl,rfl⟩ | ⟨_,ms,hp,hn,_⟩
   ·obtain⟨y,e,l⟩:=uN (L:=L) hu
    exact⟨y,e,by omega⟩
   ·obtain⟨y,e,l⟩:=sP hL u v ms s' hp hn
    exact⟨y,e,by omega⟩
 refine⟨λa s w=> ?_,λu v d e=>lA P L u v d e,le⟩
 by_cases ha:a∈P
 ·obtain⟨d,e,l⟩:=le a ha a s w
  have:=h a ha d e;omega
 ·cases w with
  | nil=>exact Na _
  | step e _=>exact absurd (hL _ e).1 ha
end Gr
namespace G
open PySem Tr
def isI:T->Bool
 | .int _=>true
 | _=>false
theorem DY (t:T)(h:t.pl=true):gK [t] = .ok (.bl (isI t)):=by
 cases t <;> first | rfl | (simp[T.pl]at h;done)
def aN (t:T)(a b:Int):Bool:=match t with
 | .int i=>decide (a<=i)&&decide (i<=b)
 | _=>false
theorem ee (t:T)(a b:Int)(h:t.pl=true):aP [t,.int a,.int b] = .ok (.bl (aN t a b)):=by
 have w:=DY t h
 cases t with
 | int i=>
  simp[aP,val,bu,iM,aK,aI,bX,vr,ch,cl,ae,aj,sf,aN,w,isI]
  cases decide (a<=i) <;> rfl
 | scr _=>simp[T.pl]at h
 | dct _ _=>simp[T.pl]at h
 | ob _ _ _=>simp[T.pl]at h
 | _=>simp[aP,val,bu,iM,aK,aI,bX,vr,ch,cl,ae,aj,aN,w,isI]
def dn (t:T)(a b:Nat):Bool:=match t with
 | .tup l=>decide (a<=l.length)&&decide (l.length<=b)
 | _=>false
theorem jF (t:T)(a b:Nat)(h:t.pl=true):aL [t,.int a,.int b] = .ok (.bl (dn t a b)):=by
 cases t with
 | tup l=>
  simp[aL,val,bu,qd,aK,aI,bX,o1,vr,AS,T.ty,xj,ch,cl,ae,aj,cz,T.items,sf,dn]
  cases decide (a<=l.length) <;> rfl
 | scr _=>simp[T.pl]at h
 | dct _ _=>simp[T.pl]at h
 | ob _ _ _=>simp[T.pl]at h
 | _=>rfl
def lP (x y:T):Bool:=aN x 1 9&&(match x with
 | .int i=>aN y i 9
 | _=>false)
theorem Hj (x y:T)(hx:x.pl=true)(hy:y.pl=true):eQ [x,y] = .ok (.bl (lP x y)):=by
 have w:=ee x 1 9 hx;unfold lP
 cases q:aN x 1 9 with
 | false=>rw[q]at w;simp[eQ,val,bu,lz,aK,aI,bX,vr,cn,cl,ae,aj,w]
 | true=>
  rw[q]at w
  cases x with
  | int i=>simp[eQ,val,bu,lz,aK,aI,bX,vr,cn,cl,ae,aj,w,ee y i 9 hy]
  | _=>cases q
def l7:List Int->Bool
 | a::b::r=>decide (a<b)&&l7 (b::r)
 | _=>true
theorem CA (a b:Int)(r:List Int):l7 (a::b::r)=(decide (a<b)&&l7 (b::r)):=rfl
theorem sk {fe:En->Rs T}{p:T->Bool}{l:List T}{fi:En->Rs (List T)}{src:List (Option Nat)}{Z:En}(hi:fi Z= .ok l)(hs:l.length<=sizeLine)(hn:0<src.length)(hf:∀t∈l,fe ((de src Z).set 0 (.va t))= .ok (.bl (p t))) :
  cl om (ae (hW fi src (gN 0) bT fe) aj) Z= .ok (.bl (l.all p)):=by
 have e:=vA (fe:=fe) (h:=λt=>T.bl (p t)) l (de src Z) (by unfold de;rw[Ln];exact hn) hf
 simp only[cl,ae,aj,hW,hi,az,if_pos hs,e,all_map]
def kZ (l:List T):T->Bool
 | .int k=>match L2.atI l k,L2.atI l (k+1)with
  | some (.int a),some (.int b)=>decide (a<b)
  | _,_=>false
 | _=>false
theorem qD {t:T}{j:Int}(h:t∈rng 0 j):∃k:Nat,t= .int k/\(k:Int)<j:=by
 unfold rng at h;obtain⟨k,hk,e⟩:=LQ.mp h;rw[Mp]at hk;exact⟨k,by rw[<-e];simp,by omega⟩
theorem FI:(l:List Int)->l.length<=4->(rng 0 ((l.length:Int) - 1)).all (kZ (l.map .int))=l7 l
 | [],_=>rfl
 | [a],_=>rfl
 | [a,b],_=>by simp[rng,Qg,kZ,L2.atI,L2.ixN,l7]
 | [a,b,c],_=>by simp[rng,Qg,kZ,L2.atI,L2.ixN,l7]
 | [a,b,c,d],_=>by simp[rng,Qg,kZ,L2.atI,L2.ixN,l7,Bool.and_assoc]
 | a::b::c::d::e::r,h=>absurd h (by simp only[Lm];omega)
theorem D5 (l:List Int)(h:l.length<=4):iZ [.tup (l.map .int)] = .ok (.bl (l7 l)):=by
 have hr:iR (ae (o2 hV (cl cz (ae (vr 0) aj)) (cn (.int 1))) aj) [.va (.tup (l.map .int))] = .ok (rng 0 ((l.length:Int) - 1)):=by
  have:B1 ((l.length:Int) - 1)=true:=by unfold B1;rw[Lf];exact⟨decide_eq_true (by omega),decide_eq_true (by omega)⟩
  simp[iR,ae,aj,o2,cl,vr,cn,cz,T.items,hV,this]
 have hs:(rng 0 ((l.length:Int) - 1)).length<=sizeLine:=by
  unfold rng sizeLine;rw[Ln,NP];omega
 have e:=sk (fe:=o2 DI (o2 aU (vr 1) (vr 0)) (o2 aU (vr 1) (o2 aX (vr 0) (cn (.int 1))))) (p:=kZ (l.map .int)) (src:=[none,some 0]) hr hs (by decide) (λt ht=>by
  obtain⟨k,rfl,hk⟩:=qD ht
  have h1:(l.map T.int)[k]? =some (.int (l[k]'(by omega))):=by simp
  have h2:(l.map T.int)[k+1]? =some (.int (l[k+1]'(by omega))):=by rw[LI,Ls (by omega)];rfl
  have g1:=jH h1
  have g2:L2.atI (l.map T.int) ((k:Int)+1)=some (.int (l[k+1]'(by omega))):=jH h2
  simp[o2,vr,de,cn,aX,aU,T.items,g1,g2,sf,kZ])
 rw[FI l h]at e;simp only[iZ,val,MW,if_true,xR,bu,aI,aK]
 show(do let f <-(do let t <-cl om _ [.va (.tup (l.map .int))];Rs.ok (Fl.rt t));_)=_
 rw[e]
 rfl
def jc:List T->Option (List Int)
 | [] =>some []
 | .int i::l=>match jc l with
  | some m=>some (i::m)
  | none=>none
 | _::_=>none
def cf (t:T):Bool:=dn t 1 4&&(match t with
 | .tup l=>l.all (λu=>aN u 0 99)&&(match jc l with | some m=>l7 m | none=>false)
 | _=>false)
theorem ni:∀{l:List T} {m:List Int},jc l=some m->l=m.map .int
 | [],m,h=>by cases h;rfl
 | t::l,m,h=>by
  cases t with
  | int i=>
   unfold jc at h
   cases q:jc l with
   | none=>rw[q]at h;cases h
   | some m'=>rw[q]at h;cases h;rw[Lk,<-ni q]
  | _=>cases h
theorem qX:∀{l:List T} {a b:Int},(l.all λu=>aN u a b)=true->∃m,jc l=some m
 | [],_,_,_=>⟨[],rfl⟩
 | t::l,a,b,h=>by
  rw[List.all_cons,Lf]at h
  cases t with
  | int i=>
   obtain⟨m,e⟩:=qX h.2
   exact⟨i::m,by unfold jc;rw[e]⟩
  | _=>exact absurd h.1 (by simp[aN])
theorem cS {t:T}{a b:Nat}(h:dn t a b=true):∃l,t= .tup l/\a<=l.length/\l.length<=b:=by
 cases t with
 | tup l=>unfold dn at h;rw[Lf]at h;exact⟨l,rfl,of_decide_eq_true h.1,of_decide_eq_true h.2⟩
 | _=>cases h
theorem small {n k:Nat}(h:n<=k)(hk:autoParam (k<=1000) aqb._auto_1):n<=sizeLine:=by unfold sizeLine;omega
theorem vO (t:T)(h:t.pl=true):bH [t] = .ok (.bl (cf t)):=by
 have w:aL [t,.int 1,.int 4] = .ok (.bl (dn t 1 4)):=jF t 1 4 h;unfold cf
 cases q:dn t 1 4 with
 | false=>rw[q]at w;simp[bH,val,bu,dP,aK,aA,fH,cK,tb,sN,aI,cl,vr,cn,ae,aj,w]
 | true=>
  rw[q]at w;obtain⟨l,rfl,h1,h2⟩:=cS q
  have hp:∀u∈l,u.pl=true:=λu hu=>fL (by unfold T.pl at h;exact h) hu
  have e:=sk (fe:=cl aP (ae (vr 0) (ae (cn (.int 0)) (ae (cn (.int 99)) aj)))) (p:=λu=>aN u 0 99) (src:=[none]) (fi:=iS (vr 0)) (Z:=[.va (.tup l)]) rfl (small h2) (by decide) (λu hu=>by
   simp[cl,ae,aj,vr,cn,de,ee u 0 99 (hp u hu)])
  have w':cl aL (ae (vr 0) (ae (cn (.int 1)) (ae (cn (.int 4)) aj))) [.va (.tup l)] = .ok (.bl true):=w
  show bH _= .ok (.bl (true&&(l.all (λu=>aN u 0 99)&&(match jc l with | some m=>l7 m | none=>false))))
  cases qa:l.all λu=>aN u 0 99 with
  | false=>
   rw[qa]at e
   simp[bH,val,bu,dP,aK,aA,fH,cK,tb,sN,aI,bX,e,w']
  | true=>
   rw[qa]at e;obtain⟨m,em⟩:=qX qa
   have el:=ni em
   have er:=D5 m (by rw[el,Ln]at h2;exact h2)
   rw[<-el]at er
   have er':cl iZ (ae (vr 0) aj) [.va (.tup l)] = .ok (.bl (l7 m)):=er;simp[bH,val,bu,dP,aK,aA,fH,cK,tb,sN,aI,bX,e,w',er',em]
def at_ (t:T)(k:Nat):T:=match t.items with
 | some l=>l.getD k .non
 | none=> .non
def bf (t:T):Bool:=dn t 3 3&&(match t with
 | .tup [x,y,r] =>lP x y&&cf r
 | _=>false)
theorem Ed (t:T)(h:t.pl=true):cP [t] = .ok (.bl (bf t)):=by
 have w:aL [t,.int 3,.int 3] = .ok (.bl (dn t 3 3)):=jF t 3 3 h;unfold bf
 cases q:dn t 3 3 with
 | false=>rw[q]at w;simp[cP,val,bu,gS,aK,aI,bX,cl,vr,cn,ae,aj,w]
 | true=>
  rw[q]at w;obtain⟨l,rfl,h1,h2⟩:=cS q
  match l,h1,h2 with
  | [x,y,r],_,_=>
   simp[T.pl,plS]at h;obtain⟨px,py,pr⟩:=h
   have g0:aU (.tup [x,y,r]) (.int 0)= .ok x:=rfl
   have g1:aU (.tup [x,y,r]) (.int 1)= .ok y:=rfl
   have g2:aU (.tup [x,y,r]) (.int 2)= .ok r:=rfl
   have ep:=Hj x y px py
   have er:=vO r pr
   cases qp:lP x y with
   | false=>rw[qp]at ep;simp[cP,val,bu,gS,aK,aI,bX,cl,vr,cn,ae,aj,o2,w,g0,g1,ep,qp]
   | true=>rw[qp]at ep;simp[cP,val,bu,gS,aK,aI,bX,cl,vr,cn,ae,aj,o2,w,g0,g1,g2,ep,er,qp]
def aY (t:T):Bool:=dn t 1 4&&(match t with
 | .tup l=>l.all bf
 | _=>false)
theorem Bt (t:T)(h:t.pl=true):cX [t] = .ok (.bl (aY t)):=by
 have w:aL [t,.int 1,.int 4] = .ok (.bl (dn t 1 4)):=jF t 1 4 h;unfold aY
 cases q:dn t 1 4 with
 | false=>rw[q]at w;simp[cX,val,bu,gU,aK,aI,bX,cl,vr,cn,ae,aj,w]
 | true=>
  rw[q]at w;obtain⟨l,rfl,h1,h2⟩:=cS q
  have hp:∀u∈l,u.pl=true:=λu hu=>fL (by unfold T.pl at h;exact h) hu
  have e:=sk (fe:=cl cP (ae (vr 0) aj)) (p:=bf) (src:=[none]) (fi:=iS (vr 0)) (Z:=[.va (.tup l)]) rfl (small h2) (by decide) (λu hu=>by
   simp[cl,ae,aj,vr,cn,de,Ed u (hp u hu)])
  have w':cl aL (ae (vr 0) (ae (cn (.int 1)) (ae (cn (.int 4)) aj))) [.va (.tup l)] = .ok (.bl true):=w;simp[cX,val,bu,gU,aK,aI,bX,e,w']
def cp (x y:T):Bool:=aN x 0 999&&(match x,y with
 | _,.non=>true
 | .int i,_=>aN y i 999
 | _,_=>false)
theorem D9 (x y:T)(hx:x.pl=true)(hy:y.pl=true):dm [x,y] = .ok (.bl (cp x y)):=by
 have w:=ee x 0 999 hx;unfold cp
 cases q:aN x 0 999 with
 | false=>rw[q]at w;simp[dm,val,bu,gR,aK,aI,bX,vr,cn,cl,ae,aj,w]
 | true=>
  rw[q]at w
  cases x with
  | int i=>
   have e:=ee y i 999 hy
   cases y with
   | non=>simp[dm,val,bu,gR,aK,aI,bX,BZ,vr,cn,cl,ae,aj,o2,jC,T.isN,w]
   | _=>simp[dm,val,bu,gR,aK,aI,bX,BZ,vr,cn,cl,ae,aj,o2,jC,T.isN,w,e]
  | _=>cases q
def reads (cs:List T)(c:Int):Nat:=if 0<=c then(match cs[c.toNat]? with
 | some (.tup [_,_,.tup r])=>r.length
 | _=>0)else 0
def aO (cs:List T)(t:T):Bool:=match t with
 | .tup [.int c,.int k] =>decide (0<=c)&&decide (c<cs.length)&&(decide (0<=k)&&decide (k<reads cs c))
 | _=>false
theorem lL {t:T}(h:bf t=true):∃x y r,t= .tup [x,y,.tup r]:=by
 unfold bf at h;rw[Lf]at h;obtain⟨h1,h2⟩:=h;obtain⟨l,rfl,h3,h4⟩:=cS h1
 match l,h3,h4,h2 with
 | [x,y,r],_,_,h2=>
  simp only[Lf]at h2;obtain⟨_,h5⟩:=h2;unfold cf at h5;rw[Lf]at h5;obtain⟨m,rfl,_⟩:=cS h5.1;exact⟨x,y,m,rfl⟩
theorem bo {t:T}{a b:Int}(h:aN t a b=true):∃i,t= .int i/\a<=i/\i<=b:=by
 cases t with
 | int i=>unfold aN at h;rw[Lf]at h;exact⟨i,rfl,of_decide_eq_true h.1,of_decide_eq_true h.2⟩
 | _=>cases h
theorem rZ (cs:List T)(t:T)(hc:aY (.tup cs)=true)(h:t.pl=true):cg [.tup cs,t] = .ok (.bl (aO cs t)):=by
 have w:aL [t,.int 2,.int 2] = .ok (.bl (dn t 2 2)):=jF t 2 2 h
 cases q:dn t 2 2 with
 | false=>
  rw[q]at w
  have:aO cs t=false:=by
   unfold aO;split
   ·cases q
   ·rfl
  simp[cg,val,bu,gQ,aK,aA,fH,kA,cK,tb,sN,aI,cl,vr,cn,ae,aj,w,this]
 | true=>
  rw[q]at w;obtain⟨l,rfl,h1,h2⟩:=cS q
  match l,h1,h2 with
  | [x,y],_,_=>
   simp[T.pl,plS]at h;obtain⟨px,py⟩:=h
   have g0:aU (.tup [x,y]) (.int 0)= .ok x:=rfl
   have g1:aU (.tup [x,y]) (.int 1)= .ok y:=rfl
   have gl:cz [.tup cs] = .ok (.int cs.length):=rfl
   have e1:=ee x 0 ((cs.length:Int) - 1) px
   cases q1:aN x 0 ((cs.length:Int) - 1)with
   | false=>
    rw[q1]at e1
    have:aO cs (.tup [x,y])=false:=by
     cases x with
     | int c=>
      cases y with
      | int k=>
       simp only[aN,Qh,decide_eq_false_iff_not]at q1;simp only[aO,Qh,decide_eq_false_iff_not]
       omega
      | _=>rfl
     | _=>rfl
    simp[cg,val,bu,gQ,aK,aA,fH,kA,cK,tb,sN,aI,cl,vr,cn,ae,aj,o2,hV,w,g0,gl,e1,this]
   | true=>
    rw[q1]at e1;obtain⟨c,rfl,c1,c2⟩:=bo q1;obtain⟨n,rfl⟩:=L0 c1
    have hn:n<cs.length:=by omega
    have hcl:bf cs[n] =true:=by
     unfold aY at hc;rw[Lf]at hc;exact LK.mp hc.2 _ (MB hn)
    obtain⟨a,b,r,er⟩:=lL hcl
    have g2:aU (.tup cs) (.int (n:Int))= .ok (.tup [a,b,.tup r]):=by
     simp only[aU,T.items];rw[jH (Ls hn),er]
    have g3:aU (.tup [a,b,.tup r]) (.int 2)= .ok (.tup r):=rfl
    have gr:cz [.tup r] = .ok (.int r.length):=rfl
    have e2:=ee y 0 ((r.length:Int) - 1) py
    have:aO cs (.tup [.int n,y])=aN y 0 ((r.length:Int) - 1):=by
     have er2:reads cs (n:Int)=r.length:=by
      unfold reads;rw[if_pos c1,Mr,Ls hn,er]
     cases y with
     | int k=>
      simp only[aO,aN,er2];rw[decide_eq_true c1,decide_eq_true (show(n:Int)<cs.length by omega)]
      simp only[Nz]
      congr 1
      exact decide_eq_decide.mpr (by omega)
     | _=>rfl
    simp[cg,val,bu,gQ,aK,aA,fH,kA,cK,tb,sN,aI,cl,vr,cn,ae,aj,o2,hV,w,g0,g1,g2,g3,gl,gr,e1,e2,this]
def a7 (cs:List T)(t:T):Bool:=match t with
 | .tup [a,b,x,y] =>cp x y&&(aO cs a&&(aO cs b&& !aV a b))
 | _=>false
theorem cU {cs:List T}{t:T}(h:aO cs t=true):∃c k:Int,t= .tup [.int c,.int k]:=by
 unfold aO at h
 split at h
 ·exact⟨_,_,rfl⟩
 ·cases h
theorem Bo (cs:List T)(t:T)(hc:aY (.tup cs)=true)(h:t.pl=true):bO [.tup cs,t] = .ok (.bl (a7 cs t)):=by
 have w:aL [t,.int 4,.int 4] = .ok (.bl (dn t 4 4)):=jF t 4 4 h
 cases q:dn t 4 4 with
 | false=>
  rw[q]at w
  have:a7 cs t=false:=by
   unfold a7;split
   ·cases q
   ·rfl
  simp[bO,val,bu,dw,aK,aA,fH,kA,cK,tb,sN,aI,cl,vr,cn,ae,aj,w,this]
 | true=>
  rw[q]at w;obtain⟨l,rfl,h1,h2⟩:=cS q
  match l,h1,h2 with
  | [a,b,x,y],_,_=>
   simp[T.pl,plS]at h;obtain⟨pa,pb,px,py⟩:=h
   have g0:aU (.tup [a,b,x,y]) (.int 0)= .ok a:=rfl
   have g1:aU (.tup [a,b,x,y]) (.int 1)= .ok b:=rfl
   have g2:aU (.tup [a,b,x,y]) (.int 2)= .ok x:=rfl
   have g3:aU (.tup [a,b,x,y]) (.int 3)= .ok y:=rfl
   have e1:=D9 x y px py
   have e2:=rZ cs a hc pa
   have e3:=rZ cs b hc pb
   show _=Rs.ok (T.bl (cp x y&&(aO cs a&&(aO cs b&& !aV a b))))
   cases q1:cp x y with
   | false=>
    rw[q1]at e1
    simp[bO,val,bu,dw,aK,aA,fH,kA,cK,tb,sN,aI,cl,vr,cn,ae,aj,o2,w,g2,g3,e1]
   | true=>
    rw[q1]at e1
    cases q2:aO cs a with
    | false=>
     rw[q2]at e2
     simp[bO,val,bu,dw,aK,aA,fH,kA,cK,tb,sN,aI,bX,cl,vr,cn,ae,aj,o2,w,g0,g2,g3,e1,e2]
    | true=>
     rw[q2]at e2
     cases q3:aO cs b with
     | false=>
      rw[q3]at e3
      simp[bO,val,bu,dw,aK,aA,fH,kA,cK,tb,sN,aI,bX,cl,vr,cn,ae,aj,o2,w,g0,g1,g2,g3,e1,e2,e3]
     | true=>
      rw[q3]at e3;obtain⟨c,k,rfl⟩:=cU q2
      have f:fA (.tup [.int c,.int k]) b=true:=fz (by simp[T.dep,deps]) rfl (T.Kg _ pb)
      have g4:kS (.tup [.int c,.int k]) b= .ok (.bl (!aV (.tup [.int c,.int k]) b)):=by unfold kS;rw[if_pos f]
      simp[bO,val,bu,dw,aK,aA,fH,kA,cK,tb,sN,aI,bX,cl,vr,cn,ae,aj,o2,w,g0,g1,g2,g3,g4,e1,e2,e3]
def i5 (cs:List T)(t:T):Bool:=dn t 0 8&&(match t with
 | .tup l=>l.all (a7 cs)
 | _=>false)
theorem yE (cs:List T)(t:T)(hc:aY (.tup cs)=true)(h:t.pl=true):cJ [.tup cs,t] = .ok (.bl (i5 cs t)):=by
 have w:aL [t,.int 0,.int 8] = .ok (.bl (dn t 0 8)):=jF t 0 8 h;unfold i5
 cases q:dn t 0 8 with
 | false=>rw[q]at w;simp[cJ,val,bu,gp,aK,aI,bX,cl,vr,cn,ae,aj,w]
 | true=>
  rw[q]at w;obtain⟨l,rfl,h1,h2⟩:=cS q
  have hp:∀u∈l,u.pl=true:=λu hu=>fL (by unfold T.pl at h;exact h) hu
  have e:=sk (fe:=cl bO (ae (vr 1) (ae (vr 0) aj))) (p:=a7 cs) (src:=[none,some 0]) (fi:=iS (vr 1)) (Z:=[.va (.tup cs),.va (.tup l)]) rfl (small h2) (by decide) (λu hu=>by
   simp[cl,ae,aj,vr,cn,de,Bo cs u hc (hp u hu)])
  have w':cl aL (ae (vr 1) (ae (cn (.int 0)) (ae (cn (.int 8)) aj))) [.va (.tup cs),.va (.tup l)] = .ok (.bl true):=w;simp[cJ,val,bu,gp,aK,aI,bX,e,w']
def dM (t:T):Bool:=match t with
 | .tup [.tup cs,ls] =>aY (.tup cs)&&i5 cs ls
 | _=>false
theorem ur (t:T)(h:t.pl=true):cO [t] = .ok (.bl (dM t)):=by
 have w:aL [t,.int 2,.int 2] = .ok (.bl (dn t 2 2)):=jF t 2 2 h
 cases q:dn t 2 2 with
 | false=>
  rw[q]at w
  have:dM t=false:=by
   unfold dM;split
   ·cases q
   ·rfl
  simp[cO,val,bu,fS,aK,aI,bX,cl,vr,cn,ae,aj,w,this]
 | true=>
  rw[q]at w;obtain⟨l,rfl,h1,h2⟩:=cS q
  match l,h1,h2 with
  | [x,y],_,_=>
   simp[T.pl,plS]at h;obtain⟨px,py⟩:=h
   have g0:aU (.tup [x,y]) (.int 0)= .ok x:=rfl
   have g1:aU (.tup [x,y]) (.int 1)= .ok y:=rfl
   have e1:=Bt x px
   cases q1:aY x with
   | false=>
    rw[q1]at e1
    have:dM (.tup [x,y])=false:=by
     cases x with
     | tup cs=>show(aY (.tup cs)&&_)=false;rw[q1];rfl
     | _=>rfl
    simp[cO,val,bu,fS,aK,aI,bX,cl,vr,cn,ae,aj,o2,w,g0,e1,this]
   | true=>
    rw[q1]at e1
    cases x with
    | tup cs=>
     have e2:=yE cs y q1 py
     have:dM (.tup [.tup cs,y])=i5 cs y:=by show(aY (.tup cs)&&_)=_;rw[q1];rfl
     simp[cO,val,bu,fS,aK,aI,bX,cl,vr,cn,ae,aj,o2,w,g0,g1,e1,e2,this]
    | _=>cases q1
theorem eR:∀m:List Int,deps (m.map .int)=0
 | [] =>rfl
 | a::m=>by rw[Lk,deps,eR m];rfl
def lV (i n:Nat):List T:=(rng 0 n).map λt=>T.tup [.int i,t]
def EI:T->Nat
 | .tup [_,_,.tup r] =>r.length
 | _=>0
def dQ:Nat->List T->List T
 | _,[] => []
 | i,c::r=>lV i (EI c)++dQ (i+1) r
theorem ef {t:T}(h:bf t=true):∃x y r,t= .tup [x,y,.tup r]/\1<=r.length/\r.length<=4:=by
 obtain⟨x,y,r,rfl⟩:=lL h
 have:cf (.tup r)=true:=by
  have h':(lP x y&&cf (.tup r))=true:=h;rw[Lf]at h';exact h'.2
 unfold cf at this;rw[Lf]at this;obtain⟨l,e,h1,h2⟩:=cS this.1;cases e;exact⟨x,y,r,rfl,h1,h2⟩
theorem fB (i n:Nat):(lV i n).length=n:=by unfold lV;rw[Ln,j5]
abbrev evF:En->Rs Fl:=cv (o2 aX (vr 1) (hW (iR (ae (cl cz (ae (o2 aU (vr 3) (cn (.int 2))) aj)) aj)) [none,some 2] (gN 0) bT (bJ (ae (vr 1) (ae (vr 0) aj))))) (gN 1)
abbrev evG:T->En->Rs En:=gT 2 (ue (gN 2) (ue (gN 3) B2))
theorem Ha {f:En->Rs (List T)}{Z:En}{j:Int}(h:f Z= .ok [.int j])(h0:0<=j)(h1:j<=100000):iR f Z= .ok (rng 0 j):=by
 have e:B1 j=true:=by unfold B1;rw[Lf];exact⟨decide_eq_true (by omega),decide_eq_true (by omega)⟩
 unfold iR;rw[h]
 show(if B1 j=true then _ else _)=_
 rw[e];rfl
theorem sy (l m:List T)(h:(l++m).length<=1000):aX (.lst l) (.lst m)= .ok (.lst (l++m)):=by
 show jr (l++m)=_
 unfold jr;rw[if_pos (aD h)]
theorem xK (l m:List T)(h:(l++m).length<=1000):aX (.tup l) (.tup m)= .ok (.tup (l++m)):=by
 show jq (l++m)=_
 unfold jq;rw[if_pos (aD h)]
theorem JI (c0 acc x y:T)(r:List T)(i:Nat)(h:r.length<=4) :
  hW (iR (ae (cl cz (ae (o2 aU (vr 3) (cn (.int 2))) aj)) aj)) [none,some 2] (gN 0) bT (bJ (ae (vr 1) (ae (vr 0) aj))) [.va c0,.va acc,.va (.int i),.va (.tup [x,y,.tup r])] = .ok (.lst (lV i r.length)):=
 uc (Ha (j:=(r.length:Int)) rfl (by omega) (by omega)) (aD (k:=4) (by rw[j5];exact h)) (by simp) λt _=>mk2 _ _
theorem DW (c0 x y:T)(acc r:List T)(i:Nat)(h:r.length<=4)(ha:acc.length<=100):evF [.va c0,.va (.lst acc),.va (.int i),.va (.tup [x,y,.tup r])] = .ok (.nx [.va c0,.va (.lst (acc++lV i r.length)),.va (.int i),.va (.tup [x,y,.tup r])]):=
 bQ (aG (t:=.lst acc) rfl (JI c0 (.lst acc) x y r i h) (sy _ _ (by rw[Lo,fB];omega))) rfl
theorem xq:∀(cs:List T) (c0:T) (acc:List T) (i:Nat) (s2 s3:Sl),(∀c∈cs,bf c=true)->acc.length+4*cs.length<=100 →
  ∃y2 y3,bp evG evF (cI i cs) [.va c0,.va (.lst acc),s2,s3] = .ok (.nx [.va c0,.va (.lst (acc++dQ i cs)),y2,y3])
 | [],c0,acc,i,s2,s3,_,_=>⟨s2,s3,by simp[cI,bp,dQ]⟩
 | c::cs,c0,acc,i,s2,s3,hc,hl=>by
  obtain⟨x,y,r,rfl,r1,r2⟩:=ef (hc c Ll);rw[Lm]at hl;obtain⟨z2,z3,ih⟩:=xq cs c0 (acc++lV i r.length) (i+1) (.va (.int i)) (.va (.tup [x,y,.tup r])) (λc h=>hc c (Lg _ h)) (by rw[Lo,fB];omega)
  refine⟨z2,z3,?_⟩
  rw[cI,fq (Z1:=[.va c0,.va (.lst acc),.va (.int i),.va (.tup [x,y,.tup r])]) rfl (DW c0 x y acc r i r2 (by omega)),ih,dQ,Ms]
  rfl
theorem bL {cs:List T}(hc:aY (.tup cs)=true):(∀c∈cs,bf c=true)/\1<=cs.length/\cs.length<=4:=by
 unfold aY at hc;rw[Lf]at hc;obtain⟨l,e,h1,h2⟩:=cS hc.1;cases e;exact⟨λc h=>LK.mp hc.2 c h,h1,h2⟩
theorem Br (cs:List T)(hc:aY (.tup cs)=true):da [.tup cs] = .ok (.lst (dQ 0 cs)):=by
 obtain⟨ha,h1,h2⟩:=bL hc;obtain⟨y2,y3,e⟩:=xq cs (.tup cs) [] 0 .em .em ha (by simp;omega)
 rw[OU]at e;refine bA rfl ?_
 unfold ju;rw[aC (Z':=[.va (.tup cs),.va (.lst []),.em,.em]) rfl,aC ((g8 (ts:=cI 0 cs) rfl e))]
 rfl
theorem DF {n k:Nat}(h:k<n):T.int (k:Int)∈rng 0 (n:Int):=by
 unfold rng;exact LQ.mpr ⟨k,Mp.mpr (by omega),by simp⟩
theorem pE (cs:List T)(c:Nat):reads cs (c:Int)=EI (cs.getD c .non):=by
 unfold reads;rw[if_pos (by omega),Mr,NT]
 cases cs[c]? with
 | none=>rfl
 | some t=>
  cases t with
  | tup l=>
   match l with
   | [] =>rfl
   | [_] =>rfl
   | [_,_] =>rfl
   | [_,_,z] =>cases z <;> rfl
   | _::_::z::_::_=>cases z <;> rfl
  | _=>rfl
mutual
def sm (n:Nat):T->Bool
 | .dct _ _=>false
 | .ob _ _ _=>false
 | .scr _=>false
 | .tup l=>decide (l.length<=n)&&sms n l
 | .lst l=>decide (l.length<=n)&&sms n l
 | _=>true
def sms (n:Nat):List T->Bool
 | [] =>true
 | t::l=>sm n t&&sms n l
end
mutual
theorem zv {n:Nat}:∀(t:T),sm n t=true->t.pl=true
 | .scr _,h=>by simp[sm]at h
 | .dct _ _,h=>by simp[sm]at h
 | .ob _ _ _,h=>by simp[sm]at h
 | .tup l,h=>by rw[sm,Lf]at h;rw[T.pl];exact sms_pl l h.2
 | .lst l,h=>by rw[sm,Lf]at h;rw[T.pl];exact sms_pl l h.2
 | .non,_=>by simp[T.pl]
 | .bl _,_=>by simp[T.pl]
 | .int _,_=>by simp[T.pl]
 | .str _,_=>by simp[T.pl]
theorem sms_pl {n:Nat}:∀(l:List T),sms n l=true->plS l=true
 | [],_=>by simp[plS]
 | t::l,h=>by rw[sms,Lf]at h;rw[plS,zv t h.1,sms_pl l h.2];rfl
end
theorem wo {n:Nat}:∀{l:List T},sms n l=true↔ ∀t∈l,sm n t=true
 | [] =>by simp[sms]
 | t::l=>by rw[sms,Lf,wo (l:=l)];simp
theorem sm_tup {n:Nat}{l:List T}:sm n (.tup l)=true↔l.length<=n/\∀t∈l,sm n t=true:=by rw[sm,Lf,wo,decide_eq_true_iff]
theorem jA {i j:Int}(h:0<j):kc (.int i) (.int j)= .ok (.int (i % j)):=by show(if _ then _ else _)=_;rw[if_pos h]
theorem mw {i j:Int}(h:0<j)(h2:j<1073741824):km (.int i) (.int j)= .ok (.int (i / j)):=by show(if _ then _ else _)=_;rw[if_pos ⟨h,h2⟩]
theorem lG {i j:Int}(h : -18446744073709551616<i)(h2:i<18446744073709551616):bY (.int i) (.int j)= .ok (.int (i*j)):=by
 show vo (.int i) (.int j)=_
 show(if _ then _ else _)=_
 rw[if_pos (.inl ⟨by omega,by omega⟩)]
theorem Aj {i j:Int}(h : -18446744073709551616<j)(h2:j<18446744073709551616):bY (.int i) (.int j)= .ok (.int (i*j)):=by
 show vo (.int i) (.int j)=_
 show(if _ then _ else _)=_
 rw[if_pos (.inr ⟨by omega,by omega⟩)]
theorem Hn (ns:List Int)(k:Nat)(hn:ns.length<=63):∃c,d6 [.scr ns,.int k] = .ok (.int c):=by
 have e0:o2 o8 (vr 0) (eM aj) [.va (.scr ns),.va (.int k)] = .ok (.bl (jt ns [])):=by
  refine aG (t:=.scr ns) (u:=.lst []) rfl (kj (ts:=[]) rfl (aD (k:=0) (Lv _))) ?_
  unfold o8;rw[if_pos (fz (by simp[T.dep]) rfl rfl)]
  rfl
 cases ns with
 | nil=>
  refine⟨7*k,bA rfl ?_⟩
  unfold iO
  refine gd ((gG (bV e0)).trans (cb (aG (t:=.int 7) (u:=.int k) rfl rfl (lG (by omega) (by omega)))))
 | cons a r=>
  have hl:(0:Int)<((a::r).length:Nat):=by simp only[Lm];omega
  have hl2:(((a::r).length:Nat):Int)<1073741824:=by simp only[Lm]at hn ⊢;omega
  have hi:k % (a::r).length<(a::r).length:=Nat.mod_lt _ (by simp)
  have g0:o2 kc (vr 1) (cl cz (ae (vr 0) aj)) [.va (.scr (a::r)),.va (.int k)] = .ok (.int ((k % (a::r).length:Nat):Int)):=by
   refine aG (t:=.int k) (u:=.int ((a::r).length:Nat)) rfl ?_ (by rw[jA hl];rfl)
   refine aS (ts:=[.scr (a::r)]) rfl ?_
   show Rs.ok (T.int (((a::r).map T.int).length:Nat))=_
   rw[Ln]
  have g1:aU (.scr (a::r)) (.int ((k % (a::r).length:Nat):Int))= .ok (.int (a::r)[k % (a::r).length]):=by
   have e:((a::r).map T.int)[k % (a::r).length]? =some (.int (a::r)[k % (a::r).length]):=by rw[LI,Ls hi];rfl
   show(match L2.atI ((a::r).map T.int) ((k % (a::r).length:Nat):Int)with | some t=>Rs.ok t | none=> .bad)=_
   rw[jH e]
  have g2:o2 km (vr 1) (cl cz (ae (vr 0) aj)) [.va (.scr (a::r)),.va (.int k)] = .ok (.int ((k:Int) / ((a::r).length:Nat))):=by
   refine aG (t:=.int k) (u:=.int ((a::r).length:Nat)) rfl ?_ (mw hl hl2)
   refine aS (ts:=[.scr (a::r)]) rfl ?_
   show Rs.ok (T.int (((a::r).map T.int).length:Nat))=_
   rw[Ln]
  refine⟨(a::r)[k % (a::r).length] +6553*((k:Int) / ((a::r).length:Nat)),bA rfl ?_⟩
  unfold iO
  show aA _ _ [.va (.scr (a::r)),.va (.int k)] =_
  refine(aC (Z':=[.va (.scr (a::r)),.va (.int k)]) ((dR (bV e0)).trans rfl)).trans ?_
  exact cb (aG (aG (t:=.scr (a::r)) rfl g0 g1) (aG (t:=.int 6553) rfl g2 (lG (by omega) (by omega))) rfl)
theorem cZ (ns:List Int)(k:Nat)(m:Int)(hn:ns.length<=63)(hm:0<m):∃r,aB [.scr ns,.int k,.int m] = .ok (.int r)/\0<=r/\r<m:=by
 obtain⟨c,hc⟩:=Hn ns k hn
 have b1:∀x:Int,0<=x % 2147483563/\x % 2147483563<2147483563:=λx=>⟨Qi _ (by omega),Pe _ (by omega)⟩
 have b2:∀x:Int,0<=x % 2147483399/\x % 2147483399<2147483399:=λx=>⟨Qi _ (by omega),Pe _ (by omega)⟩
 generalize hx:(c % 2147483563*69069+104723*((k:Int)+1)) % 2147483563=x
 have hx':=b1 (c % 2147483563*69069+104723*((k:Int)+1));rw[hx]at hx'
 generalize hy:(x*x+x / 3) % 2147483399=y
 have hy':=b2 (x*x+x / 3);rw[hy]at hy';refine⟨(y*y+y / 7) % 2147483647 / 11 % m,bA rfl ?_,Qi _ (by omega),Pe _ hm⟩
 show gV [.va (.scr ns),.va (.int k),.va (.int m),.em] =_
 unfold gV
 have s1:cv (o2 kc (o2 aX (o2 bY (o2 kc (cl d6 (ae (vr 0) (ae (vr 1) aj))) (cn (.int 2147483563))) (cn (.int 69069))) (o2 bY (cn (.int 104723)) (o2 aX (vr 1) (cn (.int 1))))) (cn (.int 2147483563))) (gN 3) [.va (.scr ns),.va (.int k),.va (.int m),.em] = .ok (.nx [.va (.scr ns),.va (.int k),.va (.int m),.va (.int x)]):=by
  refine bQ (t:=.int x) (aG (u:=.int 2147483563) (aG (aG (u:=.int 69069) (aG (u:=.int 2147483563) (aS (ts:=[.scr ns,.int k]) rfl hc) rfl (jA (by omega))) rfl (Aj (by omega) (by omega))) (aG (t:=.int 104723) (u:=.int ((k:Int)+1)) rfl rfl (lG (by omega) (by omega))) rfl) rfl ?_) rfl
  rw[jA (by omega),hx]
 have s2:cv (o2 kc (o2 aX (o2 bY (vr 3) (vr 3)) (o2 km (vr 3) (cn (.int 3)))) (cn (.int 2147483399))) (gN 3) [.va (.scr ns),.va (.int k),.va (.int m),.va (.int x)] = .ok (.nx [.va (.scr ns),.va (.int k),.va (.int m),.va (.int y)]):=by
  refine bQ (t:=.int y) (aG (u:=.int 2147483399) (aG (aG (t:=.int x) (u:=.int x) rfl rfl (lG (by omega) (by omega))) (aG (t:=.int x) (u:=.int 3) rfl rfl (mw (by omega) (by omega))) rfl) rfl ?_) rfl
  rw[jA (by omega),hy]
 rw[aC s1,aC s2];exact cb (aG (u:=.int m) (aG (u:=.int 11) (aG (u:=.int 2147483647) (aG (aG (t:=.int y) (u:=.int y) rfl rfl (lG (by omega) (by omega))) (aG (t:=.int y) (u:=.int 7) rfl rfl (mw (by omega) (by omega))) rfl) rfl (jA (by omega))) rfl (mw (by omega) (by omega))) rfl (jA hm))
theorem dj {ns:List Int}{k:Nat}{m r:Int}{f g h:En->Rs T}{Z:En}(e:aB [.scr ns,.int k,.int m] = .ok (.int r))(h1:f Z= .ok (.scr ns))(h2:g Z= .ok (.int k))(h3:h Z= .ok (.int m)) :
  cl aB (ae f (ae g (ae h aj))) Z= .ok (.int r):=aS (au h1 (au h2 (au h3 rfl))) e
theorem tp:∀(l:List Int) (z y:Int),l7 (l++ [z])=true->z<y->l7 (l++ [z] ++ [y])=true
 | [],z,y,_,h=>by simp[l7,h]
 | [a],z,y,h,hy=>by
  simp[l7]at h ⊢
  omega
 | a::b::l,z,y,h,hy=>by
  have h':l7 (a::b::(l++ [z]))=true:=h;rw[CA,Lf]at h'
  have ih:=tp (b::l) z y h'.2 hy
  show l7 (a::b::(l++ [z] ++ [y]))=true
  rw[CA,h'.1];exact ih
theorem ix:∀l:List Int,jc (l.map .int)=some l
 | [] =>rfl
 | a::l=>by rw[Lk,jc,ix l]
def RdOk (l:List Int):Prop:=∃(l':List Int) (z:Int),l=l'++ [z]/\l7 l=true/\(∀x∈l,0<=x/\x<=5*l.length)/\z<=5*l.length
abbrev clF:En->Rs Fl:=cv (o2 aX (vr 3) (bJ (ae (o2 aX (o2 aX (o2 aU (vr 3) (o1 o7 (cn (.int 1)))) (cn (.int 1))) (cl aB (ae (vr 0) (ae (o2 aX (o2 aX (vr 1) (cn (.int 3))) (vr 4)) (ae (cn (.int 5)) aj))))) aj))) (gN 3)
theorem xh (l:List T)(z:T):aU (.tup (l++ [z])) (.int (-1))= .ok z:=by
 have e:L2.atI (l++ [z]) (-1)=some z:=by
  unfold L2.atI L2.ixN;simp;rw[if_pos (by omega)]
  have q:(-1+((l.length:Int)+1)).toNat=l.length:=by omega
  show(l++ [z])[(-1+((l.length:Int)+1)).toNat]? =some z
  rw[q];simp
 show(match L2.atI (l++ [z]) (-1)with | some t=>Rs.ok t | none=> .bad)=_
 rw[e]
theorem Eh (ns:List Int)(hn:ns.length<=63)(a j:Nat)(s:T)(l:List Int)(h:RdOk l)(hl:l.length<=3):∃l2,clF [.va (.scr ns),.va (.int a),.va s,.va (.tup (l.map .int)),.va (.int j)] = .ok (.nx [.va (.scr ns),.va (.int a),.va s,.va (.tup (l2.map .int)),.va (.int j)])/\RdOk l2/\l2.length=l.length+1:=by
 obtain⟨l',z,rfl,h1,h2,h3⟩:=h;obtain⟨d,ed,d0,d1⟩:=cZ ns (a+3+j) 5 hn (by omega)
 refine⟨l'++ [z] ++ [z+1+d],?_,⟨l'++ [z],z+1+d,rfl,tp l' z _ h1 (by omega),?_,?_⟩,by simp⟩
 ·refine bQ (t:=.tup ((l'++ [z] ++ [z+1+d]).map .int)) (aG (t:=.tup ((l'++ [z]).map .int)) (u:=.tup [.int (z+1+d)]) rfl (cT (ts:=[.int (z+1+d)]) (au (aG (t:=.int (z+1)) (u:=.int d) (aG (t:=.int z) (u:=.int 1) (aG (t:=.tup ((l'++ [z]).map .int)) (u:=.int (-1)) rfl rfl ?_) rfl rfl) (dj (k:=a+3+j) ed rfl ?_ rfl) rfl) rfl) (aD (k:=1) (by simp))) ?_) rfl
  ·rw[MY];exact xh _ _
  ·refine aG (t:=.int ((a:Int)+3)) (u:=.int j) (aG (t:=.int a) (u:=.int 3) rfl rfl rfl) rfl ?_
   show Rs.ok (T.int ((a:Int)+3+j))=_
   congr 2
  ·rw[MY (l₁:=l'++ [z])]
   exact xK _ _ (by rw[Lo,Ln];simp at hl ⊢;omega)
 ·intro x hx
  rcases LH.mp hx with hx | hx
  ·have:=h2 x hx
   simp only[Lo,MW]at this ⊢;omega
  ·rw[Ly]at hx
   subst hx
   have hz:=h2 z (by simp)
   simp only[Lo,MW]at h3 ⊢;omega
 ·simp only[Lo,MW]at h3 ⊢
  omega
theorem xF (ns:List Int)(hn:ns.length<=63)(a:Nat)(s:T):∀(js:List Nat) (l:List Int) (s4:Sl),RdOk l->l.length+js.length<=4->∃l2 s5,bp (gN 4) clF (js.map λ(j:Nat)=>T.int j) [.va (.scr ns),.va (.int a),.va s,.va (.tup (l.map .int)),s4] = .ok (.nx [.va (.scr ns),.va (.int a),.va s,.va (.tup (l2.map .int)),s5])/\RdOk l2/\l2.length=l.length+js.length
 | [],l,s4,h,_=>⟨l,s4,rfl,h,rfl⟩
 | j::js,l,s4,h,hl=>by
  rw[Lm]at hl;obtain⟨l2,e2,h2,n2⟩:=Eh ns hn a j s l h (by omega)
  obtain⟨l3,s5,e3,h3,n3⟩:=xF ns hn a s js l2 (.va (.int j)) h2 (by omega)
  refine⟨l3,s5,?_,h3,by rw[n3,n2,Lm];omega⟩
  rw[Lk,fq (Z1:=[.va (.scr ns),.va (.int a),.va s,.va (.tup (l.map .int)),.va (.int j)]) rfl e2];exact e3
theorem l6 (n:Nat):rng 0 (n:Int)=(L6 n).map λ(j:Nat)=>T.int j:=by
 unfold rng;simp
theorem RdOk.reads {l:List Int}(h:RdOk l)(hl:l.length<=4):cf (.tup (l.map .int))=true:=by
 obtain⟨l',z,rfl,h1,h2,h3⟩:=h;unfold cf;rw[Lf];refine⟨?_,?_⟩
 ·simp[dn];simp at hl;omega
 ·show(((l'++ [z]).map T.int).all (λu=>aN u 0 99)&&(match jc ((l'++ [z]).map T.int)with | some m=>l7 m | none=>false))=true
  rw[ix]
  show(_&&l7 (l'++ [z]))=true
  rw[h1,Q6,LK];intro t ht;obtain⟨x,hx,rfl⟩:=LQ.mp ht
  have:=h2 x hx;simp only[aN,Lf,decide_eq_true_eq];omega
theorem Ct (n:Nat)(l:List Int)(h:l.length<=n):sm n (.tup (l.map .int))=true:=sm_tup.mpr ⟨by rw[Ln];exact h,λt ht=>by obtain⟨x,_,rfl⟩:=LQ.mp ht;simp[sm]⟩
def Dc (c:T):Prop:=∃(x y:Int) (l:List Int),c= .tup [.int x,.int y,.tup (l.map .int)]/\RdOk l/\l.length<=3/\x<=3
theorem Bs (ns:List Int)(hn:ns.length<=63)(a:Nat):∃c,b8 [.scr ns,.int a] = .ok c/\bf c=true/\sm 8 c=true/\Dc c:=by
 obtain⟨d1,e1,p1,q1⟩:=cZ ns a 3 hn (by omega)
 obtain⟨d2,e2,p2,q2⟩:=cZ ns (a+2) 6 hn (by omega)
 obtain⟨d3,e3,p3,q3⟩:=cZ ns (a+1) 3 hn (by omega)
 obtain⟨d4,e4,p4,q4⟩:=cZ ns (a+6) 3 hn (by omega)
 obtain⟨n3,rfl⟩:=L0 p3;obtain⟨l,s5,el,hl,nl⟩:=xF ns hn a (.int (1+d1)) (L6 n3) [d2] .em ⟨[],d2,rfl,rfl,λx hx=>by rw[Ly]at hx;subst hx;simp;omega,by simp;omega⟩ (by simp;omega)
 have nl':l.length<=4:=by rw[nl];simp;omega
 have hr:=hl.reads nl';refine⟨.tup [.int (1+d1),.int (1+d1+d4),.tup (l.map .int)],bA rfl ?_,?_,?_,⟨_,_,l,rfl,hl,by rw[nl];simp;omega,by omega⟩⟩
 ·show gW [.va (.scr ns),.va (.int a),.em,.em,.em] =_
  unfold gW;rw[aC (Z':=[.va (.scr ns),.va (.int a),.va (.int (1+d1)),.em,.em]) (bQ (t:=.int (1+d1)) (aG (t:=.int 1) rfl (dj e1 rfl rfl rfl) rfl) rfl)];rw[aC (Z':=[.va (.scr ns),.va (.int a),.va (.int (1+d1)),.va (.tup ([d2].map .int)),.em]) (bQ (t:=.tup [.int d2]) (cT (ts:=[.int d2]) (au (dj (k:=a+2) e2 rfl rfl rfl) rfl) (aD (k:=1) (by simp))) rfl)]
  rw[aC ((g8 (Ha (au (dj (k:=a+1) e3 rfl rfl rfl) rfl) (by omega) (by omega)) (by rw[l6];exact el)))]
  exact cb (cT (au (t:=.int (1+d1)) rfl (au (aG (t:=.int (1+d1)) rfl (dj (k:=a+6) e4 rfl rfl rfl) rfl) (au (t:=.tup (l.map .int)) rfl rfl))) (aD (k:=3) (by simp)))
 ·show(true&&(lP (.int (1+d1)) (.int (1+d1+d4))&&cf _))=true
  rw[hr];simp only[lP,aN,Nz,Q6,Lf,decide_eq_true_eq];omega
 ·refine sm_tup.mpr ⟨by simp,λt ht=> ?_⟩
  rcases Lp.mp ht with rfl | ht
  ·simp[sm]
  ·rcases Lp.mp ht with rfl | ht
   ·simp[sm]
   ·rw[Ly]at ht;subst ht;exact Ct 8 l (by omega)
theorem mh {y:T}:∀(cs:List T) (i:Nat),y∈dQ i cs->∃c k:Nat,y= .tup [.int c,.int k]/\i<=c/\c<i+cs.length/\k<EI (cs.getD (c - i) .non)
 | [],i,h=>by cases h
 | x::cs,i,h=>by
  rw[dQ]at h;rcases LH.mp h with h | h
  ·unfold lV at h
   obtain⟨t,ht,rfl⟩:=LQ.mp h;obtain⟨j,rfl,hj⟩:=qD ht;refine⟨i,j,rfl,Lv _,by rw[Lm];omega,?_⟩
   rw[Qb]
   show j<EI x
   omega
  ·obtain⟨c,k,e,h1,h2,h3⟩:=mh cs (i+1) h
   refine⟨c,k,e,by omega,by rw[Lm];omega,?_⟩
   have:c - i=(c - (i+1))+1:=by omega
   rw[this];exact h3
theorem Bi {cs:List T}{y:T}(h:y∈dQ 0 cs):aO cs y=true:=by
 obtain⟨c,k,rfl,_,h2,h3⟩:=mh cs 0 h
 show(decide ((0:Int)<=(c:Int))&&decide ((c:Int)<(cs.length:Int))&&(decide ((0:Int)<=(k:Int))&&decide ((k:Int)<(reads cs (c:Int):Int))))=true
 rw[RF]at h3;rw[pE];simp only[Lf,decide_eq_true_eq];omega
theorem kM:∀(cs:List T) (i:Nat),(dQ i cs).Nodup
 | [],i=>NB
 | x::cs,i=>by
  rw[dQ,Mt];refine⟨?_,kM cs (i+1),?_⟩
  ·unfold lV rng
   rw[N5];rw[O8,List.pairwise_map];refine List.nodup_range.imp ?_
   intro a b hab e
   simp at e
   exact hab (by omega)
  ·intro a ha b hb e
   subst e;unfold lV at ha;obtain⟨t,ht,rfl⟩:=LQ.mp ha;obtain⟨c,k,e,h1,_,_⟩:=mh cs (i+1) hb
   simp at e
   omega
theorem Ad {l:List T}(h:l.Nodup){i j:Nat}(hi:i<l.length)(hj:j<l.length)(hij:i≠j):l[i] ≠l[j]:=by
 rw[O8,List.pairwise_iff_getElem]at h;rcases Nat.lt_or_ge i j with q | q
 ·exact h i j hi hj q
 ·exact λe=>h j i hj hi (by omega) e.symm
theorem rX:∀(cs:List T) (i:Nat),(∀c∈cs,bf c=true)->(dQ i cs).length<=4*cs.length
 | [],i,_=>Lv _
 | x::cs,i,h=>by
  obtain⟨a,b,r,rfl,_,h2⟩:=ef (h x Ll)
  have:=rX cs (i+1) λc hc=>h c (Lg _ hc)
  rw[dQ,Lo,fB,Lm]
  show r.length+_<=_
  omega
theorem Bh {cs:List T}{a b:T}(ha:aO cs a=true)(hb:aO cs b=true)(h:a≠b):aV a b=false:=by
 obtain⟨c,k,rfl⟩:=cU ha;obtain⟨c',k',rfl⟩:=cU hb;rw[Bool.eq_false_iff];intro e;simp[aV,beqTs]at e;exact h (by rw[e.1,e.2])
theorem sV {cs:List T}{a:T}(ha:aO cs a=true):sm 8 a=true:=by
 obtain⟨c,k,rfl⟩:=cU ha;simp[sm,sms]
theorem vH {l:List T}{i:Nat}(h:i<l.length):aU (.lst l) (.int (i:Int))= .ok l[i]:=by
 show(match L2.atI l (i:Int)with | some t=>Rs.ok t | none=> .bad)=_
 rw[jH (Ls h)]
theorem Bk (a b:Int):o8 (.int a) (.int b)= .ok (.bl (a == b)):=by
 unfold o8;rw[if_pos (fz (by simp[T.dep]) rfl rfl)]
 rfl
def Jf:T->Prop
 | .tup [_,_,.int x,_] =>x<=9
 | _=>False
theorem nU (ns:List Int)(hn:ns.length<=63)(a:Nat)(cs:List T)(hc:aY (.tup cs)=true):∃r,bj [.scr ns,.int a,.tup cs] = .ok r/\((r= .non/\(dQ 0 cs).length<2)\/(a7 cs r=true/\sm 8 r=true/\Jf r)):=by
 obtain⟨ha,h1,h4⟩:=bL hc
 have hlen:=rX cs 0 ha
 have er:=Br cs hc
 have gl:∀s4 s5 s6 s7:Sl,cl cz (ae (vr 3) aj) [.va (.scr ns),.va (.int a),.va (.tup cs),.va (.lst (dQ 0 cs)),s4,s5,s6,s7] = .ok (.int ((dQ 0 cs).length:Nat)):=λ_ _ _ _=>rfl
 have s1:cv (cl da (ae (vr 2) aj)) (gN 3) [.va (.scr ns),.va (.int a),.va (.tup cs),.em,.em,.em,.em,.em] = .ok (.nx [.va (.scr ns),.va (.int a),.va (.tup cs),.va (.lst (dQ 0 cs)),.em,.em,.em,.em]):=bQ (aS (ts:=[.tup cs]) rfl er) rfl
 have lt:o2 DI (cl cz (ae (vr 3) aj)) (cn (.int 2)) [.va (.scr ns),.va (.int a),.va (.tup cs),.va (.lst (dQ 0 cs)),.em,.em,.em,.em] = .ok (.bl (decide (((dQ 0 cs).length:Int)<2))):=aG (t:=.int ((dQ 0 cs).length:Nat)) (u:=.int 2) (gl _ _ _ _) rfl rfl
 by_cases hs:(dQ 0 cs).length<2
 ·refine⟨.non,bA rfl ?_,.inl ⟨rfl,hs⟩⟩
  show dh [.va (.scr ns),.va (.int a),.va (.tup cs),.em,.em,.em,.em,.em] =_
  unfold dh;rw[aC s1];rw[decide_eq_true (by omega)]at lt
  exact gd ((gG (bV lt)).trans rfl)
 ·rw[decide_eq_false (by omega)]at lt
  generalize hN:(dQ 0 cs).length=n at*
  obtain⟨d1,e1,p1,q1⟩:=cZ ns a (n:Int) hn (by omega)
  obtain⟨d2,e2,p2,q2⟩:=cZ ns (a+1) ((n:Int) - 1) hn (by omega)
  obtain⟨d3,e3,p3,q3⟩:=cZ ns (a+2) 8 hn (by omega)
  obtain⟨d4,e4,p4,q4⟩:=cZ ns (a+3) 3 hn (by omega)
  obtain⟨d5,e5,p5,q5⟩:=cZ ns (a+4) 9 hn (by omega)
  obtain⟨i,rfl⟩:=L0 p1;obtain⟨d2,rfl⟩:=L0 p2
  have hi:i<(dQ 0 cs).length:=by omega
  have hj:(i+1+d2) % n<(dQ 0 cs).length:=by rw[hN];exact Nat.mod_lt _ (by omega)
  have hij:i≠(i+1+d2) % n:=by
   rcases Nat.lt_or_ge (i+1+d2) n with q | q
   ·rw[RV q];omega
   ·have:(i+1+d2) % n=i+1+d2 - n:=by
     rw[Nat.mod_eq_sub_mod q,RV (by omega)]
    rw[this];omega
  have eA:=Bi (MB hi)
  have eB:=Bi (MB hj)
  have eN:(dQ 0 cs)[i] ≠(dQ 0 cs)[(i+1+d2) % n]:=Ad (kM cs 0) hi hj hij
  generalize hA:(dQ 0 cs)[i] =A at*
  generalize hB:(dQ 0 cs)[(i+1+d2) % n] =B at*
  let y:T:=if d4 == 0 then .non else .int (d3+d5)
  refine⟨.tup [A,B,.int d3,y],bA rfl ?_,.inr ⟨?_,?_,show d3<=9 by omega⟩⟩
  ·show dh [.va (.scr ns),.va (.int a),.va (.tup cs),.em,.em,.em,.em,.em] =_
   unfold dh;rw[aC s1];rw[aC (Z':=[.va (.scr ns),.va (.int a),.va (.tup cs),.va (.lst (dQ 0 cs)),.em,.em,.em,.em]) ((dR (bV lt)).trans rfl)];rw[aC (Z':=[.va (.scr ns),.va (.int a),.va (.tup cs),.va (.lst (dQ 0 cs)),.va (.int (i:Nat)),.em,.em,.em]) (bQ (dj e1 rfl rfl (gl _ _ _ _)) rfl)];rw[aC (Z':=[.va (.scr ns),.va (.int a),.va (.tup cs),.va (.lst (dQ 0 cs)),.va (.int (i:Nat)),.va (.int ((i+1+d2) % n:Nat)),.em,.em]) (bQ (t:=.int ((i+1+d2) % n:Nat)) (aG (t:=.int ((i:Int)+1+d2)) (u:=.int n) (aG (t:=.int ((i:Int)+1)) (u:=.int d2) rfl (dj (k:=a+1) e2 rfl rfl (aG (t:=.int n) (u:=.int 1) (gl _ _ _ _) rfl rfl)) rfl) (gl _ _ _ _) (jA (by omega))) rfl)]
   rw[aC (Z':=[.va (.scr ns),.va (.int a),.va (.tup cs),.va (.lst (dQ 0 cs)),.va (.int (i:Nat)),.va (.int ((i+1+d2) % n:Nat)),.va (.int d3),.em]) (bQ (dj (k:=a+2) e3 rfl rfl rfl) rfl)]
   have ey:EY (tb (o2 o8 (cl aB (ae (vr 0) (ae (o2 aX (vr 1) (cn (.int 3))) (ae (cn (.int 3)) aj)))) (cn (.int 0)))) (cn .non) (o2 aX (vr 6) (cl aB (ae (vr 0) (ae (o2 aX (vr 1) (cn (.int 4))) (ae (cn (.int 9)) aj))))) [.va (.scr ns),.va (.int a),.va (.tup cs),.va (.lst (dQ 0 cs)),.va (.int (i:Nat)),.va (.int ((i+1+d2) % n:Nat)),.va (.int d3),.em] = .ok y:=by
    rw[xg (bV (aG (u:=.int 0) (dj (k:=a+3) e4 rfl rfl rfl) rfl (Bk _ _)))]
    show _=Rs.ok (if d4 == 0 then T.non else .int (d3+d5))
    cases d4 == 0 with
    | true=>rfl
    | false=>exact aG (t:=.int d3) rfl (dj (k:=a+4) e5 rfl rfl rfl) rfl
   rw[aC (Z':=[.va (.scr ns),.va (.int a),.va (.tup cs),.va (.lst (dQ 0 cs)),.va (.int (i:Nat)),.va (.int ((i+1+d2) % n:Nat)),.va (.int d3),.va y]) (bQ ey rfl)];refine cb (cT (au (t:=A) (aG (t:=.lst (dQ 0 cs)) (u:=.int (i:Nat)) rfl rfl ?_) (au (t:=B) (aG (t:=.lst (dQ 0 cs)) (u:=.int ((i+1+d2) % n:Nat)) rfl rfl ?_) (au (t:=.int d3) rfl (au (t:=y) rfl rfl)))) (aD (k:=4) (by simp)))
   ·rw[<-hA];exact vH hi
   ·rw[<-hB];exact vH hj
  ·show(cp (.int d3) y&&(aO cs A&&(aO cs B&& !aV A B)))=true
   rw[eA,eB,Bh eA eB eN]
   have:cp (.int d3) y=true:=by
    show(aN (.int d3) 0 999&&(match(T.int d3),(if d4 == 0 then T.non else .int (d3+d5))with | _,.non=>true | .int i,_=>aN (if d4 == 0 then T.non else .int (d3+d5)) i 999 | _,_=>false))=true
    cases d4 == 0 with
    | true=>simp[aN];omega
    | false=>simp[aN];omega
   rw[this];rfl
  ·refine sm_tup.mpr ⟨by simp,λt ht=> ?_⟩
   have hy:sm 8 y=true:=by show sm 8 (if d4 == 0 then T.non else .int (d3+d5))=true;cases d4 == 0 <;> simp[sm]
   simp only[Lp,Mj,or_false]at ht;rcases ht with rfl | rfl | rfl | rfl
   ·exact sV eA
   ·exact sV eB
   ·simp[sm]
   ·exact hy
theorem yF (ns:List Int)(hn:ns.length<=63)(a:Nat)(cs:List T)(hc:aY (.tup cs)=true):∃r,bj [.scr ns,.int a,.tup cs] = .ok r/\(r= .non\/(a7 cs r=true/\sm 8 r=true)):=by
 obtain⟨r,e,h⟩:=nU ns hn a cs hc;exact⟨r,e,h.imp (·.1) λz=>⟨z.1,z.2.1⟩⟩
def okv:Rs T->T
 | .ok t=>t
 | _=> .non
theorem wM (l:List T)(k:Int)(h : -(2 ^ 63)<=k/\k<2 ^ 63/\l.length*k.toNat<=sizeLine):bY (.lst l) (.int k)= .ok (.lst (LG k.toNat l).flatten):=by
 show vo (.lst l) (.int k)=_
 unfold vo;exact if_pos h
theorem mul_one (x:T)(b:Bool):bY (.lst [x]) (.int (if b then 1 else 0))= .ok (.lst (if b then [x]else [])):=by
 cases b with
 | true=>exact wM [x] 1 ⟨by decide,by decide,aD (k:=1) (by simp)⟩
 | false=>exact wM [x] 0 ⟨by decide,by decide,aD (k:=1) (by simp)⟩
abbrev leF:En->Rs Fl:=aA (cv (cl bj (ae (vr 0) (ae (o2 aX (o2 aX (vr 1) (cn (.int 31))) (o2 bY (cn (.int 6)) (vr 5))) (ae (vr 3) aj)))) (gN 6)) (cv (o2 aX (vr 4) (o2 bY (eM (ae (vr 6) aj)) (cl vJ (ae (o2 fh (vr 6) (cn .non)) aj)))) (gN 4))
def yO (cs ls:List T):Prop:=∀t∈ls,a7 cs t=true/\sm 8 t=true
theorem DJ (ns:List Int)(hn:ns.length<=63)(a j:Nat)(m:T)(cs ls:List T)(hc:aY (.tup cs)=true)(h:yO cs ls)(hl:ls.length<=100)(s6:Sl) :
  ∃ls2 s7,leF [.va (.scr ns),.va (.int a),.va m,.va (.tup cs),.va (.lst ls),.va (.int j),s6] = .ok (.nx [.va (.scr ns),.va (.int a),.va m,.va (.tup cs),.va (.lst ls2),.va (.int j),s7])/\yO cs ls2/\ls2.length<=ls.length+1:=by
 obtain⟨r,er,hr⟩:=yF ns hn (a+31+6*j) cs hc
 have e1:∀G,aA (cv (cl bj (ae (vr 0) (ae (o2 aX (o2 aX (vr 1) (cn (.int 31))) (o2 bY (cn (.int 6)) (vr 5))) (ae (vr 3) aj)))) (gN 6)) G [.va (.scr ns),.va (.int a),.va m,.va (.tup cs),.va (.lst ls),.va (.int j),s6] =G [.va (.scr ns),.va (.int a),.va m,.va (.tup cs),.va (.lst ls),.va (.int j),.va r]:=λG=>by
  refine aC (bQ (t:=r) (aS (ts:=[.scr ns,.int (a+31+6*j:Nat),.tup cs]) (au (t:=.scr ns) rfl (au (t:=.int (a+31+6*j:Nat)) (aG (t:=.int ((a:Int)+31)) (u:=.int (6*(j:Int))) rfl (aG (t:=.int 6) (u:=.int j) rfl rfl (lG (by omega) (by omega))) rfl) (au (t:=.tup cs) rfl rfl))) er) rfl)
 have e2:cl vJ (ae (o2 fh (vr 6) (cn .non)) aj) [.va (.scr ns),.va (.int a),.va m,.va (.tup cs),.va (.lst ls),.va (.int j),.va r] = .ok (.int (if !r.isN then 1 else 0)):=aS (ts:=[.bl (!r.isN)]) rfl rfl
 refine⟨ls++(if !r.isN then [r]else []),.va r,?_,?_,?_⟩
 ·refine(e1 _).trans (bQ (aG (t:=.lst ls) (u:=.lst (if !r.isN then [r]else [])) rfl (aG (t:=.lst [r]) (kj (ts:=[r]) rfl (aD (k:=1) (by simp))) e2 (mul_one _ _)) (sy _ _ ?_)) rfl)
  rw[Lo];cases r.isN <;> simp <;> omega
 ·intro t ht
  rcases LH.mp ht with ht | ht
  ·exact h t ht
  ·rcases hr with rfl | hr
   ·cases ht
   ·cases q:r.isN with
    | true=>rw[q]at ht;cases ht
    | false=>
     rw[q]at ht;rw[show t=r by simpa using ht]
     exact hr
 ·rw[Lo]
  cases r.isN <;> simp
theorem wV (ns:List Int)(hn:ns.length<=63)(a:Nat)(m:T)(cs:List T)(hc:aY (.tup cs)=true):∀(js:List Nat) (ls:List T) (s5 s6:Sl),yO cs ls->ls.length+js.length<=100 →
  ∃ls2 t5 t6,bp (gN 5) leF (js.map λ(j:Nat)=>T.int j) [.va (.scr ns),.va (.int a),.va m,.va (.tup cs),.va (.lst ls),s5,s6] = .ok (.nx [.va (.scr ns),.va (.int a),.va m,.va (.tup cs),.va (.lst ls2),t5,t6])/\yO cs ls2/\ls2.length<=ls.length+js.length
 | [],ls,s5,s6,h,_=>⟨ls,s5,s6,rfl,h,Lv _⟩
 | j::js,ls,s5,s6,h,hl=>by
  rw[Lm]at hl;obtain⟨l2,s7,e2,h2,n2⟩:=DJ ns hn a j m cs ls hc h (by omega) s6
  obtain⟨l3,t5,t6,e3,h3,n3⟩:=wV ns hn a m cs hc js l2 (.va (.int j)) s7 h2 (by omega)
  refine⟨l3,t5,t6,?_,h3,by rw[Lm];omega⟩
  rw[Lk,fq (Z1:=[.va (.scr ns),.va (.int a),.va m,.va (.tup cs),.va (.lst ls),.va (.int j),s6]) rfl e2];exact e3
theorem Hm (ns:List Int)(hn:ns.length<=63)(a m:Nat)(hm:m<=8):∃cs ls,dY [.scr ns,.int a,.int m] = .ok (RR cs ls)/\aY (.tup cs)=true/\cs.length<=3/\(∀c∈cs,sm 8 c=true)/\yO cs ls/\ls.length<=m/\∀c∈cs,Dc c:=by
 obtain⟨d1,e1,p1,q1⟩:=cZ ns a 3 hn (by omega)
 obtain⟨d2,e2,p2,q2⟩:=cZ ns (a+30) ((m:Int)+1) hn (by omega)
 obtain⟨d1,rfl⟩:=L0 p1;obtain⟨d2,rfl⟩:=L0 p2
 let hcl:T->T:=λt=>match t with
  | .int k=>okv (b8 [.scr ns,.int ((a:Int)+1+8*k)])
  | _=> .non
 have hh:∀t∈rng 0 ((1+d1:Nat):Int),∃k:Nat,t= .int k/\b8 [.scr ns,.int ((a+1+8*k:Nat):Int)] = .ok (hcl t)/\bf (hcl t)=true/\sm 8 (hcl t)=true/\Dc (hcl t):=λt ht=>by
  obtain⟨k,rfl,_⟩:=qD ht;obtain⟨c,ec,h1,h2,h3⟩:=Bs ns hn (a+1+8*k)
  have e:hcl (.int k)=c:=by
   show okv (b8 [.scr ns,.int ((a+1+8*k:Nat):Int)])=c
   rw[ec];rfl
  exact⟨k,rfl,by rw[e];exact ec,by rw[e];exact h1,by rw[e];exact h2,by rw[e];exact h3⟩
 generalize hcs:(rng 0 ((1+d1:Nat):Int)).map hcl=cs
 have lc:cs.length=1+d1:=by rw[<-hcs,Ln,j5]
 have hc:aY (.tup cs)=true:=by
  show(dn (.tup cs) 1 4&&cs.all bf)=true
  rw[Lf,LK];refine⟨by simp[dn];omega,λc h=> ?_⟩
  rw[<-hcs]at h;obtain⟨t,ht,rfl⟩:=LQ.mp h;obtain⟨_,_,_,h1,_⟩:=hh t ht;exact h1
 have hsm:∀c∈cs,sm 8 c=true:=λc h=>by
  rw[<-hcs]at h;obtain⟨t,ht,rfl⟩:=LQ.mp h;obtain⟨_,_,_,_,h1,_⟩:=hh t ht;exact h1
 obtain⟨ls,t5,t6,el,hl,nl⟩:=wV ns hn a (.int m) cs hc (L6 d2) [] .em .em (λt h=>by cases h) (by simp;omega)
 refine⟨cs,ls,bA rfl ?_,hc,by omega,hsm,hl,by simp at nl;omega,λc h=>by
  rw[<-hcs]at h;obtain⟨t,ht,rfl⟩:=LQ.mp h;obtain⟨_,_,_,_,_,h1⟩:=hh t ht;exact h1⟩
 show gu [.va (.scr ns),.va (.int a),.va (.int m),.em,.em,.em,.em] =_
 unfold gu
 have s1:cv (cl fV (ae (hW (iR (ae (o2 aX (cn (.int 1)) (cl aB (ae (vr 0) (ae (vr 1) (ae (cn (.int 3)) aj))))) aj)) [none,some 0,some 1] (gN 0) bT (cl b8 (ae (vr 1) (ae (o2 aX (o2 aX (vr 2) (cn (.int 1))) (o2 bY (cn (.int 8)) (vr 0))) aj)))) aj)) (gN 3) [.va (.scr ns),.va (.int a),.va (.int m),.em,.em,.em,.em] = .ok (.nx [.va (.scr ns),.va (.int a),.va (.int m),.va (.tup cs),.em,.em,.em]):=by
  refine bQ (t:=.tup cs) (aS (ts:=[.lst cs]) (au (t:=.lst cs) ?_ rfl) rfl) rfl
  rw[<-hcs];refine uc (ts:=rng 0 ((1+d1:Nat):Int)) (h:=hcl) (Ha (au (t:=.int ((1+d1:Nat):Int)) (aG (t:=.int 1) (u:=.int d1) rfl (dj e1 rfl rfl rfl) rfl) rfl) (by omega) (by omega)) (aD (k:=3) (by rw[j5];omega)) (by simp) λt ht=> ?_
  obtain⟨k,rfl,ek,_,_⟩:=hh t ht;refine aS (ts:=[.scr ns,.int ((a+1+8*k:Nat):Int)]) (au (t:=.scr ns) rfl (au (aG (t:=.int ((a:Int)+1)) (u:=.int (8*(k:Int))) rfl (aG (t:=.int 8) (u:=.int k) rfl rfl (lG (by omega) (by omega))) rfl) rfl)) ek
 rw[aC s1];rw[aC (Z':=[.va (.scr ns),.va (.int a),.va (.int m),.va (.tup cs),.va (.lst []),.em,.em]) (bQ (kj (ts:=[]) rfl (aD (k:=0) (by simp))) rfl)]
 rw[aC ((g8 (Ha (au (dj (k:=a+30) e2 rfl rfl (aG (t:=.int m) (u:=.int 1) rfl rfl rfl)) rfl) (by omega) (by omega)) (by rw[l6];exact el)))]
 exact cb (cT (au (t:=.tup cs) rfl (au (t:=.tup ls) rfl rfl)) (aD (k:=2) (by simp)))
theorem dH {cs:List T}{t:T}(h:a7 cs t=true):∃a b x y,t= .tup [a,b,x,y]/\cp x y=true/\aO cs a=true/\aO cs b=true/\aV a b=false:=by
 unfold a7 at h
 split at h
 ·simp only[Lf,Ro]at h
  exact⟨_,_,_,_,rfl,h.1,h.2.1,h.2.2.1,h.2.2.2⟩
 ·cases h
theorem FJ {cs ls:List T}(hc:aY (.tup cs)=true)(hs:∀c∈cs,sm 8 c=true)(hl:yO cs ls)(hn:ls.length<=8):dM (RR cs ls)=true/\sm 8 (RR cs ls)=true:=by
 refine⟨?_,?_⟩
 ·show(aY (.tup cs)&&(dn (.tup ls) 0 8&&ls.all (a7 cs)))=true
  rw[hc,Nz,Lf,LK];exact⟨by simp[dn];exact hn,λt ht=>(hl t ht).1⟩
 ·refine sm_tup.mpr ⟨by simp,λt ht=> ?_⟩
  simp only[Lp,Mj,or_false]at ht;rcases ht with rfl | rfl
  ·exact sm_tup.mpr ⟨by have:=(bL hc).2.2;omega,hs⟩
  ·exact sm_tup.mpr ⟨hn,λt ht=>(hl t ht).2⟩
end G
namespace Tr
open PySem
section
variable {f fa fb:En->Rs T}{fs:En->Rs (List T)}{b c:En->Rs Bool}{F G:En->Rs Fl}{Z Z' Z1 Z2:En}{t u r:T}{ts l m:List T}
mutual
theorem lx:∀(t:T),t.pl=true->aV t t=true
 | .non,_=>rfl
 | .bl a,_=>by simp[aV]
 | .int a,_=>by simp[aV]
 | .str a,_=>by simp[aV]
 | .tup l,h=>by rw[aV];exact beqTs_refl l (by unfold T.pl at h;exact h)
 | .lst l,h=>by rw[aV];exact beqTs_refl l (by unfold T.pl at h;exact h)
 | .scr _,h=>by simp[T.pl]at h
theorem beqTs_refl:∀(l:List T),plS l=true->beqTs l l=true
 | [],_=>rfl
 | t::l,h=>by
  unfold plS at h;rw[Lf]at h;rw[beqTs,lx t h.1,beqTs_refl l h.2];rfl
end
theorem md (hp:t.pl=true)(hd:t.dep<=60):kS t t= .ok (.bl false):=by
 unfold kS;rw[if_pos (fz hd (T.Kg _ hp) (T.Kg _ hp)),lx t hp];rfl
theorem xr (hp:t.pl=true)(hd:t.dep<=60):o8 t t= .ok (.bl true):=by
 unfold o8;rw[if_pos (fz hd (T.Kg _ hp) (T.Kg _ hp)),lx t hp]
theorem xA {n:Nat}:∀{l:List T},(∀t∈l,t.dep<=n)->deps l<=n
 | [],_=>by unfold deps;omega
 | t::l,h=>by
  unfold deps
  have:=xA (l:=l) λu hu=>h u (Lg _ hu)
  have:=h t Ll;omega
theorem kH:∀{l:List T},(∀t∈l,t.pl=true)->plS l=true
 | [],_=>rfl
 | t::l,h=>by unfold plS;rw[h t Ll,kH λu hu=>h u (Lg _ hu)];rfl
end
end Tr
namespace G
open PySem Tr
def dr (r:List Int)(k:Nat):Int:=r.getD (k+1) 0 - r.getD k 0
def pr (n:Nat)(x y:Int)(r:List Int)(k:Nat):List T:=
 [.tup [.tup [.int n,.int k],.tup [.int n,.int ((k+1:Nat):Int)],.int (dr r k*y)],.tup [.tup [.int n,.int ((k+1:Nat):Int)],.tup [.int n,.int k],.int (-dr r k*x)]]
def cB (n:Nat)(x y:Int)(r:List Int):List T:=(L6 (r.length - 1)).flatMap (pr n x y r)
abbrev BI (n:Nat)(x y:Int)(r:List Int)(acc:List T)(s4 s5 s6 s7:Sl):En:=[.va (.int n),.va (.tup [.int x,.int y,.tup (r.map .int)]),.va (.tup (r.map .int)),.ow (.lst acc),s4,s5,s6,s7]
abbrev bcF:En->Rs Fl:=(aA (cv (bJ (ae (vr 0) (ae (vr 4) aj))) (gN 5)) (aA (cv (bJ (ae (vr 0) (ae (o2 aX (vr 4) (cn (.int 1))) aj))) (gN 6)) (aA (cv (o2 hV (o2 aU (vr 2) (o2 aX (vr 4) (cn (.int 1)))) (o2 aU (vr 2) (vr 4))) (gN 7)) (aA (oM 3 (bJ (ae (vr 5) (ae (vr 6) (ae (o2 bY (vr 7) (o2 aU (vr 1) (cn (.int 1)))) aj))))) (oM 3 (bJ (ae (vr 6) (ae (vr 5) (ae (o2 bY (o1 o7 (vr 7)) (o2 aU (vr 1) (cn (.int 0)))) aj)))))))))
theorem mm {r:List Int}{k:Nat}(h:k<r.length):(r.map T.int)[k]? =some (.int (r.getD k 0)):=by
 rw[LI,Ls h]
 simp[h]
theorem El (n:Nat)(x y:Int)(r:List Int)(acc:List T)(k:Nat)(s5 s6 s7:Sl)(hk:k+1<r.length)(hx:0<=x/\x<=9)(hy:0<=y/\y<=9)(ha:acc.length<=100) :
  bcF (BI n x y r acc (.va (.int k)) s5 s6 s7)= .ok (.nx (BI n x y r (acc++pr n x y r k) (.va (.int k)) (.va (.tup [.int n,.int k])) (.va (.tup [.int n,.int ((k+1:Nat):Int)])) (.va (.int (dr r k))))):=by
 have h2:([T.int n,T.int k]:List T).length<=sizeLine:=aD (k:=2) (by simp)
 have ek:((k:Int)+1)=((k+1:Nat):Int):=by omega
 refine(aC (Z':=BI n x y r acc (.va (.int k)) (.va (.tup [.int n,.int k])) s6 s7) (bQ (cT rfl (aD (k:=2) (by simp))) rfl)).trans ?_
 refine(aC (Z':=BI n x y r acc (.va (.int k)) (.va (.tup [.int n,.int k])) (.va (.tup [.int n,.int ((k+1:Nat):Int)])) s7) (bQ (cT (au rfl (au (t:=.int ((k+1:Nat):Int)) (aG (t:=.int k) (u:=.int 1) rfl rfl (congrArg (λz=>Rs.ok (T.int z)) ek)) rfl)) (aD (k:=2) (by simp))) rfl)).trans ?_
 refine(aC (Z':=BI n x y r acc (.va (.int k)) (.va (.tup [.int n,.int k])) (.va (.tup [.int n,.int ((k+1:Nat):Int)])) (.va (.int (dr r k)))) (bQ (t:=.int (dr r k)) (aG (t:=.int (r.getD (k+1) 0)) (u:=.int (r.getD k 0)) (vE (n:=k+1) rfl (aG (t:=.int k) (u:=.int 1) rfl rfl (congrArg (λz=>Rs.ok (T.int z)) ek)) (mm hk)) (vE (n:=k) rfl rfl (mm (by omega))) rfl) rfl)).trans ?_
 refine(aC (Z':=BI n x y r (acc++ [.tup [.tup [.int n,.int k],.tup [.int n,.int ((k+1:Nat):Int)],.int (dr r k*y)]]) (.va (.int k)) (.va (.tup [.int n,.int k])) (.va (.tup [.int n,.int ((k+1:Nat):Int)])) (.va (.int (dr r k)))) (AO (l:=acc) (cT (au rfl (au rfl (au (aG (t:=.int (dr r k)) (u:=.int y) rfl rfl (Aj (by omega) (by omega))) rfl))) (aD (k:=3) (by simp))) rfl (by omega))).trans ?_
 refine(AO (l:=acc++ [.tup [.tup [.int n,.int k],.tup [.int n,.int ((k+1:Nat):Int)],.int (dr r k*y)]]) (cT (au rfl (au rfl (au (aG (t:=.int (-dr r k)) (u:=.int x) rfl rfl (Aj (by omega) (by omega))) rfl))) (aD (k:=3) (by simp))) rfl (by rw[Lo];simp;omega)).trans ?_
 rw[Ms]
 rfl
theorem xI (n:Nat)(x y:Int)(r:List Int)(hx:0<=x/\x<=9)(hy:0<=y/\y<=9):∀(js:List Nat) (acc:List T) (s4 s5 s6 s7:Sl),(∀k∈js,k+1<r.length)->acc.length+2*js.length<=100 →
  ∃t4 t5 t6 t7,bp (gN 4) bcF (js.map λ(k:Nat)=>T.int k) (BI n x y r acc s4 s5 s6 s7)= .ok (.nx (BI n x y r (acc++js.flatMap (pr n x y r)) t4 t5 t6 t7))
 | [],acc,s4,s5,s6,s7,_,_=>⟨s4,s5,s6,s7,by simp[bp]⟩
 | k::js,acc,s4,s5,s6,s7,hk,hl=>by
  rw[Lm]at hl
  have e:=El n x y r acc k s5 s6 s7 (hk k Ll) hx hy (by omega)
  obtain⟨t4,t5,t6,t7,ih⟩:=xI n x y r hx hy js (acc++pr n x y r k) (.va (.int k)) (.va (.tup [.int n,.int k])) (.va (.tup [.int n,.int ((k+1:Nat):Int)])) (.va (.int (dr r k))) (λj hj=>hk j (Lg _ hj)) (by rw[Lo];simp[pr];omega)
  refine⟨t4,t5,t6,t7,?_⟩
  rw[Lk,fq (Z1:=BI n x y r acc (.va (.int k)) s5 s6 s7) rfl e,ih,Pw,Ms]
theorem Bw (n:Nat)(x y:Int)(r:List Int)(hx:0<=x/\x<=9)(hy:0<=y/\y<=9)(h1:1<=r.length)(h4:r.length<=4):b7 [.int n,.tup [.int x,.int y,.tup (r.map .int)]] = .ok (.lst (cB n x y r)):=by
 refine bA rfl ?_
 show dO [.va (.int n),.va (.tup [.int x,.int y,.tup (r.map .int)]),.em,.em,.em,.em,.em,.em] =_
 unfold dO;rw[aC (Z':=[.va (.int n),.va (.tup [.int x,.int y,.tup (r.map .int)]),.va (.tup (r.map .int)),.em,.em,.em,.em,.em]) (bQ (t:=.tup (r.map .int)) rfl rfl)];rw[aC (Z':=BI n x y r [] .em .em .em .em) rfl];obtain⟨t4,t5,t6,t7,e⟩:=xI n x y r hx hy (L6 (r.length - 1)) [] .em .em .em .em (λk hk=>by have:=Mp.mp hk;omega) (by simp;omega)
 have e1:iR (ae (o2 hV (cl cz (ae (vr 2) aj)) (cn (.int 1))) aj) (BI n x y r [] .em .em .em .em)= .ok (rng 0 ((r.length - 1:Nat):Int)):=by
  refine Ha (j:=((r.length - 1:Nat):Int)) (au (aG (t:=.int (r.length:Nat)) (u:=.int 1) (aS (ts:=[.tup (r.map .int)]) rfl (by show Rs.ok (T.int ((r.map T.int).length:Nat))=_;rw[Ln])) rfl (congrArg (λz=>Rs.ok (T.int z)) (by omega))) rfl) (by omega) (by omega)
 rw[aC ((g8 (ts:=(L6 (r.length - 1)).map λ(k:Nat)=>T.int k) (by rw[e1,l6]) e))]
 rfl
theorem fD {t:T}(h:bf t=true):∃(x y:Int) (r:List Int),t= .tup [.int x,.int y,.tup (r.map .int)]/\(0<=x/\x<=9)/\(0<=y/\y<=9)/\1<=r.length/\r.length<=4:=by
 obtain⟨x,y,r,rfl,h1,h4⟩:=ef h
 have h':(lP x y&&cf (.tup r))=true:=h;rw[Lf]at h';obtain⟨hp,hr⟩:=h';unfold lP at hp;rw[Lf]at hp;obtain⟨i,rfl,i1,i2⟩:=bo hp.1;obtain⟨j,rfl,j1,j2⟩:=bo (t:=y) (a:=i) (b:=9) hp.2;unfold cf at hr;rw[Lf]at hr
 have hr2:((r.all λu=>aN u 0 99)&&(match jc r with | some m=>l7 m | none=>false))=true:=hr.2
 rw[Lf]at hr2;obtain⟨m,em⟩:=qX hr2.1
 have e:=ni em;subst e;rw[Ln]at h1 h4;exact⟨i,j,m,rfl,⟨by omega,by omega⟩,⟨by omega,by omega⟩,h1,h4⟩
def xB (n:Nat)(t:T):List T:=match t with
 | .tup [.int x,.int y,.tup r] =>match jc r with
  | some m=>cB n x y m
  | none=> []
 | _=> []
def bC:Nat->List T->List T
 | _,[] => []
 | i,c::r=>xB i c++bC (i+1) r
def lB (t:T):List T:=match t with
 | .tup [a,b,.int le,mo] => .tup [b,a,.int (-le)] ::(if mo.isN then []else [.tup [a,b,mo]])
 | _=> []
def p9 (cs ls:List T):List T:=bC 0 cs++ls.flatMap lB
theorem pv (n:Nat)(x y:Int)(r:List Int):xB n (.tup [.int x,.int y,.tup (r.map .int)])=cB n x y r:=by
 unfold xB;simp only[ix]
theorem Hu (n:Nat)(x y:Int)(r:List Int):(cB n x y r).length=2*(r.length - 1):=by
 unfold cB;rw[List.length_flatMap]
 have:∀l:List Nat,(l.map λk=>(pr n x y r k).length).sum=2*l.length:=by
  intro l
  induction l with
  | nil=>rfl
  | cons a l ih=>rw[Lk,MV,ih,Lm];simp[pr];omega
 rw[this,NP]
theorem zf {n:Nat}{t:T}(h:bf t=true):(xB n t).length<=6:=by
 obtain⟨x,y,r,rfl,_,_,h1,h4⟩:=fD h;rw[pv,Hu];omega
theorem vS:∀{cs:List T} {i:Nat},(∀c∈cs,bf c=true)->(bC i cs).length<=6*cs.length
 | [],i,_=>by simp[bC]
 | c::cs,i,h=>by
  rw[bC,Lo,Lm]
  have:=zf (n:=i) (h c Ll)
  have:=vS (cs:=cs) (i:=i+1) λc hc=>h c (Lg _ hc)
  omega
theorem AB (t:T):(lB t).length<=2:=by
 unfold lB;split
 ·rename_i a b le mo
  cases mo.isN <;> simp
 ·simp
theorem wZ:∀(ls:List T),(ls.flatMap lB).length<=2*ls.length
 | [] =>by simp
 | t::ls=>by
  rw[Pw,Lo,Lm]
  have:=AB t
  have:=wZ ls;omega
theorem fP {cs:List T}{t:T}(h:a7 cs t=true):∃(a b mo:T) (le:Int),t= .tup [a,b,.int le,mo]/\aO cs a=true/\aO cs b=true:=by
 obtain⟨a,b,x,y,rfl,hd,ha,hb,_⟩:=dH h;unfold cp at hd;rw[Lf]at hd;obtain⟨i,rfl,_⟩:=bo hd.1;exact⟨a,b,y,i,rfl,ha,hb⟩
theorem yG {cs:List T}{t:T}(h:a7 cs t=true):bU [t] = .ok (.lst (lB t)):=by
 obtain⟨a,b,mo,le,rfl,_,_⟩:=fP h;refine bA rfl ?_
 show dq [.va (.tup [a,b,.int le,mo]),.em] =_
 unfold dq;rw[aC (Z':=[.va (.tup [a,b,.int le,mo]),.ow (.lst [.tup [b,a,.int (-le)]])]) (AG (l:=[.tup [b,a,.int (-le)]]) (au (cT (au rfl (au rfl (au rfl rfl))) (aD (k:=3) (by simp))) rfl) (by simp) (by simp))]
 have e:∀(Z:En) l,Z= [.va (.tup [a,b,.int le,mo]),.ow (.lst l)]->o2 fh (o2 aU (vr 0) (cn (.int 3))) (cn .non) Z= .ok (.bl (!mo.isN)):=λZ l z=>by subst z;rfl
 have e2:lB (.tup [a,b,.int le,mo])= .tup [b,a,.int (-le)] ::(if mo.isN then []else [.tup [a,b,mo]]):=rfl
 rw[e2]
 cases q:mo.isN with
 | true=>
  rw[aC (Z':=[.va (.tup [a,b,.int le,mo]),.ow (.lst [.tup [b,a,.int (-le)]])]) ((dR (bV (by rw[e _ _ rfl,q];rfl))).trans rfl)]
  rfl
 | false=>
  rw[aC (Z':=[.va (.tup [a,b,.int le,mo]),.ow (.lst ([.tup [b,a,.int (-le)]] ++ [.tup [a,b,mo]]))]) ((gG (bV (by rw[e _ _ rfl,q];rfl))).trans (AO (l:=[.tup [b,a,.int (-le)]]) (cT (au rfl (au rfl (au rfl rfl))) (aD (k:=3) (by simp))) rfl (by simp)))]
  rfl
abbrev bdF:En->Rs Fl:=mT 1 (cl b7 (ae (vr 2) (ae (vr 3) aj)))
abbrev bdG:T->En->Rs En:=gT 2 (ue (gN 2) (ue (gN 3) B2))
theorem xH (R:T)(s4:Sl):∀(cs:List T) (acc:List T) (i:Nat) (s2 s3:Sl),(∀c∈cs,bf c=true)->acc.length+6*cs.length<=100 →
  ∃y2 y3,bp bdG bdF (cI i cs) [.va R,.ow (.lst acc),s2,s3,s4] = .ok (.nx [.va R,.ow (.lst (acc++bC i cs)),y2,y3,s4])
 | [],acc,i,s2,s3,_,_=>⟨s2,s3,by simp[cI,bp,bC]⟩
 | c::cs,acc,i,s2,s3,hc,hl=>by
  have h0:=hc c Ll
  have hx:=zf (n:=i) h0;obtain⟨x,y,r,rfl,a1,a2,a3,a4⟩:=fD h0;rw[Lm]at hl;rw[pv]at hx
  have st:bdF [.va R,.ow (.lst acc),.va (.int i),.va (.tup [.int x,.int y,.tup (r.map .int)]),s4] = .ok (.nx [.va R,.ow (.lst (acc++cB i x y r)),.va (.int i),.va (.tup [.int x,.int y,.tup (r.map .int)]),s4]):=
   AN (l:=acc) (aS (ts:=[.int i,.tup [.int x,.int y,.tup (r.map .int)]]) rfl (Bw i x y r a1 a2 a3 a4)) rfl (by omega)
  obtain⟨z2,z3,ih⟩:=xH R s4 cs (acc++cB i x y r) (i+1) (.va (.int i)) (.va (.tup [.int x,.int y,.tup (r.map .int)])) (λc h=>hc c (Lg _ h)) (by rw[Lo];omega)
  refine⟨z2,z3,?_⟩
  rw[cI,fq (Z1:=[.va R,.ow (.lst acc),.va (.int i),.va (.tup [.int x,.int y,.tup (r.map .int)]),s4]) rfl st,ih,bC,pv,Ms]
abbrev blF:En->Rs Fl:=mT 1 (cl bU (ae (vr 4) aj))
theorem xG (R:T)(cs:List T)(s2 s3:Sl):∀(ls:List T) (acc:List T) (s4:Sl),(∀t∈ls,a7 cs t=true)->acc.length+2*ls.length<=100 →
  ∃y4,bp (gN 4) blF ls [.va R,.ow (.lst acc),s2,s3,s4] = .ok (.nx [.va R,.ow (.lst (acc++ls.flatMap lB)),s2,s3,y4])
 | [],acc,s4,_,_=>⟨s4,by simp[bp]⟩
 | t::ls,acc,s4,hl,hn=>by
  rw[Lm]at hn
  have:=AB t
  have st:blF [.va R,.ow (.lst acc),s2,s3,.va t] = .ok (.nx [.va R,.ow (.lst (acc++lB t)),s2,s3,.va t]):=AN (l:=acc) (aS (ts:=[t]) rfl (yG (hl t Ll))) rfl (by omega)
  obtain⟨y4,ih⟩:=xG R cs s2 s3 ls (acc++lB t) (.va t) (λu h=>hl u (Lg _ h)) (by rw[Lo];omega)
  refine⟨y4,?_⟩
  rw[fq (Z1:=[.va R,.ow (.lst acc),s2,s3,.va t]) rfl st,ih,Pw,Ms]
theorem iC {R:T}(hp:R.pl=true)(h:dM R=true):aW [R] = .ok .non:=by
 refine rK (Z:=[.va R]) rfl ?_
 show dg [.va R] =_
 unfold dg;exact(dR ((fR (k:=true) (bV (aS (ts:=[R]) rfl (by rw[ur R hp,h])))))).trans rfl
theorem yn {R:T}(hp:R.pl=true)(h:dM R=false):aW [R] = .err "NoRecord":=by
 refine vB rfl ?_
 show dg [.va R] =_
 unfold dg;exact(gG ((fR (k:=false) (bV (aS (ts:=[R]) rfl (by rw[ur R hp,h])))))).trans rfl
structure Good (cs ls:List T):Prop where
 c:aY (.tup cs)=true
 l:∀t∈ls,a7 cs t=true
 n:ls.length<=8
 p:(RR cs ls).pl=true
theorem Good.ok {cs ls:List T}(g:Good cs ls):dM (RR cs ls)=true:=by
 show(aY (.tup cs)&&(dn (.tup ls) 0 8&&ls.all (a7 cs)))=true
 rw[g.c,Nz,Lf,LK];exact⟨by simp[dn];exact g.n,g.l⟩
theorem Bu {cs ls:List T}(g:Good cs ls):cR [RR cs ls] = .ok (.lst (p9 cs ls)):=by
 obtain⟨hc,c1,c4⟩:=bL g.c
 have hn:=g.n;refine bA rfl ?_
 show oB [.va (RR cs ls),.em,.em,.em,.em] =_
 unfold oB;rw[aC (rN (t:=.non) (aS (ts:=[RR cs ls]) rfl (iC g.p g.ok)))];rw[aC (Z':=[.va (RR cs ls),.ow (.lst []),.em,.em,.em]) (AH (by simp))]
 obtain⟨y2,y3,e⟩:=xH (RR cs ls) .em cs [] 0 .em .em hc (by simp;omega)
 rw[aC ((g8 (ts:=cI 0 cs) rfl e))]
 have:=vS (i:=0) hc;obtain⟨y4,e2⟩:=xG (RR cs ls) cs y2 y3 ls ([] ++bC 0 cs) .em g.l (by rw[OU];omega)
 rw[aC ((g8 (ts:=ls) rfl e2))]
 rfl
theorem kG {l:List T}:(T.tup l).pl=plS l:=by unfold T.pl;rfl
theorem Good.parts {cs ls:List T}(g:Good cs ls):(T.tup cs).pl=true/\∀t∈ls,t.pl=true:=by
 have:=g.p;rw[kG]at this;unfold plS at this;rw[Lf]at this
 have h2:=this.2;unfold plS at h2;rw[Lf,kG]at h2;exact⟨this.1,λt ht=>fL h2.1 ht⟩
theorem Good.sub {cs ls ms:List T}(g:Good cs ls)(hm:∀t∈ms,t∈ls)(hn:ms.length<=8):Good cs ms:=⟨g.c,λt ht=>g.l t (hm t ht),hn,by
 obtain⟨h1,h2⟩:=g.parts;rw[kG];refine kH λt ht=> ?_
 simp only[Lp,Mj,or_false]at ht;rcases ht with rfl | rfl
 ·exact h1
 ·rw[kG];exact kH λt ht=>h2 t (hm t ht)⟩
theorem E5 {cs:List T}{y:T}(h:aO cs y=true):y.pl=true/\y.dep<=1:=by
 obtain⟨c,k,rfl⟩:=cU h;exact⟨rfl,by simp[T.dep,deps]⟩
theorem IZ {cs:List T}{a b x y:T}(h:a7 cs (.tup [a,b,x,y])=true):y.pl=true/\y.dep=0:=by
 obtain⟨a',b',x',y',e,hd,_⟩:=dH h;cases e;unfold cp at hd;rw[Lf]at hd;obtain⟨i,rfl,_⟩:=bo hd.1
 cases y with
 | non=>exact⟨rfl,rfl⟩
 | int j=>exact⟨rfl,rfl⟩
 | bl j=>exact⟨rfl,rfl⟩
 | str j=>exact⟨rfl,rfl⟩
 | tup j=>cases hd.2
 | lst j=>cases hd.2
 | scr j=>cases hd.2
 | dct _ _=>cases hd.2
 | ob _ _ _=>cases hd.2
theorem Di {l:List T}{r:Int}(h0:0<=r)(h1:r<l.length):∃t∈l,aU (.lst l) (.int r)= .ok t:=by
 obtain⟨n,rfl⟩:=L0 h0
 have hn:n<l.length:=by omega
 exact⟨l[n],MB hn,vH hn⟩
theorem FF {t:T}(h:sm 8 t=true):t.pl=true:=zv t h
abbrev peF:En->Rs Fl:=mT 1 (hW (iR (ae (cl cz (ae (o2 aU (vr 3) (cn (.int 2))) aj)) aj)) [none,some 2] (gN 0) bT (bJ (ae (vr 1) (ae (vr 0) aj))))
theorem zT (c0 s1:Sl)(x y:T)(r:List T)(i:Nat)(h:r.length<=4) :
  hW (iR (ae (cl cz (ae (o2 aU (vr 3) (cn (.int 2))) aj)) aj)) [none,some 2] (gN 0) bT (bJ (ae (vr 1) (ae (vr 0) aj))) [c0,s1,.va (.int i),.va (.tup [x,y,.tup r])] = .ok (.lst (lV i r.length)):=
 uc (Ha (j:=(r.length:Int)) rfl (by omega) (by omega)) (aD (k:=4) (by rw[j5];exact h)) (by simp) λt _=>mk2 _ _
theorem wG:∀(cs:List T) (c0:T) (acc:List T) (i:Nat) (s2 s3:Sl),(∀c∈cs,bf c=true)->acc.length+4*cs.length<=100 →
  ∃y2 y3,bp evG peF (cI i cs) [.va c0,.ow (.lst acc),s2,s3] = .ok (.nx [.va c0,.ow (.lst (acc++dQ i cs)),y2,y3])
 | [],c0,acc,i,s2,s3,_,_=>⟨s2,s3,by simp[cI,bp,dQ]⟩
 | c::cs,c0,acc,i,s2,s3,hc,hl=>by
  obtain⟨x,y,r,rfl,r1,r2⟩:=ef (hc c Ll);rw[Lm]at hl
  have st:peF [.va c0,.ow (.lst acc),.va (.int i),.va (.tup [x,y,.tup r])] = .ok (.nx [.va c0,.ow (.lst (acc++lV i r.length)),.va (.int i),.va (.tup [x,y,.tup r])]):=AN (l:=acc) (zT _ _ x y r i r2) rfl (by rw[fB];omega)
  obtain⟨z2,z3,ih⟩:=wG cs c0 (acc++lV i r.length) (i+1) (.va (.int i)) (.va (.tup [x,y,.tup r])) (λc h=>hc c (Lg _ h)) (by rw[Lo,fB];omega)
  refine⟨z2,z3,?_⟩
  rw[cI,fq (Z1:=[.va c0,.ow (.lst acc),.va (.int i),.va (.tup [x,y,.tup r])]) rfl st,ih,dQ,Ms]
  rfl
theorem z0 {cs ls:List T}(g:Good cs ls):dG [RR cs ls] = .ok (.lst (dQ 0 cs)):=by
 obtain⟨hc,c1,c4⟩:=bL g.c;refine bA rfl ?_
 show oA [.va (RR cs ls),.em,.em,.em] =_
 unfold oA;rw[aC (rN (t:=.non) (aS (ts:=[RR cs ls]) rfl (iC g.p g.ok)))];rw[aC (Z':=[.va (RR cs ls),.ow (.lst []),.em,.em]) (AH (by simp))]
 obtain⟨y2,y3,e⟩:=wG cs (RR cs ls) [] 0 .em .em hc (by simp;omega)
 rw[aC ((g8 (ts:=cI 0 cs) rfl e))]
 rfl
theorem wL {cs ls:List T}{t:T}(g:Good cs ls)(ht:t.pl=true)(h:aO cs t=true):dF [RR cs ls,t] = .ok .non:=by
 refine rK (Z:=[.va (RR cs ls),.va t]) rfl ?_
 show gP [.va (RR cs ls),.va t] =_
 unfold gP;exact(dR ((fR (k:=true) (bV (aS (ts:=[.tup cs,t]) rfl (by rw[rZ cs t g.c ht,h])))))).trans rfl
theorem p2 {a b:En->Rs T}{t u:T}{Z:En}(ha:a Z= .ok t)(hb:b Z= .ok u):bJ (ae a (ae b aj)) Z= .ok (.tup [t,u]):=cT (au ha (au hb rfl)) (aD (k:=2) (by simp))
theorem xX {l:List T}:fV [.lst l] = .ok (.tup l):=rfl
theorem Ek {cs ls:List T}(g:Good cs ls):(p9 cs ls).length<=60:=by
 unfold p9;rw[Lo];obtain⟨hc,c1,c4⟩:=bL g.c
 have:=vS (i:=0) hc
 have:=wZ ls
 have:=g.n;omega
end G
namespace G
open PySem Tr Gr
structure N2 where
 c:Int
 k:Int
deriving DecidableEq
theorem N2.ext':∀{u v:N2},u.c=v.c->u.k=v.k->u=v
 | ⟨_,_⟩,⟨_,_⟩,rfl,rfl=>rfl
def en (v:N2):T:=.tup [.int v.c,.int v.k]
def eB (x:N2×N2×Int):T:=.tup [en x.1,en x.2.1,.int x.2.2]
def eN (ks:List Nat):List T:=ks.map λk=> .int (k:Nat)
def eW (x:Int×List Nat):T:=.tup [.int x.1,.lst (eN x.2)]
def ky (v:N2):List L2.Key:=[.inl v.c,.inl v.k]
theorem cx (v:N2):keyOf (en v)=some (ky v):=rfl
theorem rG {u v:N2}(h:some (ky u)=some (ky v)):u=v:=by
 injection h with h
 injection h with h1 h2
 injection h2 with h2 _
 injection h1 with h1
 injection h2 with h2
 exact N2.ext' h1 h2
theorem rY {u v:N2}(h:en u=en v):u=v:=rG (by rw[<-cx u,<-cx v,h])
theorem oa (u v:N2):aV (en u) (en v)=decide (u=v):=by
 unfold en aV beqTs aV beqTs beqTs
 by_cases h:u=v
 ·subst h;simp[aV]
 ·have:¬ (u.c=v.c/\u.k=v.k):=λz=>h (N2.ext' z.1 z.2)
  simp[h,aV];exact λz=>λy=>this ⟨z,y⟩
theorem xw (g:N2->T)(v:N2):∀(ns:List N2),lq (ns.map en) (ns.map g) (ky v)=if v∈ns then some (g v)else none
 | [] =>rfl
 | u::ns=>by
  rw[Lk,Lk,lq,cx]
  by_cases h:u=v
  ·subst h;rw[if_pos rfl,if_pos Ll]
  ·rw[if_neg (λz=>h (rG z)),xw g v ns]
   have:(v∈u::ns)↔v∈ns:=by rw[Lp];exact⟨λz=>z.elim (λy=>absurd y.symm h) id,.inr⟩
   simp only[this]
theorem nX (x:T)(v:N2)(g:N2->T):∀(ns:List N2),v∉ns->gM (en v) x (ns.map en) (ns.map g)=(ns.map en++ [en v],ns.map g++ [x])
 | [],_=>rfl
 | u::ns,h=>by
  rw[Lp,not_or]at h;rw[Lk,Lk,gM,cx,cx,if_neg (λz=>h.1 (rG z).symm),nX x v g ns h.2]
  rfl
theorem xu (x:T)(v:N2)(g:N2->T):∀(ns:List N2),ns.Nodup->v∈ns->gM (en v) x (ns.map en) (ns.map g)=(ns.map en,ns.map λu=>if u=v then x else g u)
 | [],_,h=>by simp at h
 | u::ns,hn,h=>by
  rw[LJ]at hn;rw[Lk,Lk,Lk,gM,cx,cx]
  by_cases z:u=v
  ·subst z
   rw[if_pos rfl,if_pos rfl]
   congr 2
   exact MP λw hw=>by rw[if_neg (λ(y:w=u)=>hn.1 (y▸hw))]
  ·rw[if_neg (λy=>z (rG y)),if_neg z]
   have h':v∈ns:=(Lp.mp h).elim (λy=>absurd y.symm z) id
   rw[xu x v g ns hn.2 h']
theorem iW {α:Type}[DecidableEq α]:∀{l m:List α},l.Nodup->(∀x∈l,x∈m)->l.length<=m.length
 | [],_,_,_=>Nk _
 | x::l,m,hn,h=>by
  rw[LJ]at hn
  have hx:=h x Ll
  have:=iW (m:=m.erase x) hn.2 λy hy=>(OL (λ(z:y=x)=>hn.1 (z▸hy))).mpr (h y (Lg _ hy))
  rw[Px hx]at this
  have:0<m.length:=PY hx;rw[Lm];omega
def oW (o:Option (Int×List Nat)):T:=match o with
 | some x=>eW x
 | none=> .non
structure DR (P ns:List N2)(b:bW N2):Prop where
 nd:ns.Nodup
 mem:∀v,v∈ns↔(b v).isSome=true
 sub:∀v∈ns,v∈P
def dV (ns:List N2)(b:bW N2):List T:=ns.map λv=>oW (b v)
theorem DR.get {P ns:List N2}{b:bW N2}(D:DR P ns b)(v:N2):lq (ns.map en) (dV ns b) (ky v)=(b v).map eW:=by
 unfold dV;rw[xw (λv=>oW (b v))]
 have:=D.mem v
 cases q:b v with
 | none=>rw[q]at this;rw[if_neg (λz=>by simpa using this.mp z)];rfl
 | some x=>rw[q]at this;rw[if_pos (this.mpr rfl)];rfl
theorem DR.put {P ns:List N2}{b:bW N2}(D:DR P ns b){v:N2}(hv:v∈P)(y:Int×List Nat):∃ns',DR P ns' (Gr.put b v y)/\gM (en v) (eW y) (ns.map en) (dV ns b)=(ns'.map en,dV ns' (Gr.put b v y)):=by
 by_cases h:v∈ns
 ·refine⟨ns,⟨D.nd,λu=> ?_,D.sub⟩,?_⟩
  ·by_cases z:u=v
   ·subst z;rw[dE];exact⟨λ_=>rfl,λ_=>h⟩
   ·rw[jv z];exact D.mem u
  ·unfold dV
   rw[xu _ _ _ _ D.nd h]
   congr 1
   refine MP λu _=> ?_
   by_cases z:u=v
   ·subst z;rw[if_pos rfl,dE];rfl
   ·rw[if_neg z,jv z]
 ·refine⟨ns++ [v],⟨?_,λu=> ?_,λu hu=> ?_⟩,?_⟩
  ·exact Mt.mpr ⟨D.nd,by simp,λx hx y hy=>by simp at hy;subst hy;exact λz=>h (z▸hx)⟩
  ·rw[LH,Ly]
   by_cases z:u=v
   ·subst z;rw[dE];exact⟨λ_=>rfl,λ_=> .inr rfl⟩
   ·rw[jv z,<-D.mem u];exact⟨λw=>w.elim id λy=>absurd y z,.inl⟩
  ·rcases LH.mp hu with w | w
   ·exact D.sub u w
   ·rw[Ly.mp w];exact hv
  ·unfold dV
   rw[nX _ _ _ _ h,MY,MY]
   congr 1
   congr 1
   ·refine MP λu hu=> ?_
    rw[jv (λ(z:u=v)=>h (z▸hu))]
   ·simp[dE,oW]
theorem Bv {P ns:List N2}{b:bW N2}(D:DR P ns b)(x:N2×N2×Int)(d:Int)(w:List Nat) :
  cQ [.dct (ns.map en) (dV ns b),eB x,eW (d,w)] = .ok (.bl (dN b x.2.1 (d+x.2.2))):=by
 refine bA rfl ?_
 show iN [.va (.dct (ns.map en) (dV ns b)),.va (eB x),.va (eW (d,w)),.em] =_
 unfold iN
 have g:oD g9 (vr 0) (o2 aU (vr 1) (cn (.int 1))) [.va (.dct (ns.map en) (dV ns b)),.va (eB x),.va (eW (d,w)),.em] = .ok (oW (b x.2.1)):=by
  refine Jp (ks:=ns.map en) (vs:=dV ns b) (u:=en x.2.1) rfl rfl ?_
  unfold g9;rw[cx];simp only[D.get];cases b x.2.1 <;> rfl
 rw[aC (bQ (t:=oW (b x.2.1)) (Z':=[.va (.dct (ns.map en) (dV ns b)),.va (eB x),.va (eW (d,w)),.va (oW (b x.2.1))]) g rfl)];refine cb ?_
 unfold dN
 cases q:b x.2.1 with
 | none=>exact GZ (aG (t:=.non) (u:=.non) rfl rfl rfl)
 | some y=>exact(G0 (aG (t:=eW y) (u:=.non) rfl rfl rfl)).trans (aG (t:=.int (d+x.2.2)) (u:=.int y.1) rfl rfl rfl)
abbrev BY:En->Rs Fl:=(aA (cv (ln 2 (oD g9 (vr 2) (o2 aU (vr 5) (cn (.int 0))))) (gN 6)) (aA (fH (kA (tb (o2 jC (vr 6) (cn .non))) (cK (GL 2 (tb (cl cQ (ae (vr 2) (ae (vr 5) (ae (vr 6) aj)))))))) EH sN) (aA (cv (o2 aX (o2 aU (vr 6) (cn (.int 1))) (eM (ae (vr 4) aj))) (gN 7)) (aA (cv (hW (iS (vr 7)) [none,some 0] (gN 0) bT (o2 aU (o2 aU (vr 1) (vr 0)) (cn (.int 0)))) (gN 8)) (aA (fH (tb (o2 HC (o2 aU (vr 5) (cn (.int 1))) (vr 8))) (aI (bJ (ae (cn .non) (ae (sl (vr 7) (pS (oL fO (vr 8) (o2 aU (vr 5) (cn (.int 1))))) pN) aj)))) sN) (aA (ya 2 (o2 aU (vr 5) (cn (.int 1))) (bJ (ae (o2 aX (o2 aU (vr 6) (cn (.int 0))) (o2 aU (vr 5) (cn (.int 2)))) (ae (vr 7) aj)))) (cv (cn (.bl true)) (gN 3))))))))
abbrev JY:T->En->Rs En:=gT 2 (ue (gN 4) (ue (gN 5) B2))
def eL (L:bh N2):T:=.lst (L.map eB)
def zu (L:bh N2)(t:T):T:=match t with
 | .int j=>match L[j.toNat]? with
  | some x=>en x.1
  | none=> .non
 | _=> .non
theorem wJ {L:bh N2}:∀{ks:List Nat} {a b:N2},Ch L a ks b->(eN ks).map (zu L)=(dz L ks).map en
 | [],_,_,_=>rfl
 | k::r,a,b,h=>by
  rw[h.J9];obtain⟨c,m,e,h⟩:=h
  show zu L (.int k)::(eN r).map (zu L)=en a::(dz L r).map en
  rw[wJ h]
  congr 1
  unfold zu;simp only[Mr,e]
theorem BK (v:N2):∀(l:List N2),qb (en v) (l.map en)=decide (v∈l)
 | [] =>rfl
 | u::l=>by
  have ih:=BK v l;unfold qb at ih ⊢;rw[Lk,Ny,ih,oa]
  by_cases h:u=v
  ·subst h;simp
  ·have h':¬ v=u:=λz=>h z.symm
   simp[h,h']
theorem uk (v:N2):∀(l:List N2) (n:Nat),v∈l->i8 (en v) (l.map en) n=some (n+l.idxOf v)
 | [],n,h=>by simp at h
 | u::l,n,h=>by
  rw[Lk,i8,oa,Sa]
  by_cases z:u=v
  ·subst z;simp
  ·have h':v∈l:=(Lp.mp h).elim (λy=>absurd y.symm z) id
   have zb:(u == v)=false:=by rw[beq_eq_false_iff_ne];exact z
   rw[zb,decide_eq_false z,if_neg LM,uk v l (n+1) h'];simp only[cond_false]
   congr 1
   omega
theorem EM (v:N2):(en v).nd=true:=rfl
theorem rC {α:Type}(f:α->T)(h:∀a,(f a).nd=true):∀l:List α,nds (l.map f)=true
 | [] =>rfl
 | a::l=>by rw[Lk,nds,h a,rC f h l];rfl
theorem r8 (v:N2):(en v).dep<=60:=by show(T.tup [.int v.c,.int v.k]).dep<=60;simp[T.dep,deps]
theorem Jz (v:N2)(l:List N2):HC (en v) (.lst (l.map en))= .ok (.bl (decide (v∈l))):=by
 show(if (_\/_)/\_/\(T.lst (l.map en)).nd=true then _ else _)=_
 rw[if_pos ⟨.inl (r8 v),rfl,rC en EM l⟩,BK]
theorem AU (v:N2)(l:List N2)(h:v∈l):fO (.lst (l.map en)) (en v)= .ok (.int ((l.idxOf v:Nat):Int)):=by
 unfold fO;simp only;rw[if_pos ⟨.inl (r8 v),rfl,rC en EM l⟩,uk v l 0 h,RH]
theorem Ho (p q:List Nat):eN (p++q)=eN p++eN q:=by unfold eN;rw[MY]
theorem Ah (D:Bool):∀ks:List Nat,nks D (eN ks)=true
 | [] =>rfl
 | k::r=>by show nks D (.int k::eN r)=true;unfold nks;rw[Ah D r];rfl
theorem Ch.len {L:bh N2}{ks:List Nat}{a b:N2}(h:Ch L a ks b)(hn:(dz L ks).Nodup):ks.length<=L.length:=by
 have:=iW (h.nodup hn) (m:=L6 L.length) λk hk=>Mp.mpr (h.lt k hk)
 rwa [NP]at this
abbrev sE (L:bh N2)(st:T)(o:OT)(b:Bool)(k:Nat)(x:N2×N2×Int)(s6 s7 s8:Sl):En:=[.va (eL L),.va st,.ow o,.va (.bl b),.va (.int k),.va (eB x),s6,s7,s8]
def Fc (L:bh N2)(P ns:List N2)(b:bW N2)(k:Nat)(x:N2×N2×Int)(st:T)(mv:Bool)(s6 s7 s8:Sl):Sum (Option (bW N2)) (List Nat)->Prop
 | .inl none=> ∃s6' s7' s8',BY (sE L st (.dct (ns.map en) (dV ns b)) mv k x s6 s7 s8)= .ok (.ct (sE L st (.dct (ns.map en) (dV ns b)) mv k x s6' s7' s8'))
 | .inl (some b')=> ∃ns' s6' s7' s8',DR P ns' b'/\BY (sE L st (.dct (ns.map en) (dV ns b)) mv k x s6 s7 s8)= .ok (.nx (sE L st (.dct (ns'.map en) (dV ns' b')) true k x s6' s7' s8'))
 | .inr q=>BY (sE L st (.dct (ns.map en) (dV ns b)) mv k x s6 s7 s8)= .ok (.rt (.tup [.non,.lst (eN q)]))
theorem Cy {L:bh N2}{S P ns:List N2}{b:bW N2}{k:Nat}{x:N2×N2×Int}(K:Kept L S b)(D:DR P ns b)(hL:L.length<=500)(hP:P.length<1000)(e:L[k]? =some x)(hx:x.2.1∈P)(st:T)(mv:Bool)(s6 s7 s8:Sl) :
  Fc L P ns b k x st mv s6 s7 s8 (gC L b k x):=by
 obtain⟨a,c,m⟩:=x;unfold Fc
 generalize hks:ns.map en=ks
 generalize hvs:dV ns b=vs
 have get:∀s7 s8,ln 2 (oD g9 (vr 2) (o2 aU (vr 5) (cn (.int 0)))) (sE L st (.dct ks vs) mv k (a,c,m) s6 s7 s8)= .ok (oW (b a)):=λs7 s8=>by
  refine G4 (o:=.dct ks vs) rfl (Jp (ks:=ks) (vs:=vs) (u:=en a) rfl rfl ?_) ?_
  ·unfold g9
   rw[cx,<-hks,<-hvs];simp only[D.get];cases b a <;> rfl
  ·cases b a with
   | none=>rfl
   | some y=>show nks true [.int y.1,.lst (eN y.2)] =true;simp[nks,T.nk,Ah]
 have s1:∀G,aA (cv (ln 2 (oD g9 (vr 2) (o2 aU (vr 5) (cn (.int 0))))) (gN 6)) G (sE L st (.dct ks vs) mv k (a,c,m) s6 s7 s8)=G (sE L st (.dct ks vs) mv k (a,c,m) (.va (oW (b a))) s7 s8):=λG=>
  aC (bQ (t:=oW (b a)) (get s7 s8) rfl)
 cases qa:b a with
 | none=>
  rw[show gC L b k (a,c,m)= .inl none from by unfold gC;simp only[qa]]
  simp only;refine⟨.va .non,s7,s8,?_⟩
  unfold BY;rw[s1,qa]
  exact AF (gG (F:=EH) (ET (bV (aG (t:=.non) (u:=.non) rfl rfl rfl))))
 | some y=>
  obtain⟨d,w⟩:=y
  have bt:∀s7 s8,GL 2 (tb (cl cQ (ae (vr 2) (ae (vr 5) (ae (vr 6) aj))))) (sE L st (.dct ks vs) mv k (a,c,m) (.va (eW (d,w))) s7 s8)= .ok (dN b c (d+m)):=λs7 s8=>by
   refine Jq (bV (aS (ts:=[.dct ks vs,eB (a,c,m),eW (d,w)]) rfl ?_))
   rw[<-hks,<-hvs];exact Bv D (a,c,m) d w
  have nn:tb (o2 jC (vr 6) (cn .non)) (sE L st (.dct ks vs) mv k (a,c,m) (.va (eW (d,w))) s7 s8)= .ok false:=bV (aG (t:=eW (d,w)) (u:=.non) rfl rfl rfl)
  have cond:=nL nn (fR (bt s7 s8))
  have s1':∀G,aA (cv (ln 2 (oD g9 (vr 2) (o2 aU (vr 5) (cn (.int 0))))) (gN 6)) G (sE L st (.dct ks vs) mv k (a,c,m) s6 s7 s8)=G (sE L st (.dct ks vs) mv k (a,c,m) (.va (eW (d,w))) s7 s8):=λG=>by rw[s1 G,qa];rfl
  cases hb:dN b c (d+m)with
  | false=>
   rw[show gC L b k (a,c,m)= .inl none from by unfold gC;simp only[qa,hb];rfl]
   simp only;rw[hb]at cond;refine⟨.va (eW (d,w)),s7,s8,?_⟩
   unfold BY;rw[s1']
   exact AF (gG (F:=EH) cond)
  | true=>
   rw[hb]at cond;obtain⟨s,hs,h1,h2,h3,h4,h5⟩:=K.walk a d w qa
   have hch:Ch L s (w++ [k]) c:=h1.snoc e
   have hwl:w.length<=500:=Mf (Ch.len h1 h4) hL
   have s2:∀G,aA (fH (kA (tb (o2 jC (vr 6) (cn .non))) (cK (GL 2 (tb (cl cQ (ae (vr 2) (ae (vr 5) (ae (vr 6) aj)))))))) EH sN) G (sE L st (.dct ks vs) mv k (a,c,m) (.va (eW (d,w))) s7 s8)=G (sE L st (.dct ks vs) mv k (a,c,m) (.va (eW (d,w))) s7 s8):=λG=>
    aC (Z':=(sE L st (.dct ks vs) mv k (a,c,m) (.va (eW (d,w))) s7 s8)) ((dR (F:=EH) (G:=sN) cond).trans rfl)
   have wk:o2 aX (o2 aU (vr 6) (cn (.int 1))) (eM (ae (vr 4) aj)) (sE L st (.dct ks vs) mv k (a,c,m) (.va (eW (d,w))) s7 s8)= .ok (.lst (eN (w++ [k]))):=by
    refine aG (t:=.lst (eN w)) (u:=.lst (eN [k])) rfl (kj (ts:=[.int k]) rfl (aD (k:=1) (by simp))) ?_
    show jr (eN w++eN [k])=_
    rw[<-Ho];unfold jr;rw[if_pos (aD (k:=1000) (by unfold eN;rw[Ln,Lo];simp;omega))]
   have s3:∀G,aA (cv (o2 aX (o2 aU (vr 6) (cn (.int 1))) (eM (ae (vr 4) aj))) (gN 7)) G (sE L st (.dct ks vs) mv k (a,c,m) (.va (eW (d,w))) s7 s8)=G (sE L st (.dct ks vs) mv k (a,c,m) (.va (eW (d,w))) (.va (.lst (eN (w++ [k])))) s8):=λG=>aC (bQ wk rfl)
   have ps:hW (iS (vr 7)) [none,some 0] (gN 0) bT (o2 aU (o2 aU (vr 1) (vr 0)) (cn (.int 0))) (sE L st (.dct ks vs) mv k (a,c,m) (.va (eW (d,w))) (.va (.lst (eN (w++ [k])))) s8)= .ok (.lst ((dz L (w++ [k])).map en)):=by
    rw[<-wJ hch];refine uc (ts:=eN (w++ [k])) (lJ rfl) (aD (k:=1000) (by unfold eN;rw[Ln,Lo];simp;omega)) (by simp) λt ht=> ?_
    unfold eN at ht;obtain⟨j,hj,rfl⟩:=LQ.mp ht
    have hjl:=hch.lt j hj;refine aG (t:=eB L[j]) (u:=.int 0) (AL (l:=L.map eB) (n:=j) rfl rfl (by rw[LI,Ls hjl];rfl)) rfl ?_
    unfold zu;simp only[Mr,Ls hjl]
    rfl
   have s4:∀G,aA (cv (hW (iS (vr 7)) [none,some 0] (gN 0) bT (o2 aU (o2 aU (vr 1) (vr 0)) (cn (.int 0)))) (gN 8)) G (sE L st (.dct ks vs) mv k (a,c,m) (.va (eW (d,w))) (.va (.lst (eN (w++ [k])))) s8)=G (sE L st (.dct ks vs) mv k (a,c,m) (.va (eW (d,w))) (.va (.lst (eN (w++ [k])))) (.va (.lst ((dz L (w++ [k])).map en)))):=λG=>aC (bQ ps rfl)
   have inn:tb (o2 HC (o2 aU (vr 5) (cn (.int 1))) (vr 8)) (sE L st (.dct ks vs) mv k (a,c,m) (.va (eW (d,w))) (.va (.lst (eN (w++ [k])))) (.va (.lst ((dz L (w++ [k])).map en))))= .ok (decide (c∈dz L (w++ [k]))):=
    bV (aG (t:=en c) (u:=.lst ((dz L (w++ [k])).map en)) rfl rfl (Jz c _))
   by_cases hn:c∈dz L (w++ [k])
   ·rw[show gC L b k (a,c,m)= .inr ((w++ [k]).drop ((dz L (w++ [k])).idxOf c))from by unfold gC;simp only[qa,hb,if_pos hn,if_true]]
    simp only;unfold BY;rw[s1',s2,s3,s4];rw[decide_eq_true hn]at inn;refine gd ((gG inn).trans (cb ?_))
    have sle:sl (vr 7) (pS (oL fO (vr 8) (o2 aU (vr 5) (cn (.int 1))))) pN (sE L st (.dct ks vs) mv k (a,c,m) (.va (eW (d,w))) (.va (.lst (eN (w++ [k])))) (.va (.lst ((dz L (w++ [k])).map en))))= .ok (.lst (eN ((w++ [k]).drop ((dz L (w++ [k])).idxOf c)))):=by
     rw[Jo (l:=eN (w++ [k])) (lo:=some (((dz L (w++ [k])).idxOf c:Nat):Int)) (hi:=none) rfl (k_pS (k_oL (ks:=(dz L (w++ [k])).map en) (u:=en c) rfl rfl (AU c _ hn))) rfl,BF];unfold eN;rw[List.map_drop]
    exact(cT (ts:=[.non,.lst (eN ((w++ [k]).drop ((dz L (w++ [k])).idxOf c)))]) (au rfl (au sle rfl)) (aD (k:=2) (by simp)))
   ·rw[show gC L b k (a,c,m)= .inl (some (Gr.put b c (d+m,w++ [k])))from by unfold gC;simp only[qa,hb,if_neg hn,if_true]]
    simp only;rw[decide_eq_false hn]at inn;obtain⟨ns',D',hd⟩:=D.put hx (d+m,w++ [k]);refine⟨ns',.va (eW (d,w)),.va (.lst (eN (w++ [k]))),.va (.lst ((dz L (w++ [k])).map en)),D',?_⟩
    unfold BY;rw[s1',s2,s3,s4];rw[aC (Z':=(sE L st (.dct ks vs) mv k (a,c,m) (.va (eW (d,w))) (.va (.lst (eN (w++ [k])))) (.va (.lst ((dz L (w++ [k])).map en))))) ((dR (G:=sN) inn).trans rfl)]
    have pt:ya 2 (o2 aU (vr 5) (cn (.int 1))) (bJ (ae (o2 aX (o2 aU (vr 6) (cn (.int 0))) (o2 aU (vr 5) (cn (.int 2)))) (ae (vr 7) aj))) (sE L st (.dct ks vs) mv k (a,c,m) (.va (eW (d,w))) (.va (.lst (eN (w++ [k])))) (.va (.lst ((dz L (w++ [k])).map en))))
      = .ok (.nx (sE L st (.dct (ns'.map en) (dV ns' (Gr.put b c (d+m,w++ [k])))) mv k (a,c,m) (.va (eW (d,w))) (.va (.lst (eN (w++ [k])))) (.va (.lst ((dz L (w++ [k])).map en))))):=by
     have ev:bJ (ae (o2 aX (o2 aU (vr 6) (cn (.int 0))) (o2 aU (vr 5) (cn (.int 2)))) (ae (vr 7) aj)) (sE L st (.dct ks vs) mv k (a,c,m) (.va (eW (d,w))) (.va (.lst (eN (w++ [k])))) (.va (.lst ((dz L (w++ [k])).map en))))= .ok (eW (d+m,w++ [k])):=
      cT (ts:=[.int (d+m),.lst (eN (w++ [k]))]) rfl (aD (k:=2) (by simp))
     have ek:o2 aU (vr 5) (cn (.int 1)) (sE L st (.dct ks vs) mv k (a,c,m) (.va (eW (d,w))) (.va (.lst (eN (w++ [k])))) (.va (.lst ((dz L (w++ [k])).map en))))= .ok (en c):=rfl
     show(bJ _ _ >>= λv=>o2 aU (vr 5) (cn (.int 1)) _ >>= λkk=>match keyOf kk with | some _=>if ks.length<1000 then Rs.ok (Fl.nx _)else .bad | none=> .bad)=_
     rw[ev,az,ek,az,cx]
     have hlen:ks.length<1000:=by rw[<-hks,Ln];exact Q4 (iW D.nd D.sub) hP
     simp only[if_pos hlen]
     have hd1:gM (en c) (eW (d+m,w++ [k])) ks vs=(ns'.map en,dV ns' (Gr.put b c (d+m,w++ [k]))):=by rw[<-hks,<-hvs];exact hd
     rw[hd1]
     rfl
    rw[aC pt];exact bQ (t:=.bl true) rfl rfl
def yR (L:bh N2)(st:T)(ns:List N2)(b:bW N2)(mv:Bool)(s4 s5 s6 s7 s8:Sl):En:=[.va (eL L),.va st,.ow (.dct (ns.map en) (dV ns b)),.va (.bl mv),s4,s5,s6,s7,s8]
def BO (L:bh N2)(P:List N2)(st:T)(X:Rs Fl):Sum (bW N2×Bool) (List Nat)->Prop
 | .inr q=>X= .ok (.rt (.tup [.non,.lst (eN q)]))
 | .inl (b',mv')=> ∃ns' s4 s5 s6 s7 s8,DR P ns' b'/\X= .ok (.nx (yR L st ns' b' mv' s4 s5 s6 s7 s8))
theorem qm {L:bh N2}{S P:List N2}(hL:L.length<=500)(hP:P.length<1000)(hx:∀x∈L,x.2.1∈P)(st:T):∀(r:bh N2) (k:Nat) (b:bW N2) (mv:Bool) (ns:List N2) (s4 s5 s6 s7 s8:Sl),L.drop k=r->Kept L S b->DR P ns b →
  BO L P st (bp JY BY (cI k (r.map eB)) (yR L st ns b mv s4 s5 s6 s7 s8)) (gX L k r b mv)
 | [],k,b,mv,ns,s4,s5,s6,s7,s8,_,K,D=>⟨ns,s4,s5,s6,s7,s8,D,rfl⟩
 | x::r,k,b,mv,ns,s4,s5,s6,s7,s8,hr,K,D=>by
  have e:L[k]? =some x:=by
   have:=congrArg (·[0]?) hr
   simpa using this
  have hr':L.drop (k+1)=r:=by
   have:=congrArg (List.drop 1) hr
   simpa [List.drop_drop,RC]using this
  have tg:JY (.tup [.int k,eB x]) (yR L st ns b mv s4 s5 s6 s7 s8)= .ok [.va (eL L),.va st,.ow (.dct (ns.map en) (dV ns b)),.va (.bl mv),.va (.int k),.va (eB x),s6,s7,s8]:=rfl
  have tn:=Cy K D hL hP e (hx x (Mw e)) st mv s6 s7 s8;rw[gX,Lk,cI]
  cases q:gC L b k x with
  | inr w=>
   rw[q]at tn;simp only;unfold BO
   exact xf tg tn
  | inl o=>
   rw[q]at tn
   cases o with
   | none=>
    obtain⟨s6',s7',s8',tn⟩:=tn;simp only;rw[DO tg tn]
    exact qm hL hP hx st r (k+1) b mv ns _ _ _ _ _ hr' K D
   | some b'=>
    obtain⟨ns',s6',s7',s8',D',tn⟩:=tn;simp only;rw[fq tg tn];refine qm (S:=S) hL hP hx st r (k+1) b' true ns' _ _ _ _ _ hr' ?_ D'
    -- what is kept stays so
    obtain⟨a,c,m⟩:=x;unfold gC at q
    cases qa:b a with
    | none=>simp only[qa]at q;cases q
    | some y=>
     obtain⟨d,w⟩:=y;simp only[qa]at q
     split at q
     ·rename_i hb
      split at q
      ·cases q
      ·rename_i hn
       cases q;exact K.put e qa hb hn
     ·cases q
abbrev wF:En->Rs Fl:=aA (cv (cn (.bl false)) (gN 3)) (ir (iE (ae (vr 0) aj)) JY BY)
def SetP (L:bh N2)(P:List N2)(st:T)(X:Rs Fl):Sum (bW N2) (List Nat)->Prop
 | .inr q=>X= .ok (.rt (.tup [.non,.lst (eN q)]))
 | .inl b'=> ∃ns' s4 s5 s6 s7 s8,DR P ns' b'/\X= .ok (.nx (yR L st ns' b' false s4 s5 s6 s7 s8))
theorem sX {L:bh N2}{S P:List N2}(hL:L.length<=500)(hP:P.length<1000)(hx:∀x∈L,x.2.1∈P)(st:T):∀(n:Nat) (b:bW N2) (ns:List N2) (s4 s5 s6 s7 s8:Sl) (r:Sum (bW N2) (List Nat)),Kept L S b->DR P ns b->Gr.settle L n b=some r →
  SetP L P st (bw (tb (vr 3)) wF (n+1) (yR L st ns b true s4 s5 s6 s7 s8)) r
 | 0,_,_,_,_,_,_,_,_,_,_,h=>by cases h
 | n+1,b,ns,s4,s5,s6,s7,s8,r,K,D,h=>by
  have sw:=qm hL hP hx st L 0 b false ns s4 s5 s6 s7 s8 rfl K D
  have ok:=ie (S:=S) L 0 b false rfl K
  have body:∀X,bp JY BY (cI 0 (L.map eB)) (yR L st ns b false s4 s5 s6 s7 s8)= .ok X->wF (yR L st ns b true s4 s5 s6 s7 s8)= .ok X:=λX hX=>by
   show aA _ _ _=_
   rw[aC (Z':=yR L st ns b false s4 s5 s6 s7 s8) (bQ (t:=.bl false) rfl rfl)];exact g8 (ts:=cI 0 (L.map eB)) (Jt rfl) hX
  have tt:tb (vr 3) (yR L st ns b true s4 s5 s6 s7 s8)= .ok true:=rfl;rw[Gr.settle]at h
  revert sw ok h
  generalize gX L 0 L b false=R
  intro h sw ok
  cases R with
  | inr q=>
   simp only at h;cases h
   exact AE tt (body _ sw)
  | inl p=>
   obtain⟨b',mv'⟩:=p;obtain⟨ns',t4,t5,t6,t7,t8,D',sw⟩:=sw;obtain⟨K',_⟩:=ok
   cases mv' with
   | true=>
    simp only at h
    have ih:=sX hL hP hx st n b' ns' t4 t5 t6 t7 t8 r K' D' h;rw[nK tt (body _ sw)]
    exact ih
   | false=>
    simp only at h;cases h;refine⟨ns',t4,t5,t6,t7,t8,D',?_⟩
    rw[nK tt (body _ sw)];exact ub rfl
theorem gH {c:En->Rs Bool}{F:En->Rs Fl}{x:Fl}:∀{n m:Nat} {Z:En},n<=m->bw c F n Z= .ok x->bw c F m Z= .ok x
 | 0,_,_,_,h=>by cases h
 | n+1,0,_,hl,_=>absurd hl (by omega)
 | n+1,m+1,Z,hl,h=>by
  unfold bw at h ⊢
  cases q:c Z with
  | bad=>rw[q]at h;cases h
  | err _=>rw[q]at h;cases h
  | ok k=>
   rw[q]at h
   cases k with
   | false=>exact h
   | true=>
    simp only at h ⊢
    cases q2:F Z with
    | bad=>rw[q2]at h;cases h
    | err _=>rw[q2]at h;cases h
    | ok f=>
     rw[q2]at h
     cases f with
     | nx Z'=>exact gH (by omega) h
     | ct Z'=>exact gH (by omega) h
     | bk Z'=>exact h
     | rt t=>exact h
theorem zN (w:T):∀S:List N2,Hz (S.map λv=> .tup [en v,w])=some (S.map λv=>(en v,w))
 | [] =>rfl
 | v::S=>by rw[Lk,Hz,cx,zN w S];rfl
theorem uu (w:T):∀(S ns:List N2) (g:N2->T),(ns++S).Nodup->(∀v∈S,g v=w)->iH (S.map λv=>(en v,w)) (ns.map en,ns.map g)=((ns++S).map en,(ns++S).map g)
 | [],ns,g,_,_=>by rw[LZ];rfl
 | v::S,ns,g,hn,hg=>by
  have hv:v∉ns:=λz=>by
   rw[Mt]at hn;exact hn.2.2 v z v Ll rfl
  rw[Lk,iH,nX _ _ _ _ hv]
  have e1:ns.map en++ [en v] =(ns++ [v]).map en:=by rw[MY];rfl
  have e2:ns.map g++ [w] =(ns++ [v]).map g:=by rw[MY,<-hg v Ll];rfl
  rw[e1,e2,uu w S (ns++ [v]) g (by rw[Ms];exact hn) λu hu=>hg u (Lg _ hu),Ms]
  rfl
theorem Ee (w:T)(S:List N2)(hn:S.Nodup)(hl:S.length<=1000):xv [.lst (S.map λv=> .tup [en v,w])] = .ok (.dct (S.map en) (S.map λ_=>w)):=by
 unfold xv;simp only[zN];rw[if_pos (by rw[Ln];exact hl)]
 have:=uu w S [] (λ_=>w) (by simpa using hn) (λ_ _=>rfl)
 rw[OU]at this;rw[show(([]:List T),([]:List T))=(([]:List N2).map en,([]:List N2).map λ_=>w)from rfl,this]
def eS (S:List N2):T:=.lst (S.map en)
def Er (L:bh N2)(P:List N2)(X:Rs T):Sum (bW N2) (List Nat)->Prop
 | .inr q=>X= .ok (.tup [.non,.lst (eN q)])
 | .inl b'=> ∃ns',DR P ns' b'/\X= .ok (.tup [.dct (ns'.map en) (dV ns' b'),.non])
structure JV (L:bh N2)(P:List N2):Prop where
 len:L.length<=500
 size:size L<=100000000
 ends:∀x∈L,x.1∈P/\x.2.1∈P
 pl:P.length<1000
def SOk (L:bh N2)(S:List N2):Sum (bW N2) (List Nat)->Prop
 | .inr q=>Bar L q
 | .inl b'=>Settled L S b'
theorem nT {L:bh N2}{S P:List N2}(F:JV L P)(hS:S.Nodup)(hSP:∀v∈S,v∈P):∃r,Er L P (c8 [eL L,eS S]) r/\SOk L S r:=by
 have bound:L.length*(2*size L+1)<1000000000000 - 1:=by
  have h1:=F.len
  have h2:=F.size
  have:L.length*(2*size L+1)<=500*(2*100000000+1):=Nat.mul_le_mul h1 (by omega)
  omega
 obtain⟨r,hr,ok⟩:=uR L S bound
 have ok':SOk L S r:=by cases r <;> exact ok
 refine⟨r,?_,ok'⟩
 have hSl:S.length<=1000:=Mf (iW hS hSP) (by have:=F.pl;omega)
 have D0:DR P S (Gr.start S):=⟨hS,λv=>by unfold Gr.start;by_cases h:v∈S <;> simp[h],hSP⟩
 have dv0:dV S (Gr.start S)=S.map λ_=>eW (0,[]):=MP λv hv=>by unfold Gr.start;rw[if_pos hv];rfl
 have w:=sX F.len F.pl (λx hx=>(F.ends x hx).2) (eS S) _ (Gr.start S) S .em .em .em .em .em r (nI L S) D0 hr
 have lc:hW (iS (vr 1)) [none] (gN 0) bT (bJ (ae (vr 0) (ae (bJ (ae (cn (.int 0)) (ae (eM aj) aj))) aj))) [.va (eL L),.va (eS S),.em,.em,.em,.em,.em,.em,.em] = .ok (.lst (S.map λv=> .tup [en v,eW (0,[])])):=by
  have:=uc (fi:=iS (vr 1)) (src:=[none]) (fe:=bJ (ae (vr 0) (ae (bJ (ae (cn (.int 0)) (ae (eM aj) aj))) aj))) (h:=λt=> .tup [t,eW (0,[])]) (Z:=[.va (eL L),.va (eS S),.em,.em,.em,.em,.em,.em,.em]) (ts:=S.map en) (lJ rfl) (aD (k:=1000) (by rw[Ln];exact hSl)) (by simp) λt _=>
   cT (ts:=[t,eW (0,[])]) (au rfl (au (cT (ts:=[.int 0,.lst []]) (au rfl (au (kj (ts:=[]) rfl (Nk _)) rfl)) (aD (k:=2) (by simp))) rfl)) (aD (k:=2) (by simp))
  rw[this,N5];rfl
 have n0:pD 2 (hW (iS (vr 1)) [none] (gN 0) bT (bJ (ae (vr 0) (ae (bJ (ae (cn (.int 0)) (ae (eM aj) aj))) aj)))) [.va (eL L),.va (eS S),.em,.em,.em,.em,.em,.em,.em] = .ok (.nx [.va (eL L),.va (eS S),.ow (.dct (S.map en) (dV S (Gr.start S))),.em,.em,.em,.em,.em,.em]):=by
  unfold pD;rw[lc,az,Ee _ S hS hSl,az,dv0]
  rfl
 have main:∀G X,bw (tb (vr 3)) wF FU (yR L (eS S) S (Gr.start S) true .em .em .em .em .em)= .ok X->iK [.va (eL L),.va (eS S),.em,.em,.em,.em,.em,.em,.em] =G->(aA (bw (tb (vr 3)) wF FU) (qC 2 (aI (bJ (ae (vr 2) (ae (cn .non) aj)))))) (yR L (eS S) S (Gr.start S) true .em .em .em .em .em)=G:=λG X _ h=>by
  rw[<-h];unfold iK;rw[aC n0,aC (Z':=yR L (eS S) S (Gr.start S) true .em .em .em .em .em) (bQ (t:=.bl true) rfl rfl)]
 cases r with
 | inr q=>
  have w':=gH (m:=FU) (by unfold FU;omega) w
  refine bA rfl ?_
  show iK [.va (eL L),.va (eS S),.em,.em,.em,.em,.em,.em,.em] =_
  rw[<-main _ _ w' rfl]
  exact gd w'
 | inl b'=>
  obtain⟨ns',s4,s5,s6,s7,s8,D',w⟩:=w
  have w':=gH (m:=FU) (by unfold FU;omega) w
  refine⟨ns',D',bA rfl ?_⟩
  show iK [.va (eL L),.va (eS S),.em,.em,.em,.em,.em,.em,.em] =_
  rw[<-main _ _ w' rfl,aC w'];exact Jx (cb (cT (ts:=[.dct (ns'.map en) (dV ns' b'),.non]) rfl (aD (k:=2) (by simp))))
theorem kg {α:Type}{f:α->T}{p:α->Prop}:∀{l:List T},(∀t∈l,∃x,t=f x/\p x)->∃L:List α,l=L.map f/\∀x∈L,p x
 | [],_=>⟨[],rfl,λ_ h=>nomatch h⟩
 | t::l,h=>by
  obtain⟨x,e,hx⟩:=h t Ll;obtain⟨L,e2,h2⟩:=kg (l:=l) λu hu=>h u (Lg _ hu)
  exact⟨x::L,by rw[e,e2];rfl,λy hy=>(Lp.mp hy).elim (λz=>z▸hx) (h2 y)⟩
theorem nZ {t:T}(h:bf t=true):∃(x y:Int) (r:List Int),t= .tup [.int x,.int y,.tup (r.map .int)]/\(0<=x/\x<=9)/\(0<=y/\y<=9)/\∀k,0<=r.getD k 0/\r.getD k 0<=99:=by
 obtain⟨x,y,r,rfl,h1,h2,h3,h4⟩:=fD h;refine⟨x,y,r,rfl,h1,h2,λk=> ?_⟩
 have h':(lP (.int x) (.int y)&&cf (.tup (r.map .int)))=true:=h;rw[Lf]at h'
 have hr:=h'.2;unfold cf at hr;rw[Lf]at hr
 have hr2:(((r.map T.int).all λu=>aN u 0 99)&&(match jc (r.map .int)with | some m=>l7 m | none=>false))=true:=hr.2
 rw[Lf]at hr2
 by_cases hk:k<r.length
 ·have:=LK.mp hr2.1 (.int r[k]) (LQ.mpr ⟨_,MB hk,rfl⟩)
  obtain⟨i,e,a,b⟩:=bo this;cases e;simp[hk];exact⟨a,b⟩
 ·simp[hk]
theorem wO {cs:List T}{i:Nat}:∀{cs0:List T} {c k:Nat},i<=c->c<i+cs0.length->k<EI (cs0.getD (c - i) .non)->T.tup [.int c,.int k] ∈dQ i cs0:=by
 intro cs0
 induction cs0 generalizing i with
 | nil=>intro c k h1 h2;simp at h2;omega
 | cons a r ih=>
  intro c k h1 h2 h3;rw[dQ,LH]
  by_cases e:c=i
  ·subst e
   rw[Qb]at h3
   have h3':k<EI a:=h3;exact .inl (LQ.mpr ⟨.int k,DF h3',rfl⟩)
  ·refine .inr (ih (by omega) (by rw[Lm]at h2;omega) ?_)
   rw[show c - i=(c - (i+1))+1 by omega]at h3
   exact h3
theorem pR {cs:List T}{t:T}(h:aO cs t=true):t∈dQ 0 cs:=by
 obtain⟨c,k,rfl⟩:=cU h;unfold aO at h;simp only[Lf,decide_eq_true_eq]at h;obtain⟨⟨h1,h2⟩,h3,h4⟩:=h;obtain⟨c,rfl⟩:=L0 h1;obtain⟨k,rfl⟩:=L0 h3;rw[pE]at h4;exact wO (cs:=cs) (Nk _) (by omega) (by rw[RF];omega)
theorem Bj {cs:List T}{t:T}(h:t∈dQ 0 cs):∃v:N2,t=en v/\True:=by
 obtain⟨c,k,rfl,_⟩:=mh cs 0 h;exact⟨⟨c,k⟩,rfl,trivial⟩
def big (x:N2×N2×Int):Prop:=x.2.2.natAbs<=999
theorem pK {a b:Int}(ha : -99<=a/\a<=99)(hb:0<=b/\b<=9):(a*b).natAbs<=999:=by
 rw[Int.natAbs_mul]
 have h1:a.natAbs<=99:=by omega
 have h2:b.natAbs<=9:=by omega
 exact Mf (Nat.mul_le_mul h1 h2) (by decide)
theorem Fb {cs0:List T}:∀{cs:List T} {i:Nat},(∀c∈cs,bf c=true)->(∀c k:Nat,i<=c->c<i+cs.length->k<EI (cs.getD (c - i) .non)->T.tup [.int c,.int k] ∈dQ 0 cs0) →
  ∀t∈bC i cs,∃x,t=eB x/\(en x.1∈dQ 0 cs0/\en x.2.1∈dQ 0 cs0/\big x)
 | [],_,_,_,t,h=>by simp[bC]at h
 | c::cs,i,hc,hm,t,h=>by
  rw[bC,LH]at h;rcases h with h | h
  ·obtain⟨x,y,r,rfl,hx,hy,hr⟩:=nZ (hc c Ll)
   have hm0:∀k,k<r.length->T.tup [.int i,.int k] ∈dQ 0 cs0:=λk hk=>hm i k (Lv _) (by simp) (by rw[Qb];show k<(r.map T.int).length;rw[Ln];exact hk)
   rw[pv]at h;unfold cB at h;obtain⟨k,hk,hp⟩:=MJ.mp h
   have hk:=Mp.mp hk
   have d : -99<=dr r k/\dr r k<=99:=by have:=hr k;have:=hr (k+1);unfold dr;omega
   unfold pr at hp;simp only[Lp,Mj,or_false]at hp;rcases hp with rfl | rfl
   ·exact⟨(⟨i,k⟩,⟨i,((k+1:Nat):Int)⟩,dr r k*y),rfl,hm0 k (by omega),hm0 (k+1) (by omega),pK d hy⟩
   ·exact⟨(⟨i,((k+1:Nat):Int)⟩,⟨i,k⟩,-dr r k*x),rfl,hm0 (k+1) (by omega),hm0 k (by omega),pK (by omega) hx⟩
  ·exact Fb (cs:=cs) (i:=i+1) (λc h=>hc c (Lg _ h)) (λc k h1 h2 h3=>hm c k (by omega) (by rw[Lm];omega) (by rw[show c - i=(c - (i+1))+1 by omega];exact h3)) t h
theorem Jk {cs:List T}{u:T}(hu:a7 cs u=true):∀t∈lB u,∃x,t=eB x/\(en x.1∈dQ 0 cs/\en x.2.1∈dQ 0 cs/\big x):=by
 intro t ht;obtain⟨a,b,x,y,rfl,hd,ha,hb,_⟩:=dH hu
 have ma:=pR ha
 have mb:=pR hb;obtain⟨va,rfl,_⟩:=Bj ma;obtain⟨vb,rfl,_⟩:=Bj mb;unfold cp at hd;rw[Lf]at hd;obtain⟨i,rfl,i1,i2⟩:=bo hd.1
 have e2:lB (.tup [en va,en vb,.int i,y])= .tup [en vb,en va,.int (-i)] ::(if y.isN then []else [.tup [en va,en vb,y]]):=rfl
 rw[e2]at ht;rcases Lp.mp ht with rfl | ht
 ·exact⟨(vb,va,-i),rfl,mb,ma,by unfold big;simp only;omega⟩
 ·cases q:y.isN with
  | true=>rw[q]at ht;simp at ht
  | false=>
   rw[q]at ht
   have ht:t= .tup [en va,en vb,y]:=by simpa using ht
   have hw:aN y i 999=true:=by
    cases y with
    | non=>cases q
    | _=>exact hd.2
   obtain⟨j,rfl,j1,j2⟩:=bo hw;exact⟨(va,vb,j),ht,ma,mb,by unfold big;simp only;omega⟩
structure Rd (cs ls:List T)(L:bh N2)(P:List N2):Prop where
 g:Good cs ls
 b:p9 cs ls=L.map eB
 e:dQ 0 cs=P.map en
 f:JV L P
 nd:P.Nodup
 pl:P.length<=16
 ll:L.length<=60
 bg:∀x∈L,big x
theorem Cv {L:bh N2}(h:∀x∈L,big x):size L<=999*L.length:=by
 unfold size
 induction L with
 | nil=>simp
 | cons x L ih=>
  rw[Lk,MV,Lm]
  have:=ih λy hy=>h y (Lg _ hy)
  have:=h x Ll;unfold big at this;omega
theorem Ac {P:List N2}(h:(P.map en).Nodup):P.Nodup:=by
 induction P with
 | nil=>exact NB
 | cons a r ih=>
  rw[Lk,LJ]at h;exact LJ.mpr ⟨λz=>h.1 (LQ.mpr ⟨a,z,rfl⟩),ih h.2⟩
theorem jn {cs ls:List T}(g:Good cs ls):∃L P,Rd cs ls L P:=by
 obtain⟨hc,c1,c4⟩:=bL g.c;obtain⟨P,eP,_⟩:=kg (f:=en) (p:=λ_=>True) (l:=dQ 0 cs) λt ht=>Bj ht
 have key:∀t∈p9 cs ls,∃x,t=eB x/\(en x.1∈dQ 0 cs/\en x.2.1∈dQ 0 cs/\big x):=λt ht=>by
  unfold p9 at ht;rw[LH]at ht;rcases ht with h | h
  ·exact Fb hc (λc k h1 h2 h3=>wO (cs:=cs) h1 h2 h3) t h
  ·obtain⟨u,hu,h⟩:=MJ.mp h
   exact Jk (g.l u hu) t h
 obtain⟨L,eL,hL⟩:=kg key
 have mem:∀v:N2,en v∈dQ 0 cs->v∈P:=λv hv=>by
  rw[eP]at hv;obtain⟨u,hu,e⟩:=LQ.mp hv;rw[<-rY e];exact hu
 have hl:=Ek g;rw[eL,Ln]at hl
 have hp:=rX cs 0 hc;rw[eP,Ln]at hp
 have hs:=Cv λx hx=>(hL x hx).2.2
 exact⟨L,P,g,eL,eP,⟨by omega,by omega,λx hx=>⟨mem _ (hL x hx).1,mem _ (hL x hx).2.1⟩,by omega⟩,Ac (eP▸kM cs 0),by omega,hl,λx hx=>(hL x hx).2.2⟩
def EX:T->Bool
 | .lst _=>true
 | _=>false
theorem JM (t:T)(h:t.pl=true):AS "list" t= .ok (.bl (EX t)):=by
 cases t <;> first | rfl | (simp[T.pl]at h;done)
def gI (n:Nat)(t:T):Bool:=match t with
 | .lst l=>l.all λu=>aN u 0 ((n:Int) - 1)
 | _=>false
theorem zO {l:List T}:(T.lst l).pl=plS l:=by unfold T.pl;rfl
theorem lp (L:bh N2)(t:T)(h:t.pl=true)(hl:∀l,t= .lst l->l.length<=1000):cj [eL L,t] = .ok (.bl (gI L.length t)):=by
 refine bA rfl ?_
 show gn [.va (eL L),.va t] =_
 unfold gn;refine cb ?_
 cases q:EX t with
 | false=>
  rw[mj (yy (t:=t) rfl (by rw[JM t h,q]))]
  cases t <;> first | rfl | cases q
 | true=>
  cases t with
  | lst l=>
   refine(AQ (yy (t:=.lst l) rfl rfl)).trans ?_
   refine(aS (ts:=[.lst (l.map λu=> .bl (aN u 0 ((L.length:Int) - 1)))]) (au ?_ rfl) (all_map _ _))
   refine uc (ts:=l) (lJ rfl) (aD (hl l rfl) (by omega)) (by simp) λu hu=> ?_
   refine aS (ts:=[u,.int 0,.int ((L.length:Int) - 1)]) (au rfl (au rfl (au (aG (t:=.int (L.length:Int)) (u:=.int 1) (aS (ts:=[eL L]) rfl ?_) rfl rfl) rfl))) (ee _ _ _ (fL (zO▸h) hu))
   show Rs.ok (T.int ((L.map eB).length:Nat))=_
   rw[Ln]
  | _=>cases q
theorem qY {n:Nat}{t:T}(h:gI n t=true):∃ks:List Nat,t= .lst (eN ks)/\∀k∈ks,k<n:=by
 cases t with
 | lst l=>
  have h:(l.all λu=>aN u 0 ((n:Int) - 1))=true:=h
  obtain⟨ks,e,hk⟩:=kg (f:=λk:Nat=>T.int (k:Nat)) (p:=λk=>k<n) (l:=l) λu hu=>by
   obtain⟨i,rfl,a,b⟩:=bo (LK.mp h u hu);obtain⟨k,rfl⟩:=L0 a;exact⟨k,rfl,by omega⟩
  exact⟨ks,by rw[e];rfl,hk⟩
 | _=>cases h
theorem vh {n:Nat}{ks:List Nat}(h:∀k∈ks,k<n):gI n (.lst (eN ks))=true:=by
 show((eN ks).all λu=>aN u 0 ((n:Int) - 1))=true
 rw[LK];intro u hu;obtain⟨k,hk,rfl⟩:=LQ.mp hu
 have:=h k hk;unfold aN
 simp;omega
def run (L:bh N2):N2->List Nat->Option N2
 | a,[] =>some a
 | a,k::r=>match L[k]? with
  | some x=>if x.1=a then run L x.2.1 r else none
  | none=>none
theorem run_ch {L:bh N2}:∀{ks:List Nat} {a b:N2},run L a ks=some b↔Ch L a ks b
 | [],a,b=>by unfold run Ch;exact⟨λh=>LY h,λh=>by rw[h]⟩
 | k::r,a,b=>by
  unfold run Ch
  cases q:L[k]? with
  | none=>simp
  | some x=>
   obtain⟨u,v,m⟩:=x;simp only
   by_cases h:u=a
   ·subst h
    rw[if_pos rfl,run_ch];exact⟨λz=>⟨v,m,rfl,z⟩,λ⟨c,m',e,z⟩=>by cases e;exact z⟩
   ·rw[if_neg h]
    exact⟨λz=>(by cases z),λ⟨c,m',e,z⟩=>by cases e;exact absurd rfl h⟩
theorem EL (u v:N2):kS (en u) (en v)= .ok (.bl (!decide (u=v))):=by
 unfold kS;rw[if_pos (fz (r8 u) rfl rfl),oa]
theorem JK (u v:N2):o8 (en u) (en v)= .ok (.bl (decide (u=v))):=by
 unfold o8;rw[if_pos (fz (r8 u) rfl rfl),oa]
theorem xJ {L:bh N2}{k:Nat}{x:N2×N2×Int}{f g:En->Rs T}{Z:En}(hf:f Z= .ok (eL L))(hg:g Z= .ok (.int (k:Nat)))(e:L[k]? =some x):o2 aU f g Z= .ok (eB x):=
 AL (l:=L.map eB) hf hg (by rw[LI,e];rfl)
abbrev Ji:En->Rs Fl:=(aA (fH (tb (o2 kS (o2 aU (o2 aU (vr 0) (vr 5)) (cn (.int 0))) (vr 4))) (aI (cn (.bl false))) sN) (cv (o2 aU (o2 aU (vr 0) (vr 5)) (cn (.int 1))) (gN 4)))
abbrev B0 (L:bh N2)(s1 s2 s3:Sl)(a:N2)(s5:Sl):En:=[.va (eL L),s1,s2,s3,.va (en a),s5]
theorem wW (L:bh N2)(s1 s2 s3:Sl):∀(ks:List Nat) (a:N2) (s5:Sl),(∀k∈ks,k<L.length)->match run L a ks with
  | some c=> ∃s5',bp (gN 5) Ji (eN ks) (B0 L s1 s2 s3 a s5)= .ok (.nx (B0 L s1 s2 s3 c s5'))
  | none=>bp (gN 5) Ji (eN ks) (B0 L s1 s2 s3 a s5)= .ok (.rt (.bl false))
 | [],a,s5,_=>⟨s5,rfl⟩
 | k::ks,a,s5,h=>by
  have hk:=h k Ll
  have e:L[k]? =some L[k]:=Ls hk
  unfold run;rw[e];simp only
  have c1:tb (o2 kS (o2 aU (o2 aU (vr 0) (vr 5)) (cn (.int 0))) (vr 4)) (B0 L s1 s2 s3 a (.va (.int (k:Nat))))= .ok (!decide (L[k].1=a)):=
   bV (aG (t:=en L[k].1) (u:=en a) (aG (t:=eB L[k]) (u:=.int 0) (xJ rfl rfl e) rfl rfl) rfl (EL _ _))
  by_cases q:L[k].1=a
  ·rw[if_pos q]
   have ih:=wW L s1 s2 s3 ks L[k].2.1 (.va (.int (k:Nat))) λj hj=>h j (Lg _ hj)
   have st:Ji (B0 L s1 s2 s3 a (.va (.int (k:Nat))))= .ok (.nx (B0 L s1 s2 s3 L[k].2.1 (.va (.int (k:Nat))))):=by
    rw[decide_eq_true q]at c1;refine(aC (Z':=B0 L s1 s2 s3 a (.va (.int (k:Nat)))) ((dR c1).trans rfl)).trans ?_
    exact bQ (t:=en L[k].2.1) (aG (t:=eB L[k]) (u:=.int 1) (xJ rfl rfl e) rfl rfl) rfl
   show match run L L[k].2.1 ks with
    | some c=> ∃s5',bp (gN 5) Ji (.int (k:Nat)::eN ks) _=_
    | none=>bp (gN 5) Ji (.int (k:Nat)::eN ks) _=_
   rw[fq (Z1:=B0 L s1 s2 s3 a (.va (.int (k:Nat)))) rfl st];exact ih
  ·rw[if_neg q]
   rw[decide_eq_false q]at c1;exact xf (Z1:=B0 L s1 s2 s3 a (.va (.int (k:Nat)))) rfl (gd ((gG c1).trans rfl))
theorem D6 {L:bh N2}{a b:N2}{t:T}(h:t.pl=true)(hl:∀l,t= .lst l->l.length<=1000):(gI L.length t=false/\kf [eL L,en a,en b,t] = .ok (.bl false)) ∨
  ∃ks,t= .lst (eN ks)/\(∀k∈ks,k<L.length)/\kf [eL L,en a,en b,t] = .ok (.bl (decide (run L a ks=some b))):=by
 cases q:gI L.length t with
 | false=>
  refine .inl ⟨rfl,bA rfl ?_⟩
  show kz [.va (eL L),.va (en a),.va (en b),.va t,.em,.em] =_
  unfold kz
  exact gd ((gG (fR (k:=false) (bV (aS (ts:=[eL L,t]) rfl (by rw[lp L t h hl,q]))))).trans rfl)
 | true=>
  obtain⟨ks,rfl,hk⟩:=qY q;refine .inr ⟨ks,rfl,hk,bA rfl ?_⟩
  show kz [.va (eL L),.va (en a),.va (en b),.va (.lst (eN ks)),.em,.em] =_
  unfold kz;rw[aC (Z':=[.va (eL L),.va (en a),.va (en b),.va (.lst (eN ks)),.em,.em]) ((dR (fR (k:=true) (bV (aS (ts:=[eL L,.lst (eN ks)]) rfl (by rw[lp L _ h hl,q]))))).trans rfl)]
  rw[aC (Z':=B0 L (.va (en a)) (.va (en b)) (.va (.lst (eN ks))) a .em) (bQ (t:=en a) rfl rfl)]
  have lo:=wW L (.va (en a)) (.va (en b)) (.va (.lst (eN ks))) ks a .em hk
  cases r:run L a ks with
  | none=>
   rw[r]at lo
   rw[gd (g8 (ts:=eN ks) (lJ rfl) lo)];rfl
  | some c=>
   rw[r]at lo;obtain⟨s5,lo⟩:=lo;rw[aC (g8 (ts:=eN ks) (lJ rfl) lo)];refine cb ((aG (t:=en c) (u:=en b) rfl rfl (JK c b)).trans ?_)
   simp
theorem iU (f:Nat->Int):∀ks:List Nat,j9 (ks.map λk=>T.int (f k))=some (ks.map f)
 | [] =>rfl
 | k::ks=>by rw[Lk,j9,iU f ks];rfl
theorem uz (L:bh N2):∀ks:List Nat,(ks.map (most L)).sum=cM L ks
 | [] =>rfl
 | k::ks=>by rw[Lk,MV,uz L ks];rfl
theorem JL {L:bh N2}{ks:List Nat}(hk:∀k∈ks,k<L.length)(hl:ks.length<=1000):ke [eL L,.lst (eN ks)] = .ok (.int (cM L ks)):=by
 refine bA rfl ?_
 show oy [.va (eL L),.va (.lst (eN ks))] =_
 unfold oy
 have e:hW (iS (vr 1)) [none,some 0] (gN 0) bT (o2 aU (o2 aU (vr 1) (vr 0)) (cn (.int 2))) [.va (eL L),.va (.lst (eN ks))] = .ok (.lst ((eN ks).map λt=>match t with | .int i=> .int (most L i.toNat) | _=> .non)):=
  uc (ts:=eN ks) (lJ rfl) (aD (by unfold eN;rw[Ln];exact hl) (by omega)) (by simp) λt ht=>by
   obtain⟨k,h,rfl⟩:=LQ.mp ht
   have h:=hk k h
   have e:L[k]? =some L[k]:=Ls h
   refine(aG (t:=eB L[k]) (u:=.int 2) (xJ rfl rfl e) rfl rfl).trans ?_
   show Rs.ok (T.int L[k].2.2)= .ok (.int (most L (k:Int).toNat))
   rw[Mr,most,e]
 refine cb (aS (au e rfl) ?_)
 have:((eN ks).map λt=>match t with | .int i=>T.int (most L i.toNat) | _=> .non)=ks.map λk=>T.int (most L k):=by
  unfold eN;rw[N5];exact MP λk _=>by show T.int (most L (k:Int).toNat)=_;rw[Mr]
 rw[this]
 show(match j9 (ks.map λk=>T.int (most L k))with | some ns=>Rs.ok (T.int ns.sum) | none=> .bad)=_
 rw[iU]
 show Rs.ok (T.int (ks.map (most L)).sum)=_
 rw[uz]
def DL (t:T):List Nat:=match t with
 | .lst l=>l.map λu=>match u with | .int i=>i.toNat | _=>0
 | _=> []
theorem i0 (ks:List Nat):DL (.lst (eN ks))=ks:=by
 show(eN ks).map _=ks
 unfold eN;rw[N5]
 have:∀l:List Nat,l.map ((λu=>match u with | T.int i=>i.toNat | _=>0)∘λk:Nat=>T.int (k:Nat))=l:=by
  intro l
  induction l with
  | nil=>rfl
  | cons a l ih=>rw[Lk,ih];rfl
 exact this ks
section
variable {cs ls:List T}{L:bh N2}{P:List N2}
theorem Rd.ev (R:Rd cs ls L P){v:N2}(h:v∈P):aO cs (en v)=true:=Bi (by rw[R.e];exact LQ.mpr ⟨v,h,rfl⟩)
theorem Rd.bounds (R:Rd cs ls L P):cR [RR cs ls] = .ok (eL L):=by rw[Bu R.g,R.b];rfl
theorem Rd.KO (R:Rd cs ls L P){a b:N2}(ha:a∈P)(hb:b∈P):dX [RR cs ls,en a,en b] = .ok .non:=by
 refine rK (Z:=[.va (RR cs ls),.va (en a),.va (en b)]) rfl ?_
 show gi [.va (RR cs ls),.va (en a),.va (en b)] =_
 unfold gi;rw[aC (rN (t:=.non) (aS (ts:=[RR cs ls]) rfl (iC R.g.p R.g.ok)))];rw[aC (rN (t:=.non) (aS (ts:=[RR cs ls,en a]) rfl (wL R.g rfl (R.ev ha))))];exact rN (t:=.non) (aS (ts:=[RR cs ls,en b]) rfl (wL R.g rfl (R.ev hb)))
end
section
variable {cs ls:List T}{L:bh N2}{P:List N2}
theorem Rd.events (R:Rd cs ls L P):dG [RR cs ls] = .ok (eS P):=by rw[z0 R.g,R.e];rfl
theorem Bz {ns:List N2}{b:bW N2}(D:DR P ns b){v:N2}{x:Int×List Nat}(e:b v=some x):r6 (.dct (ns.map en) (dV ns b)) (en v)= .ok (eW x):=by
 unfold r6;simp only[cx];rw[D.get,e];rfl
theorem Hr {ns:List N2}{b:bW N2}(D:DR P ns b)(v:N2):BA (en v) (.dct (ns.map en) (dV ns b))= .ok (.bl (b v).isSome):=by
 unfold BA;simp only[cx];rw[D.get];cases b v <;> rfl
def tmT (P:List N2)(t:N2->Int):T:=.tup (P.map λv=> .int (t v))
def JW (b:bW N2)(v:N2):Int:=match b v with
 | some x=>x.1
 | none=>0
def atT (t:N2->Int)(u:T):T:=match u with
 | .tup [.int c,.int k] => .int (t ⟨c,k⟩)
 | _=> .non
theorem Rd.KC (R:Rd cs ls L P):(¬NoNeg L/\iY [(RR cs ls)] = .ok .non)\/(NoNeg L/\∃t b,Settled L P b/\(∀v∈P,∃w,b v=some (t v,w))/\iY [(RR cs ls)] = .ok (tmT P t)):=by
 obtain⟨r,hr,ok⟩:=nT R.f R.nd (λv h=>h)
 have wrap:∀{w:T},cW [(RR cs ls),eL L] = .ok w->iY [(RR cs ls)] = .ok w:=λ{w} e=>bA rfl (cb (aS (ts:=[(RR cs ls),eL L]) (au rfl (au (aS (ts:=[(RR cs ls)]) rfl R.bounds) rfl)) e))
 have begin_:∀{x z:T} {y:Rs Fl},c8 [eL L,eS P] = .ok (.tup [x,z])->((aA (fH (tb (o2 jC (vr 3) (cn .non))) (aI (cn .non)) sN) (aI (cl fV (ae (hW (iS (vr 2)) [none,some 3] (gN 0) bT (o2 aU (o2 r6 (vr 1) (vr 0)) (cn (.int 0)))) aj)))) [.va (RR cs ls),.va (eL L),.va (eS P),.va x] =y)->dW [.va (RR cs ls),.va (eL L),.em,.em] =y:=λ{x z y} hs hy=>by
  unfold dW;rw[aC (Z':=[.va (RR cs ls),.va (eL L),.va (eS P),.em]) (bQ (aS (ts:=[(RR cs ls)]) rfl R.events) rfl)];rw[aC (Z':=[.va (RR cs ls),.va (eL L),.va (eS P),.va x]) (bQ (aG (u:=.int 0) (aS (ts:=[eL L,eS P]) rfl hs) rfl rfl) rfl)];exact hy
 cases r with
 | inr q=>exact .inl ⟨λn=>absurd n (Bar.neg ok),wrap (bA rfl (begin_ hr (gd ((gG (bV (aG (t:=.non) (u:=.non) rfl rfl rfl))).trans rfl))))⟩
 | inl b=>
  obtain⟨ns,D,hr⟩:=hr
  have ok:Settled L P b:=ok
  have htm:∀v∈P,∃w,b v=some (JW b v,w):=λv hv=>by
   obtain⟨d,w,e,_⟩:=ok.least v hv v 0 (.nil v);exact⟨w,by unfold JW;rw[e]⟩
  refine .inr ⟨(ok.holds R.f.ends htm).Kt,JW b,b,ok,htm,wrap (bA rfl (begin_ hr ?_))⟩
  generalize JW b=tm at htm
  have lc:hW (iS (vr 2)) [none,some 3] (gN 0) bT (o2 aU (o2 r6 (vr 1) (vr 0)) (cn (.int 0))) [.va (RR cs ls),.va (eL L),.va (eS P),.va (.dct (ns.map en) (dV ns b))] = .ok (.lst ((P.map en).map (atT tm))):=
   uc (ts:=P.map en) (lJ rfl) (aD (k:=16) (by rw[Ln];exact R.pl)) (by simp) λt ht=>by
    obtain⟨v,hv,rfl⟩:=LQ.mp ht;obtain⟨w,e⟩:=htm v hv;exact aG (t:=eW (tm v,w)) (u:=.int 0) (aG (t:=.dct (ns.map en) (dV ns b)) (u:=en v) rfl rfl (Bz D e)) rfl rfl
  rw[N5]at lc;rw[aC (Z':=[.va (RR cs ls),.va (eL L),.va (eS P),.va (.dct (ns.map en) (dV ns b))]) ((dR (bV (aG (t:=.dct (ns.map en) (dV ns b)) (u:=.non) rfl rfl rfl))).trans rfl)];exact cb (aS (au lc rfl) rfl)
theorem Rd.KH (R:Rd cs ls L P):∃hw:Bool,br [(RR cs ls)] = .ok (.bl hw)/\(hw=true↔NoNeg L):=by
 rcases R.KC with⟨n,e⟩ | ⟨n,t,b,_,_,e⟩
 ·exact⟨false,bA rfl (cb (aG (t:=.non) (u:=.non) (aS (ts:=[(RR cs ls)]) rfl e) rfl rfl)),λz=>(by cases z),λz=>absurd z n⟩
 ·exact⟨true,bA rfl (cb (aG (t:=tmT P t) (u:=.non) (aS (ts:=[(RR cs ls)]) rfl e) rfl rfl)),λ_=>n,λ_=>rfl⟩
theorem Rd.KA (R:Rd cs ls L P)(n:NoNeg L):cD [RR cs ls] = .ok .non:=by
 obtain⟨hw,e,i⟩:=R.KH;rw[i.mpr n]at e;refine rK (Z:=[.va (RR cs ls)]) rfl ?_
 show gO [.va (RR cs ls)] =_
 unfold gO;exact(dR (fR (k:=true) (bV (aS (ts:=[RR cs ls]) rfl e)))).trans rfl
theorem Rd.from_ (R:Rd cs ls L P)(n:NoNeg L){a:N2}(ha:a∈P):∃b ns,Settled L [a] b/\DR P ns b/\eI [RR cs ls,en a] = .ok (.dct (ns.map en) (dV ns b)):=by
 obtain⟨r,hr,ok⟩:=nT (S:=[a]) R.f (by simp) (λv h=>by rw[Ly.mp h];exact ha)
 cases r with
 | inr q=>exact absurd n (Bar.neg ok)
 | inl b=>
  obtain⟨ns,D,hr⟩:=hr;refine⟨b,ns,ok,D,bA rfl (cb (aG (u:=.int 0) (aS (ts:=[eL L,eS [a]]) (au (aS (ts:=[RR cs ls]) rfl R.bounds) (au (kj (ts:=[en a]) rfl (aD (k:=1) (by simp))) rfl)) hr) rfl rfl))⟩
def EN (o:Option (Int×List Nat)):T:=match o with
 | some x=> .int x.1
 | none=> .non
theorem Rd.K8 (R:Rd cs ls L P)(n:NoNeg L){a c:N2}(ha:a∈P)(hc:c∈P):∃b,Settled L [a] b/\ba [RR cs ls,en a,en c] = .ok (EN (b c)):=by
 obtain⟨b,ns,S,D,e⟩:=R.from_ n ha;refine⟨b,S,bA rfl ?_⟩
 show fG [.va (RR cs ls),.va (en a),.va (en c)] =_
 unfold fG;rw[aC (rN (t:=.non) (aS (ts:=[RR cs ls,en a,en c]) rfl (R.KO ha hc)))];rw[aC (rN (t:=.non) (aS (ts:=[RR cs ls]) rfl (R.KA n)))];refine cb (aS (ts:=[.dct (ns.map en) (dV ns b),en c]) (au (aS (ts:=[RR cs ls,en a]) rfl e) rfl) (bA rfl ?_))
 refine cb ((xg (p:=(b c).isSome) (bV (aG (t:=en c) (u:=.dct (ns.map en) (dV ns b)) rfl rfl (Hr D c)))).trans ?_)
 cases q:b c with
 | none=>rfl
 | some x=>exact aG (t:=eW x) (u:=.int 0) (aG (t:=.dct (ns.map en) (dV ns b)) (u:=en c) rfl rfl (Bz D q)) rfl rfl
end
theorem Bp {t:T}(hp:t.pl=true)(h:dM t=true):dv [t] = .ok t:=by
 refine bA rfl ?_
 show eg [.va t] =_
 unfold eg;rw[aC (rN (t:=.non) (aS (ts:=[t]) rfl (iC hp h)))];exact cb rfl
theorem Bq {t:T}(hp:t.pl=true)(h:dM t=false):dv [t] = .err "NoRecord":=by
 refine vB rfl ?_
 show eg [.va t] =_
 unfold eg;exact GX (Ju (aS (ts:=[t]) rfl (yn hp h)))
def tq (t:T):Rs T:=if dM t then .ok t else .err "NoRecord"
theorem D8 {t:T}(hp:t.pl=true):dv [t] =tq t:=by
 unfold tq
 cases h:dM t with
 | true=>exact Bp hp h
 | false=>exact Bq hp h
theorem CC {f:En->Rs T}{Z:En}{t:T}(h:f Z=tq t):aI f Z=(if dM t then .ok (.rt t)else .err "NoRecord"):=by
 unfold tq at h
 cases q:dM t with
 | true=>rw[q]at h;exact cb h
 | false=>rw[q]at h;exact GY h
theorem Ci {n m:Nat}{F:En->Rs Fl}{ts:List T}{t:T}(hl:ts.length=n)(h:F (aK m ts)=(if dM t then .ok (.rt t)else .err "NoRecord")):val n m F ts=tq t:=by
 unfold tq
 cases q:dM t with
 | true=>rw[q]at h;exact bA hl h
 | false=>rw[q]at h;exact vB hl h
theorem qI {a b:T}(ha:a.pl=true)(hb:b.pl=true):(T.tup [a,b]).pl=true:=by simp[T.pl,plS,ha,hb]
theorem zP {l m:List T}(h1:(T.tup l).pl=true)(h2:(T.tup m).pl=true):(T.tup (l++m)).pl=true:=by
 rw[kG]at*;exact kH λt ht=>(LH.mp ht).elim (fL h1) (fL h2)
theorem Good.pls {cs ls:List T}(g:Good cs ls):(T.tup ls).pl=true:=by rw[kG];exact kH g.parts.2
theorem qL {cs ls:List T}{t:T}(hc:(T.tup cs).pl=true)(hl:(T.tup ls).pl=true)(hn:ls.length<=20)(ht:t.pl=true)(ok:dM (RR cs ls)=true):a8 [RR cs ls,t] =tq (.tup [.tup cs,.tup (ls++ [t])]):=by
 refine Ci rfl ?_
 show gh [.va (RR cs ls),.va t] =_
 unfold gh;rw[aC (rN (t:=.non) (aS (ts:=[RR cs ls]) rfl (iC (qI hc hl) ok)))];refine CC (aS (ts:=[.tup [.tup cs,.tup (ls++ [t])]]) (au (cT (au (t:=.tup cs) rfl (au (t:=.tup (ls++ [t])) (aG (t:=.tup ls) (u:=.tup [t]) rfl (cT rfl (aD (k:=1) (by simp))) (xK _ _ (by simp;omega))) rfl)) (aD (k:=2) (by simp))) rfl) (D8 (qI hc (zP hl (by simp[T.pl,plS,ht])))))
theorem kq {n:Nat}{l:List T}(h:∀t∈l,t.dep<=n):(T.tup l).dep<=n+1:=by unfold T.dep;have:=xA h;omega
theorem yL {c:T}(h:bf c=true):c.dep<=2:=by
 obtain⟨x,y,r,rfl,_⟩:=fD h;refine kq λt ht=> ?_
 simp only[Lp,Mj,or_false]at ht;rcases ht with rfl | rfl | rfl
 ·simp[T.dep]
 ·simp[T.dep]
 ·exact kq (n:=0) λt ht=>by obtain⟨i,_,rfl⟩:=LQ.mp ht;simp[T.dep]
theorem vt {cs:List T}{t:T}(h:a7 cs t=true):t.dep<=2:=by
 obtain⟨a,b,x,y,rfl,hd,ha,hb,_⟩:=dH h;obtain⟨m1,m2⟩:=IZ h
 have:=(E5 ha).2
 have:=(E5 hb).2
 have hx:x.dep<=2:=by
  unfold cp at hd;rw[Lf]at hd;obtain⟨i,rfl,_⟩:=bo hd.1;simp[T.dep]
 unfold T.dep deps deps deps deps deps;obtain⟨a',b',mo,le,e,_⟩:=fP h;cases e;simp only[T.dep];omega
theorem wq {cs ls:List T}(g:Good cs ls):(T.tup cs).dep<=3/\(T.tup ls).dep<=3:=⟨kq λt ht=>yL ((bL g.c).1 t ht),kq λt ht=>vt (g.l t ht)⟩
theorem CF {cs ls:List T}(h:dM (RR cs ls)=true)(hp:(RR cs ls).pl=true):Good cs ls:=by
 have h':(aY (.tup cs)&&(dn (.tup ls) 0 8&&ls.all (a7 cs)))=true:=h;rw[Lf,Lf,LK]at h';exact⟨h'.1,h'.2.2,by have:=h'.2.1;simp[dn]at this;exact this,hp⟩
end G
set_option maxHeartbeats 1000000
namespace G
open PySem Tr
theorem Ag {D:Bool}:∀{l:List T},(∀t∈l,t.nk D=true)->nks D l=true
 | [],_=>rfl
 | t::l,h=>by unfold nks;rw[h t (.head _),Ag λu hu=>h u (.tail _ hu)];rfl
theorem kR {D:Bool}{l:List T}(h:∀t∈l,t.nk D=true):(T.tup l).nk D=true:=by unfold T.nk;exact Ag h
theorem BH {c:T}(h:bf c=true):c.nk false=true:=by
 obtain⟨x,y,r,rfl,_⟩:=fD h;refine kR λt ht=> ?_
 simp at ht
 rcases ht with rfl | rfl | rfl
 ·rfl
 ·rfl
 ·exact kR λu hu=>by obtain⟨k,_,rfl⟩:=LQ.mp hu;rfl
theorem uo {cs:List T}{t:T}(h:aO cs t=true):t.nk false=true:=by
 obtain⟨c,k,rfl⟩:=cU h;rfl
theorem yu {cs:List T}{t:T}(h:a7 cs t=true):t.nk false=true:=by
 obtain⟨a,b,x,y,rfl,hd,ha,hb,_⟩:=dH h;unfold cp at hd;rw[Lf]at hd;obtain⟨i,rfl,_⟩:=bo hd.1;refine kR λt ht=> ?_
 simp at ht
 rcases ht with rfl | rfl | rfl | rfl
 ·exact uo ha
 ·exact uo hb
 ·rfl
 ·have:=hd.2
  cases t <;> first | rfl | simp[aN]at this
def GR (r:T):Prop:=∃cs ls,r=RR cs ls/\Good cs ls
theorem GR.pl {r:T}(h:GR r):r.pl=true:=by obtain⟨cs,ls,rfl,g⟩:=h;exact g.p
theorem GR.nk {r:T}(h:GR r):r.nk false=true:=by
 obtain⟨cs,ls,rfl,g⟩:=h;refine kR λt ht=> ?_
 simp at ht
 rcases ht with rfl | rfl
 ·exact kR λc hc=>BH ((bL g.c).1 c hc)
 ·exact kR λu hu=>yu (g.l u hu)
theorem GR.dep {r:T}(h:GR r):r.dep<=4:=by
 obtain⟨cs,ls,rfl,g⟩:=h;refine kq λt ht=> ?_
 simp at ht
 rcases ht with rfl | rfl
 ·exact(wq g).1
 ·exact(wq g).2
theorem GR.hw {r:T}(h:GR r):∃b,br [r] = .ok (.bl b):=by
 obtain⟨cs,ls,rfl,g⟩:=h;obtain⟨L,P,R⟩:=jn g;obtain⟨b,e,_⟩:=R.KH;exact⟨b,e⟩
abbrev sp (w r:T):T:=.tup [w,r]
theorem AR (l:List T)(z:T):aU (.lst (l++ [z])) (.int (-1))= .ok z:=by
 have:=xh l z;exact this
end G
namespace G
open PySem Tr Gr
theorem zB:∀{r:List Int} {k:Nat},l7 r=true->k+1<r.length->0<=dr r k
 | [],k,_,h=>by simp at h
 | [a],k,_,h=>by simp at h
 | a::b::r,0,h,_=>by
  rw[CA,Lf]at h
  have:=of_decide_eq_true h.1
  show 0<=b - a
  omega
 | a::b::r,k+1,h,hk=>by
  rw[CA,Lf]at h;exact zB (r:=b::r) (k:=k) h.2 (by simpa using hk)
theorem n5 {t:T}(h:bf t=true):∃(x y:Int) (r:List Int),t= .tup [.int x,.int y,.tup (r.map .int)]/\(0<=x/\x<=9)/\x<=y/\(∀k,0<=r.getD k 0/\r.getD k 0<=99)/\∀k,k+1<r.length->0<=dr r k:=by
 obtain⟨x,y,r,rfl,h1,h2,h3⟩:=nZ h;refine⟨x,y,r,rfl,h1,?_,h3,?_⟩
 ·have h':(lP (.int x) (.int y)&&cf (.tup (r.map .int)))=true:=h
  rw[Lf]at h'
  have hp:(aN (.int x) 1 9&&aN (.int y) x 9)=true:=h'.1;rw[Lf]at hp;obtain⟨i,e,a,b⟩:=bo hp.2;cases e;exact a
 ·have h':(lP (.int x) (.int y)&&cf (.tup (r.map .int)))=true:=h
  rw[Lf]at h'
  have hr:=h'.2;unfold cf at hr;rw[Lf]at hr
  have hr2:(((r.map T.int).all λu=>aN u 0 99)&&(match jc (r.map .int)with | some m=>l7 m | none=>false))=true:=hr.2
  rw[Lf,ix]at hr2;exact λk hk=>zB hr2.2 hk
theorem vR {u:T}:∀{cs:List T} {i:Nat},u∈bC i cs->∃j c,cs[j]? =some c/\u∈xB (i+j) c
 | [],i,h=>by simp[bC]at h
 | c::cs,i,h=>by
  rw[bC,LH]at h;rcases h with h | h
  ·exact⟨0,c,rfl,h⟩
  ·obtain⟨j,d,e,hd⟩:=vR h
   exact⟨j+1,d,e,by rw[show i+(j+1)=i+1+j by omega];exact hd⟩
theorem nV {x y:N2×N2×Int}(h:eB x=eB y):x=y:=by
 obtain⟨a,b,m⟩:=x;obtain⟨a',b',m'⟩:=y;unfold eB at h
 have h':=T.tup.inj h;simp only[NJ,T.int.injEq,and_true]at h';rw[rY h'.1,rY h'.2.1,h'.2.2]
section
variable {cs ls:List T}{L:bh N2}{P:List N2}{i:Nat}{x y:Int}{r:List Int}
def cw (b:Bool)(cs:List T)(v:N2):Int:=match cs[v.c.toNat]? with
 | some (.tup [.int x,.int y,.tup r])=>(if b then y else x)*((jc r).getD []).getD v.k.toNat 0
 | _=>0
theorem E7 (b:Bool)(e:cs[i]? =some (.tup [.int x,.int y,.tup (r.map .int)]))(k:Nat):cw b cs ⟨i,(k:Nat)⟩=(if b then y else x)*r.getD k 0:=by
 unfold cw;simp only[Mr,e,ix,Option.getD_some]
theorem Rd.cw0 (R:Rd cs [] L P)(b:Bool):Holds L (cw b cs):=λu v m hx=>by
 have hb:eB (u,v,m)∈p9 cs []:=by rw[R.b];exact LQ.mpr ⟨_,hx,rfl⟩
 unfold p9 at hb;rw[List.flatMap_nil,LZ]at hb;obtain⟨j,c,hj,hu⟩:=vR hb;rw[RH]at hu;obtain⟨x,y,r,rfl,_,xy,_,dd⟩:=n5 ((bL R.g.c).1 _ (Mw hj));rw[pv]at hu;obtain⟨k,hk,hu⟩:=MJ.mp hu
 have hk':=Mp.mp hk
 have d0:=dd k (by omega)
 have c1:=E7 b hj k
 have c2:=E7 b hj (k+1)
 have fx:x<=(if b then y else x)/\(if b then y else x)<=y:=by cases b <;> simp[xy]
 revert fx c1 c2
 generalize (if b then y else x)=z
 intro c1 c2 fx
 have m1:=OH fx.1 d0
 have m2:=OH fx.2 d0
 have ed:z*r.getD (k+1) 0 - z*r.getD k 0=dr r k*z:=by unfold dr;rw[<-Int.mul_sub,Int.mul_comm]
 unfold pr at hu;simp only[Lp,Mj,or_false]at hu;rcases hu with hu | hu
 ·have:=nV (y:=(⟨j,k⟩,⟨j,((k+1:Nat):Int)⟩,dr r k*y)) hu
  cases this;rw[c1,c2];omega
 ·have:=nV (y:=(⟨j,((k+1:Nat):Int)⟩,⟨j,k⟩,-dr r k*x)) hu
  cases this;rw[c1,c2,Int.neg_mul];omega
theorem Rd.Kz (R:Rd cs ls L P):∃t,((NoNeg L/\t= .non)\/(∃q,Bar L q/\t= .lst (eN q)))/\dU [RR cs ls] = .ok t:=by
 obtain⟨r,hr,ok⟩:=nT R.f R.nd (λv h=>h)
 have wrap:∀{x y:T},c8 [eL L,eS P] = .ok (.tup [x,y])->dU [RR cs ls] = .ok y:=λ{x y} e=>
  bA rfl (cb (aG (t:=.tup [x,y]) (u:=.int 1) (aS (ts:=[eL L,eS P]) (au (aS (ts:=[RR cs ls]) rfl R.bounds) (au (aS (ts:=[RR cs ls]) rfl R.events) rfl)) e) rfl rfl))
 cases r with
 | inr q=>exact⟨_,.inr ⟨q,ok,rfl⟩,wrap hr⟩
 | inl b=>
  obtain⟨ms,D,hr⟩:=hr
  have ok:Settled L P b:=ok
  have all:∀v∈P,∃d w,b v=some (d,w):=λv hv=>by
   obtain⟨d,w,e,_⟩:=ok.least v hv v 0 (.nil v);exact⟨d,w,e⟩
  let tm:N2->Int:=λv=>match b v with | some x=>x.1 | none=>0
  have htm:∀v∈P,∃w,b v=some (tm v,w):=λv hv=>by
   obtain⟨d,w,e⟩:=all v hv;refine⟨w,?_⟩
   show b v=some ((match b v with | some x=>x.1 | none=>0),w)
   rw[e]
  exact⟨_,.inl ⟨(ok.holds R.f.ends htm).Kt,rfl⟩,wrap hr⟩
theorem Rd.inL (R:Rd cs ls L P){x:N2×N2×Int}(h:eB x∈p9 cs ls):x∈L:=by
 rw[R.b]at h;obtain⟨y,hy,e⟩:=LQ.mp h;rw[<-nV e];exact hy
theorem Rd.less {ms:List T}{M:bh N2}{Q:List N2}(R:Rd cs ls L P)(S:Rd cs ms M Q)(h:∀u∈ms,u∈ls)(n:NoNeg L):NoNeg M:=n.mono λx hx=>R.inL (by
 have:eB x∈p9 cs ms:=by rw[S.b];exact LQ.mpr ⟨x,hx,rfl⟩
 unfold p9 at this ⊢;rcases LH.mp this with z | z
 ·exact LW _ z
 ·obtain⟨u,hu,hz⟩:=MJ.mp z
  exact LF _ (MJ.mpr ⟨u,h u hu,hz⟩))
end
def fw (r:T):Bool:=match br [r]with
 | .ok (.bl b)=>b
 | _=>false
theorem GR.has {r:T}(h:GR r):br [r] = .ok (.bl (fw r)):=by
 obtain⟨b,e⟩:=h.hw;unfold fw;rw[e]
theorem gf {cs ls:List T}{L:bh N2}{P:List N2}(R:Rd cs ls L P):fw (RR cs ls)=true↔NoNeg L:=by
 obtain⟨b,e,h⟩:=R.KH;unfold fw;rw[e];exact h
theorem GR.nw {r:T}(h:GR r)(hw:fw r=true):cD [r] = .ok .non:=by
 obtain⟨cs,ls,rfl,g⟩:=h;obtain⟨L,P,R⟩:=jn g;exact R.KA ((gf R).mp hw)
theorem DT {cs ls ms:List T}(g:Good cs ls)(h:∀u∈ms,u∈ls)(hn:ms.length<=8)(hw:fw (RR cs ls)=true):fw (RR cs ms)=true:=by
 obtain⟨L,P,R⟩:=jn g;obtain⟨M,Q,S⟩:=jn (g.sub h hn);exact(gf S).mpr (R.less S h ((gf R).mp hw))
theorem Hb {cs ls:List T}(g:Good cs ls):fw (RR cs [])=true:=by
 obtain⟨M,Q,S⟩:=jn (g.sub (ms:=[]) (λu hu=>by cases hu) (by simp))
 exact(gf S).mpr (S.cw0 true).Kt
def ja (L:bh N2)(k:Nat):N2:=match L[k]? with
 | some x=>x.1
 | none=>⟨0,0⟩
def barK (L:bh N2)(ks:List Nat):Bool:=match ks with
 | [] =>false
 | k::r=>decide (run L (ja L k) (k::r)=some (ja L k))&&decide (cM L (k::r)<0)
def Hv (L:bh N2)(t:T):Bool:=gI L.length t&&barK L (DL t)
theorem II (w:List Nat):∀u∈eN w,u.pl=true:=λu hu=>by obtain⟨k,_,rfl⟩:=LQ.mp hu;rfl
theorem Hg (l:List T)(h:(T.lst l).pl=true):o8 (.lst l) (.lst [])= .ok (.bl l.isEmpty):=by
 unfold o8;rw[if_pos (Bf (by simp[T.dep,deps]) (T.Kg _ h) rfl)]
 cases l with
 | nil=>rfl
 | cons k r=>simp[aV,beqTs]
theorem Aq (ks:List Nat):(eN ks).length=ks.length:=Ln _
section
variable {cs ls:List T}{L:bh N2}{P:List N2}{ns:List Int}
theorem D1 {t:T}(h:t.pl=true)(hl:∀l,t= .lst l->l.length<=1000):c9 [eL L,t] = .ok (.bl (gI L.length t&&match DL t with | [] =>false | k::r=>decide (run L (ja L k) (k::r)=some (ja L k)))):=by
 refine bA rfl ?_
 show gj [.va (eL L),.va t,.em] =_
 unfold gj
 have nm:=lp L t h hl
 cases q:gI L.length t with
 | false=>
  exact gd ((gG (ET (fR (k:=false) (bV (aS (ts:=[eL L,t]) rfl (by rw[nm,q])))))).trans rfl)
 | true=>
  obtain⟨ks,rfl,hk⟩:=qY q
  have c:=nL (fR (k:=true) (bV (aS (g:=cj) (fs:=ae (vr 0) (ae (vr 1) aj)) (Z:=[.va (eL L),.va (.lst (eN ks)),.em]) (ts:=[eL L,.lst (eN ks)]) rfl (by rw[nm,q])))) (bV (aG (fa:=vr 1) (fb:=eM aj) (t:=.lst (eN ks)) (u:=.lst []) rfl (kj rfl (aD (k:=1) (by simp))) (Hg _ h)))
  rw[i0]
  cases ks with
  | nil=>exact gd ((gG c).trans rfl)
  | cons k r=>
   rw[aC (Z':=[.va (eL L),.va (.lst (eN (k::r))),.em]) ((dR c).trans rfl)]
   have hk0:=hk k Ll
   have e:L[k]? =some L[k]:=Ls hk0
   have sr:ja L k=L[k].1:=by unfold ja;rw[e]
   rw[aC (Z':=[.va (eL L),.va (.lst (eN (k::r))),.va (en (ja L k))]) (bQ (t:=en (ja L k)) (aG (t:=eB L[k]) (u:=.int 0) (xJ rfl (AL (l:=eN (k::r)) (n:=0) rfl rfl rfl) e) rfl (by rw[sr];rfl)) rfl)]
   rcases D6 (L:=L) (a:=ja L k) (b:=ja L k) h hl with⟨z,_⟩ | ⟨ks',ek,_,e2⟩
   ·rw[q]at z;cases z
   ·have:ks'=k::r:=by have:=congrArg DL ek;rw[i0,i0]at this;exact this.symm
    subst this;exact cb (aS (ts:=[eL L,en (ja L k),en (ja L k),.lst (eN (k::r))]) rfl (by rw[e2,Nz]))
theorem Rd.K7 (R:Rd cs ls L P){t:T}(h:t.pl=true)(hl:∀l,t= .lst l->l.length<=1000):kY [RR cs ls,t] = .ok (.bl (Hv L t)):=by
 refine bA rfl ?_
 show vZ [.va (RR cs ls),.va t,.em] =_
 unfold vZ;rw[aC (Z':=[.va (RR cs ls),.va t,.va (eL L)]) (bQ (aS (ts:=[RR cs ls]) rfl R.bounds) rfl)]
 have rd:=aS (g:=c9) (fs:=ae (vr 2) (ae (vr 1) aj)) (Z:=[.va (RR cs ls),.va t,.va (eL L)]) (ts:=[eL L,t]) rfl (D1 (L:=L) h hl);refine cb ?_
 unfold Hv
 cases q:gI L.length t with
 | false=>rw[q]at rd;exact mj rd
 | true=>
  obtain⟨ks,rfl,hk⟩:=qY q;rw[q,i0,Nz]at rd;rw[i0,Nz]
  cases ks with
  | nil=>exact mj rd
  | cons k r=>exact DP rd λ_=>aG (t:=.int (cM L (k::r))) (u:=.int 0) (aS (ts:=[eL L,.lst (eN (k::r))]) rfl (JL hk (by have:=hl _ rfl;rwa [Aq]at this))) rfl rfl
end
def oI (o:Option Int):T:=match o with
 | some x=> .int x
 | none=> .non
section
variable {cs ls:List T}{L:bh N2}{P:List N2}{ns:List Int}
theorem DD {a:N2}{b:bW N2}{f:fE N2}(S:Settled L [a] b)(F:oq L P f)(ha:a∈P)(c:N2):EN (b c)=oI (f a c):=by
 cases q:b c with
 | none=>
  cases e:f a c with
  | none=>rfl
  | some y=>
   obtain⟨d,w,z,_⟩:=S.least a (by simp) c y (F.is a c y e)
   rw[q]at z;cases z
 | some x=>
  obtain⟨d,w⟩:=x;obtain⟨s,hs,h1,h2,_⟩:=S.walk c d w q;rw[Ly.mp hs]at h1
  have wk:Wk L a c d:=h2▸h1.wk;obtain⟨y,e,hy⟩:=F.le a ha c d wk;obtain⟨d',w',z,hd⟩:=S.least a (by simp) c y (F.is a c y e)
  rw[q]at z;cases z;rw[e]
  show T.int d= .int y
  congr 1
  omega
theorem Rd.KD (R:Rd cs ls L P)(n:NoNeg L){f:fE N2}(F:oq L P f){a c:N2}(ha:a∈P)(hc:c∈P):ba [(RR cs ls),en a,en c] = .ok (oI (f a c)):=by
 obtain⟨b,S,e⟩:=R.K8 n ha hc;rw[e,DD S F ha]
def yk (o:Option Int):T:=match o with
 | some x=> .int (0 - x)
 | none=> .non
theorem Rd.KG (R:Rd cs ls L P)(n:NoNeg L){f:fE N2}(F:oq L P f){a c:N2}(ha:a∈P)(hc:c∈P):cG [(RR cs ls),en a,en c] = .ok (yk (f c a)):=by
 refine bA rfl ?_
 show eC [.va (RR cs ls),.va (en a),.va (en c),.em] =_
 unfold eC;rw[aC (Z':=[.va (RR cs ls),.va (en a),.va (en c),.va (oI (f c a))]) (bQ (aS (ts:=[(RR cs ls),en c,en a]) rfl (R.KD n F hc ha)) rfl)]
 cases f c a with
 | none=>exact cb ((xg (p:=true) (bV (aG (t:=.non) (u:=.non) rfl rfl rfl))).trans rfl)
 | some x=>
  refine cb ((xg (p:=false) (bV (aG (t:=.int x) (u:=.non) rfl rfl rfl))).trans ((yy (t:=.int x) rfl rfl).trans ?_))
  show Rs.ok (T.int (-x))= .ok (.int (0 - x))
  rw[Int.zero_sub]
end
end G
set_option maxHeartbeats 1000000
namespace G
open PySem Tr
abbrev DK (K:List T):OT:=.ob "Desk" ["kept"] [K]
abbrev DV (K:List T):T:=.ob "Desk" ["kept"] [.lst K]
theorem rQ {α:Type}(K:α):kn "kept" ["kept"] [K] =some K:=by unfold kn;rw[if_pos rfl]
theorem zZ (K Q:List T):jE "kept" Q ["kept"] [K] = [Q]:=by unfold jE;rw[if_pos rfl]
theorem xt {r:T}(h:GR r)(hw:fw r=true):cH [.ow (.ob "Desk" [] []),.va r] = .ok (.non,DK [r]):=by
 refine rL (Z:=[.ow (DK [r]),.va r]) rfl ?_ rfl
 show eE [.ow (.ob "Desk" [] []),.va r] =_
 unfold eE;refine rM (Z':=[.ow (.ob "Desk" [] []),.va r]) (xc (t:=.non) (Jl (aS (ts:=[r]) rfl (h.nw hw)))) ?_
 exact(G2 (c:="Desk") (ns:=[]) (ls:=[]) (l:=[r]) rfl rfl (by simp) (by simp)).trans rfl
theorem JN (K:List T)(r:T):aJ [DV (K++ [r])] = .ok r:=
 bA rfl (cb (aG (EV (ns:=["kept"]) (ts:=[.lst (K++ [r])]) rfl (rQ _)) (yy rfl rfl) (AR K r)))
section
variable {K:List T}{r r' t:T}{Z:En}
theorem ft {i:Nat}(hi:Z[i]? =some (.ow (DK (K++ [r]))))(h:GR r):ln i (mf "Desk" "record" aJ (vr i) aj) Z= .ok r:=by
 have hl:i<Z.length:=(Lz.mp hi).1
 refine G4 hi (EU (c:="Desk") (ns:=["kept"]) (ts:=[.lst (K++ [r])]) (Jn ?_) (by decide) rfl (JN K r)) h.nk
 unfold disown;rw[hi];simp[hl];rfl
theorem Hl (h:GR r)(hw:fw r=true)(hl:K.length<=1000):d9 [.ow (DK K),.va r] = .ok (.non,DK (K++ [r])):=by
 refine rL (Z:=[.ow (DK (K++ [r])),.va r]) rfl ?_ rfl
 show ej [.ow (DK K),.va r] =_
 unfold ej;refine rM (Z':=[.ow (DK K),.va r]) ((AK (k:=false) (fR (k:=true) (bV (aS (ts:=[r]) rfl (by rw[h.has,hw]))))).trans rfl) ?_
 exact xc (t:=.non) ((GW (ns:=["kept"]) (ls:=[K]) (l:=K) (t:=r) rfl (rQ _) rfl hl).trans (by rw[zZ];rfl))
theorem D7 (h:GR r)(hw:fw r=false):d9 [.ow (DK K),.va r] = .err "Barred":=by
 refine w8 rfl ?_
 show ej [.ow (DK K),.va r] =_
 unfold ej;exact w9 ((AK (k:=true) (fR (k:=false) (bV (aS (ts:=[r]) rfl (by rw[h.has,hw]))))).trans rfl)
theorem Hi {cs ls:List T}(h:GR r)(hx:a8 [r,t] = .ok (RR cs ls))(h':GR (RR cs ls))(hw:fw (RR cs ls)=true)(hl:(K++ [r]).length<=1000) :
  d8 [.ow (DK (K++ [r])),.va t] = .ok (.int ((ls.length:Int) - 1),DK (K++ [r] ++ [RR cs ls])):=by
 refine vC (Z:=[.ow (DK (K++ [r] ++ [RR cs ls])),.va t]) rfl ?_ rfl
 show eh [.ow (DK (K++ [r])),.va t] =_
 unfold eh;refine rM (xc (rH (c:="Desk") (ns:=["kept"]) (ls:=[K++ [r]]) (ts:=[RR cs ls]) rfl (by decide) (au (aS (au (ft rfl h) rfl) hx) rfl) (Hl h' hw hl))) ?_
 exact AJ (Jl (aG (t:=.int (ls.length:Nat)) (u:=.int 1) (aS (ts:=[.tup ls]) (au (vE (n:=1) (l:=[.tup cs,.tup ls]) (ft (K:=K++ [r]) rfl h') rfl rfl) rfl) rfl) rfl rfl))
theorem DZ (h:GR r)(hx:a8 [r,t] = .ok r')(h':GR r')(hw:fw r'=false):d8 [.ow (DK (K++ [r])),.va t] = .err "Barred":=by
 refine w8 rfl ?_
 show eh [.ow (DK (K++ [r])),.va t] =_
 unfold eh;exact w9 (G3 (ua (c:="Desk") (ns:=["kept"]) (ls:=[K++ [r]]) (ts:=[r']) rfl (by decide) (au (aS (au (ft rfl h) rfl) hx) rfl) (D7 h' hw)))
end
end G
namespace G
open PySem Tr Gr
section
variable {cs ls:List T}{L M:bh N2}{P:List N2}{f:fE N2}{ns:List Int}{t:N2->Int}
theorem Rd.same {ms:List T}{M:bh N2}{Q:List N2}(R:Rd cs ls L P)(S:Rd cs ms M Q):Q=P:=by
 have:P.map en=Q.map en:=by rw[<-R.e,<-S.e]
 clear R S
 induction P generalizing Q with
 | nil=>cases Q with
  | nil=>rfl
  | cons a Q=>simp at this
 | cons v P ih=>cases Q with
  | nil=>simp at this
  | cons a Q=>
   rw[Lk,Lk,NJ]at this;rw[rY this.1,ih this.2]
theorem Rd.pos (R:Rd cs ls L P):0<P.length:=by
 obtain⟨hcl,c1,_⟩:=bL R.g.c
 have e:=congrArg M8 R.e;rw[Ln]at e;rw[<-e]
 cases cs with
 | nil=>simp at c1
 | cons c cs=>
  obtain⟨x,y,r,rfl,r1,_⟩:=ef (hcl c Ll);rw[dQ,Lo,fB]
  show 0<r.length+_
  omega
theorem Rd.pick (R:Rd cs ls L P)(hn:ns.length<=63)(k:Nat):∃r v,v∈P/\aB [.scr ns,.int k,.int (P.length:Nat)] = .ok (.int r)/\aU (eS P) (.int r)= .ok (en v):=by
 have:=R.pos;obtain⟨r,e,r0,r1⟩:=cZ ns k (P.length:Nat) hn (by omega)
 obtain⟨t,ht,e2⟩:=Di (l:=P.map en) r0 (by rw[Ln];exact r1)
 obtain⟨v,hv,rfl⟩:=LQ.mp ht;exact⟨r,v,hv,e,e2⟩
theorem Ap {P:List N2}{f:En->Rs T}{Z:En}(h:f Z= .ok (eS P)):cl cz (ae f aj) Z= .ok (.int (P.length:Nat)):=aS (ts:=[eS P]) (au h rfl) (by show Rs.ok (T.int ((P.map en).length:Nat))=_;rw[Ln])
end
open Classical in
section
variable {P:List N2}{L M N:bh N2}{f g:fE N2}
theorem gE (he:∀x∈L,x.1∈P/\x.2.1∈P)(n:NoNeg L):oq L P (table P L):=(sQ he λu _ y h=>Int.not_lt.mp λz=>xY h z n).2
theorem Aw (F:oq L P f)(G:oq M P g)(h:∀x∈L,x∈M){u v:N2}(hu:u∈P){d:Int}(e:f u v=some d):∃d',g u v=some d'/\d'<=d:=G.le u hu v d ((F.is u v d e).mono h)
end
section
variable {cs ls ms:List T}{L M:bh N2}{P:List N2}
def deB (t:T):N2×N2×Int:=match t with
 | .tup [.tup [.int a,.int b],.tup [.int c,.int d],.int m] =>(⟨a,b⟩,⟨c,d⟩,m)
 | _=>(⟨0,0⟩,⟨0,0⟩,0)
def lim (cs ls:List T):bh N2:=(p9 cs ls).map deB
theorem Rd.Kv (R:Rd cs ls L P):lim cs ls=L:=by
 unfold lim;rw[R.b,N5];exact(MP λx _=>show deB (eB x)=x by obtain⟨a,b,m⟩:=x;rfl).trans (List.map_id L)
theorem Rd.to (R:Rd cs ls L P)(g:Good cs ms):Rd cs ms (lim cs ms) P:=by
 obtain⟨M,Q,S⟩:=jn g;obtain rfl:=R.same S;rw[S.Kv];exact S
theorem Ej (h:∀u∈ms,u∈ls):∀x∈p9 cs ms,x∈p9 cs ls:=λx hx=>by
 unfold p9 at hx ⊢;rcases LH.mp hx with z | z
 ·exact LW _ z
 ·obtain⟨u,hu,z⟩:=MJ.mp z
  exact LF _ (MJ.mpr ⟨u,h u hu,z⟩)
theorem wQ (h:∀u∈ms,u∈ls):∀x∈lim cs ms,x∈lim cs ls:=λx hx=>by
 unfold lim at hx ⊢;obtain⟨y,hy,rfl⟩:=LQ.mp hx;exact LQ.mpr ⟨y,Ej h y hy,rfl⟩
end
end G
set_option maxHeartbeats 1000000
namespace G
open PySem Tr Gr
section
variable {K:List T}{r r' t:T}{Z Z':En}
theorem Hk (K:List T):bP [DV K] = .ok (.int ((K.length:Int) - 1)):=
 bA rfl (cb (aG (aS (ts:=[.lst K]) (au (EV (ns:=["kept"]) (ts:=[.lst K]) rfl (rQ _)) rfl) rfl) rfl rfl))
theorem vD {i:Nat}(hi:Z[i]? =some (.ow (DK K))):ln i (mf "Desk" "many" bP (vr i) aj) Z= .ok (.int ((K.length:Int) - 1)):=by
 have hl:i<Z.length:=(Lz.mp hi).1
 refine G4 hi (EU (c:="Desk") (ns:=["kept"]) (ts:=[.lst K]) (Jn ?_) (by decide) rfl (Hk K)) rfl
 unfold disown;rw[hi];simp[hl];rfl
theorem Hh (r:T)(h:K≠ []):d7 [.ow (DK (K++ [r]))] = .ok (.non,DK K):=by
 refine rL (Z:=[.ow (DK K)]) rfl ?_ rfl
 show iP [.ow (DK (K++ [r]))] =_
 unfold iP
 have hl:0<K.length:=List.length_pos_iff.mpr h;refine rM (Z':=[.ow (DK (K++ [r]))]) ((AK (k:=false) (bV ((aG (u:=.int 0) (vD rfl) rfl (Bk _ _)).trans ?_))).trans rfl) ?_
 ·rw[show((((K++ [r]).length:Int) - 1) == 0)=false by rw[Lo];simp;omega]
 ·exact xc (t:=r) ((GU (ns:=["kept"]) (ls:=[K++ [r]]) (l:=K) rfl (rQ _)).trans (by rw[zZ];rfl))
theorem nS {cs ls:List T}(h:GR r)(hx:a8 [r,t] = .ok (RR cs ls))(h':GR (RR cs ls))(hw:fw (RR cs ls)=true)(hl:(K++ [r]).length<=1000):bq [.ow (DK (K++ [r])),.va t] = .ok (.bl true,DK (K++ [r] ++ [RR cs ls])):=by
 refine vC (Z:=[.ow (DK (K++ [r] ++ [RR cs ls])),.va t]) rfl (G1 (AJ ?_)) rfl
 refine Jm (t:=.int ((ls.length:Int) - 1)) (u:=.int ((ls.length:Int) - 1)) (rH (c:="Desk") (ns:=["kept"]) (ls:=[K++ [r]]) (ts:=[t]) rfl (by decide) rfl (Hi h hx h' hw hl)) ?_ (xr rfl (by simp[T.dep]))
 exact aG (t:=.int (ls.length:Nat)) (u:=.int 1) (aS (ts:=[.tup ls]) (au (vE (n:=1) (l:=[.tup cs,.tup ls]) (ft (K:=K++ [r]) rfl h') rfl rfl) rfl) rfl) rfl rfl
theorem GV {r:T->T->Rs T}{x:En->Rs (T×En)}{f:En->Rs T}{d:Str}(h:x Z= .err d):EF r x f Z= .err d:=by unfold EF;rw[h];rfl
theorem Bm (h:GR r)(hx:a8 [r,t] = .ok r')(h':GR r')(hw:fw r'=false):bq [.ow (DK (K++ [r])),.va t] = .ok (.bl false,DK (K++ [r])):=by
 refine vC (Z:=[.ow (DK (K++ [r])),.va t]) rfl (DM (d:="Barred") (DN (GV (ua (c:="Desk") (ns:=["kept"]) (ls:=[K++ [r]]) (ts:=[t]) rfl (by decide) rfl (DZ h hx h' hw)))) (by unfold AW;rw[if_pos rfl])) rfl
theorem GR.ne {r:T}(h:GR r):kS r r= .ok (.bl false):=md h.pl (by have:=h.dep;omega)
theorem GR.eq {r:T}(h:GR r):o8 r r= .ok (.bl true):=xr h.pl (by have:=h.dep;omega)
end
section
variable {cs ls ms:List T}{L:bh N2}{P:List N2}{u v:N2}{ns:List Int}
theorem wl (g:Good cs ms){l:T}(hl:a7 cs l=true)(hp:l.pl=true)(hn:ms.length<8):a8 [RR cs ms,l] = .ok (RR cs (ms++ [l]))/\Good cs (ms++ [l]):=by
 have g':Good cs (ms++ [l]):=⟨g.c,λt ht=>(LH.mp ht).elim (g.l t) λz=>by rw[Ly.mp z];exact hl,by rw[Lo];simp;omega,qI g.parts.1 (zP g.pls (by simp[T.pl,plS,hp]))⟩
 refine⟨?_,g'⟩
 rw[qL g.parts.1 g.pls (by omega) hp g.ok]
 unfold tq;rw[if_pos g'.ok]
theorem Rd.mb (R:Rd cs ls L P)(g:Good cs ms)(hw:fw (RR cs ms)=true)(hu:u∈P)(hv:v∈P):ba [RR cs ms,en u,en v] = .ok (oI (table P (lim cs ms) u v)):=by
 have S:=R.to g
 have n:=(gf S).mp hw;exact S.KD n (gE S.f.ends n) hu hv
theorem Rd.lb (R:Rd cs ls L P)(g:Good cs ms)(hw:fw (RR cs ms)=true)(hu:u∈P)(hv:v∈P):cG [RR cs ms,en u,en v] = .ok (yk (table P (lim cs ms) v u)):=by
 have S:=R.to g
 have n:=(gf S).mp hw;exact S.KG n (gE S.f.ends n) hu hv
theorem Rd.K0 (R:Rd cs ls L P){as bs:List T}(ga:Good cs as)(gb:Good cs bs)(h:∀x∈as,x∈bs)(hw:fw (RR cs bs)=true)(hu:u∈P){d:Int}(e:table P (lim cs as) u v=some d):∃d',table P (lim cs bs) u v=some d'/\d'<=d:=by
 have A:=R.to ga
 have B:=R.to gb
 have nb:=(gf B).mp hw
 have na:=nb.mono (wQ h);exact Aw (gE A.f.ends na) (gE B.f.ends nb) (wQ h) hu e
theorem Rd.KJ (R:Rd cs ls L P)(hw:fw (RR cs ls)=false):∃t,dU [RR cs ls] = .ok t/\kY [RR cs ls,t] = .ok (.bl true):=by
 obtain⟨t,h,e⟩:=R.Kz;refine⟨t,e,?_⟩
 rcases h with⟨n,rfl⟩ | ⟨q,hq,rfl⟩
 ·rw[(gf R).mpr n]at hw;cases hw
 ·obtain⟨q0,⟨a,ha⟩,hc,hnd⟩:=hq
  have hlt:=ha.lt
  have hlen:q.length<=1000:=by
   have h1:=ha.nodup hnd
   have:q.length<=L.length:=by
    have:=fW (f:=λ_=>1) h1 (λk hk=>Mp.mpr (hlt k hk))
    simpa [List.map_const',List.sum_replicate_nat]using this
   have:=R.ll;omega
  rw[R.K7 (t:=.lst (eN q)) (by rw[zO];exact kH (II q)) (λl e=>by cases e;rw[Aq];exact hlen)]
  unfold Hv;rw[vh hlt,i0,Nz]
  cases q with
  | nil=>exact absurd rfl q0
  | cons k r=>
   obtain⟨c,m,ek⟩:=ha.fst
   have sr:ja L k=a:=by unfold ja;rw[ek]
   show Rs.ok (T.bl (decide (run L (ja L k) (k::r)=some (ja L k))&&decide (cM L (k::r)<0)))=_
   rw[sr,decide_eq_true (run_ch.mpr ha),decide_eq_true hc]
   rfl
end
end G
set_option maxHeartbeats 1000000
namespace G
open PySem Tr Gr
theorem Ai {α:Type}[DecidableEq α]:∀{l m:List α},l.Nodup->(∀x∈l,x∈m)->l.length<=m.length
 | [],_,_,_=>Nk _
 | a::l,m,hn,h=>by
  have ha:=h a (.head _)
  have h1:=Ai (l:=l) (m:=m.erase a) (LJ.mp hn).2 λx hx=>(OL (λ(e:x=a)=>(LJ.mp hn).1 (by rw[<-e];exact hx))).mpr (h x (.tail _ hx))
  rw[Px ha]at h1
  have:=PY ha;rw[Lm];omega
theorem uA {L:bh N2}(h:∀x∈L,-100<=x.2.2):∀(w:List Nat),(∀k∈w,k<L.length)->-100*(w.length:Int)<=cM L w
 | [],_=>by simp[cM]
 | k::w,hk=>by
  have ih:=uA h w λj hj=>hk j (.tail _ hj)
  have hk0:=hk k (.head _)
  have e:L[k]? =some L[k]:=Ls hk0
  have:=h _ (MB hk0)
  have hm:most L k=L[k].2.2:=by unfold most;rw[e]
  show _<=most L k+cM L w
  rw[hm,Lm]
  push_cast
  omega
theorem um:∀{cs:List T} {i:Nat},(∀c∈cs,Dc c)->(dQ i cs).length<=3*cs.length
 | [],i,_=>by simp[dQ]
 | c::cs,i,h=>by
  have ih:=um (cs:=cs) (i:=i+1) λd hd=>h d (.tail _ hd)
  obtain⟨x,y,r,rfl,_,hr,_⟩:=h c (.head _);rw[dQ,Lo,fB,Lm]
  have:EI (.tup [.int x,.int y,.tup (r.map .int)])=r.length:=by show(r.map T.int).length=_;rw[Ln]
  omega
section
variable {cs ls ms:List T}{L:bh N2}{P:List N2}{u v:N2}{ns:List Int}
theorem Rd.low (R:Rd cs ms L P)(dc:∀c∈cs,Dc c)(hl:∀l∈ms,Jf l):∀x∈L,-100<=x.2.2:=λx hx=>by
 have hb:eB x∈p9 cs ms:=by rw[R.b];exact LQ.mpr ⟨_,hx,rfl⟩
 unfold p9 at hb;rcases LH.mp hb with h | h
 ·obtain⟨j,c,hj,hu⟩:=vR h
  rw[RH]at hu
  have hc:=Mw hj;obtain⟨x1,y1,r,rfl,⟨l',z,_,_,hb2,_⟩,hl3,hx3⟩:=dc c hc;obtain⟨x',y',r',e',⟨c1,_⟩,xy,rr,dd⟩:=n5 ((bL R.g.c).1 _ hc)
  have er:r=r':=by
   have h1:=(T.tup.inj e');simp only[NJ,T.tup.injEq,and_true]at h1;exact(List.map_inj_right (λa b e=>T.int.inj e)).mp h1.2.2
  have ex:x1=x'/\y1=y':=by
   have h1:=(T.tup.inj e');simp only[NJ,T.int.injEq,and_true]at h1;exact⟨h1.1,h1.2.1⟩
  obtain⟨rfl,rfl⟩:=ex;subst er;rw[pv]at hu;obtain⟨k,hk,hu⟩:=MJ.mp hu
  have hk':=Mp.mp hk
  have d0:=dd k (by omega)
  have gk:∀k,r.getD k 0<=15:=λk=>by
   by_cases hkk:k<r.length
   ·rw[NT,Ls hkk]
    have:=(hb2 _ (MB hkk)).2
    show r[k]<=15
    omega
   ·rw[NT,MX (by omega)];decide
  have d15:dr r k<=15:=by have:=gk (k+1);have:=(rr k).1;unfold dr;omega
  unfold pr at hu;simp only[Lp,Mj,or_false]at hu;rcases hu with hu | hu
  ·have:=nV (y:=(⟨j,k⟩,⟨j,((k+1:Nat):Int)⟩,dr r k*y1)) hu
   subst this
   have:=Int.mul_nonneg d0 (show 0<=y1 by omega)
   show -100<=dr r k*y1
   omega
  ·have:=nV (y:=(⟨j,((k+1:Nat):Int)⟩,⟨j,k⟩,-dr r k*x1)) hu
   subst this
   have:=Int.mul_le_mul d15 hx3 c1 (by omega)
   show -100<=-dr r k*x1
   rw[Int.neg_mul];omega
 ·obtain⟨l,hm,h2⟩:=MJ.mp h
  obtain⟨a,b,mo,le,rfl,_,_⟩:=fP (R.g.l l hm)
  have hle:le<=9:=hl _ hm;unfold lB at h2
  dsimp only at h2
  obtain⟨xa,xb,xm⟩:=x;rcases Lp.mp h2 with h2 | h2
  ·have h3:=T.tup.inj h2
   simp only[NJ,T.int.injEq,and_true]at h3
   have h4:=h3.2.2
   show -100<=xm
   omega
  ·split at h2
   ·cases h2
   ·rw[Ly]at h2
    have h3:=T.tup.inj h2;simp only[NJ,and_true]at h3
    have h4:=h3.2.2;subst h4
    have hd:cp (.int le) (.int xm)=true:=by
     have h5:(cp (.int le) (.int xm)&&(aO cs a&&(aO cs b&& !aV a b)))=true:=R.g.l _ hm;rw[Lf]at h5;exact h5.1
    have h6:(aN (.int le) 0 999&&aN (.int xm) le 999)=true:=hd;rw[Lf]at h6;obtain⟨i,e1,i1,i2⟩:=bo h6.1;obtain⟨i',e2,j1,j2⟩:=bo h6.2;cases e1;cases e2
    show -100<=xm
    omega
theorem Rd.Lb (R:Rd cs ms L P)(n:NoNeg L)(dc:∀c∈cs,Dc c)(h3:cs.length<=3)(hl:∀l∈ms,Jf l)(hu:u∈P){d:Int}(e:table P L u v=some d) : -900<=d:=by
 have F:=gE R.f.ends n;obtain⟨b,ms',S,_⟩:=R.from_ n hu;obtain⟨d',w,eb,hd⟩:=S.least u (by simp) v d (F.is u v d e)
 obtain⟨s,hs,hch,hc,_,hnd⟩:=S.walk v d' w eb;rw[Ly.mp hs]at hch;obtain⟨y,q,hy⟩:=F.le u hu v d' (hc▸hch.wk);rw[e]at q;cases q
 have hlen:w.length<=9:=by
  rw[<-hch.Kr]
  have h1:=Ai (m:=P) hnd λx hx=>by
   unfold dz at hx;obtain⟨k,hk,e⟩:=N8.mp hx;unfold src at e
   cases q:L[k]? with
   | none=>rw[q]at e;cases e
   | some z=>rw[q]at e;cases e;exact(R.f.ends z (Mw q)).1
  have h2:P.length<=9:=by
   have:=congrArg M8 R.e;rw[Ln]at this
   have:=um (i:=0) dc;omega
  omega
 have:=uA (R.low dc hl) w hch.lt;omega
def vz (a c:N2)(x:Int):T:=.tup [en a,en c,.int x,.non]
theorem Rd.KR (R:Rd cs ls L P){a c:N2}(ha:a∈P)(hc:c∈P)(hne:a≠c){x:Int}(h0:0<=x)(h1:x<=999):a7 cs (vz a c x)=true:=by
 show(cp (.int x) .non&&(aO cs (en a)&&(aO cs (en c)&& !aV (en a) (en c))))=true
 rw[R.ev ha,R.ev hc,oa,decide_eq_false hne]
 show(aN (.int x) 0 999&&true&&(true&&(true&& !false)))=true
 simp only[aN,Q6,Bool.not_false,Lf,decide_eq_true_eq];exact⟨h0,h1⟩
theorem Rd.La (R:Rd cs ls L P)(a c:N2)(x:Int):lim cs (ls++ [vz a c x])=L++ [(c,a,-x)]:=by
 have e:p9 cs (ls++ [vz a c x])=p9 cs ls++ [eB (c,a,-x)]:=by
  unfold p9;rw[List.flatMap_append,<-Ms]
  rfl
 unfold lim;rw[e,MY,<-R.Kv]
 rfl
theorem Rd.K4 (R:Rd cs ls L P)(n:NoNeg L){a c:N2}(ha:a∈P)(hc:c∈P){d:Int}(e:table P L c a=some d):NoNeg (L++ [(c,a,d)]):=by
 have F:=gE R.f.ends n;rcases R.KC with⟨z,_⟩ | ⟨_,t,b,S,hb,_⟩
 ·exact absurd n z
 ·have H:=S.holds R.f.ends hb
  refine Holds.Kt (t:=t) λx y m hx=> ?_
  rcases LH.mp hx with h | h
  ·exact H x y m h
  ·rw[Ly]at h
   cases h;exact H.walk (F.is c a d e)
end
end G
set_option maxHeartbeats 4000000
namespace G
open PySem Tr Gr
abbrev LE (ns:List Int)(cs:List T)(o:OT)(P:List N2)(u v:N2)(ms:List T)(mo k le be mr fi la li tu:Sl):En:=[.va (.scr ns),.va (RR cs []),.ow o,.va (eS P),.va (en u),.va (en v),.va (.lst ms),mo,k,le,be,mr,fi,la,li,tu]
abbrev S0:En->Rs Fl:=(cv (cl bj (ae (vr 0) (ae (o2 aX (cn (.int 90)) (o2 bY (cn (.int 6)) (vr 8))) (ae (o2 aU (vr 1) (cn (.int 0))) aj)))) (gN 9))
abbrev CD:En->Rs Bool:=(lX (tb (o2 fh (vr 9) (cn .non))) (tb (o2 DI (cl cz (ae (vr 6) aj)) (cn (.int 7)))))
abbrev A0:En->Rs Fl:=(cv (ln 2 (mf "Desk" "record" aJ (vr 2) aj)) (gN 10))
abbrev A1:En->Rs Fl:=(cv (cl a8 (ae (vr 10) (ae (vr 9) aj))) (gN 11))
abbrev A2:En->Rs Fl:=(uZ 12 (lM 2 bq (ae (vr 9) aj)))
abbrev A3:En->Rs Fl:=(fH (kA (tb (o2 kS (vr 12) (cl br (ae (vr 11) aj)))) (lX (cK (tb (vr 12))) (kA (tb (o2 kS (ln 2 (mf "Desk" "record" aJ (vr 2) aj)) (vr 10))) (cK (tb (cl kY (ae (vr 11) (ae (cl dU (ae (vr 11) aj)) aj)))))))) (aI (cn (.bl false))) sN)
abbrev A4:En->Rs Fl:=(cv (o2 aX (vr 6) (o2 bY (eM (ae (vr 9) aj)) (cl vJ (ae (vr 12) aj)))) (gN 6))
abbrev A5:En->Rs Fl:=(cv (cl ba (ae (ln 2 (mf "Desk" "record" aJ (vr 2) aj)) (ae (vr 4) (ae (vr 5) aj)))) (gN 13))
abbrev A6:En->Rs Fl:=(fH (lX (tb (o2 fh (vr 7) (cn .non))) (kA (tb (o2 jC (vr 13) (cn .non))) (tb (o2 JC (vr 13) (vr 7))))) (aI (cn (.bl false))) sN)
abbrev A7:En->Rs Fl:=(cv (vr 13) (gN 7))
abbrev C7:En->Rs Fl:=A7
abbrev C6:En->Rs Fl:=aA A6 C7
abbrev C5:En->Rs Fl:=aA A5 C6
abbrev C4:En->Rs Fl:=aA A4 C5
abbrev C3:En->Rs Fl:=aA A3 C4
abbrev C2:En->Rs Fl:=aA A2 C3
abbrev C1:En->Rs Fl:=aA A1 C2
abbrev C0:En->Rs Fl:=aA A0 C1
abbrev BD:En->Rs Fl:=aA S0 (fH CD C0 sN)
structure Iv (cs ms K:List T):Prop where
 g:Good cs ms
 w:fw (RR cs ms)=true
 lst:∃K',K=K'++ [RR cs ms]
 len:K.length=ms.length+1
 hd:∃K2,K=RR cs [] ::K2
 ls:∀l∈ms,Jf l
section
variable {cs ls ms K:List T}{L:bh N2}{P:List N2}{u v:N2}{ns:List Int}{Z Z':En}
theorem Iv.snoc {l:T}(I:Iv cs ms K)(g:Good cs (ms++ [l]))(hw:fw (RR cs (ms++ [l]))=true)(hl:Jf l):Iv cs (ms++ [l]) (K++ [RR cs (ms++ [l])]):=by
 obtain⟨K2,e⟩:=I.hd;refine⟨g,hw,⟨K,rfl⟩,by rw[Lo,Lo,I.len];rfl,⟨K2++ [RR cs (ms++ [l])],by rw[e];rfl⟩,λx hx=> ?_⟩
 rcases LH.mp hx with z | z
 ·exact I.ls x z
 ·rw[Ly.mp z];exact hl
theorem GR.of2 (g:Good cs ms):GR (RR cs ms):=⟨cs,ms,rfl,g⟩
theorem a6 {o o':Option Int}(h:∀d,o=some d->∃d',o'=some d'/\d'<=d)(h7:vr 7 Z= .ok (oI o))(h13:vr 13 Z= .ok (oI o')):A6 Z= .ok (.nx Z):=by
 cases o with
 | none=>exact(dR (vG (bV (aG (t:=.non) (u:=.non) h7 rfl rfl)))).trans rfl
 | some d=>
  obtain⟨d',rfl,hd⟩:=h d rfl;refine(dR (vF (bV (aG (t:=.int d) (u:=.non) h7 rfl rfl)) (nL (bV (aG (t:=.int d') (u:=.non) h13 rfl rfl)) (bV ((aG (t:=.int d') (u:=.int d) h13 h7 rfl).trans ?_))))).trans rfl
  show Rs.ok (T.bl (decide (d' > d)))=_
  rw[decide_eq_false (by omega)]
theorem z6 (R:Rd cs ls L P)(hn:ns.length<=63)(j:Nat)(I:Iv cs ms K)(h5:ms.length<=5)(hu:u∈P)(hv:v∈P)(le be mr fi la li tu:Sl):∃ms' K' le' be' mr' fi' la',Iv cs ms' K'/\ms'.length<=ms.length+1 ∧
  BD (LE ns cs (DK K) P u v ms (.va (oI (table P (lim cs ms) u v))) (.va (.int (j:Nat))) le be mr fi la li tu)= .ok (.nx (LE ns cs (DK K') P u v ms' (.va (oI (table P (lim cs ms') u v))) (.va (.int (j:Nat))) le' be' mr' fi' la' li tu)):=by
 obtain⟨l,el,hl⟩:=nU ns hn (90+6*j) cs R.g.c
 have hS0:S0 (LE ns cs (DK K) P u v ms (.va (oI (table P (lim cs ms) u v))) (.va (.int (j:Nat))) le be mr fi la li tu)= .ok (.nx (LE ns cs (DK K) P u v ms (.va (oI (table P (lim cs ms) u v))) (.va (.int (j:Nat))) (.va l) be mr fi la li tu)):=by
  refine bQ (aS (ts:=[.scr ns,.int ((90+6*j:Nat):Int),.tup cs]) (au rfl (au (aG (t:=.int 90) (u:=.int (6*(j:Int))) rfl (aG rfl rfl (lG (by omega) (by omega))) ?_) (au (vE (n:=0) (l:=[.tup cs,.tup []]) rfl rfl rfl) rfl))) el) rfl
  show Rs.ok (T.int (90+6*(j:Int)))=_
  rw[show(90+6*(j:Int))=((90+6*j:Nat):Int)by omega]
 unfold BD;rw[aC hS0];rcases hl with⟨rfl,_⟩ | ⟨hlet,hsm,hls⟩
 ·exact⟨ms,K,_,_,_,_,_,I,by omega,(dR (vG (bV (aG (t:=.non) (u:=.non) rfl rfl rfl)))).trans rfl⟩
 ·have hcd:∀b m f a,CD (LE ns cs (DK K) P u v ms (.va (oI (table P (lim cs ms) u v))) (.va (.int (j:Nat))) (.va l) b m f a li tu)= .ok true:=λb m f a=>by
   obtain⟨x,y,z,w,rfl,_,_⟩:=fP hlet;refine vF (bV (aG (t:=.tup [x,y,.int w,z]) (u:=.non) rfl rfl rfl)) (bV ((aG (t:=.int (ms.length:Nat)) (u:=.int 7) rfl rfl rfl).trans ?_))
   show Rs.ok (T.bl (decide ((ms.length:Int)<7)))=_
   rw[decide_eq_true (by omega)]
  rw[gG (hcd _ _ _ _)];unfold C0;obtain⟨K',hK⟩:=I.lst
  have gr:=GR.of2 I.g;obtain⟨ew,g'⟩:=wl I.g hlet (FF hsm) (by omega)
  have gr':=GR.of2 g'
  have hlen:=I.len;rw[aC (Z':=LE ns cs (DK K) P u v ms (.va (oI (table P (lim cs ms) u v))) (.va (.int (j:Nat))) (.va l) (.va (RR cs ms)) mr fi la li tu) (bQ (ft (K:=K') (by rw[<-hK];rfl) gr) rfl)]
  unfold C1;rw[aC (Z':=LE ns cs (DK K) P u v ms (.va (oI (table P (lim cs ms) u v))) (.va (.int (j:Nat))) (.va l) (.va (RR cs ms)) (.va (RR cs (ms++ [l]))) fi la li tu) (bQ (aS (ts:=[RR cs ms,l]) rfl ew) rfl)]
  have hmul:∀(b:Bool) (o:OT) (s13:Sl),A4 (LE ns cs o P u v ms (.va (oI (table P (lim cs ms) u v))) (.va (.int (j:Nat))) (.va l) (.va (RR cs ms)) (.va (RR cs (ms++ [l]))) (.va (.bl b)) s13 li tu)= .ok (.nx (LE ns cs o P u v (ms++if b then [l]else []) (.va (oI (table P (lim cs ms) u v))) (.va (.int (j:Nat))) (.va l) (.va (RR cs ms)) (.va (RR cs (ms++ [l]))) (.va (.bl b)) s13 li tu)):=λb o s13=>
   bQ (aG (t:=.lst ms) rfl (aG (t:=.lst [l]) (u:=.int (if b then 1 else 0)) (kj rfl (aD (k:=1) (by simp))) (aS (ts:=[.bl b]) rfl rfl) (mul_one l b)) (sy _ _ (by cases b <;> simp <;> omega))) rfl
  cases hb:fw (RR cs (ms++ [l]))with
  | true=>
   have I':=I.snoc g' hb hls;refine⟨ms++ [l],K++ [RR cs (ms++ [l])],.va l,.va (RR cs ms),.va (RR cs (ms++ [l])),.va (.bl true),.va (oI (table P (lim cs (ms++ [l])) u v)),I',by simp,?_⟩
   unfold C2;rw[aC (Z':=LE ns cs (DK (K++ [RR cs (ms++ [l])])) P u v ms (.va (oI (table P (lim cs ms) u v))) (.va (.int (j:Nat))) (.va l) (.va (RR cs ms)) (.va (RR cs (ms++ [l]))) (.va (.bl true)) la li tu) (EW (rJ (o:=DK K) (ts:=[l]) rfl rfl (by rw[hK];exact nS gr ew gr' hb (by rw[<-hK,hlen];omega))) (by simp))]
   unfold C3;rw[aC (Z':=LE ns cs (DK (K++ [RR cs (ms++ [l])])) P u v ms (.va (oI (table P (lim cs ms) u v))) (.va (.int (j:Nat))) (.va l) (.va (RR cs ms)) (.va (RR cs (ms++ [l]))) (.va (.bl true)) la li tu) ((dR (nL (bV (aG (t:=.bl true) (u:=.bl true) rfl (aS (ts:=[RR cs (ms++ [l])]) rfl (by rw[gr'.has,hb])) (md rfl (by simp[T.dep])))) (vG (fR (k:=true) rfl)))).trans rfl)]
   unfold C4;rw[aC (hmul true _ _)]
   show C5 (LE ns cs (DK (K++ [RR cs (ms++ [l])])) P u v (ms++ [l]) _ _ _ _ _ _ _ _ _)=_
   unfold C5;rw[aC (Z':=LE ns cs (DK (K++ [RR cs (ms++ [l])])) P u v (ms++ [l]) (.va (oI (table P (lim cs ms) u v))) (.va (.int (j:Nat))) (.va l) (.va (RR cs ms)) (.va (RR cs (ms++ [l]))) (.va (.bl true)) (.va (oI (table P (lim cs (ms++ [l])) u v))) li tu) (bQ (aS (ts:=[RR cs (ms++ [l]),en u,en v]) (au (ft (K:=K) rfl gr') rfl) (R.mb g' hb hu hv)) rfl)];unfold C6;rw[aC (a6 (λd e=>R.K0 I.g g' (λx hx=>LW _ hx) hb hu e) rfl rfl)]
   exact bQ (t:=oI (table P (lim cs (ms++ [l])) u v)) rfl rfl
  | false=>
   refine⟨ms,K,.va l,.va (RR cs ms),.va (RR cs (ms++ [l])),.va (.bl false),.va (oI (table P (lim cs ms) u v)),I,by simp,?_⟩
   obtain⟨t,e1,e2⟩:=(R.to g').KJ hb;unfold C2;rw[aC (Z':=LE ns cs (DK K) P u v ms (.va (oI (table P (lim cs ms) u v))) (.va (.int (j:Nat))) (.va l) (.va (RR cs ms)) (.va (RR cs (ms++ [l]))) (.va (.bl false)) la li tu) (EW (rJ (o:=DK K) (ts:=[l]) rfl rfl (by rw[hK];exact Bm gr ew gr' hb)) (by simp))]
   unfold C3;rw[aC (Z':=LE ns cs (DK K) P u v ms (.va (oI (table P (lim cs ms) u v))) (.va (.int (j:Nat))) (.va l) (.va (RR cs ms)) (.va (RR cs (ms++ [l]))) (.va (.bl false)) la li tu) ((dR (nL (bV (aG (t:=.bl false) (u:=.bl false) rfl (aS (ts:=[RR cs (ms++ [l])]) rfl (by rw[gr'.has,hb])) (md rfl (by simp[T.dep])))) (vF (fR (k:=false) rfl) (nL (bV (aG (t:=RR cs ms) (u:=RR cs ms) (ft (K:=K') (by rw[<-hK];rfl) gr) rfl gr.ne)) (fR (k:=true) (bV (aS (ts:=[RR cs (ms++ [l]),t]) (au rfl (au (aS (ts:=[RR cs (ms++ [l])]) rfl e1) rfl)) e2))))))).trans rfl)]
   unfold C4;rw[aC (hmul false _ _)]
   show C5 (LE ns cs (DK K) P u v (ms++ []) _ _ _ _ _ _ _ _ _)=_
   rw[LZ];unfold C5;rw[aC (Z':=LE ns cs (DK K) P u v ms (.va (oI (table P (lim cs ms) u v))) (.va (.int (j:Nat))) (.va l) (.va (RR cs ms)) (.va (RR cs (ms++ [l]))) (.va (.bl false)) (.va (oI (table P (lim cs ms) u v))) li tu) (bQ (aS (ts:=[RR cs ms,en u,en v]) (au (ft (K:=K') (by rw[<-hK];rfl) gr) rfl) (R.mb I.g I.w hu hv)) rfl)]
   unfold C6;rw[aC (a6 (λd e=>⟨d,e,Na _⟩) rfl rfl)]
   exact bQ (t:=oI (table P (lim cs ms) u v)) rfl rfl
theorem qc (R:Rd cs ls L P)(hn:ns.length<=63)(hu:u∈P)(hv:v∈P)(li tu:Sl):∀(js:List Nat) {ms K:List T} (k le be mr fi la:Sl),Iv cs ms K->ms.length+js.length<=6->∃ms' K' k' le' be' mr' fi' la',Iv cs ms' K'/\ms'.length<=6 ∧
  bp (gN 8) BD (js.map λ(j:Nat)=>T.int j) (LE ns cs (DK K) P u v ms (.va (oI (table P (lim cs ms) u v))) k le be mr fi la li tu)= .ok (.nx (LE ns cs (DK K') P u v ms' (.va (oI (table P (lim cs ms') u v))) k' le' be' mr' fi' la' li tu))
 | [],ms,K,k,le,be,mr,fi,la,I,h=>⟨ms,K,k,le,be,mr,fi,la,I,by simpa using h,rfl⟩
 | j::js,ms,K,k,le,be,mr,fi,la,I,h=>by
  rw[Lm]at h;obtain⟨m1,K1,l1,b1,r1,f1,a1,I1,hl1,e1⟩:=z6 R hn j I (by omega) hu hv le be mr fi la li tu
  obtain⟨m2,K2,k2,l2,b2,r2,f2,a2,I2,hl2,e2⟩:=qc R hn hu hv li tu js (.va (.int (j:Nat))) l1 b1 r1 f1 a1 I1 (by omega)
  refine⟨m2,K2,k2,l2,b2,r2,f2,a2,I2,hl2,?_⟩
  rw[Lk,fq (Z1:=LE ns cs (DK K) P u v ms (.va (oI (table P (lim cs ms) u v))) (.va (.int (j:Nat))) le be mr fi la li tu) rfl e1,e2]
end
end G
set_option maxHeartbeats 4000000
namespace G
open PySem Tr Gr
section
variable {Z Z':En}{x y:En->Rs (Bool×En)}{b:Bool}
theorem nJ (h:x Z= .ok (false,Z')):gx x y Z= .ok (false,Z'):=by unfold gx;rw[h];rfl
theorem gF {p:Bool×En}(h:x Z= .ok (true,Z'))(h2:y Z'= .ok p):gx x y Z= .ok p:=by unfold gx;rw[h];show yS (y Z')=_;rw[h2];rfl
theorem w6 (h:x Z= .ok (b,Z')):je x Z= .ok (!b,Z'):=by unfold je;rw[h];rfl
end
abbrev Z8:En->Rs Fl:=(fH (kA (tb (o2 kS (ln 2 (mf "Desk" "record" aJ (vr 2) aj)) (bJ (ae (o2 aU (vr 1) (cn (.int 0))) (ae (cl fV (ae (vr 6) aj)) aj))))) (tb (o2 kS (ln 2 (mf "Desk" "many" bP (vr 2) aj)) (cl cz (ae (vr 6) aj))))) (aI (cn (.bl false))) sN)
abbrev Z10:En->Rs Fl:=(oK (gx (uJ (tb (o2 kS (vr 4) (vr 5)))) (gx (uJ (tb (o2 fh (vr 14) (cn .non)))) (gx (uJ (tb (o2 J3 (vr 14) (cn (.int 0))))) (je (BW (lM 2 bq (ae (bJ (ae (vr 4) (ae (vr 5) (ae (vr 14) (ae (cn .non) aj))))) aj))))))) (aI (cn (.bl false))) sN)
abbrev Z12B:En->Rs Fl:=(oK (je (BW (lM 15 bq (ae (vr 9) aj)))) (aI (cn (.bl false))) sN)
abbrev WC:En->Rs Bool:=(tb (o2 JC (ln 2 (mf "Desk" "many" bP (vr 2) aj)) (cn (.int 0))))
abbrev WB:En->Rs Fl:=(uX (fK 2 "Desk" "undo" d7 aj))
section
variable {cs ls ms K:List T}{L:bh N2}{P:List N2}{u v:N2}{ns:List Int}{Z Z':En}
theorem turned (I:Iv cs ms K)(h7:ms.length<=7)(o:OT)(mo k be mr fi la li:Sl):∀(rs qs D:List T) (le:Sl),(∀x∈rs,x∈ms)->(∀x∈qs,x∈ms)->qs.length+rs.length<=ms.length->D.length<=qs.length+1->(∃D',D=D'++ [RR cs qs])->∃le' D',
  bp (gN 9) Z12B rs (LE ns cs o P u v ms mo k le be mr fi la li (.ow (DK D)))= .ok (.nx (LE ns cs o P u v ms mo k le' be mr fi la li (.ow (DK D'))))
 | [],qs,D,le,_,_,_,_,_=>⟨le,D,rfl⟩
 | l::rs,qs,D,le,h1,h2,h3,h4,h5=>by
  rw[Lm]at h3;obtain⟨D',hD⟩:=h5
  have hl:=h1 l (.head _)
  have hsub:∀x∈qs++ [l],x∈ms:=λx hx=>(LH.mp hx).elim (h2 x) λz=>by rw[Ly.mp z];exact hl
  have gq:=I.g.sub h2 (by omega)
  obtain⟨ew,g'⟩:=wl gq (I.g.l l hl) (I.g.parts.2 l hl) (by omega)
  have hw:=DT I.g hsub (by rw[Lo];simp;omega) I.w
  obtain⟨le',D2,e⟩:=turned I h7 o mo k be mr fi la li rs (qs++ [l]) (D++ [RR cs (qs++ [l])]) (.va l) (λx hx=>h1 x (.tail _ hx)) hsub (by rw[Lo];simp;omega) (by rw[Lo,Lo];simp;omega) ⟨D,rfl⟩
  refine⟨le',D2,?_⟩
  rw[fq (Z1:=LE ns cs o P u v ms mo k (.va l) be mr fi la li (.ow (DK D))) (Z2:=LE ns cs o P u v ms mo k (.va l) be mr fi la li (.ow (DK (D++ [RR cs (qs++ [l])])))) rfl ?_,e]
  refine(AM (b:=false) (Z':=LE ns cs o P u v ms mo k (.va l) be mr fi la li (.ow (DK (D++ [RR cs (qs++ [l])])))) (w6 (b:=true) (ES (rJ (o:=DK D) (ts:=[l]) rfl rfl (by rw[hD];exact nS (GR.of2 gq) ew (GR.of2 g') hw (by rw[<-hD];omega)))))).trans rfl
theorem E9 (ms:List T)(mo k le be mr fi la li tu:Sl):∀(n:Nat) (D:List T),D.length<=n->∀m,n<m->bw WC WB m (LE ns cs (DK (RR cs [] ::D)) P u v ms mo k le be mr fi la li tu)= .ok (.nx (LE ns cs (DK [RR cs []]) P u v ms mo k le be mr fi la li tu))
 | n,D,h,0,hm=>by omega
 | n,D,h,m+1,hm=>by
  have hc:WC (LE ns cs (DK (RR cs [] ::D)) P u v ms mo k le be mr fi la li tu)= .ok (decide (0<D.length)):=by
   refine bV ((aG (u:=.int 0) (vD rfl) rfl rfl).trans ?_)
   show Rs.ok (T.bl (decide ((((RR cs [] ::D).length:Nat):Int) - 1 > 0)))=_
   rw[Lm]
   congr 2
   exact decide_eq_decide.mpr (by omega)
  rcases List.eq_nil_or_concat D with rfl | ⟨D',r,rfl⟩
  ·exact ub (hc.trans rfl)
  ·rw[List.concat_eq_append]at*
   rw[decide_eq_true (by simp)]at hc
   rw[nK (Z':=LE ns cs (DK (RR cs [] ::D')) P u v ms mo k le be mr fi la li tu) hc (Jw (rH (c:="Desk") (ns:=["kept"]) (ls:=[RR cs [] ::(D'++ [r])]) (ts:=[]) rfl (by decide) rfl (Hh (K:=RR cs [] ::D') r (by simp))))]
   rw[Lo]at h
   simp at h
   exact E9 ms mo k le be mr fi la li tu (n - 1) D' (by omega) m (by omega)
theorem z10 (R:Rd cs ls L P)(I:Iv cs ms K)(h6:ms.length<=6)(dc:∀c∈cs,Dc c)(h3:cs.length<=3)(hu:u∈P)(hv:v∈P)(mo k le be mr fi la tu:Sl):∃D,D.length<=10 ∧
  Z10 (LE ns cs (DK K) P u v ms mo k le be mr fi la (.va (yk (table P (lim cs ms) v u))) tu)= .ok (.nx (LE ns cs (DK (RR cs [] ::D)) P u v ms mo k le be mr fi la (.va (yk (table P (lim cs ms) v u))) tu)):=by
 obtain⟨K2,hd⟩:=I.hd
 have hlen:=I.len
 have hK2:K2.length<=10:=by rw[hd,Lm]at hlen;omega
 have S:=R.to I.g
 have n:=(gf S).mp I.w
 have c1:∀(t:T),uJ (tb (o2 kS (vr 4) (vr 5))) (LE ns cs (DK K) P u v ms mo k le be mr fi la (.va t) tu)= .ok (!decide (u=v),LE ns cs (DK K) P u v ms mo k le be mr fi la (.va t) tu):=λt=>w4 (bV (aG (t:=en u) (u:=en v) rfl rfl (EL u v)))
 have done:∀{t:T} {F:En->Rs (Bool×En)},F (LE ns cs (DK K) P u v ms mo k le be mr fi la (.va t) tu)= .ok (false,LE ns cs (DK K) P u v ms mo k le be mr fi la (.va t) tu)->∃D,D.length<=10/\oK F (aI (cn (.bl false))) sN (LE ns cs (DK K) P u v ms mo k le be mr fi la (.va t) tu)= .ok (.nx (LE ns cs (DK (RR cs [] ::D)) P u v ms mo k le be mr fi la (.va t) tu)):=λ{t F} h=>⟨K2,hK2,by
  rw[<-hd];exact(AM (b:=false) h).trans rfl⟩
 by_cases huv:u=v
 ·refine done (nJ ((c1 _).trans ?_))
  rw[decide_eq_true huv];rfl
 have c1':∀(t:T),uJ (tb (o2 kS (vr 4) (vr 5))) (LE ns cs (DK K) P u v ms mo k le be mr fi la (.va t) tu)= .ok (true,LE ns cs (DK K) P u v ms mo k le be mr fi la (.va t) tu):=λt=>(c1 t).trans (by rw[decide_eq_false huv];rfl)
 cases ht:table P (lim cs ms) v u with
 | none=>exact done (gF (c1' _) (nJ (w4 (bV (aG (t:=.non) (u:=.non) rfl rfl rfl)))))
 | some d=>
  have c2:uJ (tb (o2 fh (vr 14) (cn .non))) (LE ns cs (DK K) P u v ms mo k le be mr fi la (.va (yk (some d))) tu)= .ok (true,LE ns cs (DK K) P u v ms mo k le be mr fi la (.va (yk (some d))) tu):=w4 (bV (aG (t:=.int (0 - d)) (u:=.non) rfl rfl rfl))
  have c3:uJ (tb (o2 J3 (vr 14) (cn (.int 0)))) (LE ns cs (DK K) P u v ms mo k le be mr fi la (.va (yk (some d))) tu)= .ok (decide (0 - d ≥ 0),LE ns cs (DK K) P u v ms mo k le be mr fi la (.va (yk (some d))) tu):=w4 (bV (aG (t:=.int (0 - d)) (u:=.int 0) rfl rfl rfl))
  by_cases h0:0 - d ≥ 0
  ·rw[decide_eq_true h0]at c3
   have hlow:=S.Lb n dc h3 I.ls hv ht
   have hlet:=R.KR hu hv huv (x:=0 - d) h0 (by omega)
   obtain⟨ew,g'⟩:=wl I.g hlet rfl (by omega)
   have hw:fw (RR cs (ms++ [vz u v (0 - d)]))=true:=by
    refine(gf (R.to g')).mpr ?_
    rw[S.La u v (0 - d),show -(0 - d)=d by omega]
    exact S.K4 n hu hv ht
   obtain⟨K',hK⟩:=I.lst;refine⟨K2++ [RR cs (ms++ [vz u v (0 - d)])],by rw[Lo];rw[hd,Lm]at hlen;simp;omega,?_⟩
   have c4:je (BW (lM 2 bq (ae (bJ (ae (vr 4) (ae (vr 5) (ae (vr 14) (ae (cn .non) aj))))) aj))) (LE ns cs (DK K) P u v ms mo k le be mr fi la (.va (yk (some d))) tu)= .ok (false,LE ns cs (DK (K++ [RR cs (ms++ [vz u v (0 - d)])])) P u v ms mo k le be mr fi la (.va (yk (some d))) tu):=
    w6 (b:=true) (ES (rJ (o:=DK K) (ts:=[vz u v (0 - d)]) rfl (au (cT rfl (aD (k:=4) (by simp))) rfl) (by rw[hK];exact nS (GR.of2 I.g) ew (GR.of2 g') hw (by rw[<-hK,hlen];omega))))
   refine(AM (b:=false) (gF (c1' _) (gF c2 (gF c3 c4)))).trans ?_
   rw[hd];rfl
  ·rw[decide_eq_false h0]at c3
   exact done (gF (c1' _) (gF c2 (nJ c3)))
end
theorem pure_law (ns:List Int)(hn:ns.length<=63):m_law [.scr ns] = .ok (.bl true):=by
 refine bA rfl ?_
 show BU [.va (.scr ns),.em,.em,.em,.em,.em,.em,.em,.em,.em,.em,.em,.em,.em,.em,.em] =_
 unfold BU;obtain⟨cs,ls,e0,hc,h3,hs,hl,h2,dc⟩:=Hm ns hn 0 0 (by omega)
 obtain⟨hr,hsm⟩:=FJ hc hs hl (by omega)
 have g0:=CF hr (zv _ hsm)
 have g:Good cs []:=g0.sub (λu hu=>by cases hu) (by simp)
 have hw0:=Hb g0
 have hG:=GR.of2 g;obtain⟨L,P,R⟩:=jn g;rw[aC (Z':=[.va (.scr ns),.va (RR cs []),.em,.em,.em,.em,.em,.em,.em,.em,.em,.em,.em,.em,.em,.em]) (bQ (t:=RR cs []) (cT (au (vE (n:=0) (l:=[.tup cs,.tup ls]) (aS (ts:=[.scr ns,.int 0,.int 0]) rfl e0) rfl rfl) (au (cT rfl (aD (k:=1) (by simp))) rfl)) (aD (k:=2) (by simp))) rfl)]
 rw[aC (Z':=[.va (.scr ns),.va (RR cs []),.ow (DK [RR cs []]),.em,.em,.em,.em,.em,.em,.em,.em,.em,.em,.em,.em,.em]) (AI (ts:=[RR cs []]) rfl (xt hG hw0) (by simp))]
 rw[aC (Z':=[.va (.scr ns),.va (RR cs []),.ow (DK [RR cs []]),.va (eS P),.em,.em,.em,.em,.em,.em,.em,.em,.em,.em,.em,.em]) (bQ (aS (ts:=[RR cs []]) rfl R.events) rfl)];obtain⟨r1,u,hu,e1,i1⟩:=R.pick hn 80;obtain⟨r2,v,hv,e2,i2⟩:=R.pick hn 81;rw[aC (Z':=[.va (.scr ns),.va (RR cs []),.ow (DK [RR cs []]),.va (eS P),.va (en u),.em,.em,.em,.em,.em,.em,.em,.em,.em,.em,.em]) (bQ (aG (t:=eS P) (u:=.int r1) rfl (aS (ts:=[.scr ns,.int 80,.int (P.length:Nat)]) (au rfl (au rfl (au (Ap rfl) rfl))) e1) i1) rfl)]
 rw[aC (Z':=[.va (.scr ns),.va (RR cs []),.ow (DK [RR cs []]),.va (eS P),.va (en u),.va (en v),.em,.em,.em,.em,.em,.em,.em,.em,.em,.em]) (bQ (aG (t:=eS P) (u:=.int r2) rfl (aS (ts:=[.scr ns,.int 81,.int (P.length:Nat)]) (au rfl (au rfl (au (Ap rfl) rfl))) e2) i2) rfl)];rw[aC (Z':=[.va (.scr ns),.va (RR cs []),.ow (DK [RR cs []]),.va (eS P),.va (en u),.va (en v),.va (.lst []),.em,.em,.em,.em,.em,.em,.em,.em,.em]) (bQ (kj rfl (aD (k:=1) (by simp))) rfl)]
 rw[aC (Z':=LE ns cs (DK [RR cs []]) P u v [] (.va (oI (table P (lim cs []) u v))) .em .em .em .em .em .em .em .em) (bQ (aS (ts:=[RR cs [],en u,en v]) rfl (R.mb g hw0 hu hv)) rfl)]
 have I0:Iv cs [] [RR cs []]:=⟨g,hw0,⟨[],rfl⟩,rfl,⟨[],rfl⟩,λl hl=>by cases hl⟩
 obtain⟨ms,K,k,le,be,mr,fi,la,I,h6,e⟩:=qc R hn hu hv .em .em (L6 6) .em .em .em .em .em .em I0 (by simp)
 rw[<-l6]at e;rw[aC (g8 (Ha (j:=((6:Nat):Int)) rfl (by omega) (by omega)) e)]
 obtain⟨K',hK⟩:=I.lst
 have hlen:=I.len
 have gr:=GR.of2 I.g
 have q8:Z8 (LE ns cs (DK K) P u v ms (.va (oI (table P (lim cs ms) u v))) k le be mr fi la .em .em)= .ok (.nx (LE ns cs (DK K) P u v ms (.va (oI (table P (lim cs ms) u v))) k le be mr fi la .em .em)):=by
  refine(dR (nL (bV (aG (t:=RR cs ms) (u:=RR cs ms) (ft (K:=K') (by rw[<-hK];rfl) gr) (cT (au (vE (n:=0) (l:=[.tup cs,.tup []]) rfl rfl rfl) (au (aS (ts:=[.lst ms]) rfl xX) rfl)) (aD (k:=2) (by simp))) gr.ne)) (bV (aG (t:=.int (ms.length:Nat)) (u:=.int (ms.length:Nat)) ((vD rfl).trans (by rw[hlen];congr 2;omega)) (aS (ts:=[.lst ms]) rfl rfl) (md rfl (by simp[T.dep])))))).trans rfl
 rw[aC q8];rw[aC (Z':=LE ns cs (DK K) P u v ms (.va (oI (table P (lim cs ms) u v))) k le be mr fi la (.va (yk (table P (lim cs ms) v u))) .em) (bQ (aS (ts:=[RR cs ms,en u,en v]) (au (ft (K:=K') (by rw[<-hK];rfl) gr) rfl) (R.lb I.g I.w hu hv)) rfl)]
 obtain⟨D,hD,e10⟩:=z10 (ns:=ns) R I h6 dc h3 hu hv (.va (oI (table P (lim cs ms) u v))) k le be mr fi la .em;rw[aC e10];rw[aC (Z':=LE ns cs (DK (RR cs [] ::D)) P u v ms (.va (oI (table P (lim cs ms) u v))) k le be mr fi la (.va (yk (table P (lim cs ms) v u))) (.ow (DK [RR cs []]))) (AI (ts:=[RR cs []]) rfl (xt hG hw0) (by simp))]
 obtain⟨le',D',e12⟩:=turned (ns:=ns) (P:=P) (u:=u) (v:=v) I (by omega) (DK (RR cs [] ::D)) (.va (oI (table P (lim cs ms) u v))) k be mr fi la (.va (yk (table P (lim cs ms) v u))) ms.reverse [] [RR cs []] le (λx hx=>List.mem_reverse.mp hx) (λx hx=>by cases hx) (by simp) (by simp) ⟨[],rfl⟩
 rw[aC (g8 (ts:=ms.reverse) (lJ (yy (t:=.lst ms) rfl rfl)) e12)];rw[aC (E9 ms _ _ _ _ _ _ _ _ _ 10 D hD FU (by decide))]
 exact cb (aG (t:=RR cs []) (u:=RR cs []) (ft (K:=[]) rfl hG) rfl hG.eq)
end G
end
open PySem PySem.W PyProof.Rows
set_option maxRecDepth 100000 in
set_option maxHeartbeats 0 in
theorem PySem.Challenge.cw_farclocks_k81_whole_desks_holds : PySem.Challenge.rw_farclocks_k81_whole_desks.Holds := by
  w_on; o_law
  refine holds_open (q := G.vw) (loose := G.lse) (Xt := λ_ => true) (XP := λ_ _ => True) (Yf := (Tr.hookC G.asks G.top).obs) (Ya := (Tr.hookC G.asks G.top).val) (YP := (Tr.hookC G.asks G.top).says) (N := 9000) (Tr.left_of (by rfl) (by rfl) (λ_ => rfl) λw os => ?hl) (Tr.hookC G.asks G.top).of (Tr.hookC G.asks G.top).keeps (λ_ _ => trivial) (λ_ _ _ _ _ => trivial) (by rfl) (by rfl) (by rfl) (λs _ => recFacts_of (s := s) rfl) (by rfl) (by assumption) (by decide +kernel) ⟨rfl, rfl, rfl, rfl, rfl, by decide +kernel⟩ ?hw ?hc
  case hl => exact G.KZ w os
  case hw => w_witness2
  case hc => exact Tr.walk_c (n := 63) (k := 15) (x := "_law_script") (CX := L2.CX0) (sp := λK => Tr.spP K 1 G.m_law) rfl (by decide) rfl ⟨rfl, by decide, by decide⟩ (λw K mg fa h X e g hf => G.all_ok X e g hf) (λK H a ns hl _ hS => Tr.sp_script hS (G.pure_law ns hl)) λ_ _ _ _ z => z
