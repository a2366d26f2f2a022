import PyProof.Rows.All
import Wide.All
import OpenK.AllK
import Wide.FinOn
import Lean
import PyProof.EqAt
import PyProof.EqKinds
import PyProof.TupleCall
import PyProof.ExcClass3
import PyProof.StationsW
import PyProof.ExcBaseAll.ValueError
import PyProof.ExcArgsOwn
import PyProof.IsiBase
import PyProof.IsiH_tuple
import PyProof.ExcAttrAll.ValueError
import PyProof.Rows.RuleN_isinstance
import PyProof.MeetsSeq
import PyProof.RulesAs
import PyProof.IsiH_list
import PyProof.AttrMiss
import KE.KDictOf
import PyProof.Rows.SumAny
import PyProof.Rows.MinMaxN
import PyProof.Rows.SortShellK
import PyProof.Rows.SortWalk
import PyProof.ZipIter
import PyProof.WalksMore
import PyProof.DictWalks
import PyProof.AutoSeq1
import PyProof.Rows.Range3
import PyProof.CollectWalk
import KE.KSortTup
import PyProof.EnumMake
import PyProof.ListRange
import KE.KRevIter
import PySem.Challenge.RW_farclocks_k80_desks
noncomputable section
open PySem.Challenge renaming pw_farclocks_k80_desks→Pf,rw_farclocks_k80_desks→Ta
open PySem.AutoListH renaming list___mul___list_int_3→TQ
open PyProof.Rows renaming slot_tuple_getitem→OZ,callWith_builtin1→PN,callWith_type1→Pb,subscriptTail_builtinR→SL,entry_tuple_getitem→TH,args_tuple_getitem→Ub,call_isinstance_of→Ue,tupleItemsOf_→Uc,subscriptTail→Ud,IntsAre→RL,AllBare→SB,IsTup→Vm
open PySem.F renaming args_tuple_iterator_next_1→RO,entry_tuple_iterator_next→RT,slot_tuple_iterator_next→P7,excBase_ValueError→R0,slot_list_getattribute→Qt,args_tuple_add_2→Q9,slot_list_append→Sh,type_list_append→Si,plainAttrs_list→Pg,entry_tuple_add→Rg,args_dict_get_2→Ss,slot_list_index→Su,type_list_index→Sv,slot_tuple_add→Rp,entry_dict_get→SI,slot_dict_get→Ry,typeOf_object_class→RF,slot_enumerate_next→SS,args_list_index_2→Tx,entry_list_index→TX,args_int_rmul_2→Uk,slot_tuple_rmul→Uo,slot_list_index→Uq,slot_tuple_mul→SE,slot_int_index→UN,entry_int_rmul→UO,slot_int_rmul→RS,fills_int_mul→U6,slot_gs_get→TV
open PySem.Builtin.Slice renaming slicePartIndex→UZ,sliceApplied→RX,slicePlaces→Qh,sliceAdjust→Q2
open Array renaming getElem?_eq_some_iff→O5,length_toList→Pd,find?_toList→TN,toList→SQ
open List renaming getElem?_append_right→Py,nodup_iff_pairwise_ne→R3,getElem?_eq_some_iff→NW,getElem?_append_left→O9,drop_eq_getElem_cons→Q3,getElem?_eq_getElem→N9,getElem?_replicate→Ph,getElem?_cons_succ→Pv,getElem?_set_self→Oh,drop_eq_nil_of_le→Rq,take_of_length_le→SJ,mem_append_right→Of,length_singleton→Pq,getElem?_eq_none→RC,set_getElem_self→SU,dropLast_eq_take→SX,take_append_drop→SZ,mem_cons_of_mem→NL,getElem?_set_ne→Oj,mem_append_left→On,mem_of_mem_take→PU,mem_of_getElem?→Qo,mem_erase_of_ne→Tg,mem_of_mem_drop→Th,map_congr_left→OV,filterMap_cons→Pc,replicate_succ→PF,getElem_of_mem→Qw,drop_succ_cons→TF,mem_cons_self→NP,length_append→NV,mem_singleton→N1,contains_cons→O4,mem_filterMap→R6,append_of_mem→T2,size_toArray→N6,getElem?_map→Oe,append_assoc→Oo,nodup_append→OQ,flatten_cons→Qr,length_range→Qs,flatMap_cons→QV,any_eq_false→Sk,pairwise_map→Us,length_cons→NU,all_eq_true→Od,lookup_cons→OP,length_take→OY,not_mem_nil→Po,getElem_mem→Px,length_drop→Qx,any_eq_true→RJ,getElem_map→SF,cons_append→SG,drop_length→UP,filter_cons→UR,mem_flatMap→UU,length_map→NR,nodup_cons→Og,mem_append→Oi,append_nil→Ol,map_append→O8,length_set→Pe,nil_append→Pt,of_mem_zip→QD,find?_cons→QH,mem_filter→Rh,range_succ→S0,foldl_cons→U5,forIn_cons→U7,length_nil→U8,idxOf_cons→Vd,replicate→Ob,mem_range→Pr,nodup_nil→Ql,map_cons→NO,mem_cons→NT,sum_cons→PV,any_cons→Qa,map_take→T4,mem_map→Om,map_map→PY,map_nil→SR,toArray→UF,set_set→UJ,length→O7,lookup→PC,map_id→Tz,range→OI,Nodup→Pm,foldl→Sm
open PySem renaming wpAny_newFunctionEnv_cells→P8,wpAny_binaryOp_repeat_ref→Sd,codeAny_handlers_suite_as→Se,wpAny_callSpecial?_slot→PX,wpAny_pyNext_list_item→SK,wpAny_Call_method_late→SM,builtinLookup_eq_fast→Qg,codeAny_call_function→QL,wpAny_isTrue_Compare1→RH,wpAny_pyNext_list_end→S4,codeAny_handlers_test→S9,codeAny_call_builtin→RN,wpAny_setFlight_none→Ti,mem_of_lookup→P3,wpAny_isSubtype_exc→P5,wpAny_handleBy_cons→TK,wpAny_Call_Name_kw→OG,wpAny_pyIter_tuple→Rm,tupleKind_room_in1→Ro,wpAny_List_spliced→T8,wpAny_truthy_bool→OR,foldedSetIterable→OS,wpAny_loadPart_at→OU,wpAny_newObj_type→PJ,wpAny_pyIter_list→Sr,wpAny_assign_Name→Uv,wpAny_sequenceKey→Uw,wpAny_pyIter_enum→Uy,wpAny_call_entry→Q7,noFill_tuple_add→SH,seqSlot_of→UQ,wpAny_execs_cons→UV,lookupAlong_cons→UW,checkBuiltinCall→UX,wpAny_Try_except→UY,wpAny_loadPart'→Qu,wpAny_execs_nil→QJ,letOwnedTupleGo→Rl,typeLookup_type→Rn,pushCells_keeps→S7,codeAny_builtin→S8,importedModules→Ve,wpAny_passesOwn→Vf,recursionLimit→Q5,wpAny_seqItems→Tq,wpAny_setField→Ts,attributeBase→Os,behindInMarks→Qd,wpAny_holding→SC,swapsWithSole→T6,swappedStores→T7,seq_tuple_add→T9,bootBuiltins→OK,codeAny_mono→Qe,wpAny_typeOf→R8,codeAny_func→S5,Within→UA,concat_meets→UK,mainGlobals→OA,excClassObj→Pj,wpAny_field→Qn,sizeLine_eq→QK,keywordEach→QP,sliceBounds→Rw,subscripted→TJ,lookupAlong→Vj,wpAny_bind→NS,wpAny_pure→N5,wpAny_mono→Pw,assignEach→PH,sysModules→QZ,call_meets→Q0,wpAny_call→Ru,typeLookup→Rv,builtinsNs→So,typeIs_int→Tc,wpAny_rule→Ux,compareOp→OL,swapsWith→OW,cellsFrom→P4,getMethod→RW,tupleKind→Sq,Arguments→S3,pushCells→S6,noteFrame→Vh,lastMarks→Vi,starEach→NY,FuncData→Ox,boot_len→Pl,binaryOp→PM,NameKind→QY,backToKw→R9,GenState→T5,callWith→Ug,bindArgs→U0,Program→Oa,BindsTo→Sb,OsState→Uu,Keyword→Vg,Shared→NQ,Around→Ou,Result→To,IsPart→Ua,Paired→Vl,Value→NM,World→O0,Scope→Q8,CmpOp→Ut,Model→Vk
open PySem.Builtin.Tuple renaming tupleItemsOf→RY,tupleIsExact→RZ,tupleExact→PQ
open PySem.Calls renaming Name_function_global→R1,callWith_builtin→Qz,evalArgs_plain→Q1,spliced_cons→Rj,Constant_str→TM,spliced_nil→Rt
open PySem.Builtin.SmallTypes renaming nextOf→Qi
open PySem.Builtin.List renaming listTooLong→Qp
open Option renaming isSome_iff_exists→Re,map_eq_some_iff→QC,isSome_some→TU,getD_none→UM,map_some→Vb,some→OM
open Int renaming eq_ofNat_of_zero_le→Ov,emod_lt_of_pos→R7,toNat_natCast→PD,emod_nonneg→S2,le_antisymm→Va,le_refl→PR
open PySem.Builtin.Dict renaming updateFrom→Sw
open PySem.Heap renaming get?_push_of_some→NX,get?_update_other→QB,get?_update_self→RD,get?_push_size→Oc,NewAttrErr→U9,size_push→Qj,lt_size→NZ,SameBut→Rb
open PySem.W renaming cellsFrom_some→P6,methodCall_KW→RA,hideAll_none→RM,hideAll_get→Qv,plainGet_of→RQ,callWith_K0→Tu,callWith_K→PP,codeRec_of→Rf,of_hideAll→R4,emptyDict→Pp,methodObj→Sf,hasDictIn→Sg,plainOver→Uh,kitx_list→Ui,kitx_dict→Uj,plainGet→RI,handedIn→UL,kia_one→Pn,instObj→P2,hideAll→SN,takerIn→SO,makesIn→U1,findIn→PK,keepIn→PL,lookIn→Sa,codeIn→Tj,mg_of→QQ,Frag→NK,nsIn→Ra,fnOf→Rx,isFn→Uz
open PySem.Obj renaming isFreed_of_fields→RE,data_mapFields→Qb,mapFields→RP
open Bool renaming and_eq_false_iff→S1,and_eq_true_iff→Pa,or_eq_false_iff→Tf,false_ne_true→N0,false_eq_true→TR,not_eq_true'→Ur,and_eq_true→NN,eq_iff_iff→Ri,or_eq_true→RU,true_and→QU,false_or→Sz,and_true→T3,or_true→UG,true_or→UH
open PySem.Around renaming frames_deeper→Td,under_plainId→Te,units→RG,under→UB
open PySem.Heap.SameBut renaming update→Tt
open Nat renaming lt_of_lt_of_le→N8,lt_of_le_of_lt→T1,le_of_succ_le→Sn,lt_succ_of_lt→Ul,lt_succ_self→SD,min_eq_right→US,mod_eq_of_lt→UT,min_eq_left→Vc,lt_irrefl→Ot,le_trans→OJ,ne_of_lt→Pk,le_of_lt→Rc,le_of_eq→RB,ne_of_gt→R5,sub_self→SV,sub_zero→SW,add_comm→UD,mul_comm→UE,le_refl→N4,zero_le→Qk
open Option.some renaming injEq→Sj,inj→Oy
open ForInStep renaming yield→QF
open PySem.Expr renaming Subscript→PZ,Attribute→Q4,Constant→SA,ListComp→TZ,Compare→SY,UnaryOp→UI,BoolOp→Qm,Name→OF,Call→Qc
open PySem.NameKind renaming free→OH,cell→Pu
open PySem.Value renaming builtin→QR,float→U3,none→Oz,bool→ON,type→Rr,ref→N3,int→Pz,str→PB
open Prod.mk renaming injEq→Sx,inj→U2
open PySem.Paired renaming length→Sy
open PySem.Value.ref renaming inj→TL
open PySem.Str renaming ofString→N7
open PySem.Code renaming isFrame→UC
open PySem.Stmt renaming Assign→RV
open PySem.Scope renaming names→TB
open PySem.Pos renaming endLine→TC,line→Q6
open False renaming elim→P9
open True renaming intro→Qq
open PySem.BoolOp renaming And→Tb,Or→TY
open PySem.Env renaming scope→Qy
open PyProof.Rows.IsTup renaming new→U4
open Ne renaming symm→O6
open Iff renaming rfl→Rk
open Sum renaming inl→Tv,inr→Tw
open Prod renaming mk→Um
open Or renaming inr→Oq,inl→OB
open Option renaming some→ZA,none→ZB
open Bool renaming true→ZC,false→ZD
open PySem renaming Addr→ZE,Stmt→ZF,Expr→ZG,Heap→ZH
open PySem renaming sizeLine→ZI,wpAny→ZJ,model→ZK,codeAny→ZL
set_option Elab.async false
set_option linter.all false
set_option maxRecDepth 100000
set_option maxHeartbeats 8000000
noncomputable section
abbrev V0:=PySem.Str->Option NM
abbrev V1:=NM->NQ->Prop
abbrev V2:=List (PySem.Addr×PySem.Obj)
abbrev eO(x:PySem.Str):Prop:=(x == PySem.Str.ofString "__debug__")=ZD
namespace L2
open PySem PySem.Spec PyProof.Rows
inductive V where
 |non|bl (b:Bool)|int (i:Int)|str (x:Str)|byt (b:Array UInt8)|flt (b:UInt64)|ref (a:ZE)|ty (n:String)
 deriving DecidableEq
noncomputable def dm(s:ZF)(j:Nat):ZF:=match s with
 |.ClassDef _ _ _ body _ _ _ _ _ _ _=>body.getD j (.Pass ⟨0,0,0,0⟩)
 |_=>.Pass ⟨0,0,0,0⟩
noncomputable def gE(s:ZF):S3:=match s with
 |.FunctionDef _ a _ _ _ _ _ _ _ _=>a
 |_=>{posonlyargs:=[],args:=[],vararg:=ZB,kwonlyargs:=[],kw_defaults:=[],kwarg:=ZB,defaults:=[]}
def bD(s:ZF):List ZF:=match s with
 |.FunctionDef _ _ b _ _ _ _ _ _ _=>b
 |_=>[]
def aj(s:ZF):Q8:=match s with
 |.FunctionDef _ _ _ _ _ _ sc _ _ _=>sc
 |_=>{kind:=.function,names:=[],isGenerator:=ZD,isCoroutine:=ZD}
end L2
namespace Tr
open PySem PySem.Spec PyProof.Rows L2
inductive T where
 |non|bl (b:Bool)|int (i:Int)|str (x:Str)|tup (l:List T)|lst (l:List T)
 /-- the law's script: a list of ints that is only read -/
 |scr (l:List Int)
 /-- a dict: its keys,its values -/
 |dct (ks vs:List T)
 /-- an instance: its class,the names of its attributes,what they are -/
 |ob (C:Str) (ns:List Str) (ts:List T)
inductive OT where
 |lst (l:List T)|dct (ks ts:List T)|dd (ks:List T) (rows:List (List T×List T))
 /-- an instance,its attributes own lists -/
 |ob (C:Str) (ns:List Str) (ls:List (List T))
noncomputable def OT.view:OT->T
 |.lst l=>.lst l
 |.dct ks ts=>.dct ks ts
 |.dd ks rows=>.dct ks (rows.map λr=>.dct r.1 r.2)
 |.ob C ns ls=>.ob C ns (ls.map T.lst)
noncomputable def calmNames:List Str:=["__init__","__getattribute__","__getattr__","__class__"]
def BQ:NM->Bool
 |.str _ _=>ZC
 |_=>ZD
end Tr
namespace Tr
def gS:List Int->List Int->Bool
 |[],[] =>ZD
 |[],_::_=>ZC
 |_::_,[] =>ZD
 |a::l,b::m=>if a=b then gS l m else decide (a<b)
end Tr
namespace Tr
open PySem PySem.Spec PyProof.Rows L2
structure RK where
 V:ZH->NM->List Int->Prop
 inj:∀{h v a b},V h v a->V h v b->a=b
 on:∀{h h':ZH} {v a},V h v a->(∀b o,h.get? b=ZA o->h'.get? b=ZA o)->V h' v a
 fst:∀{h v a},V h v a->∃ad xs n o m t,v=.ref ad/\h.get? ad=ZA o/\o.cls=.type "tuple"/\o.data=.seq xs n/\xs[0]?=ZA (.int m t)
 lt:∀{prog w A s E x y a b} {Q:Bool->NQ->Prop},A.units+60<cLine->V s.heap x a->V s.heap y b->Q (gS a b) s->ZJ (ZK prog w) A (keyLt' (tuples' ZC) x y) Q E s
variable (R:RK)
open Classical in
def RK.key(h:ZH)(v:NM):Option (List Int):=if e:∃ns,R.V h v ns then ZA e.choose else ZB
variable {R:RK}
end Tr
namespace Tr
open PySem PySem.Spec PyProof.Rows L2 PySem.W
def DP(h:ZH):Frag:=(OI h.objs.size).filterMap λa=>(h.get? a).map λo=>(a,o)
noncomputable def obF(K:Frag)(n:Str):Option (Str×Str×S3×FuncBody×Q8×ZE×List (Str×ZE)×NM×ZE×Bool×Bool):=match nsIn K OA n with
 |some (ZA (.ref f))=>match K.lookup f with
  |some ⟨_,_,.func d,_⟩=>ZA (d.name,d.qualname,d.params,d.body,d.scope,d.globals,d.closure,d.defaults,d.builtins,codeIn K d.code n,keepIn K (.ref f))
  |_=>ZB
 |_=>ZB
noncomputable def exF(n:Str)(st:ZF):Option (Str×Str×S3×FuncBody×Q8×ZE×List (Str×ZE)×NM×ZE×Bool×Bool):=
 ZA (n,n,gE st,.stmts (bD st),aj st,OA,[],.none,So,ZC,ZC)
def LF(K:Frag)(N:ZE)(n:Str):Bool:=match nsIn K N n with|some ZB=>ZC|_=>ZD
def MJ(K:Frag)(n:Str):Option Int:=match nsIn K OA n with|some (ZA (.int i _))=>ZA i|_=>ZB
noncomputable def zc:List NM->Bool
 |[.type a,.type b,.type c,.type d] =>a == "ValueError" &&b == "Exception" &&c == "BaseException" &&d == "object"
 |_=>ZD
def under(D:Option ZE)(m:List NM):Bool:=match D with
 |none=>zc m
 |some D=>match m with
  |.ref E::m=>E == D&&zc m
  |_=>ZD
noncomputable def F8(K:Frag)(D:Option ZE)(n:Str):Option ZE:=match nsIn K OA n with
 |some (ZA (.ref C))=>match K.lookup C with
  |some ⟨.type t,_,.cls c,⟨[_,_,_,_,ZA (.builtin b),_]⟩⟩=>match c.mro,K.lookup c.ns with
   |.ref E::m,ZA ⟨_,_,.dict es _,_⟩=>
    if (t == "type" &&b == "ValueError.__new__" && !c.hasDel&&(es.toList.all λe=>BQ e.key)&&calmNames.all (LF K c.ns)&&E == C&&under D m)=ZC then ZA C else ZB
   |_,_=>ZB
  |_=>ZB
 |_=>ZB
noncomputable def yS{α:Type}:List (Option α)->Option (List α)
 |[] =>ZA []
 |none::_=>ZB
 |some a::r=>match yS r with|some l=>ZA (a::l)|none=>ZB
def uu:List ZE->Bool
 |[] =>ZC
 |a::r=>(r.all λb=>!(a == b))&&uu r
noncomputable def MI(K:Frag):List Str->Bool
 |[] =>ZC
 |m::es=>match F8 K ZB m with
  |some D=>match yS (es.map (F8 K (ZA D)))with|some l=>uu (l++[D])|none=>ZD
  |none=>ZD
structure EH where
 tab:List (Str×Nat)
 zs:List Str
 cs:List (Str×Int)
 es:List Str
noncomputable def ye(S:EH)(K:Frag):=(S.tab.map (λp=>obF K p.1),S.zs.all (LF K OA),S.cs.map (λc=>MJ K c.1),MI K S.es)
def xH(S:EH)(top:Nat->ZF):=(S.tab.map (λp=>exF p.1 (top p.2)),ZC,S.cs.map (λc=>ZA c.2),ZC)
noncomputable def LG(K:Frag)(C:ZE)(m q:Str):Option (Str×Str×S3×FuncBody×Q8×ZE×List (Str×ZE)×NM×ZE×Bool×Bool×Bool):=match findIn K (.ref C) m with
 |some (ZA (.ref f))=>match K.lookup f with
  |some ⟨_,_,.func d,_⟩=>ZA (d.name,d.qualname,d.params,d.body,d.scope,d.globals,d.closure,d.defaults,d.builtins,codeIn K d.code q,keepIn K (.ref f),isFn K (.ref f))
  |_=>ZB
 |_=>ZB
noncomputable def Mp(m q:Str)(st:ZF):Option (Str×Str×S3×FuncBody×Q8×ZE×List (Str×ZE)×NM×ZE×Bool×Bool×Bool):=
 ZA (m,q,gE st,.stmts (bD st),aj st,OA,[],.none,So,ZC,ZC,ZC)
def Js(K:Frag)(C:ZE)(f:Str):Bool:=match findIn K (.ref C) f with|some ZB=>ZC|_=>ZD
noncomputable def Ik(K:Frag)(C:ZE):Bool:=match findIn K (.ref C) "__setattr__" with|some (ZA (.builtin b))=>b == "object.__setattr__" |_=>ZD
noncomputable def HB(K:Frag)(C:ZE)(as:List Str):Bool:=plainGet K C Str.empty&&hasDictIn K C&&plainOver K C&&Ik K C&&makesIn K C&&keepIn K (.ref C)&&as.all (Js K C)
structure Ha where
 c:Str
 i:Nat
 as:List Str
 ms:List (Str×Str×Nat)
noncomputable def obK(K:Frag)(A:Ha):=match nsIn K OA A.c with
 |some (ZA (.ref C))=>ZA (HB K C A.as,A.ms.map λ(m:Str×Str×Nat)=>LG K C m.1 m.2.1)
 |_=>ZB
def exK(top:Nat->ZF)(A:Ha):=ZA (ZC,A.ms.map λ(m:Str×Str×Nat)=>Mp m.1 m.2.1 (dm (top A.i) m.2.2))
structure xy where
 a:EH
 ks:List Ha
def CT(S:xy)(K:Frag):=(ye S.a K,S.ks.map (obK K))
def BJ(S:xy)(top:Nat->ZF):=(xH S.a top,S.ks.map (exK top))
end Tr
namespace G
open PySem PySem.Spec PyProof.Rows L2 Tr
def top(i:Nat):ZF:=Pf.main.body.getD i (.Pass ⟨0,0,0,0⟩)
noncomputable def Ew:EH:=⟨([("_law_events",56),("_law_small",58),("is_long",17),("is_whole",15),("is_within",16),("is_pace",20),("rises",18),("are_readings",19),("is_clock",21),("are_clocks",22),("is_event",23),("is_delay",24),("is_letter",25),("are_letters",26),("is_record",27)]:List (Str×Nat))++([("need_record",28),("events",30),("is_better",43),("settle",42),("greatest_world",45),("bounds_of_clock",38),("bounds_of_letter",39),("bounds",40),("world",46),("has_world",47),("need_world",48),("_law_begun",63),("_law_table",60),("_law_bounds",59),("_law_has",64)]:List (Str×Nat))++([("_law_cell",52),("_law_drawn",53),("_law_letter",55),("_law_clock",54),("_law_record",57),("_law_next",65),("if_record",32),("with_letter",33),("need_number",29),("with_clock",35),("with_reading",36),("without_letter",34),("_law_told",62),("law",66),("_law_refused",61)]:List (Str×Nat)),(["ValueError","all","bool","dict","enumerate","int","isinstance","len","max","min","range","tuple"]:List Str),[("MOST_CLOCKS",4),("MOST_LETTERS",8),("MOST_READINGS",4),("LAST_READING",99),("SLOWEST",9),("LONGEST",999)],["ClockError","NoRecord","NoEvent","NoNumber","NoWorld","Barred","Nothing"]⟩
noncomputable def asks:xy:=⟨Ew,[⟨"Desk",50,["kept"],[("__init__","Desk.__init__",0),("record","Desk.record",1),("many","Desk.many",7),("keep","Desk.keep",2),("take","Desk.take",3),("read","Desk.read",4),("drop","Desk.drop",5),("undo","Desk.undo",6)]⟩]⟩
def vw:Oa:=PySem.W.view Pf [66]
noncomputable def lse:List Str:=(["ClockError","NoRecord","NoEvent","NoNumber","NoWorld","Barred","Nothing","MOST_CLOCKS","MOST_LETTERS","MOST_READINGS","LAST_READING","SLOWEST","LONGEST","is_whole","is_within","is_long","rises","are_readings","is_pace","is_clock"]:List Str)++(["are_clocks","is_event","is_delay","is_letter","are_letters","is_record","need_record","need_number","events","if_record","with_letter","without_letter","with_clock","with_reading","bounds_of_clock","bounds_of_letter","bounds","settle","is_better","greatest_world"]:List Str)++(["world","has_world","need_world","Desk","_law_cell","_law_drawn","_law_clock","_law_letter","_law_events","_law_record","_law_small","_law_bounds","_law_table","_law_refused","_law_told","_law_begun","_law_has","_law_next"]:List Str)
noncomputable def lhs(w:O0)(h:ZH)(d:Drawn)(t:Nat)(os:Uu):=(PySem.W.topFrom treeTable Pf w 9000 ⟨h,⟨[]⟩,d,t,os⟩).map (λs=>(PySem.W.openSeen vw lse (Ve Pf.main.body) (λ_=>ZC) ZC s,CT asks (DP s.heap)))
noncomputable def rhs(w:O0):=ZA (PySem.W.openGood vw lse,BJ asks top)
def lhs_r:lhs=lhs:=rfl
def rhs_r:rhs=rhs:=rfl
end G
section
lay_quick G.lhs G.rhs
name_quick lhsz for G.lhs by G.lhs_r
name_quick rhsz for G.rhs by G.rhs_r
open PySem PySem.W PyProof.Rows
set_option maxRecDepth 100000 in
theorem G.NG(w:O0)(os:Uu):PySem.W.Fast.lhsz w (boot_heap w.params) boot_drawn boot_toks os=PySem.W.Fast.rhsz w:=by kernel_rfl
end
namespace L2
open PySem PySem.Spec PyProof.Rows
abbrev Key:=Sum Int Str
def sd:Key->NM->Bool
 |.inl k,v=>Value.isInt k v
 |.inr x,v=>Value.isStrOf x v
def keyH(w:O0):Key->Int
 |.inl k=>hashInt k
 |.inr x=>hashStr w x
theorem cM:∀{k:Key}{v:NM},sd k v=ZC->(∃i t,k=Tv i/\v=Pz i t)\/(∃x t,k=Tw x/\v=PB x t)
 |.inl i,v,h=>by
  obtain⟨t,e⟩:=Value.isInt_shape (k:=i) (v:=v) h
  exact .inl ⟨i,t,rfl,e⟩
 |.inr x,v,h=>by
  obtain⟨t,e⟩:=Value.isStrOf_shape (x:=x) (v:=v) h;exact .inr ⟨x,t,rfl,e⟩
def AU(i:Int)(t:Tok):sd (.inl i) (.int i t)=ZC:=by simp[sd,Value.isInt]
def AS(x:Str)(t:Tok):sd (.inr x) (.str x t)=ZC:=by simp[sd,Value.isStrOf]
def JH(a b:Int):decide ((Tv a:Key)=Tv b)=(a == b):=by
 by_cases e:a=b
 ·subst e;simp
 ·have h:¬ (Tv a:Key)=Tv b:=λq=>e (Tv.inj q)
  rw[decide_eq_false h];exact(beq_eq_false_iff_ne.mpr e).symm
def JD(a b:Str):decide ((Tw a:Key)=Tw b)=decide (a=b):=by
 by_cases e:a=b
 ·subst e;simp
 ·have h:¬ (Tw a:Key)=Tw b:=λq=>e (Tw.inj q)
  rw[decide_eq_false h,decide_eq_false e]
def JG(a:Int)(b:Str):decide ((Tv a:Key)=Tw b)=ZD:=decide_eq_false (λq=>nomatch q)
def JE(a:Str)(b:Int):decide ((Tw a:Key)=Tv b)=ZD:=decide_eq_false (λq=>nomatch q)
def cU(prog:Oa)(w:O0):PySem.KeyKind prog w Key where
 is:=sd
 hash:=keyH w
 inj:=λv a b ha hb=>by
  rcases cM ha with⟨i,t,rfl,rfl⟩|⟨x,t,rfl,rfl⟩
  ·rcases cM hb with⟨j,u,rfl,e⟩|⟨y,u,rfl,e⟩
   ·injection e with e1 _;rw[e1]
   ·exact nomatch e
  ·rcases cM hb with⟨j,u,rfl,e⟩|⟨y,u,rfl,e⟩
   ·exact nomatch e
   ·injection e with e1 _;rw[e1]
 byValue:=λk v h=>by
  rcases cM h with⟨i,t,rfl,rfl⟩|⟨x,t,rfl,rfl⟩ <;> rfl
 pyHash:=λhv h=>by
  rcases cM hv with⟨i,t,rfl,rfl⟩|⟨x,t,rfl,rfl⟩
  ·exact wpAny_pyHash_int h
  ·exact wpAny_pyHash_str h
 eqBool:=λhu hv h=>by
  rcases cM hu with⟨i,t,rfl,rfl⟩|⟨x,t,rfl,rfl⟩
  ·rcases cM hv with⟨j,u,rfl,rfl⟩|⟨y,u,rfl,rfl⟩
   ·rw[JH]at h;exact wpAny_eqBool_int h
   ·rw[JG]at h;exact SeqAt.EqAt.int_str i t y u _ _ _ _ h
  ·rcases cM hv with⟨j,u,rfl,rfl⟩|⟨y,u,rfl,rfl⟩
   ·rw[JE]at h;exact SeqAt.EqAt.str_int x t j u _ _ _ _ h
   ·rw[JD]at h;exact wpAny_eqBool_str h
 «strs»:=λk x t v h=>by
  rcases cM h with⟨i,u,rfl,e⟩|⟨y,u,rfl,e⟩
  ·exact nomatch e
  ·injection e with e1 _
   subst e1;cases v <;> rfl
def wH(prog:Oa)(w:O0)(i:Int)(t:Tok):(cU prog w).is (.inl i) (.int i t)=ZC:=AU i t
def wG(prog:Oa)(w:O0)(x:Str)(t:Tok):(cU prog w).is (.inr x) (.str x t)=ZC:=AS x t
def RelV:V->NM->Prop
 |.non,u=>u=Oz
 |.bl b,u=>u=ON b
 |.int i,u=>∃t,u=Pz i t
 |.str x,u=>∃t,u=PB x t
 |.byt b,u=>∃t,u=Value.bytes b t
 |.flt b,u=>∃t,u=U3 b t
 |.ref a,u=>u=N3 a
 |.ty n,u=>u=Rr n
abbrev Vals:List V->List NM->Prop:=Vl RelV
variable{us:List NM}{xs:List V}
def Vals.length(r:Vals xs us):xs.length=us.length:=Sy r
theorem Vals.get:∀{xs:List V}{us:List NM}{i:Nat}{x:V},Vals xs us->xs[i]?=ZA x->∃u,us[i]?=ZA u/\RelV x u
 |_,_,_,_,.nil,e=>by simp at e
 |_,_,0,_,.cons r _,e=>by simp at e;subst e;exact⟨_,rfl,r⟩
 |_,_,i+1,x,.cons _ t,e=>by
  obtain⟨u,h1,h2⟩:=Vals.get (i:=i) (x:=x) t (by simpa using e)
  exact⟨u,by simpa using h1,h2⟩
theorem Vals.append:∀{xs ys:List V}{us ws:List NM},Vals xs us->Vals ys ws->Vals (xs++ys) (us++ws)
 |_,_,_,_,.nil,s=>s
 |_,_,_,_,.cons r t,s=>.cons r (Vals.append t s)
theorem Vals.take:∀{xs:List V}{us:List NM}(n:Nat),Vals xs us->Vals (xs.take n) (us.take n)
 |_,_,0,_=>.nil
 |_,_,_+1,.nil=>.nil
 |_,_,n+1,.cons r t=>.cons r (Vals.take n t)
theorem Vals.drop:∀{xs:List V}{us:List NM}(n:Nat),Vals xs us->Vals (xs.drop n) (us.drop n)
 |_,_,0,r=>r
 |_,_,_+1,.nil=>.nil
 |_,_,n+1,.cons _ t=>Vals.drop n t
def RelO:Option V->Option NM->Prop
 |some v,ZA u=>RelV v u
 |none,ZB=>True
 |_,_=>False
def KV{κ:Type}:List (κ×V)->List (κ×NM)->Prop:=Vl λ(p:κ×V)(q:κ×NM)=>p.1=q.1/\RelV p.2 q.2
def kV:Key->V
 |.inl i=>.int i
 |.inr x=>.str x
inductive HO where
 /-- a list -/
 |lst (xs:List V)
 /-- a tuple (never changes) -/
 |tup (xs:List V)
 /-- a dict whose keys are ints and texts;one whose keys are tuples of ints and texts (the empty one is both) -/
 |dK (kvs:List (Key×V))|dT (kvs:List (List Key×V))
 /-- a set of ints: its members,its size -/
 |set (S:Int->Bool) (n:Nat)
 /-- an instance of the class at C,its dict at dx,its attributes -/
 |ins (C dx:ZE) (fs:List (Str×V))
 /-- the dict of the instance at x -/
 |own (x:ZE)
 /-- the dict of an exception -/
 |xd (fs:List (Str×V))
 /-- a bound method,f of x -/
 |met (f x:ZE)
 /-- a range object lo,lo+1,.. below hi -/
 |rng (lo hi:Int)
 /-- a thing that is known to the object (the script;a dict while a loop walks it): read,never written while it is so -/
 |frz (o:Obj) (u:HO)
 /-- a code object's table -/
 |tbl (ps:Array NM)
 /-- any other thing,by what is ZC of its one object (a def of one's own: SetO a S n:=HO.ext λh=>..) -/
 |ext (φ:ZH->Prop)
abbrev Hp:=ZE->Option HO
def upd(H:Hp)(a:ZE)(o:HO):Hp:=λb=>if b=a then ZA o else H b
variable{H:Hp}{a:ZE}
def aG{o:HO}:upd H a o a=ZA o:=by unfold upd;rw[if_pos rfl]
variable{b:ZE}
def aB{o:HO}(h:b≠a):upd H a o b=H b:=by unfold upd;rw[if_neg h]
def sV{o u:HO}:upd (upd H a o) a u=upd H a u:=by
 funext b;unfold upd;split <;> rfl
def jR{o u:HO}(h:H a=ZA o)(h':H b=ZA u)(d:o≠u):a≠b:=by
 intro e;subst e;rw[h]at h';exact d (Oy h')
def cw{o:HO}(h:H a=ZA o)(h':H b=ZB):a≠b:=by
 intro e;subst e;rw[h]at h';cases h'
section
variable (P:Oa)(w:O0)
def ObjOk(H:Hp)(h:ZH)(a:ZE):HO->Prop
 |.lst xs=>xs.length<=ZI/\∃(its:List NM)(n:Nat),Vals xs its/\h.get? a=ZA {cls:=.type "list",data:=.seq its.toArray n}
 |.tup xs=>xs.length<=ZI/\∃its:List NM,Vals xs its/\Vm h a its.toArray
 |.dK kvs=>kvs.length<=ZI/\(a == QZ)=ZD/\∃vs,KV kvs vs/\h.DictOf (cU P w) a vs
 |.dT kvs=>kvs.length<=ZI/\(a == QZ)=ZD/\∃xs:List (List Key×ZE×NM),
   Vl (λ(p:List Key×V)(q:List Key×ZE×NM)=>p.1=q.1/\H q.2.1=ZA (.tup (p.1.map kV))/\RelV p.2 q.2.2) kvs xs ∧
   ∃o es ep,h.get? a=ZA o/\o.ExactDict/\o.data=.dict es ep/\es.toList=xs.map (entryOfKey (Sq (cU P w)))/\(xs.map (·.1)).Nodup
 |.set S n=>h.SetOf (intKind P w) a S n
 |.ins C dx fs=>H dx=ZA (.own a)/\fs.length<=1000/\dx≠a/\h.get? a=ZA (P2 C dx) ∧
   ∃mA,h.Ns1 dx mA/\(∀f,RelO (fs.lookup f) (mA f))/\UA mA (fs.map (·.1))
 |.own _=>∃o,h.get? a=ZA o
 |.xd fs=>∃mA,h.Ns1 a mA/\∀f,RelO (fs.lookup f) (mA f)
 |.rng lo hi=>∃t u v,h.get? a=ZA {cls:=.type "range",data:=.fields #[.int lo t,.int hi u,.int 1 v]}
 |.frz o u=>h.get? a=ZA o/\ObjOk H h a u
 |.tbl ps=>h.get? a=ZA {cls:=.none,data:=.fields ps}
 |.met f x=>h.get? a=ZA (Sf (.ref f) (.ref x))
 |.ext φ=>φ h/\(∃o,h.get? a=ZA o)/\∀h1 h2:ZH,φ h1->(∀o,h1.get? a=ZA o->h2.get? a=ZA o)->φ h2
def HOk(H:Hp)(h:ZH):Prop:=∀a o,H a=ZA o->ObjOk P w H h a o
end
variable{H':Hp}{P:Oa}{h h':ZH}{w:O0}
section
variable {o:HO}
theorem ObjOk.lt(x:ObjOk P w H h a o):a<h.objs.size:=by
 cases o with
 |lst xs=>obtain⟨_,_,_,_,e⟩:=x;exact NZ e
 |tup xs=>obtain⟨_,_,_,p⟩:=x;exact p.lt
 |dK kvs=>obtain⟨_,_,_,_,o,_,_,e,_⟩:=x;exact NZ e
 |dT kvs=>obtain⟨_,_,_,_,o,_,_,e,_⟩:=x;exact NZ e
 |set S n=>obtain⟨o,_,_,_,e,_⟩:=x;exact NZ e
 |ins C dx fs=>obtain⟨_,_,_,e,_⟩:=x;exact NZ e
 |own y=>obtain⟨_,e⟩:=x;exact NZ e
 |xd fs=>obtain⟨_,⟨_,_,_,e,_⟩,_⟩:=x;exact NZ e
 |rng lo hi=>obtain⟨_,_,_,e⟩:=x;exact NZ e
 |frz ob u=>obtain⟨e,_⟩:=x;exact NZ e
 |tbl ps=>exact NZ (show h.get? a=ZA _ from x)
 |met f y=>exact NZ (show h.get? a=ZA _ from x)
 |ext φ=>obtain⟨_,⟨_,e⟩,_⟩:=x;exact NZ e
theorem Paired.Nu{α β:Type}{F G:α->β->Prop}:∀{l₁:List α}{l₂:List β},Vl F l₁ l₂->(∀a b,F a b->G a b)->Vl G l₁ l₂
 |_,_,.nil,_=>.nil
 |_,_,.cons r t,f=>.cons (f _ _ r) (Paired.Nu t f)
def ObjOk.M4(x:ObjOk P w H h a o)(k:∀b u,(b=a\/H b=ZA (.own a))->h.get? b=ZA u->h'.get? b=ZA u)
  (ho:∀b,H b=ZA (.own a)->H' b=ZA (.own a)) (ht:∀b xs,H b=ZA (.tup xs)->H' b=ZA (.tup xs)):ObjOk P w H' h' a o:=by
 induction o with
 |lst xs=>obtain⟨z,its,n,r,e⟩:=x;exact⟨z,its,n,r,k _ _ (.inl rfl) e⟩
 |tup xs=>obtain⟨z,its,r,ob,e,c⟩:=x;exact⟨z,its,r,ob,k _ _ (.inl rfl) e,c⟩
 |dK kvs=>obtain⟨z,y,vs,r,ob,es,ep,e,c⟩:=x;exact⟨z,y,vs,r,ob,es,ep,k _ _ (.inl rfl) e,c⟩
 |dT kvs=>
  obtain⟨z,y,xs,r,ob,es,ep,e,c⟩:=x
  exact⟨z,y,xs,Paired.Nu r λp q z=>⟨z.1,ht _ _ z.2.1,z.2.2⟩,ob,es,ep,k _ _ (.inl rfl) e,c⟩
 |set S n=>obtain⟨ob,es,ep,t,e,c⟩:=x;exact⟨ob,es,ep,t,k _ _ (.inl rfl) e,c⟩
 |ins C dx fs=>
  obtain⟨d,z,ne,e,mA,⟨od,es,ep,e2,c⟩,r⟩:=x
  exact⟨ho _ d,z,ne,k _ _ (.inl rfl) e,mA,⟨od,es,ep,k _ _ (.inr d) e2,c⟩,r⟩
 |own y=>obtain⟨ob,e⟩:=x;exact⟨ob,k _ _ (.inl rfl) e⟩
 |xd fs=>obtain⟨mA,⟨od,es,ep,e,c⟩,r⟩:=x;exact⟨mA,⟨od,es,ep,k _ _ (.inl rfl) e,c⟩,r⟩
 |rng lo hi=>obtain⟨t,u,v,e⟩:=x;exact⟨t,u,v,k _ _ (.inl rfl) e⟩
 |frz ob u ih=>obtain⟨e,q⟩:=x;exact⟨k _ _ (.inl rfl) e,ih q⟩
 |tbl ps=>
  have e:h.get? a=ZA {cls:=.none,data:=.fields ps}:=x
  show h'.get? a=ZA {cls:=.none,data:=.fields ps}
  exact k a _ (.inl rfl) e
 |met f y=>
  have e:h.get? a=ZA (Sf (.ref f) (.ref y)):=x
  show h'.get? a=ZA (Sf (.ref f) (.ref y))
  exact k a _ (.inl rfl) e
 |ext φ=>obtain⟨p,⟨o,e⟩,st⟩:=x;exact⟨st _ _ p λo q=>k _ _ (.inl rfl) q,⟨o,k _ _ (.inl rfl) e⟩,st⟩
theorem HOk.lt(x:HOk P w H h)(e:H a=ZA o):a<h.objs.size:=(x a o e).lt
def HOk.fresh(x:HOk P w H h)(e:h.objs.size<=a):H a=ZB:=by
 cases q:H a with
 |none=>rfl
 |some u=>exact absurd (N8 (x.lt q) e) (Ot _)
def HOk.kept(x:HOk P w H h)(k:∀b u,h.get? b=ZA u->h'.get? b=ZA u):HOk P w H h':=λa o e=>
 (x a o e).M4 (λb u _ q=>k b u q) (λ_ q=>q) λ_ _ q=>q
def HOk.laid(x:HOk P w H h)(k:∀b u,h.get? b=ZA u->h'.get? b=ZA u)(hp:h.objs.size<=a)(new:ObjOk P w (upd H a o) h' a o):HOk P w (upd H a o) h':=λb u e=>by
 have hn:=x.fresh hp
 by_cases hb:b=a
 ·subst hb;rw[aG]at e;cases e;exact new
 ·rw[aB hb]at e
  exact(x b u e).M4 (λc v _ q=>k c v q) (λc q=>by rw[aB (cw q hn)];exact q) λc xs q=>by rw[aB (cw q hn)];exact q
end
def Rd(H:Hp)(a:ZE)(u:HO):Prop:=H a=ZA u\/∃o,H a=ZA (.frz o u)
def Rd.ok{u:HO}(r:Rd H a u)(x:HOk P w H h):ObjOk P w H h a u:=by
 rcases r with r|⟨o,r⟩
 ·exact x a u r
 ·obtain⟨_,q⟩:=x a _ r
  exact q
def MA:Option HO->Prop
 |some (.lst _)=>True
 |some (.dK _)=>True
 |some (.dT _)=>True
 |some (.set _ _)=>True
 |some (.ins _ _ _)=>True
 |some (.ext _)=>True
 |_=>False
section
variable {x e:ZE}{o':HO}
def HOk.write(ok:HOk P w H h)(mu:MA (H x))(he:e=x\/H e=ZA (.own x))(k:∀b u,b≠e->h.get? b=ZA u->h'.get? b=ZA u)(heo:∃u,h'.get? e=ZA u)
  (new:ObjOk P w (upd H x o') h' x o'):HOk P w (upd H x o') h':=λb u q=>by
 have nown:∀c y,H c=ZA (.own y)->c≠x:=λc y r z=>by subst z;rw[r]at mu;exact mu
 have ntup:∀c xs,H c=ZA (.tup xs)->c≠x:=λc xs r z=>by subst z;rw[r]at mu;exact mu
 by_cases hb:b=x
 ·subst hb;rw[aG]at q;cases q;exact new
 ·rw[aB hb]at q
  by_cases hbe:b=e
  ·have q':H b=ZA (.own x):=by
    rcases he with z|z
    ·exact absurd (hbe.trans z) hb
    ·rw[hbe];exact z
   rw[q]at q';cases q';obtain⟨v,hv⟩:=heo;exact⟨v,by rw[hbe];exact hv⟩
  ·refine(ok b u q).M4 (λc v hc r=>k c v ?_ r) (λc r=>by rw[aB (nown c b r)];exact r) λc xs r=>by rw[aB (ntup c xs r)];exact r
   rcases hc with rfl|hc
   ·exact hbe
   ·rintro rfl
    rcases he with z|z
    ·exact nown c b hc z
    ·rw[hc]at z;cases z;exact hb rfl
end
structure Un (fs ex:List ZE)(H H':Hp)(h h':ZH):Prop where
 keep:∀b o,h.get? b=ZA o->H b=ZB->b∉fs->b∉ex->h'.get? b=ZA o
 slot:∀b o,h.get? b=ZA o->H b=ZB->b∈fs->b∉ex->∃sl,h'.get? b=ZA {o with slots:=sl}
 free:∀b o,h.get? b=ZA o->H b=ZB->b∉ex->H' b=ZB
 there:∀b o,h.get? b=ZA o->b∉ex->∃o',h'.get? b=ZA o'
 tups:∀b xs,H b=ZA (.tup xs)->H' b=ZA (.tup xs)
 frzs:∀b o u,H b=ZA (.frz o u)->H' b=ZA (.frz o u)
 tbls:∀b ps,H b=ZA (.tbl ps)->∃more,H' b=ZA (.tbl (ps++more))
section
variable {fs fs' ex ex':List ZE}{H1 H2:Hp}{h1 h2:ZH}{x e:ZE}{o:HO}
def Un.any(u:Un fs ex H H1 h h1){ob:Obj}(q:h.get? b=ZA ob)(n:H b=ZB)(hx:b∉ex):∃sl,h1.get? b=ZA {ob with slots:=sl}:=by
 by_cases hb:b∈fs
 ·exact u.slot b ob q n hb hx
 ·exact⟨ob.slots,u.keep b ob q n hb hx⟩
def Un.kept(k:∀b u,h.get? b=ZA u->h'.get? b=ZA u):Un fs ex H H h h':=
 ⟨λb ob q _ _ _=>k b ob q,λb ob q _ _ _=>⟨ob.slots,k b ob q⟩,λ_ _ _ n _=>n,λb ob q _=>⟨ob,k b ob q⟩,λ_ _ q=>q,λ_ _ _ q=>q,λ_ ps q=>⟨#[],by rw[q];simp⟩⟩
def Un.refl:Un fs ex H H h h:=Un.kept λ_ _ q=>q
def Un.laid(k:∀b u,h.get? b=ZA u->h'.get? b=ZA u)(hp:h.objs.size<=a)(hn:H a=ZB):Un fs ex H (upd H a o) h h' where
 keep:=λb u q _ _ _=>k b u q
 slot:=λb u q _ _ _=>⟨u.slots,k b u q⟩
 free:=λb u q n _=>by rw[aB (Pk (N8 (NZ q) hp))];exact n
 there:=λb u q _=>⟨u,k b u q⟩
 tups:=λb xs q=>by rw[aB (cw q hn)];exact q
 frzs:=λb u xs q=>by rw[aB (cw q hn)];exact q
 tbls:=λb ps q=>⟨#[],by rw[aB (cw q hn),q];simp⟩
def Un.write(mu:MA (H x))(he:e=x\/H e=ZA (.own x))(k:∀b u,b≠e->h.get? b=ZA u->h'.get? b=ZA u)(heo:∃u,h'.get? e=ZA u):Un fs ex H (upd H x o) h h':=by
 have hx:∀b,H b=ZB->b≠x:=λb n z=>by subst z;rw[n]at mu;exact mu
 have hb:∀b,H b=ZB->b≠e:=λb n z=>by
  subst z;rcases he with r|r
  ·exact hx b n r
  ·rw[n]at r;cases r
 have hm:∀b u,H b=ZA u->¬ MA (ZA u)->b≠x:=λb u q nm z=>by subst z;rw[q]at mu;exact nm mu
 refine⟨λb u q n _ _=>k b u (hb b n) q,λb u q n _ _=>⟨u.slots,k b u (hb b n) q⟩,λb u q n _=>by rw[aB (hx b n)];exact n,λb u q _=>?_,
  λb xs q=>by rw[aB (hm b _ q λz=>z)];exact q,λb u xs q=>by rw[aB (hm b _ q λz=>z)];exact q,λb ps q=>⟨#[],by rw[aB (hm b _ q λz=>z),q];simp⟩⟩
 by_cases hbe:b=e
 ·subst hbe;exact heo
 ·exact⟨u,k b u hbe q⟩
end
def trk(h:ZH)(H:Hp):List ZE:=(OI h.objs.size).filter λa=>(H a).isSome
def uS(h:ZH)(H:Hp):ZH:=SN h (trk h H)
def A0(h:ZH)(H:Hp):(uS h H).objs.size=h.objs.size:=PySem.W.hideAll_size _ _
def DF{o:Obj}(e:h.get? b=ZA o)(n:H b=ZB):(uS h H).get? b=ZA o:=
 Qv _ e λhm=>by
  have q:(H b).isSome=ZC:=(Rh.mp hm).2;rw[n]at q;simp at q
def F7{o:Obj}(e:(uS h H).get? b=ZA o):h.get? b=ZA o/\H b=ZB:=by
 have e':h.get? b=ZA o:=R4 (trk h H) e;refine⟨e',?_⟩
 cases q:H b with
 |none=>rfl
 |some x=>
  have hm:b∈trk h H:=Rh.mpr ⟨Pr.mpr (NZ e'),by simp[q]⟩
  have z:(uS h H).get? b=ZB:=RM (trk h H) hm;rw[z]at e;cases e
def G3(g h:ZH)(L:ZE):V2:=(OI h.objs.size).filterMap λa=>if a=L\/(g.get? a).isSome=ZC then ZB else(h.get? a).map λo=>(a,o)
def bU(g h:ZH)(L d:ZE):V2:=(G3 g h L).filter λp=>decide (p.1≠d)
structure Mod (K:NK)(mg:V0)(base:ZH):Prop where
 kin:K.In base
 glob:base.Ns OA mg
 blt:∃mb,base.Ns So mb/\∀x:Str,x≠ "__name__"->mb x=OK x
 nolimit:base.NoLimit
structure Cx where
 prog:Oa
 w:O0
 K:NK
 mg:V0
 base:ZH
 A:Ou
 N:List Str
 s₀:NQ
 H₀:Hp
 env:Env
 outer:List Env
 stack:List Env
 ex:List ZE
 fn:Str->Bool
 calm:Bool
 pn:V2
 xe:V1
def m9(l:List Env):List ZE:=l.filterMap (·.frame)
abbrev Cx.fs(X:Cx):List ZE:=m9 X.outer
def lM(sc:Q8)(x:Str):Prop:=sc.names.lookup x=ZA .local\/sc.names.lookup x=ZA .cell\/sc.names.lookup x=ZA .free
def Loc(sc:Q8)(x:Str):Prop:=sc.names.lookup x=ZA .local\/sc.names.lookup x=ZA .cell
def Look(env:Env)(h:ZH)(m:V0)(x:Str)(u:NM):Prop:=
 (env.kindOf x=ZA .local/\m x=ZA u)\/((env.kindOf x=ZA .cell\/env.kindOf x=ZA .free)/\∃c,env.cells.lookup x=ZA c/\h.IsCell c (ZA u))
structure Cx.Ok (X:Cx):Prop where
 mod:Mod X.K X.mg X.base
 kind:X.env.scope.kind=.function
 glob:X.env.globals=OA
 blt:X.env.builtins=So
 above:X.s₀.heap.objs.size<=X.env.locals
 inj:∀x y c,X.env.cells.lookup x=ZA c->X.env.cells.lookup y=ZA c->x=y
 has:∀x,(X.env.kindOf x=ZA .cell\/X.env.kindOf x=ZA .free)->∃c,X.env.cells.lookup x=ZA c
 cab:∀x c,X.fn x=ZC->X.env.cells.lookup x=ZA c->X.s₀.heap.objs.size<=c
 hd:X.calm=ZC->X.A.handled=ZB
 frames:X.A.frames=ZA X.stack
 stk:X.stack=X.outer\/(X.stack=X.env::X.outer/\X.env.frame=ZA X.env.locals)
 exf:∀b∈X.ex,b≠X.env.locals/\∀x c,X.env.cells.lookup x=ZA c->c≠b
 bs:∀b o,X.base.get? b=ZA o->X.s₀.heap.get? b=ZA o/\X.H₀ b=ZB
 bsz:X.base.objs.size<=X.s₀.heap.objs.size
 noex:∀b o,X.base.get? b=ZA o->b∉X.ex
 exfs:∀b∈X.ex,b∉X.fs
 funs:X.s₀.heap.FunFrames X.base X.outer
 frf:∀b∈X.fs,X.H₀ b=ZB
structure Inv (X:Cx)(ol:V2)(σ:List (Option V))(H:Hp)(s:NQ):Prop where
 ok:X.Ok
 os:s.os=X.s₀.os
 bare:SB s.gens
 base:Un X.fs X.ex X.H₀ H X.s₀.heap s.heap
 loc:∃m,s.heap.Ns X.env.locals m/\∀(i:Nat)(x:Str)(v:V),X.N[i]?=ZA x->σ[i]?=ZA (ZA v)->lM X.env.scope x->∃u,RelV v u/\Look X.env s.heap m x u
 cell:∀x c,X.env.cells.lookup x=ZA c->∃v,s.heap.IsCell c v
 free:H X.env.locals=ZB
 freeC:∀x c,X.env.cells.lookup x=ZA c->H c=ZB
 pin:∀p∈X.pn++ol,s.heap.get? p.1=ZA p.2/\H p.1=ZB/\p.1≠X.env.locals/\p.1∉X.fs/\∀v,p.2.data≠ .cell v
 hok:HOk X.prog X.w H s.heap
 len:σ.length=X.N.length
variable{A:Ou}{E:V1}{M:Vk}{N:List Str}{Q:Unit->NQ->Prop}{X:Cx}{i t':Nat}{it:ZE}{ol:V2}{s s':NQ}{v:V}{x:Str}
section
variable {σ:List (Option V)}
def Cx.Ok.NH(ok:X.Ok){o:Obj}(e:X.base.get? b=ZA o):b∉X.fs:=λhb=>by
 have:=(ok.funs.mem hb).1;rw[e]at this;cases this
theorem Inv.bs(I:Inv X ol σ H s):∀b o,X.base.get? b=ZA o->s.heap.get? b=ZA o/\H b=ZB:=λb o e=>
 ⟨I.base.keep b o (I.ok.bs b o e).1 (I.ok.bs b o e).2 (I.ok.NH e) (I.ok.noex b o e),I.base.free b o (I.ok.bs b o e).1 (I.ok.bs b o e).2 (I.ok.noex b o e)⟩
def Inv.bk(I:Inv X ol σ H s):∀b o,X.base.get? b=ZA o->s.heap.get? b=ZA o:=λb o e=>(I.bs b o e).1
theorem Inv.mod(I:Inv X ol σ H s):Mod X.K X.mg X.base:=I.ok.mod
def Inv.kIn(I:Inv X ol σ H s):X.K.In s.heap:=I.ok.mod.kin.keeps I.bk
theorem Inv.lt(I:Inv X ol σ H s):X.env.locals<s.heap.objs.size:=let ⟨_,hn,_⟩:=I.loc;hn.lt
def Inv.sz(I:Inv X ol σ H s):X.s₀.heap.objs.size<=s.heap.objs.size:=OJ I.ok.above (Rc I.lt)
def Inv.NJ(I:Inv X ol σ H s)(h:s.heap.objs.size<=a):a∉X.fs:=λhb=>by
 obtain⟨_,o,ho,_⟩:=I.ok.funs.mem hb;exact absurd (N8 (NZ ho) (OJ I.sz h)) (Ot _)
def Inv.cne(I:Inv X ol σ H s):∀x c,X.env.cells.lookup x=ZA c->c≠X.env.locals:=λx c e z=>by
 obtain⟨v,o,ho,hd⟩:=I.cell x c e;obtain⟨m,⟨o',es,ep,ho',hd',_⟩,_⟩:=I.loc;rw[z,ho']at ho;cases ho;rw[hd']at hd;cases hd
theorem Inv.funs(I:Inv X ol σ H s):s.heap.FunFrames X.base X.outer:=by
 have all:∀(l:List Env),(∀b∈m9 l,b∈X.fs)->X.s₀.heap.FunFrames X.base l->s.heap.FunFrames X.base l:=by
  intro l
  induction l with
  |nil=>intro _ _;trivial
  |cons env r ih=>
   intro hs hl;obtain⟨hk,⟨L,o,hf,hn,ho,hd⟩,hr⟩:=hl
   have hL:L∈X.fs:=hs L (by unfold m9;rw[Pc,hf];exact NP)
   obtain⟨sl,e⟩:=I.base.slot L o ho (I.ok.frf L hL) hL λz=>I.ok.exfs L z hL
   exact⟨hk,⟨L,_,hf,hn,e,hd⟩,ih (λb hb=>hs b (by unfold m9;rw[Pc,hf];exact NL _ hb)) hr⟩
 exact all X.outer (λ_ hb=>hb) I.ok.funs
def Inv.stack(I:Inv X ol σ H s):s.heap.FunFrames X.base X.stack:=by
 rcases I.ok.stk with e|⟨e,hf⟩
 ·rw[e];exact I.funs
 ·rw[e]
  obtain⟨m,hn,_⟩:=I.loc;refine .cons (by rw[I.ok.kind];decide) hf hn ?_ I.funs
  exact Heap.get?_none_of_le (OJ I.ok.bsz I.ok.above)
def Inv.Nf(I:Inv X ol σ H s):∀b∈m9 X.stack,b∈X.env.locals::X.fs:=λb hb=>by
 rcases I.ok.stk with e|⟨e,hf⟩
 ·rw[e]at hb;exact NL _ hb
 ·rw[e]at hb
  unfold m9 at hb;rw[Pc,hf]at hb;exact hb
def Inv.KM(I:Inv X ol σ H s):∀b∈m9 X.stack,H b=ZB:=λb hb=>by
 rcases NT.mp (I.Nf b hb)with e|hb
 ·rw[e];exact I.free
 ·obtain⟨_,o,ho,_⟩:=I.ok.funs.mem hb
  exact I.base.free b o ho (I.ok.frf b hb) λz=>I.ok.exfs b z hb
def Inv.step{g':Array T5}{t':Nat}{d':Drawn}{ch:List ZE}(I:Inv X ol σ H s)
  (hch:∀b∈ch,(b∈X.ex\/X.s₀.heap.objs.size<=b)/\b≠X.env.locals/\(∀x c,X.env.cells.lookup x=ZA c->c≠b)/\∀p∈X.pn++ol,p.1≠b)
  (keep:∀b o,b≠X.env.locals->b∉X.fs->b∉ch->s.heap.get? b=ZA o->H b=ZB->h'.get? b=ZA o)
  (slot:∀b o,b≠X.env.locals->b∈X.fs->b∉ch->s.heap.get? b=ZA o->H b=ZB->∃sl,h'.get? b=ZA {o with slots:=sl}) (free:∀b o,b∉ch->s.heap.get? b=ZA o->H b=ZB->H' b=ZB)
  (there:∀b o,b∉ch->s.heap.get? b=ZA o->∃o',h'.get? b=ZA o')
  (tups:∀b xs,H b=ZA (.tup xs)->H' b=ZA (.tup xs)) (frzs:∀b o u,H b=ZA (.frz o u)->H' b=ZA (.frz o u)) (tbls:∀b ps,H b=ZA (.tbl ps)->∃more,H' b=ZA (.tbl (ps++more)))
  (ns:∀m,s.heap.Ns X.env.locals m->h'.Ns X.env.locals m) (hok:HOk X.prog X.w H' h') (hg:SB g'):
  Inv X ol σ H' {s with heap:=h',gens:=g',drawn:=d',toks:=t'}:=by
 have neL:∀b o,X.s₀.heap.get? b=ZA o->b≠X.env.locals:=λb o e=>Pk (N8 (NZ e) I.ok.above)
 have neC:∀b o,X.s₀.heap.get? b=ZA o->b∉X.ex->b∉ch:=λb o e hx hb=>by
  rcases(hch b hb).1 with z|z
  ·exact hx z
  ·exact absurd (N8 (NZ e) z) (Ot _)
 have cellK:∀x c,X.env.cells.lookup x=ZA c->∀v,s.heap.IsCell c v->h'.IsCell c v:=λx c e v hh_=>by
  obtain⟨o,ho,hd⟩:=hh_
  have nch:c∉ch:=λz=>(hch c z).2.2.1 x c e rfl
  by_cases hc:c∈X.fs
  ·obtain⟨sl,q⟩:=slot c o (I.cne x c e) hc nch ho (I.freeC x c e)
   exact⟨_,q,hd⟩
  ·exact⟨o,keep c o (I.cne x c e) hc nch ho (I.freeC x c e),hd⟩
 refine⟨I.ok,I.os,hg,⟨λb o e n hb hx=>?_,λb o e n hb hx=>?_,λb o e n hx=>?_,λb o e hx=>?_,λb xs e=>tups b xs (I.base.tups b xs e),λb o xs e=>frzs b o xs (I.base.frzs b o xs e),λb ps e=>?_⟩,?_,λx c e=>?_,?_,λx c e=>?_,λp hp=>?_,hok,I.len⟩
 ·exact keep b o (neL b o e) hb (neC b o e hx) (I.base.keep b o e n hb hx) (I.base.free b o e n hx)
 ·obtain⟨sl,e1⟩:=I.base.slot b o e n hb hx
  obtain⟨sl',e2⟩:=slot b _ (neL b o e) hb (neC b o e hx) e1 (I.base.free b o e n hx);exact⟨sl',e2⟩
 ·obtain⟨o',e1⟩:=I.base.there b o e hx
  exact free b o' (neC b o e hx) e1 (I.base.free b o e n hx)
 ·obtain⟨o',e1⟩:=I.base.there b o e hx
  exact there b o' (neC b o e hx) e1
 ·obtain⟨m1,e1⟩:=I.base.tbls b ps e
  obtain⟨m2,e2⟩:=tbls b _ e1;exact⟨m1++m2,by rw[e2,Array.append_assoc]⟩
 ·obtain⟨m,hn,hl⟩:=I.loc
  refine⟨m,ns m hn,λi x v e1 e2 e3=>?_⟩
  obtain⟨u,r,l⟩:=hl i x v e1 e2 e3;refine⟨u,r,?_⟩
  rcases l with l|⟨k,c,e,z⟩
  ·exact .inl l
  ·exact .inr ⟨k,c,e,cellK x c e _ z⟩
 ·obtain⟨v,z⟩:=I.cell x c e
  exact⟨v,cellK x c e v z⟩
 ·obtain⟨m,⟨o,_,_,ho,_⟩,_⟩:=I.loc
  exact free _ o (λz=>(hch _ z).2.1 rfl) ho I.free
 ·obtain⟨v,o,ho,hd⟩:=I.cell x c e
  exact free c o (λz=>(hch c z).2.2.1 x c e rfl) ho (I.freeC x c e)
 ·obtain⟨e,n,ne,nf,d⟩:=I.pin p hp
  have nch:p.1∉ch:=λz=>(hch p.1 z).2.2.2 p hp rfl
  exact⟨keep p.1 p.2 ne nf nch e n,free p.1 p.2 nch e n,ne,nf,d⟩
def Inv.un(I:Inv X ol σ H s)(u:Un X.fs [] H H' s.heap h')(hok:HOk X.prog X.w H' h'):Inv X ol σ H' {s with heap:=h',toks:=t'}:=by
 obtain⟨m,⟨o,es,ep,ho,r⟩,_⟩:=id I.loc;obtain⟨sl,hL⟩:=u.any ho I.free (by simp)
 exact I.step (g':=s.gens) (d':=s.drawn) (ch:=[]) (λ_ z=>nomatch z) (λb o _ hb _ e n=>u.keep b o e n hb (by simp)) (λb o _ hb _ e n=>u.slot b o e n hb (by simp)) (λb o _ e n=>u.free b o e n (by simp)) (λb o _ e=>u.there b o e (by simp)) u.tups u.frzs u.tbls (λm' hm=>by
  obtain⟨o',es',ep',ho',r'⟩:=hm;rw[ho]at ho';cases ho';exact⟨_,es',ep',hL,r'⟩) hok I.bare
def Inv.call{g':Array T5}{d':Drawn}{ch:List ZE}(I:Inv X ol σ H s)(u:Un (m9 X.stack) ch H H' s.heap h')(hok:HOk X.prog X.w H' h')(hg:SB g')
  (hch:∀b∈ch,(b∈X.ex\/X.s₀.heap.objs.size<=b)/\b≠X.env.locals/\(∀x c,X.env.cells.lookup x=ZA c->c≠b)/\∀p∈X.pn++ol,p.1≠b):
  Inv X ol σ H' {s with heap:=h',gens:=g',drawn:=d',toks:=t'}:=by
 obtain⟨m,⟨o,es,ep,ho,r⟩,_⟩:=id I.loc;obtain⟨sl,hL⟩:=u.any ho I.free λz=>(hch _ z).2.1 rfl
 exact I.step (ch:=ch) hch (λb o hL hb hc e n=>u.keep b o e n (λz=>(NT.mp (I.Nf b z)).elim hL hb) hc) (λb o _ _ hc e n=>u.any e n hc) (λb o hc e n=>u.free b o e n hc) (λb o hc e=>u.there b o e hc) u.tups u.frzs u.tbls (λm' hm=>by
  obtain⟨o',es',ep',ho',r'⟩:=hm;rw[ho]at ho';cases ho';exact⟨_,es',ep',hL,r'⟩) hok hg
def Inv.turned(I:Inv X ol σ H s)(k:∀b o,b≠it->s.heap.get? b=ZA o->h'.get? b=ZA o)(hn:H it=ZB)(hL:it≠X.env.locals)
  (h1:it∈X.ex\/X.s₀.heap.objs.size<=it) (h2:∀x c,X.env.cells.lookup x=ZA c->c≠it) (h3:∀p∈X.pn++ol,p.1≠it):Inv X ol σ H {s with heap:=h',toks:=t'}:=by
 have nit:∀b u,H b=ZA u->b≠it:=λb u e z=>by rw[z,hn]at e;cases e
 refine I.step (g':=s.gens) (d':=s.drawn) (ch:=[it]) (λb hb=>?_) (λb o _ _ hc e _=>k b o (λz=>hc (by simp[z])) e) (λb o _ _ hc e _=>⟨o.slots,k b o (λz=>hc (by simp[z])) e⟩) (λ_ _ _ _ n=>n)
  (λb o hc e=>⟨o,k b o (λz=>hc (by simp[z])) e⟩) (λ_ _ e=>e) (λ_ _ _ e=>e) (λb ps e=>⟨#[],by rw[e];simp⟩) (λm hm=>?_) (λb u e=>?_) I.bare
 ·have e:b=it:=by simpa using hb
  subst e;exact⟨h1,hL,h2,h3⟩
 ·obtain⟨o,es,ep,ho,r⟩:=hm
  exact⟨o,es,ep,k _ o (O6 hL) ho,r⟩
 ·refine(I.hok b u e).M4 (λc v hc q=>k c v ?_ q) (λ_ q=>q) λ_ _ q=>q
  rcases hc with z|z
  ·rw[z];exact nit b u e
  ·exact nit c _ z
def Inv.tok(I:Inv X ol σ H s)(t:Nat):Inv X ol σ H {s with toks:=t}:=I.un (h':=s.heap) (t':=t) Un.refl I.hok
theorem Inv.kept{t':Nat}(I:Inv X ol σ H s)(k:∀b u,s.heap.get? b=ZA u->h'.get? b=ZA u):Inv X ol σ H {s with heap:=h',toks:=t'}:=I.un (Un.kept k) (I.hok.kept k)
theorem Inv.laid{a:ZE}{o:HO}{t':Nat}(I:Inv X ol σ H s)(k:∀b u,s.heap.get? b=ZA u->h'.get? b=ZA u)(hp:s.heap.objs.size<=a)(new:ObjOk X.prog X.w (upd H a o) h' a o):
  Inv X ol σ (upd H a o) {s with heap:=h',toks:=t'}:=I.un (Un.laid k hp (I.hok.fresh hp)) (I.hok.laid k hp new)
theorem Inv.write{x e:ZE}{o:HO}{t':Nat}(I:Inv X ol σ H s)(mu:MA (H x))(he:e=x\/H e=ZA (.own x))(k:∀b u,b≠e->s.heap.get? b=ZA u->h'.get? b=ZA u)(heo:∃u,h'.get? e=ZA u)
  (new:ObjOk X.prog X.w (upd H x o) h' x o):Inv X ol σ (upd H x o) {s with heap:=h',toks:=t'}:=I.un (Un.write mu he k heo) (I.hok.write mu he k heo new)
def Inv.Ng{pins':V2}(I:Inv X ol σ H s)(h:∀p∈pins',s.heap.get? p.1=ZA p.2/\H p.1=ZB/\p.1≠X.env.locals/\p.1∉X.fs/\∀v,p.2.data≠ .cell v):Inv X pins' σ H s:=
 ⟨I.ok,I.os,I.bare,I.base,I.loc,I.cell,I.free,I.freeC,λp hp=>(Oi.mp hp).elim (λz=>I.pin p (On _ z)) (h p),I.hok,I.len⟩
def wg(hN:N.Nodup){j:Nat}(a:N[i]?=ZA x)(b:N[j]?=ZA x):i=j:=by
 obtain⟨h1,e1⟩:=NW.mp a
 obtain⟨h2,e2⟩:=NW.mp b
 exact(List.getElem_inj hN).mp (e1.trans e2.symm)
def rF{u:NM}(I:Inv X ol σ H s)(hN:X.N.Nodup)(hi:X.N[i]?=ZA x)(hx:Loc X.env.scope x)(r:RelV v u)
  (h:∀s',Inv X ol (σ.set i (ZA v)) H s'->(∃a,Rb a s.heap s'.heap/\(a=X.env.locals\/X.env.cells.lookup x=ZA a))->Q () s') (hf:X.fn x=ZC\/X.env.scope.names.lookup x=ZA .local:=by first|exact .inl rfl|exact .inr rfl|assumption):ZJ M A (storeName X.env x u) Q E s:=by
 obtain⟨m,hn,hl⟩:=id I.loc
 have hcls:(X.env.scope.kind == .class||(X.env.scope.kind == .module&&X.env.locals != X.env.globals))=ZD:=by rw[I.ok.kind];rfl
 have hiσ:i<σ.length:=by rw[I.len];exact(NW.mp hi).1
 have cne:=I.cne
 have tracked:∀{a:ZE}{h':ZH},(∃o,s.heap.get? a=ZA o/\H a=ZB)->Rb a s.heap h'->HOk X.prog X.w H h':=λ{a h'} ha hs b ob e=>by
  obtain⟨_,_,hfree⟩:=ha;refine(I.hok b ob e).M4 (λc w' hc q=>(hs.2 c ?_).trans q) (λ_ q=>q) λ_ _ q=>q
  rintro rfl
  rcases hc with rfl|hc
  ·rw[hfree]at e;cases e
  ·rw[hfree]at hc;cases hc
 rcases hx with hk|hk
 ·refine wpAny_storeName_local hk hn (λh' hn' hs=>?_) hcls
  obtain⟨oL,_,_,hoL,_⟩:=id hn;refine h _ ⟨I.ok,I.os,I.bare,⟨λb o e n hb hx=>?_,λb o e n hb hx=>?_,I.base.free,λb o e hx=>?_,I.base.tups,I.base.frzs,I.base.tbls⟩,⟨_,hn',λj y v' e1 e2 e3=>?_⟩,λy c e=>?_,I.free,I.freeC,λp hp=>?_,tracked ⟨oL,hoL,I.free⟩ hs,by simpa using I.len⟩ ⟨_,hs,.inl rfl⟩
  ·exact(hs.2 b (Pk (N8 (NZ e) I.ok.above))).trans (I.base.keep b o e n hb hx)
  ·obtain⟨sl,e1⟩:=I.base.slot b o e n hb hx
   exact⟨sl,(hs.2 b (Pk (N8 (NZ e) I.ok.above))).trans e1⟩
  ·obtain⟨o',e1⟩:=I.base.there b o e hx
   exact⟨o',(hs.2 b (Pk (N8 (NZ e) I.ok.above))).trans e1⟩
  ·by_cases hj:j=i
   ·subst hj
    rw[hi]at e1;cases e1;rw[Oh hiσ]at e2
    cases e2;exact⟨u,r,.inl ⟨hk,by simp⟩⟩
   ·rw[Oj (O6 hj)]at e2
    obtain⟨u',r',q⟩:=hl j y v' e1 e2 e3;refine⟨u',r',?_⟩
    rcases q with⟨k,e⟩|⟨k,c,e,z⟩
    ·refine .inl ⟨k,?_⟩
     have:y≠x:=λe=>hj (wg hN e1 (e▸hi))
     simp[this,e]
    ·exact .inr ⟨k,c,e,z.sameBut hs (cne y c e)⟩
  ·obtain⟨w',z⟩:=I.cell y c e
   exact⟨w',z.sameBut hs (cne y c e)⟩
  ·obtain⟨e,n,ne,nf,d⟩:=I.pin p hp
   exact⟨(hs.2 p.1 ne).trans e,n,ne,nf,d⟩
 ·have hfn:X.fn x=ZC:=by
   rcases hf with z|z
   ·exact z
   ·rw[z]at hk;cases hk
  obtain⟨c,hc⟩:=I.ok.has x (.inl hk);obtain⟨w',z⟩:=I.cell x c hc;refine wpAny_storeName_cell I.ok.kind hk hc z (λh' hc' hs=>?_)
  obtain⟨oc,hoc,hocd⟩:=id z;refine h {s with heap:=h'} ⟨I.ok,I.os,I.bare,⟨λb o e n hb hx=>?_,λb o e n hb hx=>?_,I.base.free,λb o e hx=>?_,I.base.tups,I.base.frzs,I.base.tbls⟩,⟨m,hn.sameBut hs (O6 (cne x c hc)),λj y v' e1 e2 e3=>?_⟩,λy c' e=>?_,I.free,I.freeC,λp hp=>?_,tracked ⟨oc,hoc,I.freeC x c hc⟩ hs,by simpa using I.len⟩ ⟨c,hs,.inr hc⟩
  ·exact(hs.2 b (Pk (N8 (NZ e) (I.ok.cab x c hfn hc)))).trans (I.base.keep b o e n hb hx)
  ·obtain⟨sl,e1⟩:=I.base.slot b o e n hb hx
   exact⟨sl,(hs.2 b (Pk (N8 (NZ e) (I.ok.cab x c hfn hc)))).trans e1⟩
  ·obtain⟨o',e1⟩:=I.base.there b o e hx
   exact⟨o',(hs.2 b (Pk (N8 (NZ e) (I.ok.cab x c hfn hc)))).trans e1⟩
  ·by_cases hj:j=i
   ·subst hj
    rw[hi]at e1;cases e1;rw[Oh hiσ]at e2
    cases e2;exact⟨u,r,.inr ⟨.inl hk,c,hc,hc'⟩⟩
   ·rw[Oj (O6 hj)]at e2
    obtain⟨u',r',q⟩:=hl j y v' e1 e2 e3;refine⟨u',r',?_⟩
    rcases q with q|⟨k,c',e,z'⟩
    ·exact .inl q
    ·refine .inr ⟨k,c',e,z'.sameBut hs ?_⟩
     rintro rfl
     exact hj (wg hN e1 (I.ok.inj _ _ _ e hc▸hi))
  ·by_cases hcc:c'=c
   ·subst hcc;exact⟨_,hc'⟩
   ·obtain⟨w2,z2⟩:=I.cell y c' e
    exact⟨w2,z2.sameBut hs hcc⟩
  ·obtain⟨e,n,ne,nf,d⟩:=I.pin p hp
   refine⟨(hs.2 p.1 ?_).trans e,n,ne,nf,d⟩
   intro q;rw[q,hoc]at e
   have q':oc=p.2:=Oy e;exact d w' (by rw[<-q'];exact hocd)
def lQ{u:NM}(I:Inv X ol σ H s)(hN:X.N.Nodup)(hi:X.N[i]?=ZA x)(hx:Loc X.env.scope x)(r:RelV v u)
  (h:∀s',Inv X ol (σ.set i (ZA v)) H s'->Q () s') (hf:X.fn x=ZC\/X.env.scope.names.lookup x=ZA .local:=by first|exact .inl rfl|exact .inr rfl|assumption):ZJ M A (storeName X.env x u) Q E s:=
 rF I hN hi hx r (λs' I' _=>h s' I') hf
def Inv.M7{ch:List ZE}(I:Inv X ol σ H s)(ho:s'.os=s.os)(u:Un (m9 X.stack) ch H H' s.heap s'.heap)(hok:HOk X.prog X.w H' s'.heap)(hg:SB s'.gens)
  (hch:∀b∈ch,(b∈X.ex\/X.s₀.heap.objs.size<=b)/\b≠X.env.locals/\(∀x c,X.env.cells.lookup x=ZA c->c≠b)/\∀p∈X.pn++ol,p.1≠b):Inv X ol σ H' s':=by
 obtain⟨h',g',d',t',o'⟩:=s'
 have e:o'=s.os:=ho;subst e;exact I.call (g':=g') (t':=t') (d':=d') u hok hg hch
end
abbrev XK:=NM->Option ZE->Hp->Prop
abbrev St:=List (Option V)
abbrev VK:=V->Hp->Prop
abbrev TE:=St->Hp->VK->Prop
abbrev TT:=St->Hp->(Bool->Hp->Prop)->Prop
abbrev TA:=St->Hp->(List V->Hp->Prop)->Prop
structure nt where
 nx:St->Hp->Prop
 rt:VK
 bk:St->Hp->Prop:=λ_ _=>False
 ct:St->Hp->Prop:=λ_ _=>False
abbrev TS:=nt->St->Hp->Prop
def EP(X:Cx)(ol:V2)(σ:St)(Q:VK)(u:NM)(s':NQ):Prop:=∃v H',Inv X ol σ H' s'/\RelV v u/\Q v H'
def TP(X:Cx)(ol:V2)(σ:St)(Q:Bool->Hp->Prop)(b:Bool)(s':NQ):Prop:=∃H',Inv X ol σ H' s'/\Q b H'
def AP(X:Cx)(ol:V2)(σ:St)(Q:List V->Hp->Prop)(us:List NM)(s':NQ):Prop:=∃vs H',Inv X ol σ H' s'/\Vals vs us/\Q vs H'
def SP(X:Cx)(ol:V2)(D:nt)(f:Flow)(s':NQ):Prop:=
 match f with
 |.next=>∃σ' H',Inv X ol σ' H' s'/\D.nx σ' H'
 |.brk=>∃σ' H',Inv X ol σ' H' s'/\D.bk σ' H'
 |.cont=>∃σ' H',Inv X ol σ' H' s'/\D.ct σ' H'
 |.ret u=>∃v σ' H',Inv X ol σ' H' s'/\RelV v u/\D.rt v H'
def PE(X:Cx)(e:ZG)(t:TE):Prop:=
 ∀(ol:V2)(s:NQ)(σ:St)(H:Hp)(Q:VK),Inv X ol σ H s->t σ H Q->ZJ (ZK X.prog X.w) X.A (eval e X.env) (EP X ol σ Q) X.xe s
def PT(X:Cx)(e:ZG)(t:TT):Prop:=
 ∀(ol:V2)(s:NQ)(σ:St)(H:Hp)(Q:Bool->Hp->Prop),Inv X ol σ H s->t σ H Q->ZJ (ZK X.prog X.w) X.A (isTrue e X.env (eval e X.env)) (TP X ol σ Q) X.xe s
def PW(X:Cx)(e:ZG)(t:TT):Prop:=
 ∀(whole:Sem NM)(ol:V2)(s:NQ)(σ:St)(H:Hp)(Q:Bool->Hp->Prop),Inv X ol σ H s->t σ H Q->ZJ (ZK X.prog X.w) X.A (isTrue e X.env whole) (TP X ol σ Q) X.xe s
variable{e:ZG}
def PW.pt{t:TT}(h:PW X e t):PT X e t:=h _
def PA(X:Cx)(es:List ZG)(t:TA):Prop:=
 ∀(pos:Pos)(ol:V2)(s:NQ)(σ:St)(H:Hp)(Q:List V->Hp->Prop),Inv X ol σ H s->t σ H Q->ZJ (ZK X.prog X.w) X.A (spliced (backTo pos (NY es X.env))) (AP X ol σ Q) X.xe s
def PS(X:Cx)(st:ZF)(t:TS):Prop:=
 ∀(ol:V2)(s:NQ)(σ:St)(H:Hp)(D:nt),Inv X ol σ H s->t D σ H->ZJ (ZK X.prog X.w) X.A (exec st X.env) (SP X ol D) X.xe s
def PSs(X:Cx)(st:List ZF)(t:TS):Prop:=
 ∀(ol:V2)(s:NQ)(σ:St)(H:Hp)(D:nt),Inv X ol σ H s->t D σ H->ZJ (ZK X.prog X.w) X.A (execs st X.env) (SP X ol D) X.xe s
def bS{α:Type}{t:Sem α}{Q Q':α->NQ->Prop}(h:ZJ M A t Q E s)(hQ:∀a s,Q a s->Q' a s):ZJ M A t Q' E s:=Pw h hQ λ_ _ x=>x
variable{Q:V1}{c:ZG}{pos:Pos}{ta:TE}{σ:St}
section
def oR(i:Nat):TE:=λσ H Q=>∃v,σ[i]?=ZA (ZA v)/\Q v H
def tC(v:V):TE:=λ_ H Q=>Q v H
def eF{pos:Pos}(hN:X.N[i]?=ZA x)(hv:lM X.env.scope x)(hd:eO x:=by decide)(hcd:(x == ("__classdict__" : Str))=ZD:=by decide):PE X (.Name x pos) (oR i):=by
 intro ol s σ H Q I h;obtain⟨v,e,h⟩:=h;obtain⟨m,hn,hl⟩:=I.loc;obtain⟨u,r,l⟩:=hl i x v hN e hv
 have fin:EP X ol σ Q u s:=⟨v,H,I,r,h⟩;rcases l with⟨hk,hm⟩|⟨hk,c,hc,hcell⟩
 ·exact wpAny_Name (wpAny_loadName_local I.ok.kind hk hn hm fin) hd
 ·rcases hk with hk|hk
  ·exact wpAny_Name (wpAny_loadName_cell I.ok.kind hk hc hcell fin) hd
  ·exact wpAny_Name (wpAny_loadName_free I.ok.kind hk hc hcell fin hcd) hd
def CF{i j pos}:PE X (.Constant (.int i) j pos) (tC (.int i)):=λ_ _ _ H _ I h=>wpAny_Constant_int ⟨.int i,H,I.tok _,⟨_,rfl⟩,h⟩
def CI{b j pos}:PE X (.Constant (.bool b) j pos) (tC (.bl b)):=λ_ _ _ H _ I h=>Constant_bool ⟨.bl b,H,I,rfl,h⟩
def CD{j pos}:PE X (.Constant .none j pos) (tC .non):=λ_ _ _ H _ I h=>Constant_none ⟨.non,H,I,rfl,h⟩
def CB{x j pos}:PE X (.Constant (.str x) j pos) (tC (.str x)):=λ_ _ _ H _ I h=>TM ⟨.str x,H,I.tok _,⟨_,rfl⟩,h⟩
def Gl(X:Cx)(x:Str):Prop:=X.env.kindOf x=ZA .globalImplicit
def fS{u:NM}{pos:Pos}(I:Inv X ol σ H s)(hg:Gl X x)(hm:X.mg x=ZA u)(h:Q u s)
  (hd:eO x:=by decide):ZJ (ZK X.prog X.w) X.A (eval (.Name x pos) X.env) Q E s:=
 R1 I.ok.kind hg (Calls.loadGlobal_global (by rw[I.ok.glob];exact I.mod.glob.keeps I.bk) hm h) hd
def gU{u:NM}{pos:Pos}(I:Inv X ol σ H s)(hg:Gl X x)(hm:X.mg x=ZB)(hv:OK x=ZA u)(h:Q u s)
  (hn:x≠ "__name__":=by decide) (hd:eO x:=by decide):ZJ (ZK X.prog X.w) X.A (eval (.Name x pos) X.env) Q E s:=by
 obtain⟨mb,h1,h2⟩:=I.mod.blt;exact R1 I.ok.kind hg (Calls.loadGlobal_builtin (by rw[I.ok.glob];exact I.mod.glob.keeps I.bk) hm (by rw[I.ok.blt];exact h1.keeps I.bk) ((h2 x hn).trans hv) h) hd
def zo{u:NM}{pos:Pos}(hg:Gl X x)(hm:X.mg x=ZA u)(r:RelV v u)(hd:eO x:=by decide):PE X (.Name x pos) (tC v):=
 λ_ _ _ H _ I h=>fS I hg hm ⟨v,H,I,r,h⟩ hd
def zr{u:NM}{pos:Pos}(hg:Gl X x)(hm:X.mg x=ZB)(hv:OK x=ZA u)(r:RelV v u)(hn:x≠ "__name__":=by decide)(hd:eO x:=by decide):PE X (.Name x pos) (tC v):=
 λ_ _ _ H _ I h=>gU I hg hm hv ⟨v,H,I,r,h⟩ hn hd
variable {a b:ZG}{tb:TE}
def tB(t:TE):TT:=λσ H Q=>t σ H λx H1=>∃c,x=.bl c/\Q c H1
def Ct{t:TE}(h:PE X e t)(he:∀whole,isTrue e X.env whole=(do let v <-whole;standAt e.pos;holding [v] (truthy v)):=by intro _;rfl):PT X e (tB t):=by
 intro ol s σ H Q I hw;refine isTrue_plain (bS (h ol s σ H _ I hw) λv s1 ⟨x,H1,I1,r1,q1⟩=>?_) (he _)
 obtain⟨d,rfl,q⟩:=q1;cases r1;exact OR ⟨H1,I1,q⟩
variable {tA tB':TT}{bU:List ZG}
def tAnd(t u:TT):TT:=λσ H Q=>t σ H λc H1=>if c=ZC then u σ H1 Q else Q ZD H1
def tOr(t u:TT):TT:=λσ H Q=>t σ H λc H1=>if c=ZC then Q ZC H1 else u σ H1 Q
def tNot(t:TT):TT:=λσ H Q=>t σ H λc H1=>Q (!c) H1
def FP(ha:PT X a tA):PW X (.BoolOp .And [a] pos) tA:=by
 intro wh ol s σ H Q I h;refine isTrue_and (bS (ha ol s σ H Q I h) λc s1 e=>?_)
 cases c with
 |true=>exact isTrue_and_nil e
 |false=>exact e
def xZ(ha:PT X a tA):PW X (.BoolOp .Or [a] pos) tA:=by
 intro wh ol s σ H Q I h;refine isTrue_or (bS (ha ol s σ H Q I h) λc s1 e=>?_)
 cases c with
 |false=>exact isTrue_or_nil e
 |true=>exact e
def IU(ha:PT X a tA)(hb:PW X (.BoolOp .And (b::bU) pos) tB'):PW X (.BoolOp .And (a::b::bU) pos) (tAnd tA tB'):=by
 intro wh ol s σ H Q I h;refine isTrue_and (bS (ha ol s σ H _ I h) λc s1 hh_=>?_)
 obtain⟨H1,I1,q1⟩:=hh_
 cases c with
 |true=>exact hb wh ol s1 σ H1 Q I1 q1
 |false=>exact⟨H1,I1,q1⟩
def Cp(ha:PT X a tA)(hb:PW X (.BoolOp .Or (b::bU) pos) tB'):PW X (.BoolOp .Or (a::b::bU) pos) (tOr tA tB'):=by
 intro wh ol s σ H Q I h;refine isTrue_or (bS (ha ol s σ H _ I h) λc s1 hh_=>?_)
 obtain⟨H1,I1,q1⟩:=hh_
 cases c with
 |true=>exact⟨H1,I1,q1⟩
 |false=>exact hb wh ol s1 σ H1 Q I1 q1
def Cu(ha:PT X a tA):PT X (.UnaryOp .Not a pos) (tNot tA):=by
 intro ol s σ H Q I h;exact isTrue_not (ha ol s σ H (λc H1=>Q (!c) H1) I h)
def K0(ta tb:TE):TE:=λσ H Q=>ta σ H λx H1=>∃c,x=.bl c/\if c=ZC then tb σ H1 Q else Q (.bl ZD) H1
def tOrV(ta tb:TE):TE:=λσ H Q=>ta σ H λx H1=>∃c,x=.bl c/\if c=ZC then Q (.bl ZC) H1 else tb σ H1 Q
def KQ(ta:TE):TE:=λσ H Q=>ta σ H λx H1=>∃c,x=.bl c/\Q (.bl (!c)) H1
def Jb{op}{t:TE}(h:PE X a t):PE X (.BoolOp op [a] pos) t:=λol s σ H Q I hw=>BoolOp_one (h ol s σ H Q I hw)
def Jf(ha:PE X a ta)(hb:PE X (.BoolOp .And (b::bU) pos) tb):PE X (.BoolOp .And (a::b::bU) pos) (K0 ta tb):=by
 intro ol s σ H Q I h;refine BoolOp_and (bS (ha ol s σ H _ I h) λv s1 hh_=>?_)
 obtain⟨x,H1,I1,r1,q1⟩:=hh_;obtain⟨c,rfl,q1⟩:=q1;cases r1;refine OR ?_
 cases c with
 |true=>exact hb ol s1 σ H1 Q I1 q1
 |false=>exact⟨.bl ZD,H1,I1,rfl,q1⟩
def Lx(ha:PE X a ta)(hb:PE X (.BoolOp .Or (b::bU) pos) tb):PE X (.BoolOp .Or (a::b::bU) pos) (tOrV ta tb):=by
 intro ol s σ H Q I h;refine BoolOp_or (bS (ha ol s σ H _ I h) λv s1 hh_=>?_)
 obtain⟨x,H1,I1,r1,q1⟩:=hh_;obtain⟨c,rfl,q1⟩:=q1;cases r1;refine OR ?_
 cases c with
 |false=>exact hb ol s1 σ H1 Q I1 q1
 |true=>exact⟨.bl ZC,H1,I1,rfl,q1⟩
def Jc(ha:PE X a ta):PE X (.UnaryOp .Not a pos) (KQ ta):=by
 intro ol s σ H Q I h;refine UnaryOp_ (bS (ha ol s σ H _ I h) λv s1 hh_=>?_)
 obtain⟨x,H1,I1,r1,q1⟩:=hh_;obtain⟨c,rfl,q1⟩:=q1;cases r1;exact not_of (OR ⟨.bl (!c),H1,I1,rfl,q1⟩)
def tIf(t:TT)(ta tb:TE):TE:=λσ H Q=>t σ H λc H1=>if c=ZC then ta σ H1 Q else tb σ H1 Q
def vX(hc:PT X c tA)(ha:PE X a ta)(hb:PE X b tb):PE X (.IfExp c a b pos) (tIf tA ta tb):=by
 intro ol s σ H Q I h;refine wpAny_IfExp (bS (hc ol s σ H _ I h) λd s1 hh_=>?_)
 obtain⟨H1,I1,q1⟩:=hh_
 cases d with
 |true=>exact ha ol s1 σ H1 Q I1 q1
 |false=>exact hb ol s1 σ H1 Q I1 q1
end
def SqL(K:NK)(H:Hp)(a:ZE)(xs:List V):Prop:=
 Rd H a (.lst xs) ∨
  ∃(o:Obj)(its:Array NM)(n:Nat),K.lookup a=ZA o/\o.cls=.type "list"/\o.dict=ZB/\o.data=.seq its n/\its.size<=ZI/\Vals xs its.toList
def SqT(K:NK)(H:Hp)(a:ZE)(xs:List V):Prop:=
 Rd H a (.tup xs) ∨
  ∃(o:Obj)(its:Array NM)(n:Nat),K.lookup a=ZA o/\o.cls=.type "tuple"/\o.data=.seq its n/\its.size<=ZI/\Vals xs its.toList
noncomputable def absV:NM->Option V
 |.none=>ZA .non
 |.bool b=>ZA (.bl b)
 |.int i _=>ZA (.int i)
 |.str x _=>ZA (.str x)
 |.bytes b _=>ZA (.byt b)
 |.float b _=>ZA (.flt b)
 |.ref a=>ZA (.ref a)
 |.type n=>ZA (.ty n)
 |_=>ZB
def RelV.abs{x:V}{u:NM}(r:RelV x u):absV u=ZA x:=by
 cases x with
 |non=>cases r;rfl
 |bl _=>cases r;rfl
 |int _=>obtain⟨t,rfl⟩:=r;rfl
 |str _=>obtain⟨t,rfl⟩:=r;rfl
 |byt _=>obtain⟨t,rfl⟩:=r;rfl
 |flt _=>obtain⟨t,rfl⟩:=r;rfl
 |ref _=>cases r;rfl
 |ty _=>cases r;rfl
variable{y:V}
def RelV.inj{x:V}{u:NM}(r:RelV x u)(q:RelV y u):x=y:=Oy (r.abs.symm.trans q.abs)
theorem Vals.inj:∀{xs ys:List V}{us:List NM},Vals xs us->Vals ys us->xs=ys
 |_,_,_,.nil,.nil=>rfl
 |_,_,_,.cons r t,.cons r' t'=>by rw[r.inj r',Vals.inj t t']
variable{K:NK}
section
variable {ys:List V}
def SqL.of(h:H a=ZA (.lst xs)):SqL K H a xs:=.inl (.inl h)
def SqT.of(h:H a=ZA (.tup xs)):SqT K H a xs:=.inl (.inl h)
def Inv.list(I:Inv X ol σ H s)(h:SqL X.K H a xs):∃its:List NM,Vals xs its/\PlainL s.heap a its.toArray/\xs.length<=ZI:=by
 rcases h with h|⟨o,its,n,hk,hc,hd,hs,hz,r⟩
 ·obtain⟨z,its,n,r,e⟩:=h.ok I.hok
  exact⟨its,r,⟨_,n,e,rfl,rfl,rfl⟩,z⟩
 ·refine⟨its.toList,r,⟨o,n,I.kIn a o hk,hc,hd,by simpa using hs⟩,?_⟩
  have e:=r.length;simp only[Pd]at e;omega
def Inv.tuple(I:Inv X ol σ H s)(h:SqT X.K H a xs):∃its:List NM,Vals xs its/\Vm s.heap a its.toArray/\xs.length<=ZI:=by
 rcases h with h|⟨o,its,n,hk,hc,hs,hz,r⟩
 ·obtain⟨z,its,r,p⟩:=h.ok I.hok
  exact⟨its,r,p,z⟩
 ·refine⟨its.toList,r,⟨o,I.kIn a o hk,hc,n,by simpa using hs⟩,?_⟩
  have e:=r.length;simp only[Pd]at e;omega
def Inv.Nd(I:Inv X ol σ H s)(h:SqL X.K H a xs)(h':SqL X.K H a ys):xs=ys:=by
 obtain⟨its,r,⟨o,n,e,_,_,d⟩,_⟩:=I.list h;obtain⟨its',r',⟨o',n',e',_,_,d'⟩,_⟩:=I.list h';rw[e]at e';cases e';rw[d]at d';injection d' with d1 _
 have:its=its':=by simpa using congrArg SQ d1
 subst this;exact r.inj r'
def Inv.M6(I:Inv X ol σ H s)(h:SqT X.K H a xs)(h':SqT X.K H a ys):xs=ys:=by
 obtain⟨its,r,⟨o,e,_,n,d⟩,_⟩:=I.tuple h;obtain⟨its',r',⟨o',e',_,n',d'⟩,_⟩:=I.tuple h';rw[e]at e';cases e';rw[d]at d';injection d' with d1 _
 have:its=its':=by simpa using congrArg SQ d1
 subst this;exact r.inj r'
end
abbrev Cx.FB(X:Cx)(E:V1):Cx:={X with xe:=E}
abbrev Cx.nox(X:Cx):Cx:=X.FB λ_ _=>False
def Cx.Ok.FB(ok:X.Ok)(E:V1):(X.FB E).Ok:=
 ⟨ok.mod,ok.kind,ok.glob,ok.blt,ok.above,ok.inj,ok.has,ok.cab,ok.hd,ok.frames,ok.stk,ok.exf,ok.bs,ok.bsz,ok.noex,ok.exfs,ok.funs,ok.frf⟩
def Cx.Ok.GT(ok:(X.FB E).Ok):X.Ok:=
 ⟨ok.mod,ok.kind,ok.glob,ok.blt,ok.above,ok.inj,ok.has,ok.cab,ok.hd,ok.frames,ok.stk,ok.exf,ok.bs,ok.bsz,ok.noex,ok.exfs,ok.funs,ok.frf⟩
theorem Inv.FB(I:Inv X ol σ H s)(E:V1):Inv (X.FB E) ol σ H s:=⟨I.ok.FB E,I.os,I.bare,I.base,I.loc,I.cell,I.free,I.freeC,I.pin,I.hok,I.len⟩
theorem Inv.GT(I:Inv (X.FB E) ol σ H s):Inv X ol σ H s:=⟨I.ok.GT,I.os,I.bare,I.base,I.loc,I.cell,I.free,I.freeC,I.pin,I.hok,I.len⟩
theorem SP.GT{D:nt}{f:Flow}{s':NQ}(h:SP (X.FB E) ol D f s'):SP X ol D f s':=by
 cases f with
 |next=>obtain⟨σ',H',I,q⟩:=h;exact⟨σ',H',I.GT,q⟩
 |brk=>obtain⟨σ',H',I,q⟩:=h;exact⟨σ',H',I.GT,q⟩
 |cont=>obtain⟨σ',H',I,q⟩:=h;exact⟨σ',H',I.GT,q⟩
 |ret u=>obtain⟨v,σ',H',I,r,q⟩:=h;exact⟨v,σ',H',I.GT,r,q⟩
def PSs.nox{st:List ZF}{t:TS}(h:PSs X.nox st t):PSs X st t:=λol s σ H D I hw=>
 Pw (h ol s σ H D (I.FB _) hw) (λ_ _ q=>q.GT) λ_ _ z=>P9 z
variable{tc:TT}{te:TE}
section
variable {st:ZF}{bU:List ZF}{t u:TS}
def KR:TS:=λD σ H=>D.nx σ H
def tSeq(t u:TS):TS:=λD σ H=>t {D with nx:=u D} σ H
def oj:PSs X [] KR:=λ_ _ σ H _ I h=>QJ ⟨σ,H,I,h⟩
def iP(h1:PS X st t)(h2:PSs X bU u):PSs X (st::bU) (tSeq t u):=by
 intro ol s σ H D I h;refine UV (bS (h1 ol s σ H {D with nx:=u D} I h) λf s1 q=>?_)
 cases f with
 |next=>
  obtain⟨σ',H',I',q⟩:=q
  exact h2 ol s1 σ' H' D I' q
 |ret v=>exact q
 |brk=>exact q
 |cont=>exact q
def fg(h1:PS X st t):PSs X [st] t:=by
 intro ol s σ H D I h;refine UV (bS (h1 ol s σ H D I h) λf s1 q=>?_)
 cases f with
 |next=>exact QJ q
 |ret v=>exact q
 |brk=>exact q
 |cont=>exact q
def KY:TS:=λD σ H=>D.ct σ H
def vV:PS X (.Continue pos) KY:=λ_ _ σ H _ I h=>wpAny_Continue ⟨σ,H,I,h⟩
def Inv.quiet(I:Inv X ol σ H s):interactive X.env=ZD:=by simp[interactive,I.ok.kind]
def KU(te:TE):TS:=λD σ H=>te σ H λ_ H1=>D.nx σ H1
def om(he:PE X e te)(hs:OW e ZB pos.line X.env=pure ZD:=by rfl):PS X (.Expr e pos) (KU te):=by
 intro ol s σ H D I h;exact wpAny_Expr_any (bS (he ol s σ H _ I h) λv s1 ⟨x,H1,I1,r1,q1⟩=>⟨σ,H1,I1,q1⟩) I.quiet hs
def tRet(te:TE):TS:=λD σ H=>te σ H D.rt
def iu(he:PE X e te):PS X (.Return (ZA e) pos) (tRet te):=by
 intro ol s σ H D I h;exact wpAny_Return_some (bS (he ol s σ H _ I h) λv s1 ⟨x,H1,I1,r1,q1⟩=>⟨x,σ,H1,I1,r1,q1⟩)
def tIfS(c:TT)(t u:TS):TS:=λD σ H=>c σ H λb H1=>if b=ZC then t D σ H1 else u D σ H1
def vU{a b:List ZF}(hc:PT X c tc)(ha:PSs X a t)(hb:PSs X b u):PS X (.If c a b pos) (tIfS tc t u):=by
 intro ol s σ H D I h;refine wpAny_If (bS (hc ol s σ H _ I h) λd s1 hh_=>?_)
 obtain⟨H1,I1,q1⟩:=hh_
 cases d with
 |true=>exact ha ol s1 σ H1 D I1 q1
 |false=>exact hb ol s1 σ H1 D I1 q1
def Ig:TS:=λ_ _ _=>False
def Cw:PS X st Ig:=λ_ _ _ _ _ _ h=>h.elim
end
abbrev TG:=V->St->Hp->(St->Hp->Prop)->Prop
abbrev G4:=List V->St->Hp->(St->Hp->Prop)->Prop
def PG(X:Cx)(target:ZG)(t:TG):Prop:=
 ∀(ol:V2)(s:NQ)(σ:St)(H:Hp)(v:V)(u:NM)(Q:St->Hp->Prop),Inv X ol σ H s->RelV v u->t v σ H Q →
  ZJ (ZK X.prog X.w) X.A (assign target X.env u) (λ_ s'=>∃σ' H',Inv X ol σ' H' s'/\Q σ' H') X.xe s
def PGs(X:Cx)(ts:List ZG)(t:G4):Prop:=
 ∀(ol:V2)(s:NQ)(σ:St)(H:Hp)(vs:List V)(us:List NM)(Q:St->Hp->Prop),Inv X ol σ H s->Vals vs us->t vs σ H Q →
  ZJ (ZK X.prog X.w) X.A (assignInOrder ((PH ts X.env).map (·.2)) us) (λ_ s'=>∃σ' H',Inv X ol σ' H' s'/\Q σ' H') X.xe s
variable{es:List ZG}{k n:Nat}{pos':Pos}{tg:ZG}
def DL(i:Nat):TG:=λv σ H Q=>Q (σ.set i (ZA v)) H
def F1(hN:X.N.Nodup)(hi:X.N[i]?=ZA x)(hx:Loc X.env.scope x)(hf:X.fn x=ZC\/X.env.scope.names.lookup x=ZA .local:=by first|exact .inl rfl|exact .inr rfl|assumption):PG X (.Name x pos) (DL i):=by
 intro ol s σ H v u Q I r h;exact Uv (lQ I hN hi hx r (λs' I'=>⟨_,H,I',h⟩) hf)
def gNil:G4:=λvs σ H Q=>vs=[]/\Q σ H
def Mh(t:TG)(u:G4):G4:=λvs σ H Q=>∃v r,vs=v::r/\t v σ H λσ' H'=>u r σ' H' Q
def F0:PGs X [] gNil:=by
 intro ol s σ H vs us Q I r h;obtain⟨e,h⟩:=h;subst e;cases r;exact assignInOrder_nil ⟨σ,H,I,h⟩
def CA{t:TG}{u:G4}(h1:PG X e t)(h2:PGs X es u)
  (hs:(PH (e::es) X.env).map (·.2)=assign e X.env::(PH es X.env).map (·.2):=by rfl):PGs X (e::es) (Mh t u):=by
 intro ol s σ H vs us Q I r h;obtain⟨v,vr,e1,h⟩:=h;subst e1
 cases r with
 |cons r rr=>
  rw[hs];refine assignInOrder_cons (bS (h1 ol s σ H _ _ _ I r h) λ_ s1 hh_=>?_)
  obtain⟨σ1,H1,I1,q1⟩:=hh_;exact h2 ol s1 σ1 H1 _ _ Q I1 rr q1
def gTup(K:NK)(n:Nat)(t:G4):TG:=λv σ H Q=>∃a xs,v=.ref a/\SqT K H a xs/\xs.length=n/\t xs σ H Q
def IZ{t:G4}(hc:X.calm=ZC)(h:PGs X es t)
  (hn:(PH es X.env).length=n:=by rfl) (hst:(PH es X.env).findIdx? (·.1)=ZB:=by rfl):PG X (.Tuple es k pos) (gTup X.K n t):=by
 intro ol s σ H v u Q I r hw;obtain⟨a,xs,e1,hq,hl,hw⟩:=hw;subst e1;cases r;obtain⟨its,rv,ht,hz⟩:=I.tuple hq;refine assign_Tuple_tuple (I.ok.hd hc) ht (by simp[hn,<-hl,rv.length]) hst λh' hx=>?_
 have I1:Inv X ol σ H {s with heap:=h'}:=I.kept (t':=s.toks) λb o e=>hx b o (Pk (NZ e)) e
 exact h ol _ σ H xs _ Q I1 (by simpa using rv) hw
def BP(te:TE)(g:TG):TS:=λD σ H=>te σ H λx H1=>g x σ H1 D.nx
def IX{g:TG}(he:PE X e te)(hg:PG X tg g)(hs:T6 [tg] e pos.line X.env=pure ZD:=by rfl)(hw:T7 [tg] e X.env=pure ZB:=by rfl)
  (h1:(PH [tg] X.env).map (·.2)=[assign tg X.env]:=by rfl):PS X (.Assign [tg] e pos) (BP te g):=by
 intro ol s σ H D I h;refine wpAny_Assign_stores (bS (he ol s σ H _ I h) λv s1 ⟨x,H1,I1,r1,q1⟩=>?_) hs hw
 rw[h1];exact bS (hg ol s1 σ H1 x v _ I1 r1 q1) λ_ s2 q=>q
def mO(hN:X.N.Nodup)(hi:X.N[i]?=ZA x)(hx:Loc X.env.scope x)(he:PE X e te)(hs:OW e (ZA (.Name x pos')) pos.line X.env=pure ZD:=by rfl)(hf:X.fn x=ZC\/X.env.scope.names.lookup x=ZA .local:=by first|exact .inl rfl|exact .inr rfl|assumption):
  PS X (.Assign [.Name x pos'] e pos) (BP te (DL i)):=by
 intro ol s σ H D I h;refine wpAny_Assign_Name (bS (he ol s σ H _ I h) λv s1 ⟨y,H1,I1,r1,q1⟩=>?_) hs
 exact lQ I1 hN hi hx r1 (λs2 I2=>⟨_,H1,I2,q1⟩) hf
variable{body:List ZF}
def xM(c:TT)(tb:TS):TS:=λD σ H=>∃W:Nat->St->Hp->Prop,(∃m,W m σ H)/\∀m σ H,W m σ H →
 c σ H λb H1=>if b=ZC then ∃N:St->Hp->Prop,(∀σ' H',N σ' H'->∃m',m'<m/\W m' σ' H')/\tb {D with nx:=N,ct:=N,bk:=D.nx} σ H1 else D.nx σ H1
def Cv{tb:TS}(hp:PassesOwn (ZK X.prog X.w) X.A X.env X.xe)(hc:PT X c tc)(hb:PSs X body tb):PS X (.While c body [] pos) (xM tc tb):=by
 intro ol s σ H D I h;obtain⟨W,⟨m0,w0⟩,turn⟩:=h;refine wpAny_While (codeAny_whileLoop (λn s'=>∃σ' H',Inv X ol σ' H' s'/\W n σ' H') ?_ m0 ⟨σ,H,I,w0⟩)
 rintro n s1 ⟨σ1,H1,I1,w1⟩
 refine Vf hp (bS (hc ol s1 σ1 H1 _ I1 (turn n σ1 H1 w1)) λb s2 hh_=>?_)
 obtain⟨H2,I2,q2⟩:=hh_
 cases b with
 |true=>
  obtain⟨N,hN,q2⟩:=q2;rw[if_pos rfl];refine Vf hp (bS (hb ol s2 σ1 H2 _ I2 q2) λf s3 q3=>?_)
  cases f with
  |next=>
   obtain⟨σ3,H3,I3,n3⟩:=q3;obtain⟨m',hm,w3⟩:=hN σ3 H3 n3
   exact⟨m',hm,σ3,H3,I3,w3⟩
  |cont=>
   obtain⟨σ3,H3,I3,n3⟩:=q3;obtain⟨m',hm,w3⟩:=hN σ3 H3 n3
   exact⟨m',hm,σ3,H3,I3,w3⟩
  |brk=>exact q3
  |ret v=>exact q3
 |false=>
  rw[if_neg N0];exact QJ ⟨σ1,H2,I2,q2⟩
structure It where
 go:Nat->Hp->Prop
 yld:Nat->Hp->V->Hp->Prop
 stop:Nat->Hp->Prop
def qD(X:Cx)(ol:V2)(H:Hp)(b:ZE):Prop:=
 H b=ZB/\b≠X.env.locals/\b∉X.fs/\(b∈X.ex\/X.s₀.heap.objs.size<=b)/\(∀x c,X.env.cells.lookup x=ZA c->c≠b)/\∀p∈X.pn++ol,p.1≠b
def Inv.Nj(I:Inv X ol σ H s)(hb:s.heap.objs.size<=b)(hn:H' b=ZB):qD X ol H' b:=by
 refine⟨hn,R5 (N8 I.lt hb),I.NJ hb,.inr (OJ I.sz hb),λx c e z=>?_,λp hp z=>?_⟩
 ·obtain⟨v,q⟩:=I.cell x c e
  exact absurd (N8 q.lt (by rw[z];exact hb)) (Ot _)
 ·exact absurd (N8 (NZ (I.pin p hp).1) (by rw[z];exact hb)) (Ot _)
structure Ez (P:Oa)(w:O0)(K:NK)(tg:ZG)(J:It)(fp:List ZE)(it:ZE)(tn:Nat->ZH->Prop):Prop where
 mem:it∈fp
 obj:∀i h,tn i h->∀b∈fp,∃o,h.get? b=ZA o/\∀v,o.data≠ .cell v
 keep:∀i h h',tn i h->(∀b∈fp,∀o,h.get? b=ZA o->h'.get? b=ZA o)->tn i h'
 item:∀(X:Cx),X.prog=P->X.w=w->X.K=K->X.calm=ZC->∀(i:Nat)(ol:V2)(s:NQ)(σ:St)(H:Hp)(E:V1),Inv X ol σ H s->(∀b∈fp,qD X ol H b)->tn i s.heap->J.go i H →
  ZJ (ZK P w) X.A (pyNext (.ref it)) (λr s1=>∃u,r=ZA u ∧
   ZJ (ZK P w) X.A (Rl tg (.ref it) u) (λ_ s2=>∃x H',Inv X ol σ H' s2/\RelV x u/\J.yld i H x H'/\tn (i+1) s2.heap/\∀b∈fp,H' b=ZB) E s1) E s
 done:∀(X:Cx),X.prog=P->X.w=w->X.K=K->X.calm=ZC->∀(i:Nat)(ol:V2)(s:NQ)(σ:St)(H:Hp)(E:V1),Inv X ol σ H s->(∀b∈fp,qD X ol H b)->tn i s.heap->J.stop i H →
  ZJ (ZK P w) X.A (pyNext (.ref it)) (λr s1=>r=ZB/\Inv X ol σ H s1) E s
 self:∀(A:Ou)(i:Nat)(s:NQ)(Q:V1)(E:V1),tn i s.heap->Q (.ref it) s->ZJ (ZK P w) A (pyIter (.ref it)) Q E s
abbrev TI:=St->Hp->(It->Hp->Prop)->Prop
def PIE(X:Cx)(ol:V2)(σ:St)(tg:ZG)(R:It->Hp->Prop)(itv:NM)(s2:NQ):Prop:=
 ∃(it:ZE)(fp:List ZE)(tn:Nat->ZH->Prop)(J:It)(H':Hp),itv=.ref it/\Inv X ol σ H' s2/\Ez X.prog X.w X.K tg J fp it tn/\tn 0 s2.heap/\(∀b∈fp,qD X ol H' b)/\R J H'
def PI(X:Cx)(tg iter:ZG)(wi:TI):Prop:=
 ∀(ol:V2)(s:NQ)(σ:St)(H:Hp)(R:It->Hp->Prop),Inv X ol σ H s->wi σ H R →
  ZJ (ZK X.prog X.w) X.A (eval iter X.env) (λv s1=>ZJ (ZK X.prog X.w) X.A (pyIter v) (PIE X ol σ tg R) X.xe s1) X.xe s
def DG{u:NM}{o:Obj}{n:String}{vs:Array NM}{Q:Unit->NQ->Prop}(ho:s.heap.get? it=ZA o)(hc:o.cls=.type n)(hd:o.data=.fields vs)
  (hn:["enumerate","zip","dict_itemiterator","dict_reverseitemiterator","odict_iterator","itertools.zip_longest","itertools.pairwise"].contains n=ZD) (hQ:Q () s):ZJ M A (Rl tg (.ref it) u) Q E s:=by
 unfold Rl
 cases tg <;> first
  |exact N5 hQ
  | (cases u <;> first
    |exact N5 hQ
    | (refine NS (wpAny_load ho ?_)
       rw[hc,hd]
       show ZJ M A (if (["enumerate","zip","dict_itemiterator","dict_reverseitemiterator","odict_iterator","itertools.zip_longest","itertools.pairwise"].contains n&&vs[0]? == ZA (rawInt _))=ZC then _ else _) Q E s
       rw[if_neg (by intro h;rw[hn,Bool.false_and]at h;cases h)]
       exact N5 hQ))
def Itl(K:NK)(a:ZE):It:=
 ⟨λi H=>∃xs x,SqL K H a xs/\xs[i]?=ZA x,λi H x H'=>H'=H/\∀xs,SqL K H a xs->xs[i]?=ZA x,λi H=>∃xs,SqL K H a xs/\xs.length<=i⟩
def Itt(K:NK)(a:ZE):It:=
 ⟨λi H=>∃xs x,SqT K H a xs/\xs[i]?=ZA x,λi H x H'=>H'=H/\∀xs,SqT K H a xs->xs[i]?=ZA x,λi H=>∃xs,SqT K H a xs/\xs.length<=i⟩
def Itr(lo:Int)(n:Nat):It:=⟨λi _=>i<n,λi H x H'=>H'=H/\x=.int (lo+i),λi _=>n<=i⟩
def Ap(a it:ZE):Ez P w K tg (Itl K a) [it] it (λi h=>h.IsListIter it a i) where
 mem:=by simp
 obj:=λi h st b hb=>by
  have e:b=it:=by simpa using hb
  subst e;obtain⟨o,e,c,d⟩:=st;exact⟨o,e,λv z=>by rw[d]at z;cases z⟩
 keep:=λi h h' st k=>st.at λo e=>k it (by simp) o e
 item:=by
  intro X hP hw hK hc i ol s σ H E I hf st hg;subst hP hw hK;obtain⟨xs,x,hq,hx⟩:=hg;obtain⟨its,rv,p,hz⟩:=I.list hq;obtain⟨u,hu,ru⟩:=rv.get hx;obtain⟨f0,f1,f2,f3,f4,f5⟩:=hf it (by simp)
  refine SK st p.isList (x:=u) (by simpa using hu) λh' st' sb=>?_
  have I1:Inv X ol σ H {s with heap:=h'}:=I.turned (t':=s.toks) (λb o hb e=>(sb.2 b hb).trans e) f0 f1 f3 f4 f5
  obtain⟨o,e,c,d⟩:=id st';exact⟨u,rfl,DG (s:={s with heap:=h'}) e c d (by decide) ⟨x,H,I1,ru,⟨rfl,λys hy=>by rw[I.Nd hy hq];exact hx⟩,st',λb hb=>(hf b hb).1⟩⟩
 done:=by
  intro X hP hw hK hc i ol s σ H E I hf st hg;subst hP hw hK;obtain⟨xs,hq,hx⟩:=hg;obtain⟨its,rv,p,hz⟩:=I.list hq;obtain⟨f0,f1,f2,f3,f4,f5⟩:=hf it (by simp)
  have hl:=rv.length;exact S4 (I.ok.hd hc) st p.isList (by simp;omega) λh' eb=>⟨rfl,I.turned (t':=s.toks) (λb o hb e=>eb b o hb e) f0 f1 f3 f4 f5⟩
 self:=λ_ _ _ _ _ st h=>wpAny_pyIter_listiter st h
def xJ(a it:ZE):Ez P w K tg (Itt K a) [it] it (λi h=>h.IsTupleIter it a i) where
 mem:=by simp
 obj:=λi h st b hb=>by
  have e:b=it:=by simpa using hb
  subst e;obtain⟨o,e,c,d⟩:=st;exact⟨o,e,λv z=>by rw[d]at z;cases z⟩
 keep:=λi h h' st k=>st.at λo e=>k it (by simp) o e
 item:=by
  intro X hP hw hK hc i ol s σ H E I hf st hg;subst hP hw hK;obtain⟨xs,x,hq,hx⟩:=hg;obtain⟨its,rv,p,hz⟩:=I.tuple hq;obtain⟨u,hu,ru⟩:=rv.get hx;obtain⟨f0,f1,f2,f3,f4,f5⟩:=hf it (by simp)
  refine wpAny_pyNext_tuple_item st (show s.heap.IsTuple a its.toArray from p) (x:=u) (by simpa using hu) λh' st' sb=>?_
  have I1:Inv X ol σ H {s with heap:=h'}:=I.turned (t':=s.toks) (λb o hb e=>(sb.2 b hb).trans e) f0 f1 f3 f4 f5
  obtain⟨o,e,c,d⟩:=id st';exact⟨u,rfl,DG (s:={s with heap:=h'}) e c d (by decide) ⟨x,H,I1,ru,⟨rfl,λys hy=>by rw[I.M6 hy hq];exact hx⟩,st',λb hb=>(hf b hb).1⟩⟩
 done:=by
  intro X hP hw hK hc i ol s σ H E I hf st hg;subst hP hw hK;obtain⟨xs,hq,hx⟩:=hg;obtain⟨its,rv,p,hz⟩:=I.tuple hq;obtain⟨f0,f1,f2,f3,f4,f5⟩:=hf it (by simp)
  have hl:=rv.length;exact wpAny_pyNext_tuple_end (I.ok.hd hc) st (show s.heap.IsTuple a its.toArray from p) (by simp;omega) λh' eb=>⟨rfl,I.turned (t':=s.toks) (λb o hb e=>eb b o hb e) f0 f1 f3 f4 f5⟩
 self:=λ_ _ _ _ _ st h=>wpAny_pyIter_tupleiter st h
def xK(it:ZE)(lo:Int)(n:Nat):Ez P w K tg (Itr lo n) [it] it (λi h=>IsRangeIter h it (lo+(i:Nat)*1) ((n:Int) - (i:Nat)) 1) where
 mem:=by simp
 obj:=λi h st b hb=>by
  have e:b=it:=by simpa using hb
  subst e
  exact⟨_,st,λv z=>by
   have z':Data.fields _=Data.cell v:=z;cases z'⟩
 keep:=λi h h' st k=>k it (by simp) _ st
 item:=by
  intro X hP hw hK hc i ol s σ H E I hf st hg;subst hP hw hK;obtain⟨f0,f1,f2,f3,f4,f5⟩:=hf it (by simp)
  have W:=Walks.range (prog:=X.prog) (w:=X.w) (I.ok.hd hc) it lo 1 n;refine W.item i s _ _ hg st λv h' tk hv st' kk=>?_
  obtain⟨t,rfl⟩:=hv
  have I1:Inv X ol σ H {s with heap:=h',toks:=tk}:=I.turned (λb o hb e=>kk b o (by simpa using hb) e) f0 f1 f3 f4 f5
  refine⟨_,rfl,DG (s:={s with heap:=h',toks:=tk}) (n:="range_iterator") st' rfl rfl (by decide) ⟨.int (lo+i),H,I1,⟨t,?_⟩,⟨rfl,rfl⟩,st',λb hb=>(hf b hb).1⟩⟩
  rw[Int.mul_one]
 done:=by
  intro X hP hw hK hc i ol s σ H E I hf st hg;subst hP hw hK;obtain⟨f0,f1,f2,f3,f4,f5⟩:=hf it (by simp)
  exact wpAny_pyNext_range_end (I.ok.hd hc) st (by have:n<=i:=hg;omega) λh' eb=>⟨rfl,I.turned (t':=s.toks) (λb o hb e=>eb b o hb e) f0 f1 f3 f4 f5⟩
 self:=λ_ _ _ _ _ st h=>wpAny_pyIter_rangeiter st h
variable{fp:List ZE}{l:ZG}{tl:TE}
def Mg(K:NK)(tl:TE):TI:=λσ H R=>tl σ H λx H1=>∃a,x=.ref a/\(∃xs,SqL K H1 a xs)/\R (Itl K a) H1
def iTup(K:NK)(tl:TE):TI:=λσ H R=>tl σ H λx H1=>∃a,x=.ref a/\(∃xs,SqT K H1 a xs)/\R (Itt K a) H1
def FY(hl:PE X l tl):PI X tg l (Mg X.K tl):=by
 intro ol s σ H R I h;refine bS (hl ol s σ H _ I h) λv s1 hh_=>?_
 obtain⟨x,H1,I1,r1,q1⟩:=hh_;obtain⟨a,e,⟨xs,hq⟩,q⟩:=q1;subst e;cases r1;obtain⟨its,rv,p,hz⟩:=I1.list hq;refine Sr p.isList ?_
 refine⟨s1.heap.objs.size,[s1.heap.objs.size],_,_,H1,rfl,I1.kept (t':=s1.toks) λb o e=>NX _ e,Ap a _,⟨_,Oc _ rfl,rfl,rfl⟩,λb hb=>?_,q⟩
 have e:b=s1.heap.objs.size:=by simpa using hb
 subst e;exact I1.Nj (N4 _) (I1.hok.fresh (N4 _))
def IY(hl:PE X l tl):PI X tg l (iTup X.K tl):=by
 intro ol s σ H R I h;refine bS (hl ol s σ H _ I h) λv s1 hh_=>?_
 obtain⟨x,H1,I1,r1,q1⟩:=hh_;obtain⟨a,e,⟨xs,hq⟩,q⟩:=q1;subst e;cases r1;obtain⟨its,rv,p,hz⟩:=I1.tuple hq;refine Rm (show s1.heap.IsTuple a its.toArray from p) ?_
 refine⟨s1.heap.objs.size,[s1.heap.objs.size],_,_,H1,rfl,I1.kept (t':=s1.toks) λb o e=>NX _ e,xJ a _,⟨_,Oc _ rfl,rfl,rfl⟩,λb hb=>?_,q⟩
 have e:b=s1.heap.objs.size:=by simpa using hb
 subst e;exact I1.Nj (N4 _) (I1.hok.fresh (N4 _))
def mh{R:It->Hp->Prop}{lo hi:Int}{t u v:Tok}{tk:Nat}(I:Inv X ol σ H s)(h1 : -(2 ^ 62)<=lo)(h2:lo<2 ^ 62)(h3 : -(2 ^ 62)<=hi)(h4:hi<2 ^ 62)
  (q:R (Itr lo (hi - lo).toNat) H):ZJ (ZK X.prog X.w) X.A (pyIter (.ref s.heap.objs.size)) (PIE X ol σ tg R) E {s with heap:=s.heap.push {cls:=.type "range",data:=.fields #[.int lo t,.int hi u,.int 1 v]},toks:=tk}:=by
 refine wpAny_pyIter_range (IsRange.new ..) (small_one h1 h2 h3 h4) ?_
 have I1:Inv X ol σ H {s with heap:=s.heap.push {cls:=.type "range",data:=.fields #[.int lo t,.int hi u,.int 1 v]},toks:=tk}:=I.kept λb o e=>NX _ e
 refine⟨(s.heap.push {cls:=.type "range",data:=.fields #[.int lo t,.int hi u,.int 1 v]}).objs.size,[(s.heap.push {cls:=.type "range",data:=.fields #[.int lo t,.int hi u,.int 1 v]}).objs.size],_,_,H,rfl,
  I1.kept (t':=tk) λb o e=>NX _ e,xK _ lo (hi - lo).toNat,?_,λb hb=>?_,q⟩
 ·have e1:lo+((0:Nat):Int)*1=lo:=by simp
  have e2:(((hi - lo).toNat:Nat):Int) - ((0:Nat):Int)=Builtin.Range.rangeSize lo hi 1:=by rw[rangeSize_one];split <;> omega
  show IsRangeIter _ _ (lo+((0:Nat):Int)*1) ((((hi - lo).toNat:Nat):Int) - ((0:Nat):Int)) 1
  rw[e1,e2];exact Oc _ rfl
 ·have e:b=(s.heap.push {cls:=.type "range",data:=.fields #[.int lo t,.int hi u,.int 1 v]}).objs.size:=by simpa using hb
  subst e;exact I1.Nj (N4 _) (I1.hok.fresh (N4 _))
def tFor(wi:TI)(g:TG)(tb:TS):TS:=λD σ H=>wi σ H λJ H1=>∃W:Nat->Nat->St->Hp->Prop,(∃m,W 0 m σ H1)/\∀i m σ H,W i m σ H →
 (J.stop i H/\D.nx σ H)\/(J.go i H/\∃N:St->Hp->Prop,(∀σ' H',N σ' H'->∃m',m'<m/\W (i+1) m' σ' H')/\∀x H',J.yld i H x H'->g x σ H' λσ2 H2=>tb {D with nx:=N,ct:=N,bk:=D.nx} σ2 H2)
def ph(fp:List ZE)(h:ZH):V2:=fp.filterMap λb=>(h.get? b).map λo=>(b,o)
def i7{o:Obj}(hb:b∈fp)(e:h.get? b=ZA o):(b,o)∈ph fp h:=R6.mpr ⟨b,hb,by rw[e];rfl⟩
def AG{p:ZE×Obj}(hp:p∈ph fp h):p.1∈fp/\h.get? p.1=ZA p.2:=by
 obtain⟨b,hb,e⟩:=R6.mp hp
 cases q:h.get? b with
 |none=>rw[q]at e;cases e
 |some o=>
  rw[q]at e
  have e':(b,o)=p:=Oy e;subst e';exact⟨hb,q⟩
def Inv.pinned(I:Inv X ol σ H s)(hf:∀b∈fp,qD X ol H b)(ho:∀b∈fp,∃o,s.heap.get? b=ZA o/\∀v,o.data≠ .cell v):Inv X (ol++ph fp s.heap) σ H s:=
 I.Ng λp hp=>(Oi.mp hp).elim (λz=>I.pin p (Of _ z)) λz=>by
  obtain⟨hb,e⟩:=AG z;obtain⟨f0,f1,f2,_⟩:=hf p.1 hb;obtain⟨o,e',d⟩:=ho p.1 hb;rw[e]at e';cases e';exact⟨e,f0,f1,f2,d⟩
def Inv.MX{pl:V2}(I:Inv X (ol++pl) σ H s):Inv X ol σ H s:=I.Ng λp hp=>I.pin p (Of _ (On _ hp))
abbrev R2:=V->V->Hp->VK->Prop
def qH(X:Cx)(f:NM->NM->Sem NM)(r:R2):Prop:=
 ∀(ol:V2)(s:NQ)(σ:St)(H:Hp)(x y:V)(v u:NM)(Q:VK),Inv X ol σ H s->RelV x v->RelV y u->r x y H Q →
  ZJ (ZK X.prog X.w) X.A (f v u) (EP X ol σ Q) X.xe s
def UnR(X:Cx)(f:NM->Sem NM)(r:V->Hp->VK->Prop):Prop:=
 ∀(ol:V2)(s:NQ)(σ:St)(H:Hp)(x:V)(v:NM)(Q:VK),Inv X ol σ H s->RelV x v->r x H Q →
  ZJ (ZK X.prog X.w) X.A (f v) (EP X ol σ Q) X.xe s
def CallR(X:Cx)(f:NM)(r:List V->Hp->VK->Prop):Prop:=
 ∀(ol:V2)(s:NQ)(σ:St)(H:Hp)(xs:List V)(us:List NM)(Q:VK),Inv X ol σ H s->Vals xs us->r xs H Q →
  ZJ (ZK X.prog X.w) X.A (call f us) (EP X ol σ Q) X.xe s
def tOp(r:R2)(ta tb:TE):TE:=λσ H Q=>ta σ H λx H1=>tb σ H1 λy H2=>r x y H2 Q
def tUn(r:V->Hp->VK->Prop)(ta:TE):TE:=λσ H Q=>ta σ H λx H1=>r x H1 Q
def rI(C:Int->Int->Prop)(g:Int->Int->V):R2:=λx y H Q=>∃i j,x=.int i/\y=.int j/\C i j/\Q (g i j) H
def Ir(g:Int->Int->V):R2:=λx y H Q=>∃i j,x=.int i/\y=.int j/\Q (g i j) H
def rU(g:Int->V):V->Hp->VK->Prop:=λx H Q=>∃i,x=.int i/\Q (g i) H
variable{f:NM->NM->Sem NM}{g:Int->Int->Int}{r:R2}
section
variable {a b:ZG}{tb tc:TE}
def binT(ha:PE X a ta)(hb:PE X b tb){R:V->V->Hp->Prop}(I:Inv X ol σ H s)
  (h:ta σ H λx H1=>tb σ H1 λy H2=>R x y H2)  
  (hf:∀v u s2 x y H2,Inv X ol σ H2 s2->RelV x v->RelV y u->R x y H2->ZJ (ZK X.prog X.w) X.A (f v u) Q X.xe s2):
  ZJ (ZK X.prog X.w) X.A (eval a X.env) (λv s₁=>ZJ (ZK X.prog X.w) X.A (eval b X.env) (λu s₂=>ZJ (ZK X.prog X.w) X.A (f v u) Q X.xe s₂) X.xe s₁) X.xe s:=by
 refine bS (ha ol s σ H _ I h) λv s1 hh_=>?_
 obtain⟨x,H1,I1,r1,q1⟩:=hh_;refine bS (hb ol s1 σ H1 _ I1 q1) λu s2 hh_=>?_
 obtain⟨y,H2,I2,r2,q2⟩:=hh_;exact hf v u s2 x y H2 I2 r1 r2 q2
def Ly{op:Operator}(ho:qH X (PM op) r)(ha:PE X a ta)(hb:PE X b tb):PE X (.BinOp a op b pos) (tOp r ta tb):=by
 intro ol s σ H Q I h;exact wpAny_BinOp (binT ha hb I h λv u s2 x y H2 I2 rx ry q=>ho ol s2 σ H2 x y v u Q I2 rx ry q)
def Lw{op:UnaryOp}{r:V->Hp->VK->Prop}(ho:UnR X (unaryOp op) r)(ha:PE X a ta):PE X (.UnaryOp op a pos) (tUn r ta):=by
 intro ol s σ H Q I h;exact UnaryOp_ (bS (ha ol s σ H _ I h) λv s1 ⟨x,H1,I1,r1,q1⟩=>ho ol s1 σ H1 x v Q I1 r1 q1)
def opI{C:Int->Int->Prop}
  (rule:∀(i j:Int)(t u:Tok)(s:NQ)(Q:V1)(E:V1),C i j->Q (.int (g i j) s.toks) {s with toks:=s.toks+1}->ZJ (ZK X.prog X.w) X.A (f (.int i t) (.int j u)) Q E s):
  qH X f (rI C λi j=>.int (g i j)):=by
 intro ol s σ H x y v u Q I rx ry h;obtain⟨i,j,rfl,rfl,hc,q⟩:=h;obtain⟨t,rfl⟩:=rx;obtain⟨t',rfl⟩:=ry;exact rule i j t t' s _ _ hc ⟨.int (g i j),H,I.tok _,⟨_,rfl⟩,q⟩
def LC 
  (rule:∀(i j:Int)(t u:Tok)(s:NQ)(Q:V1)(E:V1),Q (.int (g i j) s.toks) {s with toks:=s.toks+1}->ZJ (ZK X.prog X.w) X.A (f (.int i t) (.int j u)) Q E s):
  qH X f (Ir λi j=>.int (g i j)):=by
 intro ol s σ H x y v u Q I rx ry h;obtain⟨i,j,rfl,rfl,q⟩:=h;obtain⟨t,rfl⟩:=rx;obtain⟨t',rfl⟩:=ry;exact rule i j t t' s _ _ ⟨.int (g i j),H,I.tok _,⟨_,rfl⟩,q⟩
def LD{g:Int->Int->Bool}
  (rule:∀(i j:Int)(t u:Tok)(s:NQ)(Q:V1)(E:V1),Q (.bool (g i j)) s->ZJ (ZK X.prog X.w) X.A (f (.int i t) (.int j u)) Q E s):
  qH X f (Ir λi j=>.bl (g i j)):=by
 intro ol s σ H x y v u Q I rx ry h;obtain⟨i,j,rfl,rfl,q⟩:=h;obtain⟨t,rfl⟩:=rx;obtain⟨t',rfl⟩:=ry;exact rule i j t t' s _ _ ⟨.bl (g i j),H,I,rfl,q⟩
def CDiv(i j:Int):Prop:=0<j/\j<1073741824
def CMul(i j:Int):Prop:=(-(2 ^ 64)<i/\i<2 ^ 64)\/(-(2 ^ 64)<j/\j<2 ^ 64)
def CMul.ok{i j:Int}(h:CMul i j):IntMulOk i j:=by
 rcases h with⟨h1,h2⟩|⟨h1,h2⟩
 ·exact .of_left (intBits_le_64 h1 h2)
 ·exact .of_right (intBits_le_64 h1 h2)
def Jm:qH X (PM .Add) (Ir λi j=>.int (i+j)):=LC λ_ _ _ _ _ _ _ q=>add_int q
def Jh:qH X (PM .Sub) (Ir λi j=>.int (i - j)):=LC λ_ _ _ _ _ _ _ q=>sub_int q
def Jj:qH X (PM .Mult) (rI CMul λi j=>.int (i*j)):=opI λ_ _ _ _ _ _ _ hc q=>mul_int q hc.ok
def F5:qH X (PM .FloorDiv) (rI CDiv λi j=>.int (i / j)):=opI λi j _ _ _ _ _ hc q=>by
 have h1:(0:Int)<j:=hc.1
 have h2:j<1073741824:=hc.2;exact floordiv_int (by omega) (by rw[Int.fdiv_eq_ediv_of_nonneg i (by omega)];exact q) (.inl (PyProof.noPylong_small (by omega)))
def Jk:qH X (PM .Mod) (rI (λ_ j=>0<j) λi j=>.int (i % j)):=opI λi j _ _ _ _ _ hc q=>by
 have h1:(0:Int)<j:=hc;exact mod_int' (by omega) (by rw[Int.fmod_eq_emod_of_nonneg i (by omega)];exact q)
def unI{f:NM->Sem NM}{g:Int->Int}
  (rule:∀(i:Int)(t:Tok)(s:NQ)(Q:V1)(E:V1),Q (.int (g i) s.toks) {s with toks:=s.toks+1}->ZJ (ZK X.prog X.w) X.A (f (.int i t)) Q E s):
  UnR X f (rU λi=>.int (g i)):=by
 intro ol s σ H x v Q I rx h;obtain⟨i,rfl,q⟩:=h;obtain⟨t,rfl⟩:=rx;exact rule i t s _ _ ⟨.int (g i),H,I.tok _,⟨_,rfl⟩,q⟩
def HZ:UnR X (unaryOp .USub) (rU λi=>.int (-i)):=unI λ_ _ _ _ _ q=>neg_int q
end
noncomputable def scal:V->V->Bool
 |.non,.non=>ZC|.non,.int _=>ZC|.int _,.non=>ZC|.non,.bl _=>ZC|.bl _,.non=>ZC|.non,.str _=>ZC|.str _,.non=>ZC
 |.int _,.int _=>ZC|.bl _,.bl _=>ZC|.str _,.str _=>ZC|.byt _,.byt _=>ZC
 |.int _,.str _=>ZC|.str _,.int _=>ZC|.bl _,.str _=>ZC|.str _,.bl _=>ZC
 |_,_=>ZD
def rNe:R2:=λx y H Q=>scal x y=ZC/\Q (.bl (!decide (x=y))) H
def GS{i j:Int}:decide (V.int i=V.int j)=(i == j):=by
 rw[Ri];simp
def Kg{i j:Bool}:decide (V.bl i=V.bl j)=(i == j):=by
 rw[Ri];simp
def GQ{i j:Str}:decide (V.str i=V.str j)=(i == j):=by
 rw[Ri];simp
def GU{i j:Array UInt8}:decide (V.byt i=V.byt j)=(i.toList == j.toList):=by
 rw[Ri];cases i;cases j;simp
variable{op:Ut}
section
variable {a b:ZG}{tb tc:TE}
def dU{Q:VK}{k k':Bool}(I:Inv X ol σ H s)(q:Q (.bl k) H)(e:k=k'):EP X ol σ Q (.bool k') s:=by
 subst e;exact⟨.bl k,H,I,rfl,q⟩
def Lz:qH X (OL .NotEq) rNe:=by
 intro ol s σ H x y v u Q I rx ry h;obtain⟨hs,q⟩:=h
 cases x with
 |non=>
  cases rx
  cases y with
  |non=>cases ry;exact PySem.EqNone.ne_none_none (dU I q (by simp))
  |bl j=>cases ry;exact PySem.EqNone.ne_none_bool (dU I q (by simp))
  |int j=>obtain⟨t',rfl⟩:=ry;exact PySem.EqNone.ne_none_int (dU I q (by simp))
  |str j=>obtain⟨t',rfl⟩:=ry;exact PySem.EqNone.ne_none_str (dU I q (by simp))
  |_=>exact absurd (show ZD=ZC from hs) N0
 |bl i=>
  cases rx
  cases y with
  |non=>cases ry;exact PySem.EqNone.ne_bool_none (dU I q (by simp))
  |bl j=>cases ry;exact ne_bool (dU I q (congrArg not Kg))
  |str j=>obtain⟨t',rfl⟩:=ry;exact PySem.EqMixed.ne_bool_str (dU I q (by simp))
  |_=>exact absurd (show ZD=ZC from hs) N0
 |int i=>
  obtain⟨t,rfl⟩:=rx
  cases y with
  |non=>cases ry;exact PySem.EqNone.ne_int_none (dU I q (by simp))
  |int j=>obtain⟨t',rfl⟩:=ry;exact ne_int (dU I q (congrArg not GS))
  |str j=>obtain⟨t',rfl⟩:=ry;exact PySem.EqMixed.ne_int_str (dU I q (by simp))
  |_=>exact absurd (show ZD=ZC from hs) N0
 |str i=>
  obtain⟨t,rfl⟩:=rx
  cases y with
  |non=>cases ry;exact PySem.EqNone.ne_str_none (dU I q (by simp))
  |bl j=>cases ry;exact PySem.EqMixed.ne_str_bool (dU I q (by simp))
  |int j=>obtain⟨t',rfl⟩:=ry;exact PySem.EqMixed.ne_str_int (dU I q (by simp))
  |str j=>obtain⟨t',rfl⟩:=ry;exact ne_str (dU I q (congrArg not GQ))
  |_=>exact absurd (show ZD=ZC from hs) N0
 |byt i=>
  obtain⟨t,rfl⟩:=rx
  cases y with
  |byt j=>obtain⟨t',rfl⟩:=ry;exact PySem.W.ne_bytes (dU I q (congrArg not GU))
  |_=>exact absurd (show ZD=ZC from hs) N0
 |_=>cases y <;> exact absurd (show ZD=ZC from hs) N0
def LA:qH X (OL .Lt) (Ir λi j=>.bl (decide (i<j))):=LD λ_ _ _ _ _ _ _ q=>lt_int q
def LB:qH X (OL .LtE) (Ir λi j=>.bl (decide (i<=j))):=LD λ_ _ _ _ _ _ _ q=>le_int q
def Jl:qH X (OL .Is) (λx y H Q=>y=.non/\Q (.bl (decide (x=.non))) H):=by
 intro ol s σ H x y v u Q I rx ry h;obtain⟨rfl,q⟩:=h;cases ry;refine is_none_gen (dU I q ?_)
 cases x <;> first
  | (cases rx;rfl)
  | (obtain⟨t,rfl⟩:=rx;rfl)
def F4:qH X (OL .IsNot) (λx y H Q=>y=.non/\Q (.bl (!decide (x=.non))) H):=by
 intro ol s σ H x y v u Q I rx ry h;obtain⟨rfl,q⟩:=h;cases ry;refine isnot_none_gen (dU I q ?_)
 cases x <;> first
  | (cases rx;rfl)
  | (obtain⟨t,rfl⟩:=rx;rfl)
def Jr(b:ZG)(h:op≠ .In:=by decide)(h2:op≠ .NotIn:=by decide):Qd op b=ZD:=by
 have e1:(op == CmpOp.In)=ZD:=by cases op <;> first|rfl|exact absurd rfl h
 have e2:(op == CmpOp.NotIn)=ZD:=by cases op <;> first|rfl|exact absurd rfl h2
 cases b <;> simp[Qd,e1,e2]
def KO(t:TE):TT:=λσ H Q=>t σ H λx H'=>∃k,x=.bl k/\Q k H'
def FR(ho:qH X (OL op) r)(ha:PE X a ta)(hb:PE X b tb)(hm:Qd op b=ZD):PT X (.Compare a [op] [b] pos) (KO (tOp r ta tb)):=by
 intro ol s σ H Q I h
 refine RH (bS (ha ol s σ H _ I h) λv s1 ⟨x,H1,I1,r1,q1⟩=>bS (hb ol s1 σ H1 _ I1 q1) λu s2 ⟨y,H2,I2,r2,q2⟩=>
  bS (ho ol s2 σ H2 x y v u _ I2 r1 r2 q2) λc s3 ⟨z,H3,I3,r3,k,e,q3⟩=>?_) hm
 subst e;cases r3;exact OR ⟨H3,I3,q3⟩
def pR:(ZI:Nat)<2 ^ 63:=by rw[QK];decide
def yb:qH X (PM .Add) (λx y H Q=>∃i j,x=.str i/\y=.str j/\i.length+j.length<=ZI/\Q (.str (i++j)) H):=by
 intro ol s σ H x y v u Q I rx ry h;obtain⟨i,j,rfl,rfl,hz,q⟩:=h;obtain⟨t,rfl⟩:=rx;obtain⟨t',rfl⟩:=ry;exact add_str (λt' tk=>⟨.str (i++j),H,I.tok _,⟨_,rfl⟩,q⟩) hz
def kQ{x:V}(r:Vals [x] us):∃u,us=[u]/\RelV x u:=by
 cases r with
 |cons r1 r2=>cases r2;exact⟨_,rfl,r1⟩
def vk{x:V}(r:Vals [x,y] us):∃u w',us=[u,w']/\RelV x u/\RelV y w':=by
 cases r with
 |cons r1 r2=>
  cases r2 with
  |cons r3 r4=>cases r4;exact⟨_,_,rfl,r1,r3⟩
def Be(hc:X.calm=ZC):CallR X (.builtin "max") (λxs H Q=>∃i j,xs=[.int i,.int j]/\Q (.int (if j > i then j else i)) H):=by
 intro ol s σ H xs us Q I r h;obtain⟨i,j,rfl,q⟩:=h;obtain⟨u,w',rfl,⟨t,rfl⟩,⟨t',rfl⟩⟩:=vk r;refine max_two_ints (I.ok.hd hc) λh' tk k=>⟨_,H,I.kept k,?_,q⟩
 by_cases hj:j > i
 ·rw[if_pos hj,if_pos hj];exact⟨_,rfl⟩
 ·rw[if_neg hj,if_neg hj];exact⟨_,rfl⟩
def Bd(hc:X.calm=ZC):CallR X (.builtin "min") (λxs H Q=>∃i j,xs=[.int i,.int j]/\Q (.int (if j<i then j else i)) H):=by
 intro ol s σ H xs us Q I r h;obtain⟨i,j,rfl,q⟩:=h;obtain⟨u,w',rfl,⟨t,rfl⟩,⟨t',rfl⟩⟩:=vk r;refine min_two_ints (I.ok.hd hc) λh' tk k=>⟨_,H,I.kept k,?_,q⟩
 by_cases hj:j<i
 ·rw[if_pos hj,if_pos hj];exact⟨_,rfl⟩
 ·rw[if_neg hj,if_neg hj];exact⟨_,rfl⟩
def Bf:CallR X (.type "int") (λxs H Q=>(∃i,xs=[.int i]/\Q (.int i) H)\/∃k,xs=[.bl k]/\Q (.int (if k then 1 else 0)) H):=by
 intro ol s σ H xs us Q I r h;rcases h with⟨i,rfl,q⟩|⟨k,rfl,q⟩
 ·obtain⟨u,rfl,t,rfl⟩:=kQ r
  exact call_int_int ⟨.int i,H,I,⟨_,rfl⟩,q⟩
 ·obtain⟨u,rfl,r1⟩:=kQ r
  cases r1;exact call_int_bool ⟨.int (if k then 1 else 0),H,I.tok _,⟨_,rfl⟩,q⟩
end
structure ObjM (h:ZH)(x dx C:ZE)(mA:V0):Prop where
 obj:h.get? x=ZA (P2 C dx)
 ns:h.Ns1 dx mA
 ne:dx≠x
variable{dx:ZE}{mA:V0}
def AO(n:h.Ns1 dx mA):∃od,h.get? dx=ZA od/\∀name,Sa name od=ZA (mA name):=by
 obtain⟨o,es,ep,ho,hd,hk,_,hm⟩:=n;refine⟨o,ho,λname=>?_⟩
 have e:=hm name;unfold nsFind findBy at e;rw[<-TN]at e
 unfold Sa;rw[hd]
 dsimp only
 split
 ·rename_i y q
  rw[q]at e;exact congrArg ZA e
 ·rename_i q
  rw[q]at e
  have a:es.toList.any (·.refKey)=ZD:=by
   rw[Sk];intro y hy;obtain⟨z,t,hkey⟩:=hk y (Array.mem_toList_iff.mp hy);simp[DictEntry.refKey,hkey]
  have a':¬ es.toList.any (·.refKey)=ZC:=by rw[a];exact N0
  rw[if_neg a'];exact congrArg ZA e
variable{C:ZE}
def ObjM.look{x:ZE}(I:ObjM h x dx C mA):∃od,PySem.W.InstAt h x (P2 C dx) C (ZA od)/\∀name,Sa name od=ZA (mA name):=
 let ⟨od,ho,hl⟩:=AO I.ns
 ⟨od,⟨I.obj,rfl,rfl,ho⟩,hl⟩
variable{kw:List (Str×NM)}{name:Str}{prog:Oa}
section
variable {x f:ZE}{v:NM}
def kI{expr:Bool}(X:K.In s.heap)(I:ObjM s.heap x dx C mA)(hg:RI K C name=ZC)(hh:Sg K C=ZC)
  (ha:PK K (.ref C) name=ZA ZB) (hv:mA name=ZA v) (hv':UL v=ZC) (h:Q v {s with toks:=s.toks+1}):
  ZJ (ZK prog w) A (getAttr (.ref x) name expr) Q E s:=by
 obtain⟨od,J,hl⟩:=I.look;exact PySem.W.get_value X J (RQ hg).1 (PySem.W.findObj_own hh ha rfl (by rw[hl,hv])) hv' h
def DH{pl:Sem Bool}{Q:NM×List NM->NQ->Prop}(X:K.In s.heap)(I:ObjM s.heap x dx C mA)(hg:RI K C name=ZC)
  (hf:PK K (.ref C) name=ZA (ZA (.ref f))) (ht:Uz K (.ref f)=ZC) (hv:mA name=ZB) (h:Q (.ref f,[.ref x]) s):
  ZJ (ZK prog w) A (RW (.ref x) name pl) Q E s:=by
 obtain⟨od,J,hl⟩:=I.look;exact PySem.W.method_fn X J (RQ hg).1 (RQ hg).2 hf (beq_iff_eq.mp ht) (by show(Sa name od).map (·.isSome)=ZA ZD;rw[hl,hv];rfl) h
def Fh{ns:List Str}{Q:Unit->NQ->Prop}(X:K.In s.heap)(I:ObjM s.heap x dx C mA)
  (hs:PK K (.ref C) "__setattr__" =ZA (ZA (.builtin "object.__setattr__"))) (hp:Uh K C=ZC) (ht:SO K C name=ZA ZB) (hh:Sg K C=ZC)
  (hw:UA mA ns) (hsz:ns.length<=ZI)
  (h:∀h',ObjM h' x dx C (λy=>if y=name then ZA v else mA y)->Rb dx s.heap h'->Q () {s with heap:=h',toks:=s.toks+2}):
  ZJ (ZK prog w) A (setAttr (.ref x) name v) Q E s:=by
 obtain⟨od,J,hl⟩:=I.look;refine PySem.W.set_plain X J hs (PySem.W.osa_open (s:={s with toks:=s.toks+1}) (r:=ZB) X J hp ht λb=>?_)
 obtain⟨cd,hc,hd'⟩:=PySem.W.any_some hh
 have hx:s.heap.get? x=ZA ⟨.ref C,ZA dx,.plain,#[]⟩:=I.obj;refine NS (N5 (NS (NS (wpAny_loadPart hx (NS (PySem.W.Looks.here (s:={s with toks:=s.toks+1}) (PySem.W.looks_clsIn X hc) ?_))))))
 rw[hd'];refine N5 (a:=ZA dx) (NS (N5 (NS ?_)))
 refine wpAny_nsSet1 (s:={s with toks:=s.toks+1}) I.ns λh' hn2 hs2=>?_
 obtain⟨oD,esD,epD,hoD,hdD,hcD⟩:=hn2.count (PySem.Within.cons name v hw);refine NS (wpAny_lookBehind hoD (by rw[hdD];exact pastItsLine_dict (OJ hcD (by rw[NU];omega))) ?_)
 exact N5 (h _ ⟨(hs2.2 _ (O6 I.ne)).trans I.obj,hn2,I.ne⟩ hs2)
def wI{R:To->NQ->Prop}{vs:List NM}(X:K.In s.heap)(hm:U1 K C=ZC)
  (hi:PK K (.ref C) "__init__" =ZA (ZA (.ref f))) (hf:PySem.W.typeIn K (.ref f)=ZA (.type "function"))
  (h:ZL (ZK prog w) (A.under (.builtin "type.__call__" ⟨.ref C::vs,kw⟩)) (.call (.ref f) ⟨.ref (s.heap.objs.size+1)::vs,kw⟩) (PySem.W.InitBack (s.heap.objs.size+1) R)
   {s with heap:=(s.heap.push Pp).push (P2 C s.heap.objs.size)}):
  ZL (ZK prog w) A (.call (.ref C) ⟨vs,kw⟩) R s:=by
 obtain⟨hh,g,d,t,os⟩:=s;exact PySem.W.make_core (PySem.W.makes_of X hm) (PySem.W.looks_findIn X hi) (λself=>PySem.W.bind_fn X self hf) (.inl rfl) h
end
noncomputable def putF(f:Str)(v:V):List (Str×V)->List (Str×V)
 |[] =>[(f,v)]
 | (g,x)::r=>if g=f then(g,v)::r else(g,x)::putF f v r
theorem nH(f g:Str)(v:V):∀fs:List (Str×V),(putF f v fs).lookup g=if g=f then ZA v else fs.lookup g
 |[] =>by
  show PC g [(f,v)]=_
  by_cases h:g=f
  ·have hb:(g == f)=ZC:=beq_iff_eq.mpr h
   simp only[PC,hb,if_pos h]
  ·have hb:(g == f)=ZD:=beq_eq_false_iff_ne.mpr h
   simp only[PC,hb,if_neg h]
 | (k,x)::r=>by
  have ih:=nH f g v r;rw[show putF f v ((k,x)::r)=(if k=f then(k,v)::r else(k,x)::putF f v r)from rfl]
  by_cases hk:k=f
  ·rw[if_pos hk]
   by_cases h:g=k
   ·have hb:(g == k)=ZC:=beq_iff_eq.mpr h
    simp only[PC,hb,if_pos (h.trans hk)]
   ·have hb:(g == k)=ZD:=beq_eq_false_iff_ne.mpr h
    simp only[PC,hb,if_neg (λe:g=f=>h (e.trans hk.symm))]
  ·rw[if_neg hk]
   by_cases h:g=k
   ·have hb:(g == k)=ZC:=beq_iff_eq.mpr h
    simp only[PC,hb,if_neg (λe:g=f=>hk (h.symm.trans e))]
   ·have hb:(g == k)=ZD:=beq_eq_false_iff_ne.mpr h
    simp only[PC,hb];exact ih
theorem m5(f:Str)(v:V):∀fs:List (Str×V),f∈(putF f v fs).map (·.1)/\∀g,g∈fs.map (·.1)->g∈(putF f v fs).map (·.1)
 |[] =>⟨by simp[putF],λg h=>by simp at h⟩
 | (k,x)::r=>by
  obtain⟨i1,i2⟩:=m5 f v r;rw[show putF f v ((k,x)::r)=(if k=f then(k,v)::r else(k,x)::putF f v r)from rfl]
  by_cases hk:k=f
  ·rw[if_pos hk]
   subst hk;exact⟨by simp,λg h=>by simpa using h⟩
  ·rw[if_neg hk]
   refine⟨?_,λg h=>?_⟩
   ·rw[NO]
    exact NL _ i1
   ·rw[NO]at h ⊢
    rcases NT.mp h with e|e
    ·exact NT.mpr (.inl e)
    ·exact NL _ (i2 g e)
theorem nI(f:Str)(v:V):∀fs:List (Str×V),(putF f v fs).length<=fs.length+1
 |[] =>by simp[putF]
 | (k,x)::r=>by
  have ih:=nI f v r;rw[show putF f v ((k,x)::r)=(if k=f then(k,v)::r else(k,x)::putF f v r)from rfl]
  by_cases hk:k=f
  ·rw[if_pos hk,NU,NU];omega
  ·rw[if_neg hk,NU,NU];omega
def RelO.some_of{o:Option NM}(r:RelO (ZA v) o):∃u,o=ZA u/\RelV v u:=by
 cases o with
 |none=>exact(show False from r).elim
 |some u=>exact⟨u,rfl,r⟩
def RelO.none_of{o:Option NM}(r:RelO ZB o):o=ZB:=by
 cases o with
 |none=>rfl
 |some u=>exact(show False from r).elim
def A1{u:NM}(r:RelV v u):UL u=ZC:=by
 cases v with
 |non=>cases (show u=Oz from r);rfl
 |bl b=>cases (show u=ON b from r);rfl
 |int i=>obtain⟨t,e⟩:=(show ∃t,u=Pz i t from r);cases e;rfl
 |str x=>obtain⟨t,e⟩:=(show ∃t,u=PB x t from r);cases e;rfl
 |byt b=>obtain⟨t,e⟩:=(show ∃t,u=Value.bytes b t from r);cases e;rfl
 |flt b=>obtain⟨t,e⟩:=(show ∃t,u=U3 b t from r);cases e;rfl
 |ref a=>cases (show u=N3 a from r);rfl
 |ty n=>cases (show u=Rr n from r);rfl
section
variable {fs fs':List (Str×V)}
def oB(hok:HOk P w H h)(e:H a=ZA (.ins C dx fs)):∃mA,ObjM h a dx C mA/\(∀f,RelO (fs.lookup f) (mA f))/\UA mA (fs.map (·.1))/\fs.length<=1000/\H dx=ZA (.own a):=by
 obtain⟨d,z,ne,ob,mA,n,r,q⟩:=(show ObjOk P w H h a (.ins C dx fs)from hok a _ e)
 exact⟨mA,⟨ob,n,ne⟩,r,q,z,d⟩
end
structure Cls (K:NK)(C:ZE):Prop where
 pg:RI K C Str.empty=ZC
 hd:Sg K C=ZC
 po:Uh K C=ZC
 sa:PK K (.ref C) "__setattr__" =ZA (ZA (.builtin "object.__setattr__"))
def Cls.get(c:Cls K C)(f:Str):RI K C f=ZC:=c.pg
def NoAttr(K:NK)(C:ZE)(f:Str):Prop:=PK K (.ref C) f=ZA ZB
variable{f:Str}
def NoAttr.Nx(n:NoAttr K C f):SO K C f=ZA ZB:=by
 unfold SO;rw[show PK K (.ref C) f=ZA ZB from n]
 rfl
structure xq (K:NK)(C:ZE)(m:Str)(f:ZE):Prop where
 at_:PK K (.ref C) m=ZA (ZA (.ref f))
 fn:Uz K (.ref f)=ZC
 kp:PL K (.ref f)=ZC
variable{b:Bool}{m:Str}
section
variable {fs:List (Str×V)}
def yG(I:Inv X ol σ H s)(e:H a=ZA (.ins C dx fs))(c:Cls X.K C)(n:NoAttr X.K C f)(l:fs.lookup f=ZA v)
  (h:∀u s',Inv X ol σ H s'->RelV v u->Q u s'):ZJ (ZK X.prog X.w) A (getAttr (.ref a) f b) Q E s:=by
 obtain⟨mA,O,r,_,_,_⟩:=oB I.hok e;obtain⟨u,hu,ru⟩:=RelO.some_of (v:=v) (o:=mA f) (by rw[<-l];exact r f)
 exact kI I.kIn O (c.get f) c.hd n hu (A1 ru) (h u _ (I.tok _) ru)
def lF{g:ZE}{pl:Sem Bool}{Q:NM×List NM->NQ->Prop}(I:Inv X ol σ H s)(e:H a=ZA (.ins C dx fs))(c:Cls X.K C)(k:xq X.K C m g)(l:fs.lookup m=ZB)
  (h:Q (.ref g,[.ref a]) s):ZJ (ZK X.prog X.w) A (RW (.ref a) m pl) Q E s:=by
 obtain⟨mA,O,r,_,_,_⟩:=oB I.hok e
 have hn:mA m=ZB:=RelO.none_of (by rw[<-l];exact r m)
 exact DH I.kIn O (c.get m) k.at_ k.fn hn h
def xS{u:NM}{Q:Unit->NQ->Prop}(I:Inv X ol σ H s)(e:H a=ZA (.ins C dx fs))(c:Cls X.K C)(n:NoAttr X.K C f)(hl:fs.length<1000)(ry:RelV y u)
  (h:∀s',Inv X ol σ (upd H a (.ins C dx (putF f y fs))) s'->Q () s'):ZJ (ZK X.prog X.w) A (setAttr (.ref a) f u) Q E s:=by
 obtain⟨mA,O,r,wi,_,ho⟩:=oB I.hok e
 have hz:(fs.map (·.1)).length<=ZI:=by rw[NR,QK];omega
 refine Fh I.kIn O c.sa c.po n.Nx c.hd wi hz λh' O' sb=>h _ ?_
 have hd:∃o,h'.get? dx=ZA o:=let ⟨o,_,_,e',_⟩:=O'.ns;⟨o,e'⟩
 refine I.write (x:=a) (e:=dx) (by rw[e];exact Qq) (.inr ho) (λb q hb z=>(sb.2 b hb).trans z) hd ?_
 refine⟨by rw[aB O.ne];exact ho,?_,O.ne,O'.obj,_,O'.ns,λg=>?_,λg hg=>?_⟩
 ·have:=nI f y fs;omega
 ·show RelO ((putF f y fs).lookup g) (if g=f then ZA u else mA g)
  rw[nH]
  by_cases q:g=f
  ·rw[if_pos q,if_pos q];exact ry
  ·rw[if_neg q,if_neg q];exact r g
 ·by_cases q:g=f
  ·rw[q];exact(m5 f y fs).1
  ·refine(m5 f y fs).2 g (wi g λz=>hg ?_)
   show(if g=f then ZA u else mA g)=ZB
   rw[if_neg q];exact z
def Inv.made(I:Inv X ol σ H s):Inv X ol σ (upd (upd H s.heap.objs.size (.own (s.heap.objs.size+1))) (s.heap.objs.size+1) (.ins C s.heap.objs.size []))
  {s with heap:=(s.heap.push Pp).push (P2 C s.heap.objs.size)}:=by
 have e1:(s.heap.push Pp).get? s.heap.objs.size=ZA Pp:=Oc s.heap rfl
 have e2:((s.heap.push Pp).push (P2 C s.heap.objs.size)).get? (s.heap.objs.size+1)=ZA (P2 C s.heap.objs.size):=by
  have:=Oc (s.heap.push Pp) (o:=P2 C s.heap.objs.size) rfl
  rwa [Qj]at this
 have e3:(s.heap.push Pp).Ns s.heap.objs.size (λ_=>ZB):=⟨Pp,#[],_,e1,rfl,(λe he=>absurd he (by simp)),λ_=>rfl⟩
 have I1:=I.laid (a:=s.heap.objs.size) (o:=.own (s.heap.objs.size+1)) (h':=s.heap.push Pp) (t':=s.toks) (λb u q=>NX _ q) (N4 _) ⟨_,e1⟩
 refine I1.laid (a:=s.heap.objs.size+1) (o:=.ins C s.heap.objs.size []) (t':=s.toks) (λb u q=>NX _ q) (RB (Qj _ _)) ?_
 have ne:s.heap.objs.size≠s.heap.objs.size+1:=Pk (SD _);refine⟨by rw[aB ne,aG],Qk _,ne,e2,λ_=>ZB,(Heap.Ns1.of_empty e3).at λo q=>NX _ q,λ_=>Qq,λy hy=>absurd rfl hy⟩
def G1{env:Env}(hb:Os e f env (eval e env)=eval e env)
  (h:ZJ (ZK prog w) A (eval e env) (λo s₁=>ZJ (ZK prog w) A (getAttr o f ZC) Q E s₁) E s):ZJ (ZK prog w) A (eval (.Attribute e f pos) env) Q E s:=
 Attribute_any_ h (by rw[arm_eval_Attribute,hb])
end
def tFld(K:NK)(ta:TE)(f:Str):TE:=λσ H Q=>ta σ H λx H1=>∃a C dx fs v,x=.ref a/\H1 a=ZA (.ins C dx fs)/\Cls K C/\NoAttr K C f/\fs.lookup f=ZA v/\Q v H1
def sFld(K:NK)(ta tv:TE)(f:Str):TS:=λD σ H=>tv σ H λy H1=>ta σ H1 λx H2=>∃a C dx fs,x=.ref a/\H2 a=ZA (.ins C dx fs)/\Cls K C/\NoAttr K C f/\fs.length<1000 ∧
 D.nx σ (upd H2 a (.ins C dx (putF f y fs)))
section
variable {o value:ZG}{tpos:Pos}{tv:TE}
def x9(he:PE X e ta)(hb:Os e f X.env (eval e X.env)=eval e X.env):PE X (.Attribute e f pos) (tFld X.K ta f):=by
 intro ol s σ H Q I h;refine G1 hb (bS (he ol s σ H _ I h) λu s1 hh_=>?_)
 obtain⟨x,H1,I1,rx,a,C,dx,fs,v,ex,ea,c,n,l,q⟩:=hh_;subst ex;obtain rfl:u=N3 a:=rx;exact yG I1 ea c n l λu' s2 I2 ru=>⟨v,H1,I2,ru,q⟩
def IW(ha:PE X o ta)(hv:PE X value tv)(hs:OW value (ZA (.Attribute o f pos')) pos.line X.env=pure ZD):PS X (.Assign [.Attribute o f pos'] value pos) (sFld X.K ta tv f):=by
 intro ol s σ H D I h;refine plainObj_wpAny_Assign_Attribute (bS (hv ol s σ H _ I h) λu s1 ⟨y,H1,I1,ry,q⟩=>bS (ha ol s1 σ H1 _ I1 q) λov s2 ⟨x,H2,I2,rx,a,C,dx,fs,ex,ea,c,n,l,q2⟩=>?_) hs
 subst ex;obtain rfl:ov=N3 a:=rx;exact xS I2 ea c n l ry λs3 I3=>⟨σ,_,I3,q2⟩
end
section
variable {c:NM}
inductive nj (K:NK) (H:Hp):V->NM->Prop where
 |non:nj K H .non (.type "NoneType")
 |bl (x:Bool):nj K H (.bl x) (.type "bool")
 |int (i:Int):nj K H (.int i) (.type "int")
 |str (x:Str):nj K H (.str x) (.type "str")
 |flt (x:UInt64):nj K H (.flt x) (.type "float")
 |lst {a:ZE} {xs:List V} (e:H a=ZA (.lst xs)):nj K H (.ref a) (.type "list")
 |frz {a:ZE} {o:Obj} {xs:List V} (e:H a=ZA (.frz o (.lst xs))):nj K H (.ref a) (.type "list")
 |tup {a:ZE} {xs:List V} (e:H a=ZA (.tup xs)):nj K H (.ref a) (.type "tuple")
 |dK {a:ZE} {kvs:List (Key×V)} (e:H a=ZA (.dK kvs)):nj K H (.ref a) (.type "dict")
 |dT {a:ZE} {kvs:List (List Key×V)} (e:H a=ZA (.dT kvs)):nj K H (.ref a) (.type "dict")
 |ins {a C dx:ZE} {fs:List (Str×V)} (e:H a=ZA (.ins C dx fs)) (cl:Cls K C) (ha:PK K (.ref C) "__class__" =ZA (ZA (.builtin "object.__class__")))
   (hn:PySem.W.specialIn K (.builtin "object.__class__") "__get__" =ZA (ZA (.builtin "getset_descriptor.__get__"))) (htk:PySem.W.takesIn K (.builtin "object.__class__")=ZA ZC)
   (hm:PySem.W.mroIn K C (.type "object")=ZA ZC):nj K H (.ref a) (.ref C)
def AX{x:V}{u t:NM}(I:Inv X ol σ H s)(rx:RelV x u)(ty:nj X.K H x t)(e:PySem.W.kitOne X.K t c=ZA b)(h:∀tk,Q (.bool b) {s with toks:=tk}):
  ZJ (ZK X.prog X.w) A (call (.builtin "isinstance") [u,c]) Q E s:=by
 cases ty with
 |non=>cases (show u=Oz from rx);exact Pn PySem.W.kitx_none I.kIn Qq e (λz=>nomatch z) h
 |bl y=>cases (show u=ON y from rx);exact Pn PySem.W.kitx_bool I.kIn Qq e (λz=>nomatch z) h
 |int i=>obtain⟨t,q⟩:=(show ∃t,u=Pz i t from rx);cases q;exact Pn PySem.W.kitx_int I.kIn Qq e (λz=>nomatch z) h
 |str y=>obtain⟨t,q⟩:=(show ∃t,u=PB y t from rx);cases q;exact Pn PySem.W.kitx_str I.kIn Qq e (λz=>nomatch z) h
 |flt y=>obtain⟨t,q⟩:=(show ∃t,u=U3 y t from rx);cases q;exact Pn PySem.W.kitx_float I.kIn Qq e (λz=>nomatch z) h
 |@lst a xs ea=>
  cases (show u=N3 a from rx)
  obtain⟨_,_,n,_,h1⟩:=(show ObjOk X.prog X.w H s.heap a (.lst xs)from I.hok a _ ea)
  exact Pn Ui I.kIn ⟨_,h1,rfl⟩ e (λz=>nomatch z) h
 |@frz a ob xs ea=>
  cases (show u=N3 a from rx)
  obtain⟨_,_,_,n,_,h1⟩:=(show ObjOk X.prog X.w H s.heap a (.frz ob (.lst xs))from I.hok a _ ea)
  exact Pn Ui I.kIn ⟨_,h1,rfl⟩ e (λz=>nomatch z) h
 |@tup a xs ea=>
  cases (show u=N3 a from rx)
  obtain⟨_,_,_,p⟩:=(show ObjOk X.prog X.w H s.heap a (.tup xs)from I.hok a _ ea)
  obtain⟨o,h1,h2,_⟩:=p
  exact Pn PySem.W.kitx_tuple I.kIn ⟨o,h1,h2⟩ e (λz=>nomatch z) h
 |@dK a kvs ea=>
  cases (show u=N3 a from rx)
  obtain⟨_,_,vs,_,p⟩:=(show ObjOk X.prog X.w H s.heap a (.dK kvs)from I.hok a _ ea)
  obtain⟨o,es,ep,h1,h2,_⟩:=p
  exact Pn Uj I.kIn ⟨o,h1,h2.1⟩ e (λz=>nomatch z) h
 |@dT a kvs ea=>
  cases (show u=N3 a from rx)
  obtain⟨_,_,xs,_,o,es,ep,h1,h2,_⟩:=(show ObjOk X.prog X.w H s.heap a (.dT kvs)from I.hok a _ ea)
  exact Pn Uj I.kIn ⟨o,h1,h2.1⟩ e (λz=>nomatch z) h
 |@ins a C dx fs ea cl ha hn htk hm=>
  cases (show u=N3 a from rx)
  obtain⟨mA,O,_⟩:=oB I.hok ea;obtain⟨od,J,_⟩:=O.look;exact Pn (PySem.W.kitx_own (cl.get _) cl.hd ha hn htk hm) I.kIn J e (λz=>nomatch z) h
end
structure Room (k:Nat)(A:Ou):Prop where
 hd:A.handled=ZB
 dp:A.depth+3*k+5<Q5
 un:A.units+16*k+200<cLine
def Room.mono{j:Nat}(r:Room k A)(h:j<=k):Room j A:=⟨r.hd,by have:=r.dp;omega,by have:=r.un;omega⟩
def Room.deeper(r:Room (k+1) A)(env:Env):Room k (A.deeper env):=
 ⟨r.hd,by have:=r.dp;show A.depth+1+3*k+5<_;omega,by have:=r.un;show A.units+3+16*k+200<_;omega⟩
def ym:(A.under (.builtin "type.__call__" ⟨.ref C::us,kw⟩)).depth=A.depth+1:=by
 first|rfl|simp[UB,Code.weight,Code.isCreation,Code.isGuard,Code.isCaller,Code.frames,UC,guardIds]
def yk:(A.under (.builtin "type.__call__" ⟨.ref C::us,kw⟩)).units=A.units+1:=by
 first|rfl|simp[UB,Code.cUnits,Code.frames,UC]
def Room.make(r:Room (k+1) A)(C:ZE)(us:List NM)(kw:List (Str×NM)):Room k (A.under (.builtin "type.__call__" ⟨.ref C::us,kw⟩)):=
 ⟨r.hd,by have:=r.dp;rw[ym];omega,by have:=r.un;rw[yk];omega⟩
def Room.depth(r:Room k A):A.depth<Q5:=by have:=r.dp;omega
def vB:TA:=λ_ H Q=>Q [] H
def hV(ta:TE)(tr:TA):TA:=λσ H Q=>ta σ H λx H1=>tr σ H1 λxs H2=>Q (x::xs) H2
section
variable {t:TA}
def dH:PA X [] vB:=λ_ _ _ _ H Q I h=>Rt ⟨[],H,I,.nil,h⟩
def bq(ha:PE X e te)(hr:PA X es t)(hs:NY (e::es) X.env=(ZD,eval e X.env)::NY es X.env:=by rfl):PA X (e::es) (hV te t):=by
 intro pos ol s σ H Q I h;rw[hs]
 show ZJ _ _ (spliced ((ZD,eval e X.env)::backTo pos (NY es X.env))) _ _ s
 refine Rj (bS (ha ol s σ H _ I h) λu s1 hh_=>?_)
 obtain⟨x,H1,I1,r1,q1⟩:=hh_;exact bS (hr pos ol s1 σ H1 _ I1 q1) λus s2 ⟨xs,H2,I2,r2,q2⟩=>⟨x::xs,H2,I2,.cons r1 r2,q2⟩
def Fb(t:TA):TE:=λσ H Q=>t σ H λxs H1=>xs.length<=ZI/\∀p,H1 p=ZB->Q (.ref p) (upd H1 p (.tup xs))
def tLst(t:TA):TE:=λσ H Q=>t σ H λxs H1=>xs.length<=ZI/\∀p,H1 p=ZB->Q (.ref p) (upd H1 p (.lst xs))
def tT{x1}(h:PA X es t):PE X (.Tuple es x1 pos) (Fb t):=by
 intro ol s σ H Q I hq;refine wpAny_Tuple_spliced (bS (h pos ol s σ H _ I hq) λus s1 ⟨xs,H1,I1,r,z,q⟩=>⟨by rw[<-r.length];exact z,?_⟩)
 have hf:H1 s1.heap.objs.size=ZB:=I1.hok.fresh (N4 _);refine⟨.ref s1.heap.objs.size,upd H1 s1.heap.objs.size (.tup xs),I1.laid (t':=s1.toks) (λb u e=>NX _ e) (N4 _) ?_,rfl,q _ hf⟩
 exact⟨z,us,r,⟨_,Oc _ rfl,rfl,_,rfl⟩⟩
def x8(h:PA X es t):PE X (.List es pos) (tLst t):=by
 intro ol s σ H Q I hq;refine T8 (bS (h pos ol s σ H _ I hq) λus s1 ⟨xs,H1,I1,r,z,q⟩=>⟨by rw[<-r.length];exact z,?_⟩)
 have hf:H1 s1.heap.objs.size=ZB:=I1.hok.fresh (N4 _);refine⟨.ref s1.heap.objs.size,upd H1 s1.heap.objs.size (.lst xs),I1.laid (t':=s1.toks) (λb u e=>NX _ e) (N4 _) ?_,rfl,q _ hf⟩
 exact⟨z,us,0,r,Oc _ rfl⟩
end
abbrev Sp:=List V->Hp->VK->XK->Prop
abbrev Bu:=List Env->Hp->NQ->XK->V1
structure Env0 (P:Oa)(w:O0)(K:NK)(mg:V0)(base:ZH)(A:Ou)(outer:List Env)(s:NQ)(H:Hp):Prop where
 frames:A.frames=ZA outer
 mod:Mod K mg base
 bs:∀b o,base.get? b=ZA o->s.heap.get? b=ZA o/\H b=ZB
 bsz:base.objs.size<=s.heap.objs.size
 funs:s.heap.FunFrames base outer
 frf:∀b∈m9 outer,H b=ZB
 hok:HOk P w H s.heap
 bare:SB s.gens
def CE(outer:List Env)(P:Oa)(w:O0)(H:Hp)(s:NQ)(Q:VK)(u:NM)(s':NQ):Prop:=
 ∃v H',s'.os=s.os/\SB s'.gens/\Un (m9 outer) [] H H' s.heap s'.heap/\HOk P w H' s'.heap/\RelV v u/\Q v H'
def CR(CX:Bu)(outer:List Env)(P:Oa)(w:O0)(H:Hp)(s:NQ)(Q:VK)(E:XK)(r:To)(s':NQ):Prop:=
 match r with
 |.ok (.ret u)=>CE outer P w H s Q u s'
 |.ok _=>False
 |.error e=>CX outer H s E e s'
structure FnOk (P:Oa)(w:O0)(K:NK)(mg:V0)(base:ZH)(CX:Bu)(k:Nat)(f:ZE)(fd:Ox)(ps:List Str)(sp:Sp):Prop where
 len:∀vs H Q E,sp vs H Q E->vs.length=ps.length
 run:∀(A:Ou)(outer:List Env)(s:NQ)(H:Hp)(args:Args)(us:List NM)(vs:List V)(Q:VK)(E:XK),Room k A->Env0 P w K mg base A outer s H->Sb s fd args (ps.zip us)->Vals vs us->sp vs H Q E →
  ZL (ZK P w) A (.call (.ref f) args) (CR CX outer P w H s Q E) s
theorem FnOk.mono{P:Oa}{w:O0}{K:NK}{mg:V0}{base:ZH}{CX:Bu}{j k:Nat}{f:ZE}{fd:Ox}{ps:List Str}{sp:Sp}(F:FnOk P w K mg base CX j f fd ps sp)(h:j<=k):
  FnOk P w K mg base CX k f fd ps sp:=⟨F.len,λA outer s H args us vs Q E hr=>F.run A outer s H args us vs Q E (hr.mono h)⟩
variable{CX:Bu}{f:ZE}{fd:Ox}{mg:V0}{ps:List Str}{sp:Sp}
def FnOk.imp{base:ZH}{sp':Sp}(F:FnOk P w K mg base CX k f fd ps sp)
  (h:∀vs H Q E,sp' vs H Q E->sp vs H Q E):FnOk P w K mg base CX k f fd ps sp':=
 ⟨λvs H Q E q=>F.len vs H Q E (h _ _ _ _ q),λA outer s H args us vs Q E hr he hb hv hs=>F.run A outer s H args us vs Q E hr he hb hv (h _ _ _ _ hs)⟩
variable{outer:List Env}
def Env0.make{base:ZH}(e:Env0 P w K mg base A outer s H)(C:ZE)(us:List NM)(kw:List (Str×NM)):
  Env0 P w K mg base (A.under (.builtin "type.__call__" ⟨.ref C::us,kw⟩)) outer s H:=⟨by first|exact e.frames| (simpa [UB,Code.envs,UC,pushEnvs]using e.frames),e.mod,e.bs,e.bsz,e.funs,e.frf,e.hok,e.bare⟩
variable{Q:VK}
def Inv.Nc(I:Inv X ol σ H s):Env0 X.prog X.w X.K X.mg X.base X.A X.stack s H:=
 ⟨I.ok.frames,I.ok.mod,I.bs,OJ I.ok.bsz I.sz,I.stack,I.KM,I.hok,I.bare⟩
def Inv.after{u:NM}(I:Inv X ol σ H s)(h:CE X.stack X.prog X.w H s Q u s'):EP X ol σ Q u s':=by
 obtain⟨v,H',os,bare,un,hok,r,q⟩:=h;obtain⟨hh,g,d,t,os'⟩:=s';obtain rfl:os'=s.os:=os;exact⟨v,H',I.call (h':=hh) (g':=g) (d':=d) (t':=t) (ch:=[]) un hok bare (λb z=>absurd z (by simp)),r,q⟩
def KZ(sp:Sp)(dvs:List V)(E:XK)(t:TA):TE:=λσ H Q=>t σ H λvs H1=>sp (vs++dvs) H1 Q E
def Binds(K:NK)(fd:Ox)(ps:List Str)(ds:List NM):Prop:=
 ∀(s:NQ)(us:List NM),K.In s.heap->(us++ds).length=ps.length->Sb s fd ⟨us,[]⟩ (ps.zip (us++ds))
def Binds.all(h:∀us:List NM,us.length=ps.length->U0 fd ⟨us,[]⟩=pure (ps.zip us)):Binds K fd ps []:=λs us _ hl=>by
 rw[Ol]at hl ⊢;exact .of_eq (h us hl)
def yV(CX:Bu)(X:Cx)(E:XK):Prop:=∀(ol:V2)(σ:St)(H:Hp)(s:NQ)(e:NM)(s':NQ),Inv X ol σ H s->CX X.stack H s E e s'->X.xe e s'
variable{E:XK}{vs:List V}
section
variable {dvs:List V}{ds:List NM}{p apos:Pos}{o:ZG}{t:TA}
def tJ(F:FnOk X.prog X.w X.K X.mg X.base CX k f fd ps sp)(hr:Room k X.A)(hb:Binds X.K fd ps ds)(hd:Vals dvs ds)(hx:yV CX X E)
  (I:Inv X ol σ H s) (r:Vals vs us) (h:sp (vs++dvs) H Q E):ZJ (ZK X.prog X.w) X.A (call (.ref f) us) (EP X ol σ Q) X.xe s:=by
 have r2:Vals (vs++dvs) (us++ds):=r.append hd
 have hl:(us++ds).length=ps.length:=by rw[<-r2.length];exact F.len _ _ _ _ h
 refine Ru (Qe (F.run X.A X.stack s H ⟨us,[]⟩ (us++ds) (vs++dvs) Q E hr I.Nc (hb s us I.kIn hl) r2 h) λr s' hq=>?_)
 cases r with
 |error e=>exact hx ol σ H s e s' I hq
 |ok fl=>
  cases fl with
  |ret u=>exact I.after hq
  |next=>exact P9 hq
  |brk=>exact P9 hq
  |cont=>exact P9 hq
def zq(F:FnOk X.prog X.w X.K X.mg X.base CX k f fd ps sp)(hr:Room k X.A)(hg:Gl X x)(hm:X.mg x=ZA (.ref f))(hk:PL X.K (.ref f)=ZC)(hb:Binds X.K fd ps ds)(hd:Vals dvs ds)(hx:yV CX X E)
  (ha:PA X (e::es) t) (hdb:eO x:=by decide) (he:NY (e::es) X.env=(ZD,eval e X.env)::NY es X.env:=by rfl) (hpl:(backTo pos (NY es X.env)).any (·.1)=ZD:=by rfl):
  PE X (.Call (.Name x p) (e::es) [] pos) (KZ sp dvs E t):=by
 intro ol s σ H Q I h;refine OG (fS I hg hm ?_ hdb)
 refine PP (h₀:=X.base) I.ok.mod.kin hk (bS (ha pos ol s σ H _ I h) λus s1 ⟨vs,H1,I1,r,q⟩=>⟨I1.kIn,?_⟩) he hpl
 exact tJ F hr hb hd hx I1 r q
structure Mk (K:NK)(C f:ZE):Prop where
 makes:U1 K C=ZC
 init:PK K (.ref C) "__init__" =ZA (ZA (.ref f))
 fn:Uz K (.ref f)=ZC
 kp:PL K (.ref C)=ZC
end
structure aA (N P:List Str)(sc:Q8):Prop where
 kind:sc.kind=.function
 co:sc.isCoroutine=ZD
 gen:sc.isGenerator=ZD
 nd:N.Nodup
 pre:N.take P.length=P
 par:∀x∈P,sc.names.lookup x=ZA .local\/sc.names.lookup x=ZA .cell
 nofree:∀y∈sc.names,y.2≠ .free
theorem sC{kindOf:Str->Option QY}{x:Str}:∀{binds:List (Str×NM)}{m:V0},(∀v,(x,v)∉binds)->bindL kindOf binds m x=m x
 |[],_,_=>rfl
 | (n,v)::r,m,h=>by
  unfold bindL;rw[sC λw hw=>h w (NL _ hw)]
  split
  ·have:x≠n:=by rintro rfl;exact h v NP
   simp[this]
  ·rfl
theorem sH{kindOf:Str->Option QY}{x:Str}:∀{binds:List (Str×NM)}{m:V0},(∀v,(x,v)∉binds)->bindC kindOf binds m x=m x
 |[],_,_=>rfl
 | (n,v)::r,m,h=>by
  unfold bindC;rw[sH λw hw=>h w (NL _ hw)]
  split
  ·rfl
  ·have:x≠n:=by rintro rfl;exact h v NP
   simp[this]
theorem sG{kindOf:Str->Option QY}{x:Str}{v:NM}:∀{P:List Str}{vs:List NM}{i:Nat}{m:V0},P.Nodup->P[i]?=ZA x->vs[i]?=ZA v->kindOf x=ZA .local →
  bindL kindOf (P.zip vs) m x=ZA v
 |[],_,_,_,_,h,_,_=>by simp at h
 |_::_,[],_,_,_,_,h,_=>by simp at h
 |p::P,w::vs,0,m,nd,h1,h2,hk=>by
  simp at h1 h2;subst h1;subst h2
  show bindL kindOf ((p,w)::P.zip vs) m p=_
  unfold bindL;rw[sC λv hv=>(Og.mp nd).1 (QD hv).1,if_pos hk]
  simp
 |p::P,w::vs,i+1,m,nd,h1,h2,hk=>by
  show bindL kindOf ((p,w)::P.zip vs) m x=_
  unfold bindL;exact sG (i:=i) (Og.mp nd).2 (by simpa using h1) (by simpa using h2) hk
theorem sI{kindOf:Str->Option QY}{x:Str}{v:NM}:∀{P:List Str}{vs:List NM}{i:Nat}{m:V0},P.Nodup->P[i]?=ZA x->vs[i]?=ZA v->kindOf x≠ZA .local →
  bindC kindOf (P.zip vs) m x=ZA v
 |[],_,_,_,_,h,_,_=>by simp at h
 |_::_,[],_,_,_,_,h,_=>by simp at h
 |p::P,w::vs,0,m,nd,h1,h2,hk=>by
  simp at h1 h2;subst h1;subst h2
  show bindC kindOf ((p,w)::P.zip vs) m p=_
  unfold bindC;rw[sH λv hv=>(Og.mp nd).1 (QD hv).1,if_neg hk]
  simp
 |p::P,w::vs,i+1,m,nd,h1,h2,hk=>by
  show bindC kindOf ((p,w)::P.zip vs) m x=_
  unfold bindC;exact sI (i:=i) (Og.mp nd).2 (by simpa using h1) (by simpa using h2) hk
def start(N:List Str)(vs:List V):St:=vs.map ZA++Ob (N.length - vs.length) ZB
noncomputable def gp(CX:Bu)(P:Oa)(w:O0)(K:NK)(mg:V0)(base:ZH)(N:List Str)(qual:Str)(scope:Q8)(f:ZE)(cd:NM)(A:Ou)(outer:List Env)(s:NQ)(H:Hp)(E:XK):Cx where
 prog:=P
 w:=w
 K:=K
 mg:=mg
 base:=base
 A:=A.deeper (envOfC qual scope s.heap.objs.size f cd)
 N:=N
 s₀:=s
 H₀:=H
 env:=envOfC qual scope s.heap.objs.size f cd
 outer:=outer
 stack:=envOfC qual scope s.heap.objs.size f cd::outer
 ex:=[]
 calm:=ZC
 fn:=λ_=>ZC
 pn:=[]
 xe:=λe s'=>ZJ (ZK P w) (A.deeper (envOfC qual scope s.heap.objs.size f cd)) (leaving (envOfC qual scope s.heap.objs.size f cd) e) (λ_ s''=>CX outer H s E e s'') (λe' s''=>CX outer H s E e' s'') s'
def xn{sc:Q8}(h:sc.names.lookup x=ZA .cell):∃c,(P4 n sc.names []).lookup x=ZA c:=by
 have q:=P6 sc.names n [] (.inl h);exact Re.mp q
variable{qual:Str}{scope:Q8}
def kG{base:ZH}{cd:NM}{s1:NQ}
  (S:aA N ps scope) (hd:A.handled=ZB) (e0:Env0 P w K mg base A outer s H) (hl:vs.length=ps.length) (r:Vals vs us)
  (x:InCallC s s.heap.objs.size (bindL (envOfC qual scope s.heap.objs.size f cd).kindOf (ps.zip us) λ_=>ZB) (P4 (s.heap.objs.size+1) scope.names []) (bindC (envOfC qual scope s.heap.objs.size f cd).kindOf (ps.zip us) λ_=>ZB) s1):
  Inv (gp CX P w K mg base N qual scope f cd A outer s H E) [] (start N vs) H s1:=by
 have hpl:ps.length<=N.length:=by have:=congrArg O7 S.pre;rw[OY]at this;omega
 obtain⟨h1,tk,rfl,hk⟩:=x.done
 have noA:∀b:ZE,b∉(gp CX P w K mg base N qual scope f cd A outer s H E).ex:=λb z=>absurd (show b∈([]:List ZE)from z) (by simp)
 refine⟨⟨e0.mod,S.kind,rfl,rfl,N4 _,λy z c h1 h2=>?_,λy hy=>?_,λy c _ h=>?_,λ_=>hd,Td e0.frames,.inr ⟨rfl,rfl⟩,λb z=>absurd z (noA b),e0.bs,e0.bsz,λb _ _=>noA b,λb z=>absurd z (noA b),e0.funs,e0.frf⟩,
  rfl,e0.bare,Un.kept hk,⟨_,x.toInCall.ns,λi y v h1 h2 h3=>?_⟩,λy c h=>⟨_,x.cell y c h⟩,e0.hok.fresh (N4 _),λy c h=>?_,λp hp=>absurd (show p∈([]:V2)from hp) (by simp),e0.hok.kept hk,?_⟩
 ·exact name_of_addr x.apart (P3 h1) (P3 h2)
 ·have hy:scope.names.lookup y=ZA .cell\/scope.names.lookup y=ZA .free:=hy
  rcases hy with hy|hy
  ·exact xn hy
  ·exact absurd rfl (S.nofree _ (P3 hy))
 ·exact Rc (x.above y c (P3 h))
 ·have hi:i<vs.length:=by
   unfold start at h2
   by_cases hi:i<vs.length
   ·exact hi
   ·rw[Py (by simpa using hi)]at h2
    rw[Ph]at h2
    split at h2 <;> cases h2
  have ha:vs[i]?=ZA v:=by
   unfold start at h2;rw[O9 (by simpa using hi),Oe]at h2
   cases e:vs[i]? with
   |none=>rw[e]at h2;cases h2
   |some a=>rw[e]at h2;cases h2;rfl
  obtain⟨u,hu,rv⟩:=r.get ha
  have hp:ps[i]?=ZA y:=by
   rw[<-S.pre,List.getElem?_take_of_lt (by omega)];exact h1
  have ndP:ps.Nodup:=by rw[<-S.pre];exact S.nd.sublist (List.take_sublist _ _)
  refine⟨u,rv,?_⟩
  rcases S.par y (Qo hp)with k|k
  ·exact .inl ⟨k,sG ndP hp hu k⟩
  ·obtain⟨c,e⟩:=xn (n:=s.heap.objs.size+1) k
   refine .inr ⟨.inl k,c,e,?_⟩
   have q:=x.cell y c e;rw[sI ndP hp hu (by show scope.names.lookup y≠_;rw[k];decide)]at q
   exact q
 ·exact e0.hok.fresh (Rc (x.above y c (P3 h)))
 ·unfold start
  show _=N.length
  rw[NV,NR,List.length_replicate];omega
def Mo{base:ZH}{params:S3}{dV kV doc pm cdv ct oc:NM}{an od:Option ZE}
  {osl:Array (Option NM)}   (lk:K.lookup f=ZA ⟨oc,od,.func (Rx name qual params body scope dV kV doc pm an cdv ct),osl⟩) (hcd:Tj K cdv qual=ZC) (S:aA N ps scope)
  (len:∀vs H Q E,sp vs H Q E->vs.length=ps.length)
  (hbody:∀(A:Ou)(outer:List Env)(s:NQ)(H:Hp)(vs:List V)(Q:VK)(E:XK),Room k (A.deeper (envOfC qual scope s.heap.objs.size f cdv))->sp vs H Q E →
   ∃t,PSs (gp CX P w K mg base N qual scope f cdv A outer s H E) body t/\t {nx:=λ_ H'=>Q .non H',rt:=Q} (start N vs) H):
  FnOk P w K mg base CX (k+1) f (Rx name qual params body scope dV kV doc pm an cdv ct) ps sp:=by
 refine⟨len,λA outer s H args us vs Q E hr e0 hb r hsp=>?_⟩
 have hl:=len _ _ _ _ hsp
 have KX:K.In s.heap:=e0.mod.kin.keeps λb o e=>(e0.bs b o e).1
 have lim:s.heap.NoLimit:=e0.mod.nolimit.keeps λb o e=>(e0.bs b o e).1
 have hkind:∀y∈ps.zip us,scope.names.lookup y.1=ZA .local\/(scope.names.lookup y.1=ZA .cell/\((P4 (s.heap.objs.size+1) scope.names []).lookup y.1).isSome=ZC):=λ⟨n,v⟩ hy=>by
  rcases S.par n (QD hy).1 with q|q
  ·exact .inl q
  ·exact .inr ⟨q,P6 _ _ _ (.inl q)⟩
 refine QL hr.depth (KX _ _ lk) rfl S.co S.gen rfl (Rf KX hcd) (hb _ _ _ _ ?_)
 refine P8 S.kind hkind λenv he s1 x=>?_
 subst he;refine⟨lim.keeps x.toInCall.keep,S5 ?_⟩
 obtain⟨t,ht,hq⟩:=hbody A outer s H vs Q E (hr.deeper _) hsp
 have I:Inv (gp CX P w K mg base N qual scope f cdv A outer s H E) [] (start N vs) H s1:=kG S hr.hd e0 hl r x;refine Pw (ht [] s1 (start N vs) H _ I hq) (λfl s' hs=>?_) λe s' hs=>hs
 have fin:∀{σ':St}{H':Hp}{v:V}{u:NM},Inv (gp CX P w K mg base N qual scope f cdv A outer s H E) [] σ' H' s'->RelV v u->Q v H'->CE outer P w H s Q u s':=
  λ{σ' H' v u} J rv q=>⟨v,H',J.os,J.bare,J.base,J.hok,rv,q⟩
 cases fl with
 |ret u=>
  obtain⟨v,σ',H',J,rv,q⟩:=hs
  exact fin J rv q
 |next=>
  obtain⟨σ',H',J,q⟩:=hs
  exact fin (v:=V.non) (u:=Oz) J rfl q
 |brk=>
  obtain⟨_,_,_,q⟩:=hs
  exact P9 q
 |cont=>
  obtain⟨_,_,_,q⟩:=hs;exact P9 q
end L2
namespace HT
open PySem PyProof.Rows
variable{Q:V1}
section
variable {prog:Oa}{w:O0}{A:Ou}{E:V1}{s:NQ}
def cat_tup{t b:ZE}{vs ws:List NM}(ht:Vm s.heap t vs.toArray)(hb:Vm s.heap b ws.toArray)(hv:vs≠ [])
  (h1:ws=[]->Q (.ref t) s) (h2:ws≠ []->Q (.ref s.heap.objs.size) {s with heap:=s.heap.push {cls:=.type "tuple",data:=.seq (vs++ws).toArray}})
  (hsz:vs.length+ws.length<=ZI):ZJ (ZK prog w) A (PM .Add (.ref t) (.ref b)) Q E s:=by
 obtain⟨⟨cls,dd,data,sl⟩,ho,hc,n,hd⟩:=id ht;obtain⟨⟨cls2,dd2,data2,sl2⟩,ho2,hc2,n2,hd2⟩:=id hb;simp only at hc hd hc2 hd2;subst hc hd hc2 hd2
 have e:vs.toArray++ws.toArray=(vs++ws).toArray:=by simp
 by_cases hw:ws=[]
 ·exact UK ⟨_,ho,rfl⟩ ⟨_,ho2,rfl⟩ SH T9 Rp Rg (Q9 _ _)
   (tuple_addW1 t b vs.toArray ws.toArray n n2 dd dd2 sl sl2 (by simpa using hv) (by simp[hw])) ⟨ho,ho2,h1 hw⟩
 ·refine UK ⟨_,ho,rfl⟩ ⟨_,ho2,rfl⟩ SH T9 Rp Rg (Q9 _ _)
   (tuple_addW2 t b vs.toArray ws.toArray n n2 dd dd2 sl sl2 (by simpa using hv) (by simpa using hw) (by rw[N6,N6];exact hsz)) ⟨ho,ho2,?_⟩
  rw[e];exact h2 hw
noncomputable def sIx(n d:Nat):Option Int->Nat
 |none=>d
 |some v=>if v<0 then(v+(n:Int)).toNat else min v.toNat n
def sIx_none(n d:Nat):sIx n d ZB=d:=rfl
def sIx_nat(n d k:Nat):sIx n d (ZA (k:Int))=min k n:=by
 show(if (k:Int)<0 then((k:Int)+(n:Int)).toNat else min (k:Int).toNat n)=min k n
 rw[if_neg (by omega),PD]
def Il(n d:Nat)(hd:d<=n)(o:Option Int):sIx n d o<=n:=by
 cases o with
 |none=>exact hd
 |some v=>
  show(if v<0 then(v+(n:Int)).toNat else min v.toNat n)<=n
  by_cases hv:v<0
  ·rw[if_pos hv];omega
  ·rw[if_neg hv];exact Nat.min_le_right _ _
def Ab(v:Int)(n d:Nat):(if v<0 then max (v+(n:Int)) 0 else min v (n:Int))=((sIx n d (ZA v):Nat):Int):=by
 show(if v<0 then max (v+(n:Int)) 0 else min v (n:Int))=(((if v<0 then(v+(n:Int)).toNat else min v.toNat n):Nat):Int)
 by_cases hv:v<0
 ·simp only[if_pos hv];omega
 ·simp only[if_neg hv];omega
def yT(lo hi:Option Int)(n:Nat):Q2 lo hi 1 (n:Int)=(((sIx n 0 lo:Nat):Int),((sIx n n hi:Nat):Int)):=by
 have h1:¬ ((1:Int)<0):=by omega
 unfold Q2;simp only[h1,if_false];refine Prod.ext ?_ ?_
 ·cases lo with
  |none=>rfl
  |some v=>exact Ab v n 0
 ·cases hi with
  |none=>rfl
  |some v=>exact Ab v n n
def x6(i j:Nat):Qh (i:Int) (j:Int) 1=j - i:=by
 unfold Qh
 have h1:(1:Int) > 0:=by omega
 simp only[h1,if_true,Int.ediv_one]
 split <;> omega
def oY{v:NM}{o:Option Int}{Q:Option Int->NQ->Prop}(p:Ua v o)(h:Q o s):ZJ (ZK prog w) A (UZ v) Q E s:=by
 cases p with
 |none=>exact slicePart_none h
 |int i t=>exact slicePart_int h
def iM{sl:ZE}{vl vu:NM}{lo hi:Option Int}{n:Nat}{Q:Int×Int×Nat->NQ->Prop}(hs:s.heap.IsSliceOf sl vl vu .none)(pl:Ua vl lo)(pu:Ua vu hi)
  (h:Q (((sIx n 0 lo:Nat):Int),1,sIx n n hi - sIx n 0 lo) s):ZJ (ZK prog w) A (RX (.ref sl) (pure (n:Int))) Q E s:=by
 obtain⟨os,hos,hcs,hds⟩:=id hs;unfold RX Builtin.Slice.sliceFields;refine NS (NS (Qn hos hds (x:=vl) rfl (NS (Qn hos hds (x:=vu) rfl (NS (Qn hos hds (x:=.none) rfl (N5 ?_)))))))
 refine NS (slicePart_none ?_)
 show ZJ _ _ (if ((1:Int) == 0)=ZC then _ else _) _ _ s
 rw[if_neg (by decide)]
 refine NS (oY pl (NS (oY pu (NS (N5 ?_)))))
 show ZJ _ _ (match Q2 lo hi 1 (n:Int)with| (lo,hi)=>pure (lo,(1:Int),Qh lo hi 1)) _ _ s
 rw[yT lo hi n]
 show ZJ _ _ (pure (((sIx n 0 lo:Nat):Int),(1:Int),Qh ((sIx n 0 lo:Nat):Int) ((sIx n n hi:Nat):Int) 1)) _ _ s
 rw[x6];exact N5 h
def Cz(xs:Array NM)(i k:Nat):((OI k).filterMap λ(m:Nat)=>xs[((i:Int)+(m:Int)*1).toNat]?).toArray=((xs.toList.drop i).take k).toArray:=by
 have e:(λ(m:Nat)=>xs[((i:Int)+(m:Int)*1).toNat]?)=λm=>xs[i+m]?:=by
  funext m
  have:((i:Int)+(m:Int)*1).toNat=i+m:=by omega
  rw[this]
 rw[e]
 have:=pick_run xs i k;rw[List.filterMap_map]at this
 have e2:((λx=>xs[x]?)∘λx=>i+x)=λm=>xs[i+m]?:=rfl
 rw[e2]at this;rw[this]
def getItem_tuple_cut{t sl:ZE}{items:Array NM}{vl vu:NM}{lo hi:Option Int}(ht:Vm s.heap t items)(hs:s.heap.IsSliceOf sl vl vu .none)(pl:Ua vl lo)(pu:Ua vu hi)
  (hw:¬ (sIx items.size 0 lo=0/\sIx items.size items.size hi=items.size))
  (h:Q (.ref s.heap.objs.size) {s with heap:=s.heap.push {cls:=.type "tuple",data:=.seq ((items.toList.drop (sIx items.size 0 lo)).take (sIx items.size items.size hi - sIx items.size 0 lo)).toArray}})
  (hsz:items.size<=ZI):ZJ (ZK prog w) A (getItem (.ref t) (.ref sl)) Q E s:=by
 have htake:sizeOk (.seq ((items.toList.drop (sIx items.size 0 lo)).take (sIx items.size items.size hi - sIx items.size 0 lo)).toArray):=by
  show((items.toList.drop (sIx items.size 0 lo)).take (sIx items.size items.size hi - sIx items.size 0 lo)).toArray.size<=ZI
  rw[N6,OY,Qx,Pd];omega
 have hj:sIx items.size items.size hi<=items.size:=Il _ _ (N4 _) hi;obtain⟨os,hos,hcs,hds⟩:=id hs
 have hTs:s.TypeIs (.ref sl) "slice":=⟨os,hos,hcs⟩;unfold getItem
 try with_reducible refine SC ?_
 first|refine NS (N5 ?_)|skip
 refine NS (Uw ht.typeIs (by decide) ?_)
 refine NS (PX (name:=N7 "__getitem__") ht.typeIs OZ
  (Q7 OZ ht.typeIs TH ?_ (Ub _ _)))
 show ZJ _ _ (RY (.ref t) >>= _) _ _ s
 refine NS (Uc ht ?_)
 refine NS (R8 hTs ?_)
 rw[if_pos (by decide)]
 refine NS (iM hs pl pu ?_)
 have hno:¬ ((((sIx items.size 0 lo:Nat):Int) == 0&&(1:Int) == 1&&(sIx items.size items.size hi - sIx items.size 0 lo) == items.size)=ZC):=by
  intro q;rw[NN,NN]at q
  have q1:((sIx items.size 0 lo:Nat):Int)=0:=eq_of_beq q.1.1
  have q2:sIx items.size items.size hi - sIx items.size 0 lo=items.size:=eq_of_beq q.2;exact hw ⟨by omega,by omega⟩
 show ZJ _ _ (if (((sIx items.size 0 lo:Nat):Int) == 0&&(1:Int) == 1&&(sIx items.size items.size hi - sIx items.size 0 lo) == items.size)=ZC then _ else _) _ _ s
 rw[if_neg hno,Cz]
 first
  |exact NS (m:=PQ _) (PJ (N5 ⟨_,rfl,N5 h⟩) htake)
  |exact NS (m:=PQ _) (PJ (NS (N5 (N5 ⟨_,rfl,N5 h⟩))) htake)
  |exact NS (NS (m:=PQ _) (PJ (N5 (N5 ⟨_,rfl,N5 h⟩)) htake))
  |exact NS (NS (m:=PQ _) (PJ (N5 ⟨_,rfl,N5 h⟩) htake))
end
end HT
namespace L2
open PySem PySem.Spec PyProof.Rows
abbrev TO:=St->Hp->(Option Int->Hp->Prop)->Prop
def PO(X:Cx)(e:Option ZG)(t:TO):Prop:=
 ∀(ol:V2)(s:NQ)(σ:St)(H:Hp)(Q:Option Int->Hp->Prop),Inv X ol σ H s->t σ H Q →
  ZJ (ZK X.prog X.w) X.A (evalPart e X.env) (λu s'=>∃o H',Inv X ol σ H' s'/\Ua u o/\Q o H') X.xe s
def Fc:TO:=λ_ H Q=>Q ZB H
def KP(t:TE):TO:=λσ H Q=>t σ H λx H1=>∃i,x=.int i/\Q (ZA i) H1
def yD{ns:List Int}:∀{us:List NM},Vals (ns.map V.int) us->RL us ns:=by
 induction ns with
 |nil=>intro us r;rw[SR]at r;cases r;exact .nil
 |cons n ns ih=>
  intro us r;rw[NO]at r
  cases r with
  |cons r1 r2=>
   obtain⟨t,e⟩:=r1;subst e;exact .cons n t (ih r2)
variable{X:Cx}{e:ZG}{pos:Pos}{r:V->Option Int->Option Int->Hp->VK->Prop}{us:List NM}{xs:List V}
section
variable {te:TE}{lo hi:Option ZG}{tl th:TO}{p2:Pos}
def FW:PO X ZB Fc:=by
 intro ol s σ H Q I h;rw[evalPart_none];exact N5 ⟨ZB,H,I,.none,h⟩
def FV(h:PE X e te):PO X (ZA e) (KP te):=by
 intro ol s σ H Q I hw;rw[evalPart_some];refine bS (h ol s σ H _ I hw) λu s1 hh_=>?_
 obtain⟨x,H1,I1,r1,q1⟩:=hh_;obtain⟨i,rfl,q⟩:=q1;obtain⟨t,rfl⟩:=r1;exact⟨ZA i,H1,I1,.int i t,q⟩
def SlR(X:Cx)(r:V->Option Int->Option Int->Hp->VK->Prop):Prop:=
 ∀(ol:V2)(s:NQ)(σ:St)(H:Hp)(x:V)(v vl vu:NM)(lo hi:Option Int)(sl:ZE)(Q:VK),Inv X ol σ H s->RelV x v->s.heap.IsSliceOf sl vl vu .none->Ua vl lo->Ua vu hi->r x lo hi H Q →
  ∃T id,Rv (.type T) "__getitem__" =pure (ZA (.builtin id))/\s.TypeIs v T/\ZJ (ZK X.prog X.w) X.A (getItem v (.ref sl)) (EP X ol σ Q) X.xe s
def SlR.or{r':V->Option Int->Option Int->Hp->VK->Prop}(h:SlR X r)(h':SlR X r'):SlR X (λx lo hi H Q=>r x lo hi H Q\/r' x lo hi H Q):=by
 intro ol s σ H x v vl vu lo hi sl Q I rx hs pl pu q;rcases q with q|q
 ·exact h ol s σ H x v vl vu lo hi sl Q I rx hs pl pu q
 ·exact h' ol s σ H x v vl vu lo hi sl Q I rx hs pl pu q
def tSl(r:V->Option Int->Option Int->Hp->VK->Prop)(te:TE)(tl th:TO):TE:=λσ H Q=>te σ H λx H1=>tl σ H1 λl H2=>th σ H2 λu H3=>r x l u H3 Q
def CC(hr:SlR X r)(he:PE X e te)(hl:PO X lo tl)(hu:PO X hi th):PE X (.Subscript e (.Slice lo hi ZB p2) pos) (tSl r te tl th):=by
 intro ol s σ H Q I h;refine Subscript_ (bS (he ol s σ H _ I h) λv s1 hh_=>?_)
 obtain⟨x,H1,I1,r1,q1⟩:=hh_;refine wpAny_Slice (bS (hl ol s1 σ H1 _ I1 q1) λvl s2 ⟨l,H2,I2,pl,q2⟩=>bS (hu ol s2 σ H2 _ I2 q2) λvu s3 hh_=>?_)
 obtain⟨u,H3,I3,pu,q3⟩:=hh_;rw[evalPart_none];refine N5 ?_
 have I4:Inv X ol σ H3 {s3 with heap:=s3.heap.push {cls:=.type "slice",data:=.fields #[vl,vu,.none]}}:=I3.kept (t':=s3.toks) λb ob q=>NX _ q
 obtain⟨T,id,hT,ht,hg⟩:=hr ol {s3 with heap:=s3.heap.push {cls:=.type "slice",data:=.fields #[vl,vu,.none]}} σ H3 x v vl vu l u s3.heap.objs.size Q I4 r1 (Heap.IsSliceOf.new ..) pl pu q3
 show ZJ (ZK X.prog X.w) X.A (Ud e (.Slice lo hi ZB p2) v (.ref s3.heap.objs.size)) (EP X ol σ Q) X.xe {s3 with heap:=s3.heap.push {cls:=.type "slice",data:=.fields #[vl,vu,.none]}}
 exact tail_any (ops:=[.ref s3.heap.objs.size,v]) ht hT hg (by with_unfolding_all rfl)
def xk(xs:List V)(lo hi:Option Int):List V:=(xs.drop (HT.sIx xs.length 0 lo)).take (HT.sIx xs.length xs.length hi - HT.sIx xs.length 0 lo)
def nM(xs:List V)(lo hi:Option Int):(xk xs lo hi).length<=xs.length:=by
 unfold xk;rw[OY,Qx];omega
def rSlT(K:NK):V->Option Int->Option Int->Hp->VK->Prop:=λx lo hi H Q=>∃a xs,x=.ref a/\SqT K H a xs ∧
 ¬(HT.sIx xs.length 0 lo=0/\HT.sIx xs.length xs.length hi=xs.length)/\∀p,H p=ZB->Q (.ref p) (upd H p (.tup (xk xs lo hi)))
def sl_tup:SlR X (rSlT X.K):=by
 intro ol s σ H x v vl vu lo hi sl Q I rx hs pl pu h;obtain⟨a,xs,rfl,hx,hw,q⟩:=h;cases rx;obtain⟨its,r,ht,hz⟩:=I.tuple hx
 have hlen:its.toArray.size=xs.length:=by rw[N6];exact r.length.symm
 refine⟨"tuple",_,OZ.lookup,ht.typeIs,?_⟩
 refine HT.getItem_tuple_cut ht hs pl pu (by rw[hlen];exact hw) ?_ (by rw[hlen];exact hz)
 rw[hlen];refine⟨.ref s.heap.objs.size,_,I.laid (t':=s.toks) (o:=.tup (xk xs lo hi)) (λb ob q=>NX _ q) (N4 _) ?_,rfl,q _ (I.hok.fresh (N4 _))⟩
 exact⟨OJ (nM xs lo hi) hz,_,(r.drop (HT.sIx xs.length 0 lo)).take (HT.sIx xs.length xs.length hi - HT.sIx xs.length 0 lo),U4 _ _⟩
def K8(K:NK):R2:=λx y H Q=>∃a b xs ys,x=.ref a/\y=.ref b/\SqT K H a xs/\SqT K H b ys/\xs≠ []/\xs.length+ys.length<=ZI ∧
 (ys=[]->Q (.ref a) H)/\(ys≠ []->∀p,H p=ZB->Q (.ref p) (upd H p (.tup (xs++ys))))
def Vals.Da(r:Vals xs us):us=[] ↔xs=[]:=by
 cases r with
 |nil=>simp
 |cons _ _=>simp
def F6:qH X (PM .Add) (K8 X.K):=by
 intro ol s σ H x y v u Q I rx ry h;obtain⟨a,b,xs,ys,rfl,rfl,ha,hb,hx,hz,q1,q2⟩:=h;cases rx;cases ry;obtain⟨its,r1,p1,_⟩:=I.tuple ha;obtain⟨its2,r2,p2,_⟩:=I.tuple hb;refine HT.cat_tup p1 p2 (λz=>hx (r1.Da.mp z)) (λz=>⟨.ref a,H,I,rfl,q1 (r2.Da.mp z)⟩) (λz=>?_) (by rw[<-r1.length,<-r2.length];exact hz)
 refine⟨.ref s.heap.objs.size,_,I.laid (t':=s.toks) (o:=.tup (xs++ys)) (λb ob q=>NX _ q) (N4 _) ?_,rfl,q2 (λw=>z (r2.Da.mpr w)) _ (I.hok.fresh (N4 _))⟩
 exact⟨by rw[NV];exact hz,_,r1.append r2,U4 _ _⟩
end
noncomputable def ixN(n:Nat)(i:Int):Option Nat:=if 0<=i then(if i<n then ZA i.toNat else ZB)else if -(n:Int)<=i then ZA (i+n).toNat else ZB
def atI{α:Type}(xs:List α)(i:Int):Option α:=(ixN xs.length i).bind λj=>xs[j]?
variable{i:Int}{n:Nat}
def Gx{j:Nat}(h:ixN n i=ZA j):seqIndex? i n=ZA j/\j<n/\-(n:Int)<=i/\i<n:=by
 unfold ixN at h
 by_cases h0:0<=i
 ·rw[if_pos h0]at h
  by_cases h1:i<n
  ·rw[if_pos h1]at h
   have e:i.toNat=j:=Oy h;exact⟨by rw[seqIndex_of h0 h1,e],by omega,by omega,h1⟩
  ·rw[if_neg h1]at h;cases h
 ·rw[if_neg h0]at h
  by_cases h1 : -(n:Int)<=i
  ·rw[if_pos h1]at h
   have e:(i+n).toNat=j:=Oy h;exact⟨by rw[seqIndex_neg (by omega) h1,e],by omega,h1,by omega⟩
  ·rw[if_neg h1]at h;cases h
variable{α:Type}
def u9{xs:List α}{v:α}(h:atI xs i=ZA v):∃j,seqIndex? i xs.length=ZA j/\xs[j]?=ZA v/\j<xs.length/\-(xs.length:Int)<=i/\i<xs.length:=by
 unfold atI at h
 cases e:ixN xs.length i with
 |none=>rw[e]at h;cases h
 |some j=>
  rw[e]at h;obtain⟨h1,h2,h3,h4⟩:=Gx e;exact⟨j,h1,h,h2,h3,h4⟩
def Ah(b:ZG):Prop:=∀o i,TJ b ZD o i=operate [o,i] (getItem o i)
def IxR(X:Cx)(r:R2):Prop:=
 ∀(value slice:ZG)(ol:V2)(s:NQ)(σ:St)(H:Hp)(x y:V)(v u:NM)(Q:VK),Inv X ol σ H s->RelV x v->RelV y u->r x y H Q →
  TJ slice ZD v u=operate [v,u] (getItem v u)->ZJ (ZK X.prog X.w) X.A (Ud value slice v u) (EP X ol σ Q) X.xe s
def MU(X:Cx)(id:String)(r:V->List V->Hp->VK->Prop):Prop:=
 ∀(ol:V2)(s:NQ)(σ:St)(H:Hp)(x:V)(xs:List V)(v:NM)(us:List NM)(Q:VK),Inv X ol σ H s->RelV x v->Vals xs us->r x xs H Q →
  ZJ (ZK X.prog X.w) X.A (call (.builtin id) (v::us)) (EP X ol σ Q) X.xe s
variable{H:Hp}{ol:V2}{s:NQ}{σ:St}
section
variable {a b:ZG}{ta tb:TE}
def IxR.or{r r':R2}(h:IxR X r)(h':IxR X r'):IxR X (λx y H Q=>r x y H Q\/r' x y H Q):=by
 intro value slice ol s σ H x y v u Q I rx ry q hs;rcases q with q|q
 ·exact h value slice ol s σ H x y v u Q I rx ry q hs
 ·exact h' value slice ol s σ H x y v u Q I rx ry q hs
def K7(K:NK):R2:=λx y H Q=>∃p xs i v,x=.ref p/\y=.int i/\SqL K H p xs/\atI xs i=ZA v/\Q v H
def K5(K:NK):R2:=λx y H Q=>∃p xs i v,x=.ref p/\y=.int i/\SqT K H p xs/\atI xs i=ZA v/\Q v H
def K6:R2:=λx y H Q=>∃z i c,x=.str z/\y=.int i/\z.length<=ZI/\atI z.cps.toList i=ZA c/\Q (.str ⟨#[c]⟩) H
def ix_list:IxR X (K7 X.K):=by
 intro value slice ol s σ H x y v u Q I rx ry h hs;obtain⟨p,xs,i,z,rfl,rfl,hq,he,q⟩:=h;cases rx;obtain⟨t,rfl⟩:=ry;obtain⟨its,r,pl,hz⟩:=I.list hq;obtain⟨j,h1,h2,h3,h4,h5⟩:=u9 he;obtain⟨w,ew,rw'⟩:=r.get h2
 have hl:=r.length
 have hn:=pR
 have fin:EP X ol σ Q w s:=⟨z,H,I,rw',q⟩
 by_cases h0:0<=i
 ·have hj:i.toNat=j:=by
   rw[seqIndex_of h0 h5]at h1;exact Oy h1
  exact item_listR pl.isList h0 (by omega) (by rw[hj];simpa using ew) fin hs
 ·have hj:(i+(its.toArray.size:Int)).toNat=j:=by
   rw[seqIndex_neg (by omega) h4]at h1
   rw[N6,<-hl];exact Oy h1
  exact SL (x:=w) pl.isList.typeIs slot_list_getitem.lookup
   (wpAny_getItem_list_neg (Q:=λr s'=>r=w/\EP X ol σ Q r s') pl.isList (by omega) (by rw[N6] <;> omega) (by omega) (by rw[hj];simpa using ew) ⟨rfl,fin⟩) hs
def ix_tup:IxR X (K5 X.K):=by
 intro value slice ol s σ H x y v u Q I rx ry h hs;obtain⟨p,xs,i,z,rfl,rfl,hq,he,q⟩:=h;cases rx;obtain⟨t,rfl⟩:=ry;obtain⟨its,r,pl,hz⟩:=I.tuple hq;obtain⟨j,h1,h2,h3,h4,h5⟩:=u9 he;obtain⟨w,ew,rw'⟩:=r.get h2
 have hl:=r.length
 have hn:=pR
 have fin:EP X ol σ Q w s:=⟨z,H,I,rw',q⟩
 exact SL (x:=w) pl.typeIs slot_tuple_getitem.lookup
  (getItem_tuple (j:=j) (Q:=λr s'=>r=w/\EP X ol σ Q r s') pl (by omega) (by omega) (by rw[N6,<-hl];exact h1) (by simpa using ew) ⟨rfl,fin⟩) hs
def JU:IxR X K6:=by
 intro value slice ol s σ H x y v u Q I rx ry h hs;obtain⟨z,i,c,rfl,rfl,hz,he,q⟩:=h;obtain⟨t,rfl⟩:=rx;obtain⟨t',rfl⟩:=ry;obtain⟨j,h1,h2,h3,h4,h5⟩:=u9 he
 have hl:z.cps.toList.length=z.length:=by simp[Str.length]
 rw[hl]at h1 h4 h5
 have hn:=pR
 exact tail_any (typeIs_str s z t) slot_str_getitem.lookup (getItem_str (c:=c) (by
  have e1:decide (i< -(2 ^ 63:Int))=ZD:=decide_eq_false (by omega)
  have e2:decide (i ≥ 2 ^ 63)=ZD:=decide_eq_false (by omega)
  rw[e1,e2,Bool.or_false]) (by rw[h1];simpa using h2) ⟨.str ⟨#[c]⟩,H,I.tok _,⟨_,rfl⟩,q⟩) hs
def rIx(K:NK):R2:=λx y H Q=>K7 K x y H Q\/K5 K x y H Q\/K6 x y H Q
def JV:IxR X (rIx X.K):=ix_list.or (ix_tup.or JU)
def sY(lo hi:Option Int)(n:Nat):(Rw lo hi ZB n).1=((HT.sIx n 0 lo:Nat):Int)/\(Rw lo hi ZB n).2.1=((HT.sIx n n hi:Nat):Int)/\(Rw lo hi ZB n).2.2=1:=by
 refine⟨?_,?_,rfl⟩
 ·cases lo with
  |none=>simp[Rw,HT.sIx]
  |some i=>
   simp only[Rw,HT.sIx,UM,show(1:Int) > 0 by decide,if_true]
   by_cases h:i<0
   ·simp only[h,if_true] <;> omega
   ·simp only[h,if_false] <;> omega
 ·cases hi with
  |none=>simp[Rw,HT.sIx]
  |some i=>
   simp only[Rw,HT.sIx,UM,show(1:Int) > 0 by decide,if_true]
   by_cases h:i<0
   ·simp only[h,if_true] <;> omega
   ·simp only[h,if_false] <;> omega
def qI(its:List NM)(lo hi:Option Int):slicePick its.toArray lo hi ZB=((its.drop (HT.sIx its.length 0 lo)).take (HT.sIx its.length its.length hi - HT.sIx its.length 0 lo)).toArray:=by
 obtain⟨h1,h2,h3⟩:=sY lo hi its.toArray.size;unfold slicePick;rw[h1,h2,h3];simp only[sliceRange_one,pick_run,N6] <;> rfl
def rSlL(K:NK):V->Option Int->Option Int->Hp->VK->Prop:=λx lo hi H Q=>∃a xs,x=.ref a/\SqL K H a xs/\∀p,H p=ZB->Q (.ref p) (upd H p (.lst (xk xs lo hi)))
def Ff:SlR X (rSlL X.K):=by
 intro ol s σ H x v vl vu lo hi sl Q I rx hs pl pu h;obtain⟨a,xs,rfl,hx,q⟩:=h;cases rx;obtain⟨its,r,ht,hz⟩:=I.list hx
 have hlen:=r.length;refine⟨"list",_,slot_list_getitem.lookup,ht.isList.typeIs,?_⟩
 refine wpAny_getItem_list_slice ht.isList hs pl pu .none (by simp) ?_ (by rw[N6] <;> omega)
 rw[qI,<-hlen];refine⟨.ref s.heap.objs.size,_,I.laid (t':=s.toks) (o:=.lst (xk xs lo hi)) (λb ob q=>NX _ q) (N4 _) ?_,rfl,q _ (I.hok.fresh (N4 _))⟩
 exact⟨OJ (nM xs lo hi) hz,_,0,(r.drop (HT.sIx xs.length 0 lo)).take (HT.sIx xs.length xs.length hi - HT.sIx xs.length 0 lo),Oc _ rfl⟩
def call_len_seq:CallR X (.builtin "len") (λxs H Q=>∃p ys,xs=[.ref p]/\(SqL X.K H p ys\/SqT X.K H p ys)/\Q (.int ys.length) H):=by
 intro ol s σ H xs us Q I r h;obtain⟨p,ys,rfl,hq,q⟩:=h;obtain⟨u,rfl,rx⟩:=kQ r;cases rx
 have hn:=pR;rcases hq with hq|hq
 ·obtain⟨its,r',pl,hz⟩:=I.list hq
  have hlen:=r'.length;exact Calls.call_len_list pl.isList (by simp only[N6] <;> omega) ⟨.int ys.length,H,I.tok _,⟨s.toks+1,by rw[N6,hlen]⟩,q⟩
 ·obtain⟨its,r',pl,hz⟩:=I.tuple hq
  have hlen:=r'.length;exact len_tuple pl (by simp only[N6] <;> omega) ⟨.int ys.length,H,I.tok _,⟨s.toks+1,by rw[N6,hlen]⟩,q⟩
def u5:CallR X (.builtin "len") (λxs H Q=>∃z,xs=[.str z]/\z.length<=ZI/\Q (.int z.length) H):=by
 intro ol s σ H xs us Q I r h;obtain⟨z,rfl,hz,q⟩:=h;obtain⟨u,rfl,t,rfl⟩:=kQ r
 have hn:=pR;exact len_str (by omega) ⟨.int z.length,H,I.tok _,⟨_,rfl⟩,q⟩
def CallR.or{f:NM}{r r':List V->Hp->VK->Prop}(h:CallR X f r)(h':CallR X f r'):CallR X f (λxs H Q=>r xs H Q\/r' xs H Q):=by
 intro ol s σ H xs us Q I rs q;rcases q with q|q
 ·exact h ol s σ H xs us Q I rs q
 ·exact h' ol s σ H xs us Q I rs q
def rj:CallR X (.type "tuple") (λxs H Q=>∃p ys,xs=[.ref p]/\((SqL X.K H p ys/\∀l,H l=ZB->Q (.ref l) (upd H l (.tup ys)))\/(SqT X.K H p ys/\Q (.ref p) H))):=by
 intro ol s σ H xs us Q I r h;obtain⟨p,ys,rfl,h⟩:=h;obtain⟨u,rfl,rx⟩:=kQ r;cases rx;rcases h with⟨hq,q⟩|⟨hq,q⟩
 ·obtain⟨its,r',pl,hz⟩:=I.list hq
  have hlen:=r'.length;refine call_tuple_list pl.isList (λh' kp=>?_) (by simp only[N6] <;> omega)
  have I1:Inv X ol σ H {s with heap:=h'}:=I.kept (t':=s.toks) kp
  have I2:Inv X ol σ (upd H h'.objs.size (.tup ys)) {s with heap:=h'.push {cls:=.type "tuple",data:=.seq its.toArray}}:=
   I1.laid (t':=s.toks) (λb o e=>NX _ e) (N4 _) (show ObjOk X.prog X.w _ _ _ (.tup ys)from⟨hz,its,r',U4 _ _⟩)
  exact⟨.ref h'.objs.size,_,I2,rfl,q _ (I1.hok.fresh (N4 _))⟩
 ·obtain⟨its,r',pl,hz⟩:=I.tuple hq
  exact call_tuple_same pl ⟨.ref p,H,I,rfl,q⟩
def tyV(K:NK)(T:String)(x:V)(H:Hp):Prop:=match x with
 |.str _=>T= "str"
 |.int _=>T= "int"
 |.ref p=>(T= "list"/\∃xs,SqL K H p xs)\/(T= "tuple"/\∃o,K.lookup p=ZA o/\o.cls=.type "tuple"/\o.dict=ZB) ∨
   (T= "dict"/\((∃kvs,H p=ZA (.dK kvs))\/∃kvs,H p=ZA (.dT kvs)))\/(T= "set"/\∃S n,H p=ZA (.set S n))
 |_=>False
def xI{T:String}{x:V}{v:NM}(I:Inv X ol σ H s)(r:RelV x v)(ty:tyV X.K T x H):
  s.TypeIs v T/\∀a,v=.ref a->∃ob,s.heap.get? a=ZA ob/\ob.dict=ZB:=by
 cases x with
 |str z=>
  obtain⟨t,rfl⟩:=r;cases (show T= "str" from ty)
  exact⟨typeIs_str s z t,λ_ e=>nomatch e⟩
 |int i=>
  obtain⟨t,rfl⟩:=r;cases (show T= "int" from ty)
  exact⟨Tc s i t,λ_ e=>nomatch e⟩
 |ref p=>
  cases r;rcases ty with⟨rfl,xs,hq⟩|⟨rfl,o,hk,hc,hd⟩|⟨rfl,hk⟩|⟨rfl,S,n,hk⟩
  ·obtain⟨its,_,pl,_⟩:=I.list hq
   refine⟨pl.isList.typeIs,λa e=>?_⟩
   cases e;obtain⟨o,n,e,c,hd,_⟩:=pl;exact⟨o,e,hd⟩
  ·refine⟨⟨o,I.kIn p o hk,hc⟩,λa e=>?_⟩
   cases e;exact⟨o,I.kIn _ o hk,hd⟩
  ·have z:∃o,s.heap.get? p=ZA o/\o.ExactDict:=by
    rcases hk with⟨kvs,hk⟩|⟨kvs,hk⟩
    ·obtain⟨_,_,_,_,o,_,_,e,ex,_⟩:=I.hok p _ hk
     exact⟨o,e,ex⟩
    ·obtain⟨_,_,_,_,o,_,_,e,ex,_⟩:=I.hok p _ hk
     exact⟨o,e,ex⟩
   obtain⟨o,e,ex⟩:=z;refine⟨⟨o,e,ex.1⟩,λa e2=>?_⟩
   cases e2;exact⟨o,e,ex.2.1⟩
  ·obtain⟨o,_,_,_,e,ex,_⟩:=I.hok p _ hk
   refine⟨⟨o,e,ex.1⟩,λa e2=>?_⟩
   cases e2
   exact⟨o,e,ex.2.1⟩
 |_=>exact P9 ty
def tBM0(K:NK)(T:String)(r:V->List V->Hp->VK->Prop)(to:TE):TE:=λσ H Q=>to σ H λx H1=>tyV K T x H1/\r x [] H1 Q
def tBM(K:NK)(T:String)(r:V->List V->Hp->VK->Prop)(to:TE)(t:TA):TE:=λσ H Q=>to σ H λx H1=>tyV K T x H1/\t σ H1 λxs H2=>r x xs H2 Q
variable {o:ZG}{es:List ZG}{to:TE}{t:TA}{name:Str}{apos cpos:Pos}{T id:String}{r:V->List V->Hp->VK->Prop}
def Je(pa:PlainAttrs T)(slot:Slot T name id)(hty:typeOf (.builtin id)=pure (.type "method_descriptor"))(hm:MU X id r)(ho:PE X o to)
  (hbase:Os o name X.env (eval o X.env)=eval o X.env:=by rfl) (hline:(apos.endLine == cpos.line)=ZC:=by rfl):PE X (.Call (.Attribute o name apos) [] [] cpos) (tBM0 X.K T r to):=by
 intro ol s σ H Q I h;refine wpAny_Call_method0_late hbase hline (bS (ho ol s σ H _ I h) λv s1 hh_=>?_)
 obtain⟨x,H1,I1,r1,ty,q1⟩:=hh_;obtain⟨h1,h2⟩:=xI I1 r1 ty;exact⟨T,id,pa,slot,hty,h1,h2,Qz rfl (PySem.evalArgs_none (hm ol s1 σ H1 x [] v [] Q I1 r1 .nil q1))⟩
def vZ(pa:PlainAttrs T)(slot:Slot T name id)(hty:typeOf (.builtin id)=pure (.type "method_descriptor"))(hm:MU X id r)(ho:PE X o to)(ha:PA X (e::es) t)
  (hbase:Os o name X.env (eval o X.env)=eval o X.env:=by rfl)
  (hfew:((backTo cpos (NY (e::es) X.env)).all (λx=>!x.1)&&(R9 cpos (QP [] X.env)).all (λx=>x.1.isSome)
   &&decide ((e::es).length+([]:List Vg).length+(if ([]:List Vg).isEmpty then 0 else 1)<30))=ZC:=by rfl)
  (hline:(apos.endLine == cpos.line)=ZC:=by rfl) (hs:NY (e::es) X.env=(ZD,eval e X.env)::NY es X.env:=by rfl) (hplain:(backTo cpos (NY es X.env)).any (·.1)=ZD:=by rfl):
  PE X (.Call (.Attribute o name apos) (e::es) [] cpos) (tBM X.K T r to t):=by
 intro ol s σ H Q I h;refine SM hbase hfew hline rfl (bS (ho ol s σ H _ I h) λv s1 hh_=>?_)
 obtain⟨x,H1,I1,r1,ty,q1⟩:=hh_;obtain⟨h1,h2⟩:=xI I1 r1 ty;refine⟨T,id,pa,slot,hty,h1,h2,?_⟩
 have hA:=ha cpos ol s1 σ H1 _ I1 q1;rw[hs]at hA ⊢;refine Qz (by show(ZD||(backTo cpos (NY es X.env)).any (·.1))=ZD;rw[hplain] <;> rfl) (Q1 ?_)
 exact bS hA λus s2 ⟨vs,H2,I2,r2,q2⟩=>hm ol s2 σ H2 x vs v us Q I2 r1 r2 q2
end
def MtM(X:Cx)(id:String)(r:V->List V->Hp->VK->Prop):Prop:=
 ∀(ol:V2)(s:NQ)(σ:St)(H:Hp)(x:V)(xs:List V)(v:NM)(us:List NM)(Q:VK),Inv X ol σ H s->RelV x v->Vals xs us->r x xs H Q →
  ZJ (ZK X.prog X.w) X.A (call (.builtin id) (v::us)) (EP X ol σ Q) X.xe s
theorem Vals.one:∀{x:V}{us:List NM},Vals [x] us->∃u,us=[u]/\RelV x u
 |_,_,.cons r .nil=>⟨_,rfl,r⟩
theorem Vals.zero:∀{us:List NM},Vals [] us->us=[]
 |_,.nil=>rfl
def Vals.dropLast(h:Vals xs us):Vals xs.dropLast us.dropLast:=by
 induction h with
 |nil=>exact .nil
 |cons r t ih=>
  cases t with
  |nil=>exact .nil
  |cons q t'=>exact .cons r ih
theorem Vals.rep{xs:List V}{us:List NM}(h:Vals xs us):∀k:Nat,Vals (Ob k xs).flatten (Ob k us).flatten
 |0=>.nil
 |k+1=>by
  rw[PF,PF,Qr,Qr];exact Vals.append h (Vals.rep h k)
def yK(l:List α):l.eraseIdx (l.length - 1)=l.dropLast:=by
 induction l with
 |nil=>rfl
 |cons a r ih=>
  cases r with
  |nil=>rfl
  |cons b r=>
   have e:(a::b::r).length - 1=((b::r).length - 1)+1:=by
    have h1:(a::b::r).length=r.length+2:=rfl
    have h2:(b::r).length=r.length+1:=rfl;omega
   rw[e,List.eraseIdx_cons_succ,ih]
   all_goals rfl
theorem foldl_rep(its:List NM):∀(k:Nat)(acc:List NM),
  Sm (λx1 x2=>x1++x2) acc.toArray (Ob k its.toArray)=(acc++(Ob k its).flatten).toArray
 |0,acc=>by simp
 |k+1,acc=>by
  have e:acc.toArray++its.toArray=(acc++its).toArray:=by simp
  have e2:(acc++its)++(Ob k its).flatten=acc++(Ob (k+1) its).flatten:=by
   rw[PF,Qr,Oo]
  rw[<-e2,<-foldl_rep its k (acc++its),<-e,PF,U5]
variable{its:List NM}{t':Nat}
section
variable {l b:ZE}{ys zs:List V}
def Inv.Nt{its':List NM}{f:Array NM->Array NM}(I:Inv X ol σ H s)(hH:H l=ZA (.lst xs))
  (e:s.heap.get? l=ZA {cls:=.type "list",data:=.seq its.toArray n}) (hf:f its.toArray=its'.toArray) (hv:Vals ys its') (hz:ys.length<=ZI):
  Inv X ol σ (upd H l (.lst ys)) {s with heap:=s.heap.update l (Obj.mapSeq f),toks:=t'}:=by
 have q:=PySem.IsL.update e f;rw[hf]at q;refine I.write (x:=l) (e:=l) (by rw[hH];exact trivial) (.inl rfl) (λb' u hb hu=>(QB s.heap (Obj.mapSeq f) (O6 hb)).trans hu) ⟨_,q⟩ ?_
 exact⟨hz,its',_,hv,q⟩
def Inv.Nv(I:Inv X ol σ H s)(hv:Vals ys its)(hz:ys.length<=ZI):
  Inv X ol σ (upd H s.heap.objs.size (.lst ys)) {s with heap:=s.heap.push {cls:=.type "list",data:=.seq its.toArray},toks:=t'}:=
 I.laid (λ_ _ q=>NX _ q) (N4 _) ⟨hz,its,0,hv,Oc _ rfl⟩
theorem Inv.fresh(I:Inv X ol σ H s):H s.heap.objs.size=ZB:=I.hok.fresh (N4 _)
def Inv.M0(I:Inv X ol σ H s)(hH:H l=ZA (.lst xs)):xs.length<=ZI/\∃(its:List NM)(n:Nat),Vals xs its/\xs.length=its.length/\s.heap.get? l=ZA {cls:=.type "list",data:=.seq its.toArray n}:=by
 obtain⟨z,its,n,r,e⟩:=I.hok l _ hH;exact⟨z,its,n,r,r.length,e⟩
def we(h:n<=ZI):Qp n=ZD:=by
 unfold Qp;exact decide_eq_false (by omega)
end
def Ft:V->List V->Hp->VK->Prop:=λx vs H Q=>∃l xs y,x=.ref l/\vs=[y]/\H l=ZA (.lst xs)/\xs.length<ZI/\Q .non (upd H l (.lst (xs++[y])))
def mX:MtM X "list.append" Ft:=by
 intro ol s σ H x vs v us Q I rx rv h;obtain⟨l,xs,y,rfl,rfl,hH,hz,q⟩:=h;cases rx;obtain⟨u,rfl,ru⟩:=rv.one;obtain⟨z,its,n,r,hl,e⟩:=I.M0 hH;refine Q0 F.slot_list_append ⟨_,e,rfl⟩ F.entry_list_append (F.args_list_append_2 _ _) (PySem.list_append l its.toArray n u (by rw[N6];omega)) ⟨e,?_⟩
 refine⟨.non,_,I.Nt (its':=its++[u]) hH e (by simp) (r.append (.cons ru .nil)) ?_,rfl,q⟩
 rw[NV,Pq];omega
def Fq:V->List V->Hp->VK->Prop:=λx vs H Q=>∃l b xs zs,x=.ref l/\vs=[.ref b]/\H l=ZA (.lst xs)/\H b=ZA (.lst zs)/\xs.length+zs.length<=ZI/\Q .non (upd H l (.lst (xs++zs)))
def AL:MtM X "list.extend" Fq:=by
 intro ol s σ H x vs v us Q I rx rv h;obtain⟨l,b,xs,zs,rfl,rfl,hH,hB,hz,q⟩:=h;cases rx;obtain⟨u,rfl,ru⟩:=rv.one;cases ru;obtain⟨z,its,n,r,hl,e⟩:=I.M0 hH;obtain⟨z2,its2,n2,r2,hl2,e2⟩:=I.M0 hB
 have hsz:its.toArray.size+its2.toArray.size<=ZI:=by rw[N6,N6];omega
 have hlong:¬ (!its.toArray.isEmpty&&Qp (its.toArray.size+its2.toArray.size))=ZC:=by
  rw[we hsz,Bool.and_false];exact N0
 refine Q0 F.slot_list_extend ⟨_,e,rfl⟩ F.entry_list_extend (F.args_list_extend_2 _ _)
  (AutoSeq1.list_extend_list_list_0 l its.toArray n b its2.toArray n2 hlong (by rw[N6];omega) (by omega)) ⟨e,e2,?_⟩
 refine⟨.non,_,I.Nt (its':=its++its2) hH e (by simp) (r.append r2) ?_,rfl,q⟩
 rw[NV];omega
def rPop:V->List V->Hp->VK->Prop:=λx vs H Q=>∃l xs y,x=.ref l/\vs=[]/\H l=ZA (.lst xs)/\xs[xs.length - 1]?=ZA y/\Q y (upd H l (.lst xs.dropLast))
def Jw:MtM X "list.pop" rPop:=by
 intro ol s σ H x vs v us Q I rx rv h;obtain⟨l,xs,y,rfl,rfl,hH,hy,q⟩:=h;cases rx
 have hus:=rv.zero;subst hus;obtain⟨z,its,n,r,hl,e⟩:=I.M0 hH;obtain⟨u,hu,ru⟩:=r.get hy
 have hy':its.toArray[its.toArray.size - 1]?=ZA u:=by
  show its.toArray[its.length - 1]?=ZA u
  rw[<-Array.getElem?_toList,<-hl]
  exact hu
 refine Q0 F.slot_list_pop ⟨_,e,rfl⟩ F.entry_list_pop (F.args_list_pop_1 _) (MeetsSeq.list_pop_last l its.toArray n u hy' (by rw[N6];omega)) ⟨e,?_⟩
 refine⟨y,_,I.Nt (its':=its.dropLast) hH e ?_ r.dropLast ?_,ru,q⟩
 ·show its.toArray.eraseIdxIfInBounds (its.toArray.size - 1)=its.dropLast.toArray
  rw[N6,List.eraseIdxIfInBounds_toArray,yK]
 ·rw[List.length_dropLast]
  omega
def rCat:R2:=λx y H Q=>∃l b xs zs,x=.ref l/\y=.ref b/\H l=ZA (.lst xs)/\H b=ZA (.lst zs)/\xs.length+zs.length<=ZI/\∀p,H p=ZB->Q (.ref p) (upd H p (.lst (xs++zs)))
def CO:qH X (PM .Add) rCat:=by
 intro ol s σ H x y v u Q I rx ry h;obtain⟨l,b,xs,zs,rfl,rfl,hH,hB,hz,q⟩:=h;cases rx;cases ry;obtain⟨z,its,n,r,hl,e⟩:=I.M0 hH;obtain⟨z2,its2,n2,r2,hl2,e2⟩:=I.M0 hB;refine PySem.P.add_list e e2 ?_ (by rw[N6,N6];omega)
 have ea:its.toArray++its2.toArray=(its++its2).toArray:=by simp
 rw[ea];exact⟨.ref _,_,I.Nv (t':=s.toks) (r.append r2) (by rw[NV];omega),rfl,q _ I.fresh⟩
def rRep:R2:=λx y H Q=>∃l k xs,x=.ref l/\y=.int k/\H l=ZA (.lst xs)/\-(2 ^ 63)<=k/\k<2 ^ 63/\xs.length*k.toNat<=ZI ∧
 ∀p,H p=ZB->Q (.ref p) (upd H p (.lst (Ob k.toNat xs).flatten))
def len_rep(xs:List α)(k:Nat):(Ob k xs).flatten.length=k*xs.length:=by
 induction k with
 |zero=>simp
 |succ k ih=>rw[PF,Qr,NV,ih,Nat.succ_mul,UD]
def Ji:qH X (PM .Mult) rRep:=by
 intro ol s σ H x y v u Q I rx ry h;obtain⟨l,k,xs,rfl,rfl,hH,h1,h2,hz,q⟩:=h;cases rx;obtain⟨t,rfl⟩:=ry;obtain⟨z,its,n,r,hl,e⟩:=I.M0 hH
 have hlen:its.toArray.size*k.toNat<=ZI:=by rw[N6,<-hl];exact hz
 have hcap:¬ its.toArray.size*k.toNat > (2 ^ 63 - 1) / 8:=by
  have:(ZI:Nat)<=(2 ^ 63 - 1) / 8:=by decide
  omega
 have hfit:¬ (!Builtin.List.listFitsIndex k)=ZC:=by
  rw[fitsIndex_both h1 h2];exact N0
 have hlong:¬ Qp (its.toArray.size*k.toNat)=ZC:=by
  rw[we hlen];exact N0
 have hnew:Sm (λx1 x2=>x1++x2) #[] (Ob (if its.toArray.isEmpty=ZC then 0 else k.toNat) its.toArray)=(Ob k.toNat its).flatten.toArray:=by
  have f0:∀m:Nat,Sm (λx1 x2=>x1++x2) #[] (Ob m its.toArray)=(Ob m its).flatten.toArray:=λm=>by
   have:=foldl_rep its m [];rw[Pt]at this;exact this
  rw[f0]
  cases its with
  |nil=>simp
  |cons a r'=>rw[if_neg (by simp)]
 refine Sd (T:="list") (U:="int") (by decide) ⟨_,e,rfl⟩ (λs'=>Tc s' k t) noFill_list_mul U6 RS repeat_list UN.lookup
  (Q0 RS (Tc s k t) UO (Uk _ _) (int___rmul___int_list k t l its.toArray n)
   ⟨e,rfl,⟨_,e,rfl⟩,Q0 F.slot_list_mul ⟨_,e,rfl⟩ F.entry_list_mul (F.args_list_mul_2 _ _) (TQ l its.toArray n k t hfit hcap hlong) ⟨e,?_⟩⟩)
 rw[hnew];exact⟨.ref _,_,I.Nv (t':=s.toks) (r.rep k.toNat) (by rw[len_rep,UE];exact hz),rfl,q _ I.fresh⟩
end L2
namespace Att
open PySem PySem.W PySem.Calls PyProof.Rows
variable{P:Params}{h:ZH}
def nY:∀(ns:List Int)(vs:List NM),WellAll P h vs (ns.map WData.int)->RL vs ns:=by
 intro ns
 induction ns with
 |nil=>
  intro vs w;rw[SR]at w;cases w
  exact .nil
 |cons n ns ih=>
  intro vs w;rw[NO]at w
  cases w with
  |cons a b=>
   cases a;exact .cons _ _ (ih _ b)
variable{l:OpenLaw}{n:Nat}
def Av(hn:l.most=ZA n){args:List WData}{vals:List NM}
  (hpre:l.row.toRowW.claim.pre args=ZC) (hwl:WellAll P h vals args):
  ∃a vs ns,vals=[N3 a]/\args=[WData.list (ns.map WData.int)]/\h.get? a=ZA {cls:=.type "list",data:=.seq vs.toArray}/\RL vs ns/\ns.length<=n:=by
 have hsh:WShape.hasAll [] args [.list .int]=ZC:=(pre_splitW hpre).1
 have hc:l.pre.holds [] {args:=args}=ZC:=(pre_splitW hpre).2;obtain⟨d,r,rfl,h1,h2⟩:=hasAllW_cons hsh;obtain rfl:=hasAllW_nil h2;obtain⟨xs,rfl,h3⟩:=hasW_list h1;obtain⟨ns,rfl⟩:=items_int h3
 have hlen:ns.length<=n:=by
  unfold OpenLaw.pre at hc
  have h4:(WTm.not (.lt (.lit (.int (n:Int))) (.len (.arg 0)))).holds [] {args:=[.list (ns.map .int)]}=ZC:=by
   have h4:=(holds_andW hc).1;rw[hn]at h4;exact h4
  have h5:=condW_of h4 (w_not (w_lt w_lit (w_len_list (w_arg rfl))));rw[NR]at h5;refine Nat.le_of_not_lt λq=>?_
  have q':(n:Int)<((ns.length:Nat):Int):=by omega
  first
   | (rw[decide_eq_true q']at h5;exact absurd h5 (by decide))
   | (simp at h5;omega)
 cases hwl with
 |cons w1 w2=>
  cases w2
  cases w1 with
  |list ho hall=>exact⟨_,_,ns,rfl,rfl,ho,nY ns _ hall,hlen⟩
def AB(l:OpenLaw)(args:List WData):l.row.toRowW.claim.post args (.bool ZC) args=ZC:=
 postW_of (r:=l.row.toRowW) (X:=(ZC == ZC))
  (show WShape.has [] (.bool ZC) .bool=ZC by first|rfl|decide|simp[WShape.has,WShape.arms,WShape.armsAll])
  (show(WTm.eq .res (.lit (.bool ZC))).value [] {args:=args,res:=ZA (.bool ZC),after:=args}=ZA (.bool (ZC == ZC))from w_eq_bool (w_res rfl) w_lit) rfl
def attach_call{q:Oa}{loose:List Str}{XP:(V0)->ZH->Prop}{YP:O0->ZH->Prop}{d:DefRec}
  (hn:l.most=ZA n) (hdf:d.params.defaults=[])
  (call:∀(w:O0)(s₀ s₁:NQ)(mg mb:V0)(fa:ZE)(o:Obj)(pm cd doc:NM)(a:ZE)(vs:List NM)(ns:List Int),
   Ground q loose [] XP w s₀ mg mb s₁.heap->YP w s₁.heap →
   s₁.heap.get? fa=ZA o->o.data=.func (docDef d.name d.params d.body d.scope pm cd doc)->s₁.heap.CodeRec cd d.name->mg d.name=ZA (.ref fa) →
   s₁.heap.get? a=ZA {cls:=.type "list",data:=.seq vs.toArray}->RL vs ns->ns.length<=n->s₁.gens= #[] →
   ZL (ZK l.prog w) callerA (.call (.ref fa) ⟨[.ref a],[]⟩) (λr s'=>r=.ok (.ret (.bool ZC))/\OldK s₁.heap s'.heap/\s'.os=s₁.os/\SB s'.gens) s₁):
  WalkO q loose XP YP l.row.toRowW d [] (λf vs=>PySem.call f vs):=by
 intro w s₀ s₁ mg mb G Y fa o pm cd doc dV kV ho hd hcd hD hmg hg args vals as hpre hlay hrd hwl hlo;obtain rfl:dV=.none:=Dflts.none hD hdf;obtain rfl:kV=.none:=Dflts.noKw hD;obtain⟨a,vs,ns,rfl,rfl,hobj,hints,hlen⟩:=Av hn hpre hwl;refine enter_call (Qe (call w s₀ s₁ mg mb fa o pm cd doc a vs ns G Y ho (fd_plain hd) hcd hmg hobj hints hlen hg) λr s' hq=>?_)
 obtain⟨rfl,h2,h3,h4⟩:=hq;exact⟨.inl ⟨.bool ZC,.bool ZC,[],rfl,λ_=>rfl,.bool ZC,AB l _,λ_=>⟨List.Pairwise.nil,λ_ hm=>(nomatch hm)⟩⟩,h2,h3,h4⟩
end Att
namespace L2
open PySem PySem.Spec PyProof.Rows
theorem rE:∀{vs:List NM}{ns:List Int},RL vs ns->Vals (ns.map V.int) vs
 |_,_,.nil=>.nil
 |_,_,.cons n t h=>.cons ⟨t,rfl⟩ (rE h)
def Ku(H:Hp):Prop:=∀b,H b=ZB\/∃o xs,H b=ZA (.frz o (.lst xs))
variable{K:NK}{P:Oa}{fd:Ox}{k:Nat}{mg:V0}{sp:Sp}{w:O0}{x:Str}
def Dg{mb:V0}{CX:Bu}{fa a:ZE}{s₁:NQ}{vs:List NM}{ns:List Int}
  (KX:K.In s₁.heap) (hns:s₁.heap.Ns OA mg) (hb:s₁.heap.Ns So mb) (hbb:∀x:Str,x≠ "__name__"->mb x=OK x) (hlim:s₁.heap.NoLimit) (hg:s₁.gens= #[])
  (ha:s₁.heap.get? a=ZA {cls:=.type "list",data:=.seq vs.toArray}) (hi:RL vs ns) (hl:ns.length<=ZI) (hr:Room k callerA)
  (F:∀base:ZH,K.In base->base.Ns OA mg->FnOk P w K mg base CX k fa fd [x] sp) (hbind:∀(s:NQ)(u:NM),Sb s fd ⟨[u],[]⟩ [(x,u)])
  (hsp:∀H:Hp,Ku H->SqL K H a (ns.map V.int)->sp [.ref a] H (λv _=>v=.bl ZC) λ_ _ _=>False)
  (hCX:∀H e s',CX [] H s₁ (λ_ _ _=>False) e s'->False):
  ZL (ZK P w) callerA (.call (.ref fa) ⟨[.ref a],[]⟩) (λr s'=>r=.ok (.ret (.bool ZC))/\OldK s₁.heap s'.heap/\s'.os=s₁.os/\SB s'.gens) s₁:=by
 have rv:=rE hi
 have lenV:=hi.length
 -- from an abstract heap in which nothing but the script may be tracked
 have core:∀H:Hp,Ku H->SqL K H a (ns.map V.int)->HOk P w H s₁.heap->(∀b,H b≠ZB->b=a)->(H a≠ZB->K.lookup a=ZB) →
   ZL (ZK P w) callerA (.call (.ref fa) ⟨[.ref a],[]⟩) (λr s'=>r=.ok (.ret (.bool ZC))/\OldK s₁.heap s'.heap/\s'.os=s₁.os/\SB s'.gens) s₁:=by
  intro H hO hS hok hA hK
  have base_of:∀{b:ZE}{o:Obj},s₁.heap.get? b=ZA o->H b=ZB->(uS s₁.heap H).get? b=ZA o:=λe n=>DF e n
  have noA:∀{b:ZE}{o:Obj}{es:Array DictEntry}{ep:Nat},s₁.heap.get? b=ZA o->o.data=.dict es ep->H b=ZB:=λ{b o es ep} e d=>by
   cases q:H b with
   |none=>rfl
   |some u=>
    have e':b=a:=hA b (by rw[q];simp)
    subst e';rw[ha]at e;cases e
    have d':Data.seq vs.toArray _=Data.dict es ep:=d;cases d'
  have nsK:∀{b:ZE}{m:V0},s₁.heap.Ns b m->(uS s₁.heap H).Ns b m:=λ{b m} ⟨o,es,ep,e,d,r⟩=>⟨o,es,ep,base_of e (noA e d),d,r⟩
  have hKb:K.In (uS s₁.heap H):=λb o e=>base_of (KX b o e) (by
   cases q:H b with
   |none=>rfl
   |some u=>
    have e':b=a:=hA b (by rw[q];simp)
    subst e';rw[hK (by rw[q];simp)]at e;cases e)
  have hM:Mod K mg (uS s₁.heap H):=⟨hKb,nsK hns,⟨mb,nsK hb,hbb⟩,let ⟨mc,h1,h2⟩:=hlim;⟨mc,nsK h1,h2⟩⟩
  have e0:Env0 P w K mg (uS s₁.heap H) callerA [] s₁ H:=⟨rfl,hM,λb o e=>F7 e,RB (A0 _ _),trivial,λb hb=>absurd (show b∈([]:List ZE)from hb) (by simp),hok,.of_eq hg⟩
  refine Qe ((F _ hKb (nsK hns)).run callerA [] s₁ H ⟨[.ref a],[]⟩ [.ref a] [.ref a] _ _ hr e0 (hbind s₁ (.ref a)) (.cons rfl .nil) (hsp H hO hS)) λr s' h=>?_
  cases r with
  |error e=>exact(hCX H e s' h).elim
  |ok fl=>
   cases fl with
   |next=>exact P9 h
   |brk=>exact P9 h
   |cont=>exact P9 h
   |ret u=>
    obtain⟨v,H',os,bare,un,hok',r',q⟩:=h
    have q':v=.bl ZC:=q;subst q';obtain rfl:u=ON ZC:=r';refine⟨rfl,OldK.of_keep λb o e=>?_,os,bare⟩
    cases q:H b with
    |none=>exact un.keep b o e q (by intro z;exact absurd (show b∈([]:List ZE)from z) (by simp)) (by simp)
    |some u=>
     rcases hO b with z|⟨ob,xs,z⟩
     ·rw[q]at z;cases z
     ·have z2:=un.frzs b ob _ z
      obtain⟨e1,_⟩:=hok b _ z;obtain⟨e2,_⟩:=hok' b _ z2;rw[e]at e1;cases e1;exact e2
 cases hk:K.lookup a with
 |some o=>
  -- the script is one of the module's own objects
  have e:=KX a o hk;rw[ha]at e;cases e
  refine core (λ_=>ZB) (λ_=>.inl rfl) (.inr ⟨_,vs.toArray,_,hk,rfl,rfl,rfl,by rw[N6,lenV];exact hl,by simpa using rv⟩) (λb u z=>by have z':(ZB:Option HO)=ZA u:=z;cases z') (λb z=>absurd rfl z) λz=>absurd rfl z
 |none=>
  refine core (λb=>if b=a then ZA (.frz {cls:=.type "list",data:=.seq vs.toArray} (.lst (ns.map V.int)))else ZB) (λb=>?_) (.inl (.inr ⟨{cls:=.type "list",data:=.seq vs.toArray},if_pos rfl⟩)) (λb u z=>?_) (λb z=>?_) λ_=>hk
  ·by_cases hb:b=a
   ·exact .inr ⟨_,_,if_pos hb⟩
   ·exact .inl (if_neg hb)
  ·by_cases hb:b=a
   ·have z':=(if_pos hb).symm.trans z
    cases z';subst hb;exact⟨ha,by rw[NR];exact hl,vs,_,rv,ha⟩
   ·have z':=(if_neg hb).symm.trans z
    cases z'
  ·by_cases hb:b=a
   ·exact hb
   ·exact absurd (if_neg hb) z
abbrev CX0:Bu:=λ_ _ _ _ _ _=>False
abbrev E0:XK:=λ_ _ _=>False
variable{X:Cx}
def v3:yV CX0 X E0:=λ_ _ _ _ _ _ _ h=>h.elim
structure Fun (K:NK)(x qual:Str)(st:ZF)(f:ZE)(fd:Ox):Prop where
 ex:∃(oc:NM)(od:Option ZE)(kV doc pm:NM)(an:Option ZE)(cdv ct:NM)(osl:Array (Option NM)),
  fd=Rx x qual (gE st) (bD st) (aj st) .none kV doc pm an cdv ct/\K.lookup f=ZA ⟨oc,od,.func fd,osl⟩/\Tj K cdv qual=ZC
 kp:PL K (.ref f)=ZC
variable{f:ZE}{ps:List Str}{qual:Str}{st:ZF}
section
variable {base:ZH}
def Fun.ok{N:List Str}(F:Fun K x qual st f fd)(S:aA N ps (aj st))(len:∀vs H Q E,sp vs H Q E->vs.length=ps.length)
  (hbody:∀(cdv:NM)(A:Ou)(outer:List Env)(s:NQ)(H:Hp)(vs:List V)(Q:VK)(E:XK),Room k (A.deeper (envOfC qual (aj st) s.heap.objs.size f cdv))->sp vs H Q E →
   ∃t,PSs (gp CX0 P w K mg base N qual (aj st) f cdv A outer s H E).nox (bD st) t/\t {nx:=λ_ H'=>Q .non H',rt:=Q} (start N vs) H):FnOk P w K mg base CX0 (k+1) f fd ps sp:=by
 obtain⟨oc,od,kV,doc,pm,an,cdv,ct,osl,rfl,lk,hcd⟩:=F.ex;refine Mo lk hcd S len λA outer s H vs Q E hr hsp=>?_
 obtain⟨t,h,q⟩:=hbody cdv A outer s H vs Q E hr hsp;exact⟨t,h.nox,q⟩
def Fun.binds(F:Fun K x qual st f fd)
  (h:∀(kV doc pm:NM)(an:Option ZE)(cdv ct:NM)(us:List NM),us.length=ps.length->U0 (Rx x qual (gE st) (bD st) (aj st) .none kV doc pm an cdv ct) ⟨us,[]⟩=pure (ps.zip us)):Binds K fd ps []:=by
 obtain⟨oc,od,kV,doc,pm,an,cdv,ct,osl,rfl,lk,hcd⟩:=F.ex;exact .all (h kV doc pm an cdv ct)
def DM{oc:NM}{od an:Option ZE}{osl:Array (Option NM)}{kV doc pm cdv ct:NM}(l:K.lookup f=ZA ⟨oc,od,.func (Rx x qual (gE st) (bD st) (aj st) .none kV doc pm an cdv ct),osl⟩)
  (c:Tj K cdv qual=ZC) (k:PL K (.ref f)=ZC):Fun K x qual st f (Rx x qual (gE st) (bD st) (aj st) .none kV doc pm an cdv ct):=⟨⟨oc,od,kV,doc,pm,an,cdv,ct,osl,rfl,l,c⟩,k⟩
end
variable{pos:Pos}
def pv(i:Nat)(hN:X.N[i]?=ZA x:=by rfl)(hv:lM X.env.scope x:=by first|exact OB rfl|exact Oq (OB rfl)|exact Oq (Oq rfl))(hd:eO x:=by decide)
  (hcd:(x == ("__classdict__" : Str))=ZD:=by decide):PE X (.Name x pos) (oR i):=eF hN hv hd hcd
def iteF{A B:Prop}(h:B):if ZD=ZC then A else B:=by
 rw[if_neg N0];exact h
def iteT{A B:Prop}(h:A):if ZC=ZC then A else B:=by
 rw[if_pos rfl];exact h
def Same(H H':Hp):Prop:=∀b o,H b=ZA o->H' b=ZA o
def Same.refl(H:Hp):Same H H:=λ_ _ h=>h
def Same.trans{H H1 H2:Hp}(a:Same H H1)(b:Same H1 H2):Same H H2:=λc o h=>b c o (a c o h)
theorem lJ{env:Env}:∀(names:List (Str×QY))(acc:List (Str×ZE)),
  (∀x,(x,OH)∈names->∃c,env.cells.lookup x=ZA c) →
  (∀x c,acc.lookup x=ZA c->env.cells.lookup x=ZA c) →
  ∃cl,(forIn (m:=Sem) names acc (λx cs=>(if (x.2 == OH)=ZC then do let a <-cellOf env x.1;pure (QF ((x.1,a)::cs))else pure (QF cs))))=pure cl ∧
   (∀x c,cl.lookup x=ZA c->env.cells.lookup x=ZA c) ∧
   (∀x,(x,OH)∈names->∃c,cl.lookup x=ZA c)/\(∀x c,acc.lookup x=ZA c->∃c',cl.lookup x=ZA c')
 |[],acc,_,h=>⟨acc,rfl,h,λx hx=>by simp at hx,λx c e=>⟨c,e⟩⟩
 | (n,k)::r,acc,hf,h=>by
  by_cases hk:k=OH
  ·subst hk
   obtain⟨c,hc⟩:=hf n (by simp)
   have h':∀x c',((n,c)::acc).lookup x=ZA c'->env.cells.lookup x=ZA c':=λx c' e=>by
    rw[OP]at e
    cases q:x == n with
    |true=>
     rw[q]at e
     have e2:c=c':=Oy e
     have e3:x=n:=by simpa using q
     rw[<-e2,e3];exact hc
    |false=>rw[q]at e;exact h x c' e
   obtain⟨cl,e1,e2,e3,e4⟩:=lJ r ((n,c)::acc) (λx hx=>hf x (NL _ hx)) h'
   refine⟨cl,?_,e2,λx hx=>?_,λx c' e=>?_⟩
   ·rw[U7]
    simp only[beq_self_eq_true,if_true,cellOf,hc,pure_bind];exact e1
   ·rcases NT.mp hx with z|z
    ·have z1:x=n:=by injection z
     subst z1;exact e4 x c (by simp[OP])
    ·exact e3 x z
   ·cases q:x == n with
    |true=>exact e4 x c (by simp[OP,q])
    |false=>exact e4 x c' (by simp[OP,q,e])
  ·have hb:(k == OH)=ZD:=by simpa using hk
   obtain⟨cl,e1,e2,e3,e4⟩:=lJ r acc (λx hx=>hf x (NL _ hx)) h
   refine⟨cl,?_,e2,λx hx=>?_,e4⟩
   ·rw[U7]
    simp only[hb,TR,if_false,pure_bind];exact e1
   ·rcases NT.mp hx with z|z
    ·have z1:OH=k:=by injection z
     exact absurd z1.symm hk
    ·exact e3 x z
variable{env:Env}{scope:Q8}
def yP(hf:∀x,(x,OH)∈scope.names->∃c,env.cells.lookup x=ZA c):
  ∃cl,closureFor scope env=pure cl/\(∀x c,cl.lookup x=ZA c->env.cells.lookup x=ZA c)/\(∀x,(x,OH)∈scope.names->∃c,cl.lookup x=ZA c):=by
 obtain⟨cl,e1,e2,e3,_⟩:=lJ scope.names [] hf (λx c e=>by simp at e)
 refine⟨cl,?_,e2,e3⟩
 unfold closureFor;refine Eq.trans ?_ (congrArg (λz=>z >>= pure) e1|>.trans (by simp))
 rfl
variable{tg:ZG}
def u4{pr:Oa}{wd:O0}{Ar:Ou}{Rz:To->NQ->Prop}{s0:NQ}{el it0:ZG}{cs:List ZG}{sc:Q8}{ps:Pos}{itv av:NM}{ev:Env}(W:Nat->NQ->Prop)
  (go:∀k st,W k st->ZJ (ZK pr wd) Ar (pyNext itv) (λr s1=>match r with
   |none=>Rz (.ok .next) s1
   |some v=>ZJ (ZK pr wd) Ar (Rl tg itv v) (λ_ s2=>ZJ (ZK pr wd) Ar (assign tg ev v) (λ_ s3=>
     ZJ (ZK pr wd) Ar (forIn cs ZC λc b=>if b=ZC then do let z <-isTrue c ev (eval c ev);pure (QF z)else pure (QF b)) (λz s4=>
      if z=ZC then ZJ (ZK pr wd) Ar (eval el ev) (λy s5=>
       ZJ (ZK pr wd) Ar (call (.builtin "list.append") [av,y]) (λ_ s6=>∃m,m<k/\W m s6) (λ_ _=>False) s5) (λ_ _=>False) s4
      else ∃m,m<k/\W m s4) (λ_ _=>False) s3) (λ_ _=>False) s2) (λ_ _=>False) s1) (λ_ _=>False) st)
  (k:Nat) (hk:W k s0):ZL (ZK pr wd) Ar (.compLoop (.ListComp el [⟨tg,it0,cs,0⟩] sc ps) 0 itv av ev) Rz s0:=by
 refine codeAny_loop rfl W (λk st hw=>?_) k hk
 show ZJ (ZK pr wd) Ar ((compTurn (.ListComp el [⟨tg,it0,cs,0⟩] sc ps) 0 itv av ev).onRaise (λz=>do Vh z ev;theTreesLotGoes z)) _ _ st
 refine wpAny_noted ?_
 rw[compTurn_list]
 have no:∀{α:Type}{t:Sem α}{Q Q':α->NQ->Prop}{E':V1}{x:NQ},ZJ (ZK pr wd) Ar t Q (λ_ _=>False) x->(∀y z,Q y z->Q' y z)->ZJ (ZK pr wd) Ar t Q' E' x:=λh f=>Pw h f λ_ _ z=>z.elim
 refine NS (wpAny_standAt (NS (no (go k st hw) λr s1 g1=>?_)))
 cases r with
 |none=>exact N5 g1
 |some v=>
  refine NS (no g1 λ_ s2 g2=>NS (no g2 λ_ s3 g3=>NS (no g3 λz s4 g4=>?_)))
  cases z with
  |false=>exact N5 (And.intro rfl g4)
  |true=>exact NS (NS (no g4 λy s5 g5=>NS (no g5 λ_ s6 g6=>N5 (N5 (And.intro rfl g6)))))
noncomputable def cm(X:Cx)(scope:Q8)(cl:List (Str×ZE))(N':List Str)(C:ZE)(s₀:NQ)(H₀:Hp)(fp:List ZE):Cx:=
 {X with N:=N',s₀:=s₀,H₀:=H₀,env:=compEnvC scope cl C X.env,outer:=X.stack,stack:=X.stack,ex:=fp,fn:=λx=>scope.names.lookup x == ZA .cell,xe:=λ_ _=>False}
def gD(src:List (Option Nat))(σ:St):St:=src.map λo=>match o with
 |some i=>(σ[i]?).join
 |none=>ZB
theorem jU{env:Env}:∀{names:List (Str×QY)}{x:Str}{k:QY},
  (names.map λ(n,k)=>if (k == OH&&env.scope.kind == .function&&env.kindOf n == ZA .cell)then(n,Pu)else(n,k)).lookup x=ZA k →
  ∃k',names.lookup x=ZA k'/\(k=k'\/k'=.free)
 |[],_,_,h=>by simp at h
 | (n,k0)::r,x,k,h=>by
  have ih:=@jU env r x k
  have h':PC x ((if (k0 == OH&&env.scope.kind == .function&&env.kindOf n == ZA .cell)=ZC then(n,Pu)else(n,k0))::(r.map λ(n,k)=>if (k == OH&&env.scope.kind == .function&&env.kindOf n == ZA .cell)then(n,Pu)else(n,k)))=ZA k:=h
  by_cases hc:(k0 == OH&&env.scope.kind == .function&&env.kindOf n == ZA .cell)=ZC
  ·rw[if_pos hc]at h'
   rw[OP]at h' ⊢
   cases hx:x == n with
   |true=>
    refine⟨k0,rfl,.inr ?_⟩
    have:=Pa.mp hc|>.1
    have:=Pa.mp this|>.1
    simpa using this
   |false=>rw[hx]at h';exact ih h'
  ·rw[if_neg hc]at h'
   rw[OP]at h' ⊢
   cases hx:x == n with
   |true=>rw[hx]at h';exact⟨k0,rfl,.inl (Oy h').symm⟩
   |false=>rw[hx]at h';exact ih h'
def kD{names:List (Str×QY)}{k:QY}(h:names.lookup x=ZA k):(x,k)∈names:=P3 h
theorem jv{env:Env}:∀{names:List (Str×QY)}{x:Str},names.lookup x=ZA .free →
  (names.map λ(n,k)=>if (k == OH&&env.scope.kind == .function&&env.kindOf n == ZA .cell)then(n,Pu)else(n,k)).lookup x=ZA .cell ∨
  (names.map λ(n,k)=>if (k == OH&&env.scope.kind == .function&&env.kindOf n == ZA .cell)then(n,Pu)else(n,k)).lookup x=ZA .free
 |[],_,h=>by simp at h
 | (n,k0)::r,x,h=>by
  have ih:=@jv env r x
  show PC x ((if (k0 == OH&&env.scope.kind == .function&&env.kindOf n == ZA .cell)=ZC then(n,Pu)else(n,k0))::_)=_\/PC x ((if (k0 == OH&&env.scope.kind == .function&&env.kindOf n == ZA .cell)=ZC then(n,Pu)else(n,k0))::_)=_
  rw[OP]at h
  by_cases hc:(k0 == OH&&env.scope.kind == .function&&env.kindOf n == ZA .cell)=ZC
  ·rw[if_pos hc]
   rw[OP]
   cases hx:x == n with
   |true=>exact .inl rfl
   |false=>rw[hx]at h;exact ih h
  ·rw[if_neg hc]
   rw[OP]
   cases hx:x == n with
   |true=>rw[hx]at h;exact .inr h
   |false=>rw[hx]at h;exact ih h
variable{N':List Str}{elt iter:ZG}{g:TG}{ifs:List ZG}{s:NQ}{tc:TT}{te:TE}{wi:TI}
structure LcScope (X:Cx)(scope:Q8)(N':List Str)(src:List (Option Nat)):Prop where
 kind:scope.kind=.function
 cel:∀y∈scope.names,y.2=.cell->scope.names.lookup y.1=ZA .cell
 loc:∀y∈scope.names,y.2=.local->scope.names.lookup y.1=ZA .local
 len:src.length=N'.length
 from_:∀(j i:Nat)(x:Str),src[j]?=ZA (ZA i)->N'[j]?=ZA x->X.N[i]?=ZA x/\scope.names.lookup x=ZA .free
 free:∀x,(x,OH)∈scope.names->X.env.kindOf x=ZA .cell\/X.env.kindOf x=ZA .free
def Ih(K:NK)(wi:TI)(src:List (Option Nat))(g:TG)(tc:TT)(te:TE):TE:=λσ H Q=>wi σ H λJ H1=>∀D,H1 D=ZB->K.lookup D=ZB →
 ∃W:Nat->Nat->St->List V->Hp->Prop,(∃m,W 0 m (gD src σ) [] (upd H1 D (.lst [])))/\∀i m σ ys H,W i m σ ys H->H D=ZA (.lst ys) ∧
  ((J.stop i H/\Q (.ref D) H)\/(J.go i H/\ys.length<ZI/\∀x H',J.yld i H x H'->g x σ H' λσ2 H2=>tc σ2 H2 λb H3=>
   if b=ZC then te σ2 H3 λv H4=>H4 D=ZA (.lst ys)/\∃m',m'<m/\W (i+1) m' σ2 (ys++[v]) (upd H4 D (.lst (ys++[v])))else ∃m',m'<m/\W (i+1) m' σ2 ys H3))
def Bt(X:Cx)(ifs:List ZG)(t:TT):Prop:=
 ∀(ol:V2)(s:NQ)(σ:St)(H:Hp)(Q:Bool->Hp->Prop),Inv X ol σ H s->t σ H Q →
  ZJ (ZK X.prog X.w) X.A (forIn ifs ZC λc r=>if r=ZC then do let ok <-isTrue c X.env (eval c X.env);pure (QF ok)else pure (QF r)) (TP X ol σ Q) X.xe s
def vz:TT:=λ_ H Q=>Q ZC H
def tS:Bt X [] vz:=λ_ _ _ H _ I h=>wpAny_tests_nil ⟨H,I,h⟩
def FX{c:ZG}{t:TT}(h:PT X c t):Bt X [c] t:=λol s σ H Q I q=>wpAny_tests_one (h ol s σ H Q I q)
theorem ng:∀(names:List (Str×QY))(h:ZH)(acc:List (Str×ZE)),(∀x y c,acc.lookup x=ZA c->acc.lookup y=ZA c->x=y)->(∀x c,acc.lookup x=ZA c->c<h.objs.size) →
  (∀x c,(P4 h.objs.size names acc).lookup x=ZA c->acc.lookup x=ZA c\/(h.objs.size<=c/\(S6 h names).IsCell c ZB)) ∧
  (∀x y c,(P4 h.objs.size names acc).lookup x=ZA c->(P4 h.objs.size names acc).lookup y=ZA c->x=y) ∧
  (∀x,(x,Pu)∉names->(P4 h.objs.size names acc).lookup x=acc.lookup x) ∧
  (∀x,((x,Pu)∈names\/∃c,acc.lookup x=ZA c)->∃c,(P4 h.objs.size names acc).lookup x=ZA c) ∧
  (∀x c,(x,Pu)∈names->(P4 h.objs.size names acc).lookup x=ZA c->h.objs.size<=c)
 |[],h,acc,hi,_=>⟨λ_ _ e=>.inl e,hi,λ_ _=>rfl,λx e=>e.elim (λz=>absurd z Po) id,λ_ _ z=>absurd z Po⟩
 | (n,k)::r,h,acc,hi,hl=>by
  unfold P4 S6
  by_cases hk:k=.cell
  ·subst hk
   rw[if_pos (by rfl),if_pos (by rfl)]
   have hz:(h.push {cls:=.type "cell",data:=.cell ZB}).objs.size=h.objs.size+1:=Qj ..
   have lk:∀x,((n,h.objs.size)::acc).lookup x=if x=n then ZA h.objs.size else acc.lookup x:=λx=>by
    rw[OP]
    by_cases e:x=n
    ·rw[if_pos e,beq_iff_eq.mpr e]
    ·rw[if_neg e,beq_eq_false_iff_ne.mpr e]
   obtain⟨c1,c2,c3,c4,c5⟩:=ng r (h.push {cls:=.type "cell",data:=.cell ZB}) ((n,h.objs.size)::acc) (λx y c e1 e2=>by
     rw[lk]at e1 e2
     by_cases q1:x=n
     ·by_cases q2:y=n
      ·rw[q1,q2]
      ·rw[if_pos q1]at e1;rw[if_neg q2]at e2
       cases e1;exact absurd (hl _ _ e2) (Ot _)
     ·rw[if_neg q1]at e1
      by_cases q2:y=n
      ·rw[if_pos q2]at e2
       cases e2;exact absurd (hl _ _ e1) (Ot _)
      ·rw[if_neg q2]at e2;exact hi x y c e1 e2) (λx c e=>by
     rw[lk]at e;rw[hz]
     by_cases q:x=n
     ·rw[if_pos q]at e;cases e;exact SD _
     ·rw[if_neg q]at e;exact Ul (hl x c e))
   rw[hz]at c1 c2 c3 c4 c5;refine⟨λx c e=>?_,c2,λx hx=>?_,λx hx=>?_,λx c hx e=>?_⟩
   ·rcases c1 x c e with z|z
    ·rw[lk]at z
     by_cases q:x=n
     ·rw[if_pos q]at z;cases z
      exact .inr ⟨N4 _,_,S7 r _ _ _ (Oc _ rfl),rfl⟩
     ·rw[if_neg q]at z;exact .inl z
    ·exact .inr ⟨Sn z.1,z.2⟩
   ·rw[c3 x λz=>hx (NL _ z),lk,if_neg λz=>hx (by rw[z];exact NP)]
   ·refine c4 x ?_
    rcases hx with hx|hx
    ·rcases NT.mp hx with z|z
     ·cases z
      exact .inr ⟨_,by rw[lk,if_pos rfl]⟩
     ·exact .inl z
    ·by_cases q:x=n
     ·exact .inr ⟨_,by rw[lk,if_pos q]⟩
     ·exact .inr (by rw[lk,if_neg q];exact hx)
   ·rcases NT.mp hx with z|z
    ·have q:x=n:=(U2 z).1
     rcases c1 x c e with y|y
     ·rw[lk,if_pos q]at y;cases y;exact N4 _
     ·exact Sn y.1
    ·exact Sn (c5 x c z e)
  ·have hb:¬ (k == Pu)=ZC:=λz=>hk (by simpa using z)
   rw[if_neg hb,if_neg hb];obtain⟨c1,c2,c3,c4,c5⟩:=ng r h acc hi hl;exact⟨c1,c2,λx hx=>c3 x λz=>hx (NL _ z),λx hx=>c4 x (hx.imp (λz=>(NT.mp z).resolve_left λz=>hk (U2 z).2.symm) id),λx c hx=>c5 x c ((NT.mp hx).resolve_left λz=>hk (U2 z).2.symm)⟩
def AI{M:Vk}{A:Ou}{E:V1}{globals:ZE}{cl:List (Str×ZE)}{Q:Env->NQ->Prop}
  (q:Q (newEnv scope s.heap.objs.size globals (P4 (s.heap.objs.size+1) scope.names cl) qual ZB .none (ZA env) So) {s with heap:=S6 (s.heap.push {cls:=.type "dict",data:=.dict #[]}) scope.names}):
  ZJ M A (newFunctionEnv scope globals cl [] qual ZB .none (ZA env)) Q E s:=by
 simp only[newFunctionEnv,TU,if_true];refine NS (wpAny_alloc (NS (wpAny_layCells _ (λname kind cells=>by cases hkc:kind == Pu <;> simp[hkc]) _ _ _ _ ?_)))
 rw[show({s with heap:=s.heap.push {cls:=.type "dict",data:=.dict #[]}}:NQ).heap.objs.size=s.heap.objs.size+1 from Qj ..]
 rw[List.forIn_nil];exact NS (N5 (N5 q))
def zG{fpos:Pos}{src:List (Option Nat)}{use:Option (NM->Sem Unit)}{Qf:V1}
  {ol:V2}  {σ:St} {H:Hp} {Q:VK}
  (hc:X.calm=ZC) (S:LcScope X scope N' src) (hi:PI X tg iter wi)
  (block:∀cl C s₀ H₀ fp,PG (cm X scope cl N' C s₀ H₀ fp) tg g/\Bt (cm X scope cl N' C s₀ H₀ fp) ifs tc/\PE (cm X scope cl N' C s₀ H₀ fp) elt te)
  (hs:∀x,OS iter X.env x=pure x) (I:Inv X ol σ H s) (h:Ih X.K wi src g tc te σ H Q)
  (hend:∀(D C:ZE)(H':Hp)(s':NQ),(∃m,s'.heap.Ns C m)->(∀h',Rb C s'.heap h'->Inv X ol σ H' {s' with heap:=h'})->(H' C=ZB/\C≠X.env.locals/\X.s₀.heap.objs.size<=C/\(∀x c,X.env.cells.lookup x=ZA c->c≠C)/\∀p∈X.pn++ol,p.1≠C)->Q (.ref D) H' →
   compPost (ZK X.prog X.w) X.A X.xe use Qf (.ref D) C (.ok .next) s'):
  ZJ (ZK X.prog X.w) X.A (comprehension (.ListComp elt [⟨tg,iter,ifs,0⟩] scope pos) scope X.env fpos (newList []) ZD (eval iter X.env) use) Qf X.xe s:=by
 have hcell:∀x,(x,OH)∈scope.names->∃c,X.env.cells.lookup x=ZA c:=λx hx=>I.ok.has x (S.free x hx)
 obtain⟨cl0,hcl,cl01,cl02⟩:=yP (env:=X.env) (scope:=scope) hcell;refine wpAny_comprehension_free (use:=use) rfl hs hcl S.kind S.loc (bS (hi ol s σ H _ I h) λv s1 h1=>bS h1 λitv s2 h2=>?_)
 obtain⟨it,fp,tn,J,H2,e,I2,T,st2,f2,hq⟩:=h2;subst e
 -- the new list
 refine PJ ?_
 have hD:H2 s2.heap.objs.size=ZB:=I2.hok.fresh (N4 _)
 have hDK:X.K.lookup s2.heap.objs.size=ZB:=by
  cases q:X.K.lookup s2.heap.objs.size with
  |none=>rfl
  |some o=>exact absurd (NZ (I2.kIn _ o q)) (Ot _)
 obtain⟨W,⟨m0,w0⟩,turn⟩:=hq s2.heap.objs.size hD hDK
 have I3:=I2.Nv (its:=[]) (ys:=[]) (t':=s2.toks) .nil (Qk _)
 generalize hs3:({s2 with heap:=s2.heap.push {cls:=.type "list",data:=.seq ([]:List NM).toArray},toks:=s2.toks}:NQ)=s3 at I3
 generalize hH3:upd H2 s2.heap.objs.size (.lst [])=H3 at I3 w0
 have hDsz:s2.heap.objs.size<s3.heap.objs.size:=by rw[<-hs3];simp[Qj]
 have fr3:∀b∈fp,H3 b=ZB:=λb hb=>by
  obtain⟨o,eo,_⟩:=T.obj _ _ st2 b hb;rw[<-hH3,aB (Pk (NZ eo))];exact(f2 b hb).1
 have st3:tn 0 s3.heap:=T.keep _ _ _ st2 λb hb o e=>by rw[<-hs3];exact NX _ e
 have f3:∀b∈fp,qD X ol H3 b:=λb hb=>⟨fr3 b hb,(f2 b hb).2⟩
 have D3:H3 s2.heap.objs.size=ZA (.lst []):=by rw[<-hH3];exact aG
 generalize s2.heap.objs.size=D at*
 clear hs3 hH3 hD hDK
 -- the block's frame
 refine AI ?_
 have old:∀b o,s3.heap.get? b=ZA o->(S6 (s3.heap.push {cls:=.type "dict",data:=.dict #[]}) scope.names).get? b=ZA o:=λb o e=>S7 _ _ b o (NX _ e)
 have hns₁:(S6 (s3.heap.push {cls:=.type "dict",data:=.dict #[]}) scope.names).Ns s3.heap.objs.size (λ_=>ZB):=(Heap.Ns.new s3.heap (.type "dict")).keeps (S7 _ _)
 have hz3:(s3.heap.push {cls:=.type "dict",data:=.dict #[]}).objs.size=s3.heap.objs.size+1:=Qj ..
 have lt0:∀x c,cl0.lookup x=ZA c->c<s3.heap.objs.size:=λx c e=>let ⟨_,ic⟩:=I3.cell x c (cl01 x c e);ic.lt
 obtain⟨c1,c2,c3,c4,c5⟩:=ng scope.names (s3.heap.push {cls:=.type "dict",data:=.dict #[]}) cl0 (λx y c e1 e2=>I3.ok.inj x y c (cl01 x c e1) (cl01 y c e2)) λx c e=>by rw[hz3];exact Ul (lt0 x c e)
 rw[hz3]at c1 c2 c3 c4 c5
 generalize hcl':P4 (s3.heap.objs.size+1) scope.names cl0=cl at*
 generalize hh₁:S6 (s3.heap.push {cls:=.type "dict",data:=.dict #[]}) scope.names=h₁ at*
 have below:∀b o,s3.heap.get? b=ZA o->b≠s3.heap.objs.size:=λb o e=>Pk (NZ e)
 -- a cell of the block's: one from around,or a new one
 have cl1:∀x c,cl.lookup x=ZA c->X.env.cells.lookup x=ZA c\/(s3.heap.objs.size<c/\h₁.IsCell c ZB):=λx c e=>(c1 x c e).imp (cl01 x c) id
 generalize hC:s3.heap.objs.size=C at*
 have stk:∀b,b≠X.env.locals->b∉X.fs->b∉m9 X.stack:=λb h1 h2 z=>(NT.mp (I3.Nf b z)).elim h1 h2
 have apart:∀b∈fp,∀x c,cl.lookup x=ZA c->c≠b:=λb hb x c e=>by
  rcases cl1 x c e with z|z
  ·exact(f3 b hb).2.2.2.2.1 x c z
  ·obtain⟨o,eo,_⟩:=T.obj _ _ st3 b hb
   have h1:=NZ eo;rw[hC]at h1;exact R5 (Nat.lt_trans h1 z.1)
 have I4:Inv (cm X scope cl N' C s3 H3 fp) ol (gD src σ) H3 {s3 with heap:=h₁}:=by
  refine⟨⟨I3.ok.mod,S.kind,I3.ok.glob,I3.ok.blt,RB hC,c2,λx hx=>?_,λx c hx e=>Rc (hC▸c5 x c (kD (beq_iff_eq.mp hx)) e),I3.ok.hd,I3.ok.frames,.inl rfl,
    λb hb=>⟨?_,λx c e=>apart b hb x c e⟩,I3.bs,OJ I3.ok.bsz I3.sz,λb o e z=>?_,λb hb=>stk b (f3 b hb).2.1 (f3 b hb).2.2.1,I3.stack,I3.KM⟩,
   rfl,I3.bare,Un.kept old,⟨_,hns₁,λj x v e1 e2 e3=>?_⟩,λx c e=>?_,I3.hok.fresh (RB hC),λx c e=>(cl1 x c e).elim (I3.freeC x c) λz=>I3.hok.fresh (by rw[hC];exact Rc z.1),λp hp=>?_,I3.hok.kept old,?_⟩
  ·have key:∀k,(relabel scope X.env).names.lookup x=ZA k->(k=.cell\/k=.free)->∃c,cl.lookup x=ZA c:=λk e hk=>by
    obtain⟨k',e',z⟩:=jU e
    have hk':k'=.cell\/k'=.free:=z.elim (λz=>z▸hk) .inr
    rcases hk' with q|q
    ·exact c4 x (.inl (q▸kD e'))
    ·exact c4 x (.inr (cl02 x (q▸kD e')))
   rcases hx with hx|hx
   ·exact key _ hx (.inl rfl)
   ·exact key _ hx (.inr rfl)
  ·obtain⟨o,eo,_⟩:=T.obj _ _ st3 b hb
   show b≠C
   exact below b o eo
  ·have z':b∈fp:=z
   obtain⟨_,_,_,z1,_⟩:=f3 b z';rcases z1 with z1|z1
   ·exact I3.ok.noex b o e z1
   ·exact absurd (N8 (NZ (I3.ok.bs b o e).1) z1) (Ot _)
  ·unfold gD at e2
   rw[Oe]at e2
   cases q:src[j]? with
   |none=>rw[q]at e2;simp at e2
   |some o=>
    rw[q]at e2
    cases o with
    |none=>simp at e2
    |some i=>
     have e2':(σ[i]?).join=ZA v:=by simpa using e2
     have e2'':σ[i]?=ZA (ZA v):=by
      cases q2:σ[i]? with
      |none=>rw[q2]at e2';simp at e2'
      |some z=>rw[q2]at e2';simp at e2';rw[e2']
     obtain⟨hN,hfree⟩:=S.from_ j i x q e1
     have hm:=kD hfree
     have hk:=S.free x hm;obtain⟨m,hn,hl⟩:=I3.loc
     have hv:lM X.env.scope x:=by
      rcases hk with z|z
      ·exact .inr (.inl z)
      ·exact .inr (.inr z)
     obtain⟨u,r,l⟩:=hl i x v hN e2'' hv;refine⟨u,r,.inr ⟨?_,?_⟩⟩
     ·exact jv hfree
     ·rcases l with⟨z,_⟩|⟨_,c,ec,ic⟩
      ·rcases hk with z'|z' <;> rw[z']at z <;> cases z
      ·obtain⟨c',ec0⟩:=cl02 x hm
       have ec':cl.lookup x=ZA c':=(c3 x λz=>by have:=S.cel _ z rfl;rw[hfree]at this;cases this).trans ec0
       have:=cl01 x c' ec0;rw[ec]at this;cases this;obtain⟨o,ho,hd⟩:=ic;exact⟨c,ec',o,old _ _ ho,hd⟩
  ·rcases cl1 x c e with z|z
   ·obtain⟨v,o,ho,hd⟩:=I3.cell x c z
    exact⟨v,o,old _ _ ho,hd⟩
   ·exact⟨ZB,z.2⟩
  ·obtain⟨e,n,ne,nf,d⟩:=I3.pin p hp
   exact⟨old _ _ e,n,below _ _ e,stk _ ne nf,d⟩
  ·show(gD src σ).length=N'.length
   unfold gD;rw[NR];exact S.len
 obtain⟨bG,bI,bE⟩:=block cl C s3 H3 fp
 have stat:∀{H':Hp},(∀b∈fp,H' b=ZB)->∀b∈fp,qD (cm X scope cl N' C s3 H3 fp) ol H' b:=λhn b hb=>by
  obtain⟨o,eo,_⟩:=T.obj _ _ st3 b hb;exact⟨hn b hb,below b o eo,stk b (f3 b hb).2.1 (f3 b hb).2.2.1,.inl hb,apart b hb,(f3 b hb).2.2.2.2.2⟩
 have st4:tn 0 h₁:=T.keep _ _ _ st3 λb hb o e=>old b o e
 -- behind the block
 have after:∀(H':Hp)(s':NQ)(σ':St),Inv (cm X scope cl N' C s3 H3 fp) ol σ' H' s'->Q (.ref D) H' →
   compPost (ZK X.prog X.w) X.A X.xe use Qf (.ref D) C (.ok .next) s':=λH' s' σ' I' q=>by
  obtain⟨m,hn,_⟩:=id I'.loc
  have fC:X.s₀.heap.objs.size<=C:=by rw[<-hC];exact I3.sz
  have ltC:∀b o,s3.heap.get? b=ZA o->b<C:=λb o e=>by rw[<-hC];exact NZ e
  refine hend D C H' s' ⟨m,hn⟩ (λh' hsb=>?_) ⟨I'.free,?_,fC,λx c e z=>?_,λp hp z=>?_⟩ q
  rotate_left
  ·have:=I3.lt;rw[hC]at this;exact R5 this
  ·obtain⟨v,ic⟩:=I3.cell x c e
   have:=ic.lt;rw[hC,z]at this;exact Ot _ this
  ·have:=ltC _ _ (I3.pin p hp).1;rw[z]at this;exact Ot _ this
  have u:Un (m9 X.stack) fp H3 H' s3.heap s'.heap:=I'.base
  have lift:∀b o,s3.heap.get? b=ZA o->∀o',s'.heap.get? b=ZA o'->h'.get? b=ZA o':=λb o e o' e'=>hsb.extBut b o' (below b o e) e'
  have u':Un (m9 X.stack) fp H3 H' s3.heap h':=
   ⟨λb o e n hb hx=>lift b o e o (u.keep b o e n hb hx),λb o e n hb hx=>by
     obtain⟨sl,z⟩:=u.slot b o e n hb hx;exact⟨sl,lift b o e _ z⟩,u.free,λb o e hx=>by
     obtain⟨o',z⟩:=u.there b o e hx;exact⟨o',lift b o e _ z⟩,u.tups,u.frzs,u.tbls⟩
  have hCn:H' C=ZB:=I'.free
  have hok':HOk X.prog X.w H' h':=λb ob e=>by
   refine(I'.hok b ob e).M4 (λc w' hc' q'=>(hsb.2 c ?_).trans q') (λ_ q=>q) λ_ _ q=>q
   rintro rfl
   rcases hc' with rfl|hc'
   ·rw[hCn]at e;cases e
   ·rw[hCn]at hc';cases hc'
  have I5:Inv X ol σ H' {s' with heap:=h'}:=I3.M7 (s':={s' with heap:=h'}) (ch:=fp) I'.os u' hok' I'.bare λb hb=>⟨(f3 b hb).2.2.2.1,(f3 b hb).2.1,(f3 b hb).2.2.2.2.1,(f3 b hb).2.2.2.2.2⟩
  exact I5
 have loop:ZL (ZK X.prog X.w) X.A (.compLoop (.ListComp elt [⟨tg,iter,ifs,0⟩] scope pos) 0 (.ref it) (.ref D) (compEnvC scope cl C X.env))
   (compPost (ZK X.prog X.w) X.A X.xe use Qf (.ref D) C) {s3 with heap:=h₁}:=by
  refine u4 (λn s'=>∃i σ' ys H',Inv (cm X scope cl N' C s3 H3 fp) ol σ' H' s'/\tn i s'.heap/\(∀b∈fp,H' b=ZB)/\W i n σ' ys H') ?_ m0 ⟨0,_,[],H3,I4,st4,fr3,w0⟩
  rintro n s5 ⟨i,σ5,ys,H5,I5,st5,fr5,w5⟩
  obtain⟨hDl,alt⟩:=turn i n σ5 ys H5 w5;rcases alt with⟨stop,qn⟩|⟨go,hlen,step⟩
  ·refine bS (T.done (cm X scope cl N' C s3 H3 fp) rfl rfl rfl hc i ol s5 σ5 H5 _ I5 (stat fr5) st5 stop) λr s6 ⟨hr,I6⟩=>?_
   subst hr;exact after H5 s6 σ5 I6 qn
  ·refine bS (T.item (cm X scope cl N' C s3 H3 fp) rfl rfl rfl hc i ol s5 σ5 H5 _ I5 (stat fr5) st5 go) λr s6 ⟨u,hr,h6⟩=>?_
   subst hr;refine bS h6 λ_ s7 hh_=>?_
   obtain⟨x,H7,I7,r7,y7,st7,fr7⟩:=hh_
   have I7':=I7.pinned (stat fr7) (T.obj _ _ st7);refine bS (bG _ s7 σ5 H7 x u _ I7' r7 (step x H7 y7)) λ_ s8 hh_=>?_
   obtain⟨σ8,H8,I8,q8⟩:=hh_;refine bS (bI _ s8 σ8 H8 _ I8 q8) λok s9 hh_=>?_
   obtain⟨H9,I9,q9⟩:=hh_
   have again:∀{σx:St}{Hx:Hp}{sx:NQ}{ys':List V},Inv (cm X scope cl N' C s3 H3 fp) (ol++ph fp s7.heap) σx Hx sx->(∃m',m'<n/\W (i+1) m' σx ys' Hx) →
     ∃m,m<n/\∃i σ' ys H',Inv (cm X scope cl N' C s3 H3 fp) ol σ' H' sx/\tn i sx.heap/\(∀b∈fp,H' b=ZB)/\W i m σ' ys H':=λ{σx Hx sx ys'} Ix nx=>by
    obtain⟨m',hm,wx⟩:=nx;refine⟨m',hm,i+1,σx,ys',Hx,Ix.MX,T.keep _ _ _ st7 λb hb o e=>(Ix.pin (b,o) (Of _ (Of _ (i7 hb e)))).1,λb hb=>?_,wx⟩
    obtain⟨o,e,d⟩:=T.obj _ _ st7 b hb;exact(Ix.pin (b,o) (Of _ (Of _ (i7 hb e)))).2.1
   cases ok with
   |false=>
    rw[if_neg N0]at q9 ⊢
    exact again I9 q9
   |true=>
    rw[if_pos rfl]at q9 ⊢;refine bS (bE _ s9 σ8 H9 _ I9 q9) λv s10 hh_=>?_
    obtain⟨y,H10,I10,r10,hD10,q10⟩:=hh_;refine bS (mX _ s10 σ8 H10 (.ref D) [y] (.ref D) [v] (λ_ H'=>H'=upd H10 D (.lst (ys++[y]))) I10 rfl (.cons r10 .nil) ⟨D,ys,y,rfl,rfl,hD10,hlen,rfl⟩) λ_ s11 hh_=>?_
    obtain⟨_,H11,I11,_,e11⟩:=hh_;subst e11;exact again I11 q10
 exact codeAny_compStart_list loop (T.self _ 0 _ _ _ st4 loop)
def vW{src:List (Option Nat)}
  (hc:X.calm=ZC) (S:LcScope X scope N' src) (hi:PI X tg iter wi)
  (block:∀cl C s₀ H₀ fp,PG (cm X scope cl N' C s₀ H₀ fp) tg g/\Bt (cm X scope cl N' C s₀ H₀ fp) ifs tc/\PE (cm X scope cl N' C s₀ H₀ fp) elt te)
  (hs:∀x,OS iter X.env x=pure x:=by intro _;rfl):
  PE X (.ListComp elt [⟨tg,iter,ifs,0⟩] scope pos) (Ih X.K wi src g tc te):=by
 intro ol s σ H Q I h;rw[eval_ListComp];exact zG (use:=ZB) hc S hi block hs I h λD C H' s' ⟨m,hn⟩ inv _ q=>⟨m,hn,λh' hsb=>⟨.ref D,H',inv h' hsb,rfl,q⟩⟩
def Lv{py spos:Pos}{src:List (Option Nat)}{i:Nat}{y:Str}
  (hc:X.calm=ZC) (S:LcScope X scope N' src) (hi:PI X tg iter wi)
  (block:∀cl C s₀ H₀ fp,PG (cm X scope cl N' C s₀ H₀ fp) tg g/\Bt (cm X scope cl N' C s₀ H₀ fp) ifs tc/\PE (cm X scope cl N' C s₀ H₀ fp) elt te)
  (hN:X.N.Nodup) (hiy:X.N[i]?=ZA y) (hy:Loc X.env.scope y) (hsw:OW (.ListComp elt [⟨tg,iter,ifs,0⟩] scope pos) (ZA (.Name y py)) spos.line X.env=pure ZC)
  (hf:X.fn y=ZC\/X.env.scope.names.lookup y=ZA .local) (hs:∀x,OS iter X.env x=pure x:=by intro _;rfl):
  PS X (.Assign [.Name y py] (.ListComp elt [⟨tg,iter,ifs,0⟩] scope pos) spos) (BP (Ih X.K wi src g tc te) (DL i)):=by
 intro ol s σ H D I h;rw[exec_Assign_Name_used _ _ _ _ hsw];refine NS (wpAny_standAt (NS ?_))
 show ZJ (ZK X.prog X.w) X.A (do let _ <-comprehension (.ListComp elt [⟨tg,iter,ifs,0⟩] scope pos) scope X.env _ (newList []) ZD (eval iter X.env) (ZA (assign (.Name y py) X.env))) _ _ s
 refine NS (bS (zG (use:=ZA (assign (.Name y py) X.env)) (Qf:=λ_ s'=>SP X ol D .next s') (Q:=λv H'=>D.nx (σ.set i (ZA v)) H') hc S hi block hs I h λL C H' s' ⟨m,hn⟩ inv ⟨c0,c1,c2,c3,c4⟩ q=>?_) λ_ s' hq=>N5 (N5 hq))
 have I0:Inv X ol σ H' s':=inv s'.heap (Heap.SameBut.refl ..)
 show ZJ (ZK X.prog X.w) X.A (assign (.Name y py) X.env (.ref L)) _ _ s'
 refine Uv (rF I0 hN hiy hy (v:=.ref L) rfl (λs2 I2 ⟨b,sb,hb⟩=>?_) hf)
 have hbC:C≠b:=by
  rcases hb with z|z
  ·rw[z];exact c1
  ·exact λw=>c3 y b z w.symm
 refine⟨m,hn.sameBut sb hbC,λh' hsb=>?_⟩
 exact⟨_,H',I2.turned (t':=s2.toks) (λb' o hb' e=>(hsb.2 b' hb').trans e) c0 c1 (.inr c2) c3 c4,q⟩
end L2
namespace Tr
open PySem PySem.Spec PyProof.Rows L2
def bN(K:NK)(c:Str):ZE:=match Ra K OA c with
 |some (ZA (.ref C))=>C
 |_=>0
def Hq:T->Option Key
 |.int i=>ZA (.inl i)
 |.str x=>ZA (.inr x)
 |_=>ZB
noncomputable def pZ:List T->Option (List Key)
 |[] =>ZA []
 |t::l=>match Hq t,pZ l with
  |some k,ZA r=>ZA (k::r)
  |_,_=>ZB
def keyOf:T->Option (List Key)
 |.tup l=>pZ l
 |_=>ZB
inductive Rs (α:Type) where
 |ok (a:α)|err (c:Str)|bad
noncomputable def Rs.bind{α β:Type}(x:Rs α)(f:α->Rs β):Rs β:=match x with
 |.ok a=>f a
 |.err c=>.err c
 |.bad=>.bad
noncomputable instance:Monad Rs where
 pure:=Rs.ok
 bind:=Rs.bind
@[simp] theorem ay {α β:Type} (a:α) (f:α->Rs β):(Rs.ok a >>= f)=f a:=rfl
@[simp] theorem MH {α:Type} (a:α):(pure a:Rs α)=Rs.ok a:=rfl
@[simp] theorem Mx {α β:Type} (f:α->Rs β):((Rs.bad:Rs α) >>= f)=.bad:=rfl
@[simp] theorem Mr {α β:Type} (c:Str) (f:α->Rs β):((Rs.err c:Rs α) >>= f)=.err c:=rfl
abbrev Ow:=ZE->Prop
mutual
def Rep(K:NK)(O:Ow)(H:Hp):T->V->Prop
 |.non,v=>v=.non
 |.bl b,v=>v=.bl b
 |.int i,v=>v=.int i
 |.str x,v=>v=.str x
 |.tup l,v=>∃a vs,v=.ref a/\¬ O a/\H a=ZA (.tup vs)/\Reps K O H l vs
 |.lst l,v=>∃a vs,v=.ref a/\¬ O a/\H a=ZA (.lst vs)/\Reps K O H l vs
 |.scr l,v=>∃a,v=.ref a/\¬ O a/\SqL K H a (l.map V.int)
 |.dct ks ts,v=>∃a kvs,v=.ref a/\¬ O a/\Rd H a (.dT kvs)/\ks.map keyOf=kvs.map (λp=>ZA p.1)/\Reps K O H ts (kvs.map (·.2))
 |.ob C ns ts,v=>∃a dx fs,v=.ref a/\¬ O a/\H a=ZA (.ins (bN K C) dx fs)/\fs.map (·.1)=ns/\Reps K O H ts (fs.map (·.2))
def Reps(K:NK)(O:Ow)(H:Hp):List T->List V->Prop
 |[],vs=>vs=[]
 |t::r,vs=>∃v ws,vs=v::ws/\Rep K O H t v/\Reps K O H r ws
end
def SameO(P:Ow)(H H':Hp):Prop:=∀b o,H b=ZA o->¬ P b->H' b=ZA o
variable{H H':Hp}{P:Ow}
def SameO.of(h:Same H H'):SameO P H H':=λb o e _=>h b o e
variable{a:ZE}
def Rd.Nm{u:HO}(h:SameO P H H')(n:¬ P a)(q:Rd H a u):Rd H' a u:=q.elim (λe=>.inl (h _ _ e n)) λ⟨o,e⟩=>.inr ⟨o,h _ _ e n⟩
variable{K:NK}{vs:List V}
def SqL.keep(h:SameO P H H')(n:¬ P a)(q:SqL K H a vs):SqL K H' a vs:=by
 rcases q with(q|⟨o,q⟩)|q
 ·exact .inl (.inl (h _ _ q n))
 ·exact .inl (.inr ⟨o,h _ _ q n⟩)
 ·exact .inr q
mutual
theorem Rep.keep{K:NK}{O P:Ow}{H H':Hp}(h:SameO P H H')(sub:∀a,P a->O a):∀{t:T}{v:V},Rep K O H t v->Rep K O H' t v
 |.non,_,r=>by unfold Rep at r ⊢;exact r
 |.bl _,_,r=>by unfold Rep at r ⊢;exact r
 |.int _,_,r=>by unfold Rep at r ⊢;exact r
 |.str _,_,r=>by unfold Rep at r ⊢;exact r
 |.tup l,_,r=>by
  unfold Rep at r ⊢;obtain⟨a,vs,e,n,q,z⟩:=r
  exact⟨a,vs,e,n,h _ _ q (λp=>n (sub a p)),Reps.keep h sub z⟩
 |.lst l,_,r=>by
  unfold Rep at r ⊢;obtain⟨a,vs,e,n,q,z⟩:=r
  exact⟨a,vs,e,n,h _ _ q (λp=>n (sub a p)),Reps.keep h sub z⟩
 |.scr l,_,r=>by
  unfold Rep at r ⊢;obtain⟨a,e,n,q⟩:=r
  exact⟨a,e,n,SqL.keep h (λp=>n (sub a p)) q⟩
 |.dct ks ts,_,r=>by
  unfold Rep at r ⊢;obtain⟨a,kvs,e,n,q,k,z⟩:=r
  exact⟨a,kvs,e,n,Rd.Nm h (λp=>n (sub a p)) q,k,Reps.keep h sub z⟩
 |.ob C ns ts,_,r=>by
  unfold Rep at r ⊢;obtain⟨a,dx,fs,e,n,q,k,z⟩:=r;exact⟨a,dx,fs,e,n,h _ _ q (λp=>n (sub a p)),k,Reps.keep h sub z⟩
theorem Reps.keep{K:NK}{O P:Ow}{H H':Hp}(h:SameO P H H')(sub:∀a,P a->O a):∀{l:List T}{vs:List V},Reps K O H l vs->Reps K O H' l vs
 |[],_,r=>by unfold Reps at r ⊢;exact r
 |t::l,_,r=>by
  unfold Reps at r ⊢;obtain⟨v,ws,e,p,q⟩:=r;exact⟨v,ws,e,Rep.keep h sub p,Reps.keep h sub q⟩
end
mutual
theorem Rep.less{K:NK}{O O':Ow}{H:Hp}(sub:∀a,O' a->O a):∀{t:T}{v:V},Rep K O H t v->Rep K O' H t v
 |.non,_,r=>by unfold Rep at r ⊢;exact r
 |.bl _,_,r=>by unfold Rep at r ⊢;exact r
 |.int _,_,r=>by unfold Rep at r ⊢;exact r
 |.str _,_,r=>by unfold Rep at r ⊢;exact r
 |.tup l,_,r=>by
  unfold Rep at r ⊢;obtain⟨a,vs,e,n,q,z⟩:=r
  exact⟨a,vs,e,λp=>n (sub a p),q,Reps.less sub z⟩
 |.lst l,_,r=>by
  unfold Rep at r ⊢;obtain⟨a,vs,e,n,q,z⟩:=r
  exact⟨a,vs,e,λp=>n (sub a p),q,Reps.less sub z⟩
 |.scr l,_,r=>by
  unfold Rep at r ⊢;obtain⟨a,e,n,z⟩:=r
  exact⟨a,e,λp=>n (sub a p),z⟩
 |.dct ks ts,_,r=>by
  unfold Rep at r ⊢;obtain⟨a,kvs,e,n,q,k,z⟩:=r
  exact⟨a,kvs,e,λp=>n (sub a p),q,k,Reps.less sub z⟩
 |.ob C ns ts,_,r=>by
  unfold Rep at r ⊢;obtain⟨a,dx,fs,e,n,q,k,z⟩:=r;exact⟨a,dx,fs,e,λp=>n (sub a p),q,k,Reps.less sub z⟩
theorem Reps.less{K:NK}{O O':Ow}{H:Hp}(sub:∀a,O' a->O a):∀{l:List T}{vs:List V},Reps K O H l vs->Reps K O' H l vs
 |[],_,r=>by unfold Reps at r ⊢;exact r
 |t::l,_,r=>by
  unfold Reps at r ⊢;obtain⟨v,ws,e,p,q⟩:=r;exact⟨v,ws,e,Rep.less sub p,Reps.less sub q⟩
end
variable{O:Ow}{i:Int}{l ts:List T}{v:V}
section
variable {t:T}
def Rep.same(h:Same H H')(r:Rep K O H t v):Rep K O H' t v:=Rep.keep (P:=λ_=>False) (SameO.of h) (λ_ z=>z.elim) r
def Reps.same(h:Same H H')(r:Reps K O H l vs):Reps K O H' l vs:=Reps.keep (P:=λ_=>False) (SameO.of h) (λ_ z=>z.elim) r
def Rep.Nh:Rep K O H .non .non:=by unfold Rep;rfl
def Rep.bl_(b:Bool):Rep K O H (.bl b) (.bl b):=by unfold Rep;rfl
def Rep.Gc(i:Int):Rep K O H (.int i) (.int i):=by unfold Rep;rfl
def Rep.Nq(x:Str):Rep K O H (.str x) (.str x):=by unfold Rep;rfl
def Rep.Fk:Rep K O H (.tup l) v↔ ∃a vs,v=.ref a/\¬ O a/\H a=ZA (.tup vs)/\Reps K O H l vs:=by unfold Rep;exact Rk
def Rep.Do:Rep K O H (.lst l) v↔ ∃a vs,v=.ref a/\¬ O a/\H a=ZA (.lst vs)/\Reps K O H l vs:=by unfold Rep;exact Rk
def Rep.IR{ks:List T}:Rep K O H (.dct ks ts) v↔ ∃a kvs,v=.ref a/\¬ O a/\Rd H a (.dT kvs)/\ks.map keyOf=kvs.map (λp=>ZA p.1)/\Reps K O H ts (kvs.map (·.2)):=by unfold Rep;exact Rk
def Rep.M8{C:Str}{ns:List Str}:Rep K O H (.ob C ns ts) v↔ ∃a dx fs,v=.ref a/\¬ O a/\H a=ZA (.ins (bN K C) dx fs)/\fs.map (·.1)=ns/\Reps K O H ts (fs.map (·.2)):=by unfold Rep;exact Rk
def Rep.AC:Rep K O H (.int i) v↔v=.int i:=by unfold Rep;exact Rk
def Rep.FM{b:Bool}:Rep K O H (.bl b) v↔v=.bl b:=by unfold Rep;exact Rk
def Rep.GM{b:Str}:Rep K O H (.str b) v↔v=.str b:=by unfold Rep;exact Rk
def Rep.KB:Rep K O H .non v↔v=.non:=by unfold Rep;exact Rk
def Reps.GE:Reps K O H [] []:=by unfold Reps;rfl
def Reps.FS(r:Rep K O H t v)(q:Reps K O H l vs):Reps K O H (t::l) (v::vs):=by unfold Reps;exact⟨v,vs,rfl,r,q⟩
def Reps.Da:Reps K O H [] vs↔vs=[]:=by unfold Reps;exact Rk
def Reps.me:Reps K O H (t::l) vs↔ ∃v ws,vs=v::ws/\Rep K O H t v/\Reps K O H l ws:=by
 constructor
 ·intro h;unfold Reps at h;exact h
 ·intro h;unfold Reps;exact h
end
theorem Reps.length:∀{l:List T}{vs:List V},Reps K O H l vs->l.length=vs.length
 |[],vs,r=>by rw[Reps.Da.mp r];rfl
 |t::l,vs,r=>by
  obtain⟨v,ws,rfl,_,q⟩:=Reps.me.mp r;simp[q.length]
theorem Reps.get:∀{l:List T}{vs:List V}{i:Nat}{t:T},Reps K O H l vs->l[i]?=ZA t->∃v,vs[i]?=ZA v/\Rep K O H t v
 |[],_,_,_,_,e=>by simp at e
 |t::l,vs,i,u,r,e=>by
  obtain⟨v,ws,rfl,p,q⟩:=Reps.me.mp r
  cases i with
  |zero=>simp at e;subst e;exact⟨v,rfl,p⟩
  |succ i=>
   obtain⟨z,e1,e2⟩:=q.get (i:=i) (t:=u) (by simpa using e)
   exact⟨z,by simpa using e1,e2⟩
theorem Reps.append:∀{l m:List T}{vs ws:List V},Reps K O H l vs->Reps K O H m ws->Reps K O H (l++m) (vs++ws)
 |[],_,vs,_,r,s=>by rw[Reps.Da.mp r];exact s
 |t::l,m,vs,ws,r,s=>by
  obtain⟨v,us,rfl,p,q⟩:=Reps.me.mp r;exact Reps.FS p (q.append s)
theorem Reps.take:∀{l:List T}{vs:List V}(n:Nat),Reps K O H l vs->Reps K O H (l.take n) (vs.take n)
 |_,_,0,_=>Reps.GE
 |[],vs,n+1,r=>by rw[Reps.Da.mp r];exact Reps.GE
 |t::l,vs,n+1,r=>by
  obtain⟨v,us,rfl,p,q⟩:=Reps.me.mp r;exact Reps.FS p (q.take n)
theorem Reps.drop:∀{l:List T}{vs:List V}(n:Nat),Reps K O H l vs->Reps K O H (l.drop n) (vs.drop n)
 |_,_,0,r=>r
 |[],vs,n+1,r=>by rw[Reps.Da.mp r];exact Reps.GE
 |t::l,vs,n+1,r=>by
  obtain⟨v,us,rfl,p,q⟩:=Reps.me.mp r;exact q.drop n
theorem Reps.ints:∀{ns:List Int},Reps K O H (ns.map T.int) (ns.map V.int)
 |[] =>Reps.GE
 |n::r=>Reps.FS (Rep.Gc n) Reps.ints
def RowsR(K:NK)(O:Ow)(H:Hp):List (List T×List T)->List ZE->Prop
 |[],as=>as=[]
 |r::rs,as=>∃b bs kvs,as=b::bs/\H b=ZA (.dT kvs)/\r.1.map keyOf=kvs.map (λp=>ZA p.1)/\Reps K O H r.2 (kvs.map (·.2))/\RowsR K O H rs bs
def LsR(K:NK)(O:Ow)(H:Hp):List (List T)->List ZE->Prop
 |[],as=>as=[]
 |l::ls,as=>∃b bs vs,as=b::bs/\H b=ZA (.lst vs)/\Reps K O H l vs/\LsR K O H ls bs
def ORep(K:NK)(O M:Ow)(H:Hp):OT->V->Prop
 |.lst l,v=>∃a vs,v=.ref a/\(∀b,M b↔b=a)/\H a=ZA (.lst vs)/\Reps K O H l vs
 |.dct ks ts,v=>∃a kvs,v=.ref a/\(∀b,M b↔b=a)/\H a=ZA (.dT kvs)/\ks.map keyOf=kvs.map (λp=>ZA p.1)/\Reps K O H ts (kvs.map (·.2))
 |.dd ks rows,v=>∃a kvs as,v=.ref a/\(∀b,M b↔b=a\/b∈as)/\a∉as/\as.Nodup/\H a=ZA (.dT kvs)/\ks.map keyOf=kvs.map (λp=>ZA p.1)/\kvs.map (·.2)=as.map V.ref/\RowsR K O H rows as
 |.ob C ns ls,v=>∃a dx as,v=.ref a/\(∀b,M b↔b=a\/b=dx\/b∈as)/\(a∉as/\dx∉as/\dx≠a/\as.Nodup)/\H a=ZA (.ins (bN K C) dx (ns.zip (as.map V.ref)))/\H dx=ZA (.own a)/\ns.length=as.length/\ns.Nodup/\LsR K O H ls as
inductive Sl where
 |em|va (t:T)|ow (o:OT)
abbrev En:=List Sl
abbrev V6:=En->Rs Bool
abbrev V5:=En->Rs T
abbrev V3:=En->Rs (List T)
abbrev Mn:=Nat->Ow
def Mn.u(M:Mn):Ow:=λa=>∃i,M i a
def isO:HO->Bool
 |.ins _ _ _=>ZC
 |.own _=>ZC
 |_=>ZD
def Mtb(H:Hp)(a:ZE):Prop:=(∃vs,H a=ZA (.lst vs))\/(∃kvs,H a=ZA (.dT kvs))\/∃o,H a=ZA o/\isO o=ZC
def Mtb.some(h:Mtb H a):∃o,H a=ZA o:=by
 rcases h with⟨_,e⟩|⟨_,e⟩|⟨_,e,_⟩ <;> exact⟨_,e⟩
def Mtb.at(s:∀o,H a=OM o->H' a=OM o)(h:Mtb H a):Mtb H' a:=by
 rcases h with⟨vs,e⟩|⟨k,e⟩|⟨o,e,q⟩
 ·exact .inl ⟨vs,s _ e⟩
 ·exact .inr (.inl ⟨k,s _ e⟩)
 ·exact .inr (.inr ⟨o,s _ e,q⟩)
def Mtb.same(s:Same H H')(h:Mtb H a):Mtb H' a:=h.at λo e=>s a o e
structure EnvM (K:NK)(O:Ow)(M:Mn)(H:Hp)(Z:En)(σ:L2.St):Prop where
 len:Z.length=σ.length
 val:∀(i:Nat)(t:T),Z[i]?=ZA (.va t)->∃v,σ[i]?=ZA (ZA v)/\Rep K O H t v
 own:∀(i:Nat)(o:OT),Z[i]?=ZA (.ow o)->∃v,σ[i]?=ZA (ZA v)/\ORep K O (M i) H o v
 sub:∀(i:Nat)(a:ZE),M i a->O a
 dis:∀(i j:Nat)(a:ZE),M i a->M j a->i=j
 trk:∀(a:ZE),O a->Mtb H a
theorem RowsR.same{K:NK}{O:Ow}{H H':Hp}(h:Same H H'):∀{rs:List (List T×List T)}{as:List ZE},RowsR K O H rs as->RowsR K O H' rs as
 |[],_,r=>r
 |_::_,_,⟨b,bs,kvs,e1,e2,e3,e4,e5⟩=>⟨b,bs,kvs,e1,h _ _ e2,e3,e4.same h,e5.same h⟩
theorem LsR.same{K:NK}{O:Ow}{H H':Hp}(h:Same H H'):∀{ls:List (List T)}{as:List ZE},LsR K O H ls as->LsR K O H' ls as
 |[],_,r=>r
 |_::_,_,⟨b,bs,vs,e1,e2,e3,e4⟩=>⟨b,bs,vs,e1,h _ _ e2,e3.same h,e4.same h⟩
theorem ORep.same{K:NK}{O M:Ow}{H H':Hp}(h:Same H H'){o:OT}{v:V}(r:ORep K O M H o v):ORep K O M H' o v:=by
 cases o with
 |lst l=>obtain⟨a,vs,e1,e2,e3,e4⟩:=r;exact⟨a,vs,e1,e2,h _ _ e3,e4.same h⟩
 |dct ks ts=>obtain⟨a,kvs,e1,e2,e3,e4,e5⟩:=r;exact⟨a,kvs,e1,e2,h _ _ e3,e4,e5.same h⟩
 |dd ks rows=>obtain⟨a,kvs,as,e1,e2,e3,e4,e5,e6,e7,e8⟩:=r;exact⟨a,kvs,as,e1,e2,e3,e4,h _ _ e5,e6,e7,e8.same h⟩
 |ob C ns ls=>obtain⟨a,dx,as,e1,e2,e3,e4,e5,e6,e7,e8⟩:=r;exact⟨a,dx,as,e1,e2,e3,h _ _ e4,h _ _ e5,e6,e7,e8.same h⟩
theorem EnvM.same{K:NK}{O:Ow}{M:Mn}{H H':Hp}{Z:En}{σ:L2.St}(h:Same H H')(e:EnvM K O M H Z σ):EnvM K O M H' Z σ where
 len:=e.len
 val:=λi t q=>let ⟨v,e1,e2⟩:=e.val i t q;⟨v,e1,e2.same h⟩
 own:=λi o q=>let ⟨v,e1,e2⟩:=e.own i o q;⟨v,e1,e2.same h⟩
 sub:=e.sub
 dis:=e.dis
 trk:=λa q=>(e.trk a q).same h
def EnvO(K:NK)(O:Ow)(H:Hp)(Z:En)(σ:L2.St):Prop:=∃M,EnvM K O M H Z σ
variable{Z:En}{p:ZE}{σ:L2.St}
theorem EnvO.val(e:EnvO K O H Z σ)(i:Nat)(t:T)(q:Z[i]?=ZA (.va t)):∃v,σ[i]?=ZA (ZA v)/\Rep K O H t v:=e.elim λ_ e=>e.val i t q
def EnvO.mtb(e:EnvO K O H Z σ):∀a,O a->Mtb H a:=e.elim λ_ e=>e.trk
def EnvO.trk(e:EnvO K O H Z σ)(a:ZE)(z:O a):∃o,H a=ZA o:=(e.mtb a z).some
theorem EnvO.same(h:Same H H')(e:EnvO K O H Z σ):EnvO K O H' Z σ:=e.elim λM e=>⟨M,e.same h⟩
def EnvO.fresh(e:EnvO K O H Z σ)(h:H p=ZB):¬ O p:=λz=>by
 obtain⟨o,q⟩:=e.trk p z;rw[h]at q;cases q
def MB(h:ZH)(C e:ZE):Option ZE->Prop
 |none=>∃oe vs,h.get? e=ZA oe/\oe.cls=.ref C/\oe.data=.fields vs/\vs[1]?=ZA .none
 |some T=>T≠e/\∃oe vs,h.get? e=ZA oe/\oe.cls=.ref C/\oe.data=.fields vs/\vs[1]?=ZA (.ref T)/\∃oT ts,h.get? T=ZA oT/\oT.data=.fields ts/\ts[3]?=ZA .none
def RzP(X:Cx)(ol:V2)(P:Ow)(H:Hp)(c:Str)(ev:NM)(s':NQ):Prop:=
 ∃e T C σ' H',ev=.ref e/\X.mg c=ZA (.ref C)/\Inv X ol σ' H' s'/\SameO P H H'/\H' e=ZB/\(X.ex=[]->X.s₀.heap.get? e=ZB)/\MB s'.heap C e T/\(∀t,T=ZA t->H' t=ZB/\(X.ex=[]->X.s₀.heap.get? t=ZB))/\∀p∈X.pn++ol,p.1≠e/\T≠ZA p.1
def Nw(K:NK)(H:Hp):Ow:=λa=>H a=ZB/\K.lookup a=ZB
variable{H1:Hp}
def gz(h:SameO P H H1)(n:Nw K H1 a):P a\/Nw K H a:=by
 by_cases hp:P a
 ·exact .inl hp
 ·refine .inr ⟨?_,n.2⟩
  cases q:H a with
  |none=>rfl
  |some o=>have:=h a o q hp;rw[n.1]at this;cases this
def SameO.trans{P1:Ow}{H2:Hp}(h:SameO P H H1)(h1:SameO P1 H1 H2)(sub:∀a,P1 a->P a\/Nw K H a):SameO P H H2:=λb o e n=>
 h1 b o (h b o e n) λz=>(sub b z).elim n λw=>by rw[w.1]at e;cases e
def XA(X:Cx)(P:Ow)(H:Hp)(c:Str):Prop:=∀ol ev s',RzP X ol P H c ev s'->X.xe ev s'
variable{X:Cx}
def XA.later{P1:Ow}{c:Str}(h:XA X P H c)(s:SameO P H H1)(sub:∀a,P1 a->P a\/Nw X.K H a):XA X P1 H1 c:=λol ev s' ⟨e,T,C,σ',H',a1,a2,a3,a4,a5⟩=>
 h ol ev s' ⟨e,T,C,σ',H',a1,a2,a3,s.trans a4 sub,a5⟩
abbrev k8:Ow:=λ_=>False
def Post{α:Type}(X:Cx)(H:Hp)(r:Rs α)(k:α->Hp->Prop):Prop:=match r with
 |.ok t=>∀H',Same H H'->k t H'
 |.err c=>XA X k8 H c
 |.bad=>False
variable{α:Type}
def Post.mono{r:Rs α}{k k':α->Hp->Prop}(h:Post X H r k)(f:∀t H',Same H H'->k t H'->k' t H'):Post X H r k':=by
 cases r with
 |ok t=>exact λH' s=>f t H' s (h H' s)
 |err c=>exact h
 |bad=>exact h
theorem Post.later{α:Type}{X:Cx}{H H1:Hp}{r:Rs α}{k:α->Hp->Prop}(h:Post X H r k)(s:Same H H1):Post X H1 r k:=by
 cases r with
 |ok t=>exact λH' s'=>h H' (s.trans s')
 |err c=>exact XA.later h (SameO.of s) λ_ z=>z.elim
 |bad=>exact h
def Post.bind{β:Type}{r:Rs α}{f:α->Rs β}{k:β->Hp->Prop}(h:Post X H (r >>= f) k):Post X H r λt H'=>Post X H' (f t) k:=by
 cases r with
 |ok t=>exact λH' s=>Post.later h s
 |err c=>exact h
 |bad=>exact h
def tP(X:Cx)(f:V5):TE:=λσ H Q=>∃Z O,EnvO X.K O H Z σ/\Post X H (f Z) λt H'=>∀v,Rep X.K O H' t v->Q v H'
def tPA(X:Cx)(f:V3):TA:=λσ H Q=>∃Z O,EnvO X.K O H Z σ/\Post X H (f Z) λt H'=>∀v,Reps X.K O H' t v->Q v H'
def BN(X:Cx)(f:V6):TT:=λσ H Q=>∃Z O,EnvO X.K O H Z σ/\Post X H (f Z) λb H'=>Q b H'
abbrev cz(X:Cx)(e:ZG)(f:V5):Prop:=PE X e (tP X f)
abbrev qC(X:Cx)(e:List ZG)(f:V3):Prop:=PA X e (tPA X f)
abbrev rn(X:Cx)(e:ZG)(f:V6):Prop:=PT X e (BN X f)
variable{e:ZG}
def PE.imp{t t':TE}(h:PE X e t)(w:∀σ H Q,t' σ H Q->t σ H Q):PE X e t':=λol s σ H Q I q=>h ol s σ H Q I (w σ H Q q)
def PA.imp{e:List ZG}{t t':TA}(h:PA X e t)(w:∀σ H Q,t' σ H Q->t σ H Q):PA X e t':=λpos ol s σ H Q I q=>h pos ol s σ H Q I (w σ H Q q)
def PT.imp{t t':TT}(h:PT X e t)(w:∀σ H Q,t' σ H Q->t σ H Q):PT X e t':=λol s σ H Q I q=>h ol s σ H Q I (w σ H Q q)
def PS.imp{e:ZF}{t t':TS}(h:PS X e t)(w:∀D σ H,t' D σ H->t D σ H):PS X e t':=λol s σ H D I q=>h ol s σ H D I (w D σ H q)
def PSs.imp{e:List ZF}{t t':TS}(h:PSs X e t)(w:∀D σ H,t' D σ H->t D σ H):PSs X e t':=λol s σ H D I q=>h ol s σ H D I (w D σ H q)
variable{es:List ZG}{f:V3}{pos:Pos}{x:Str}
def a8{f:V5}{k:T->Rs α}{Q:α->Hp->Prop}(E:EnvO X.K O H Z σ)(h:Post X H (f Z >>= k) Q):
  tP X f σ H λv H'=>∃t,Rep X.K O H' t v/\Same H H'/\EnvO X.K O H' Z σ/\Post X H' (k t) Q:=
 ⟨Z,O,E,Post.mono h.bind λt H' s q v r=>⟨t,r,s,E.same s,q⟩⟩
def gL{k:List T->Rs α}{Q:α->Hp->Prop}(E:EnvO X.K O H Z σ)(h:Post X H (f Z >>= k) Q):
  tPA X f σ H λv H'=>∃t,Reps X.K O H' t v/\Same H H'/\EnvO X.K O H' Z σ/\Post X H' (k t) Q:=
 ⟨Z,O,E,Post.mono h.bind λt H' s q v r=>⟨t,r,s,E.same s,q⟩⟩
def lP{f:V6}{k:Bool->Rs α}{Q:α->Hp->Prop}(E:EnvO X.K O H Z σ)(h:Post X H (f Z >>= k) Q):
  BN X f σ H λb H'=>Same H H'/\EnvO X.K O H' Z σ/\Post X H' (k b) Q:=
 ⟨Z,O,E,Post.mono h.bind λt H' s q=>⟨s,E.same s,q⟩⟩
noncomputable def vr(i:Nat)(Z:En):Rs T:=match Z[i]? with
 |some (.va t)=>.ok t
 |_=>.bad
def cn(t:T)(_:En):Rs T:=.ok t
def Lf(i:Nat)(hN:X.N[i]?=ZA x:=by rfl)(hv:lM X.env.scope x:=by first|exact OB rfl|exact Oq (OB rfl)|exact Oq (Oq rfl))(hd:eO x:=by decide)
  (hcd:(x == ("__classdict__" : Str))=ZD:=by decide):cz X (.Name x pos) (vr i):=PE.imp (eF hN hv hd hcd) λσ H Q hh_=>by
 obtain⟨Z,O,E,h⟩:=hh_;unfold vr at h
 split at h
 ·rename_i t e
  obtain⟨v,e1,e2⟩:=E.val i t e;exact⟨v,e1,h H (Same.refl H) v e2⟩
 ·exact h.elim
def Lo{i j pos}:cz X (.Constant (.int i) j pos) (cn (.int i)):=PE.imp CF λσ H Q ⟨Z,O,E,h⟩=>h H (Same.refl H) _ (Rep.Gc i)
def q_bl{i j pos}:cz X (.Constant (.bool i) j pos) (cn (.bl i)):=PE.imp CI λσ H Q ⟨Z,O,E,h⟩=>h H (Same.refl H) _ (Rep.bl_ i)
def Lk{j pos}:cz X (.Constant .none j pos) (cn .non):=PE.imp CD λσ H Q ⟨Z,O,E,h⟩=>h H (Same.refl H) _ Rep.Nh
def Lh{i j pos}:cz X (.Constant (.str i) j pos) (cn (.str i)):=PE.imp CB λσ H Q ⟨Z,O,E,h⟩=>h H (Same.refl H) _ (Rep.Nq i)
def IQ{u:NM}(hm:X.mg x=ZA u)(r:RelV (.int i) u)(hg:Gl X x:=by rfl)(hd:eO x:=by decide):cz X (.Name x pos) (cn (.int i)):=
 PE.imp (zo hg hm r hd) λσ H Q ⟨Z,O,E,h⟩=>h H (Same.refl H) _ (Rep.Gc i)
def ai(_:En):Rs (List T):=.ok []
def ae(f:V5)(g:V3)(Z:En):Rs (List T):=do
 let t <-f Z
 let r <-g Z
 .ok (t::r)
def IP:qC X [] ai:=PA.imp dH λσ H Q ⟨Z,O,E,h⟩=>h H (Same.refl H) _ Reps.GE
def FJ{f:V5}{g:V3}(he:cz X e f)(hr:qC X es g)(hs:NY (e::es) X.env=(ZD,eval e X.env)::NY es X.env:=by rfl):qC X (e::es) (ae f g):=by
 intro pos ol s σ H Q I h;obtain⟨Z,O,E,h⟩:=h;refine bq he hr hs pos ol s σ H Q I ?_
 obtain⟨Z1,O1,E1,h1⟩:=a8 E h;refine⟨Z1,O1,E1,Post.mono h1 λt H' s q v r=>?_⟩
 obtain⟨t',r',s',E',q'⟩:=q v r;refine⟨Z,O,E',Post.mono q'.bind λts H2 s2 q2 vs rs=>?_⟩
 exact q2 H2 (Same.refl H2) _ (Reps.FS (r'.same s2) rs)
variable{g:T->T->Rs T}{op:Ut}
section
def lg(l:List T):Rs T:=if l.length<=ZI then .ok (.tup l)else .bad
def lh(l:List T):Rs T:=if l.length<=ZI then .ok (.lst l)else .bad
def aK(f:V3)(Z:En):Rs T:=f Z >>= lg
def fA(f:V3)(Z:En):Rs T:=f Z >>= lh
def bj(h:H p=ZB)(o:HO):Same H (upd H p o):=λb u q=>by rw[aB (cw q h)];exact q
def iN(h:H p=ZB)(n:¬ O p)(r:Reps K O H l vs):Rep K O (upd H p (.tup vs)) (.tup l) (.ref p):=
 Rep.Fk.mpr ⟨p,vs,rfl,n,aG,r.same (bj h _)⟩
def mf(h:H p=ZB)(n:¬ O p)(r:Reps K O H l vs):Rep K O (upd H p (.lst vs)) (.lst l) (.ref p):=
 Rep.Do.mpr ⟨p,vs,rfl,n,aG,r.same (bj h _)⟩
def Lg{x1:Nat}{pos:Pos}(h:qC X es f):cz X (.Tuple es x1 pos) (aK f):=by
 intro ol s σ H Q I ⟨Z,O,E,hq⟩;refine tT h ol s σ H Q I ?_
 obtain⟨Z1,O1,E1,h1⟩:=gL E hq;refine⟨Z1,O1,E1,Post.mono h1 λts H1 s1 q vs r=>?_⟩
 obtain⟨t',r',s',E',q'⟩:=q vs r;unfold lg at q'
 split at q'
 ·rename_i hz
  refine⟨by rw[<-r'.length];exact hz,λp hp=>?_⟩
  exact q' _ (bj hp _) _ (iN hp (E'.fresh hp) r')
 ·exact q'.elim
def Lm{pos:Pos}(h:qC X es f):cz X (.List es pos) (fA f):=by
 intro ol s σ H Q I ⟨Z,O,E,hq⟩;refine x8 h ol s σ H Q I ?_
 obtain⟨Z1,O1,E1,h1⟩:=gL E hq;refine⟨Z1,O1,E1,Post.mono h1 λts H1 s1 q vs r=>?_⟩
 obtain⟨t',r',s',E',q'⟩:=q vs r;unfold lh at q'
 split at q'
 ·rename_i hz
  refine⟨by rw[<-r'.length];exact hz,λp hp=>?_⟩
  exact q' _ (bj hp _) _ (mf hp (E'.fresh hp) r')
 ·exact q'.elim
def OpT(X:Cx)(f:NM->NM->Sem NM)(g:T->T->Rs T):Prop:=
 ∀(ol:V2)(s:NQ)(σ:L2.St)(H:Hp)(O:Ow)(x y:T)(vx vy:V)(ux uy:NM)(Q:VK),Inv X ol σ H s->(∀p,H p=ZB->¬ O p)->Rep X.K O H x vx->Rep X.K O H y vy->RelV vx ux->RelV vy uy →
  Post X H (g x y) (λt H'=>∀v,Rep X.K O H' t v->Q v H')->ZJ (ZK X.prog X.w) X.A (f ux uy) (EP X ol σ Q) X.xe s
def o2(g:T->T->Rs T)(fa fb:V5)(Z:En):Rs T:=do
 let x <-fa Z
 let y <-fb Z
 g x y
variable {a b c:ZG}{fa fb fc:V5}
def Ls{op:Operator}(ho:OpT X (PM op) g)(ha:cz X a fa)(hb:cz X b fb):cz X (.BinOp a op b pos) (o2 g fa fb):=by
 intro ol s σ H Q I ⟨Z,O,E,hq⟩
 have h1:=a8 E hq;refine wpAny_BinOp (bS (ha ol s σ H _ I h1) λv s1 hh_=>?_)
 obtain⟨x,H1,I1,r1,t,rt,s',E',q1⟩:=hh_
 have h2:=a8 (f:=fb) E' q1;refine bS (hb ol s1 σ H1 _ I1 h2) λu s2 hh_=>?_
 obtain⟨y,H2,I2,r2,t2,rt2,s'',E'',q2⟩:=hh_;exact ho ol s2 σ H2 O t t2 x y v u Q I2 (λp=>E''.fresh) (rt.same s'') rt2 r1 r2 q2
def Lr(ho:OpT X (OL op) g)(ha:cz X a fa)(hb:cz X b fb)(hm:Qd op b=ZD:=by rfl):cz X (.Compare a [op] [b] pos) (o2 g fa fb):=by
 intro ol s σ H Q I ⟨Z,O,E,hq⟩
 have h1:=a8 E hq;refine wpAny_Compare1 (bS (ha ol s σ H _ I h1) λv s1 ⟨x,H1,I1,r1,t,rt,s',E',q1⟩=>?_) hm
 have h2:=a8 (f:=fb) E' q1;refine bS (hb ol s1 σ H1 _ I1 h2) λu s2 hh_=>?_
 obtain⟨y,H2,I2,r2,t2,rt2,s'',E'',q2⟩:=hh_;exact ho ol s2 σ H2 O t t2 x y v u Q I2 (λp=>E''.fresh) (rt.same s'') rt2 r1 r2 q2
def OpT.of{f:NM->NM->Sem NM}{r:R2}(h:qH X f r)
  (w:∀(H:Hp)(O:Ow)(x y:T)(vx vy:V)(Q:VK),(∀p,H p=ZB->¬ O p)->Rep X.K O H x vx->Rep X.K O H y vy->Post X H (g x y) (λt H'=>∀v,Rep X.K O H' t v->Q v H')->r vx vy H Q):OpT X f g:=
 λol s σ H O x y vx vy ux uy Q I hf rx ry r1 r2 hp=>h ol s σ H vx vy ux uy Q I r1 r2 (w H O x y vx vy Q hf rx ry hp)
def cZ:T->T->Rs T
 |.int i,.int j=>.ok (.int (i - j))
 |_,_=>.bad
def cW:OpT X (PM .Sub) cZ:=OpT.of Jh λH O x y vx vy Q hf rx ry hp=>by
 unfold cZ at hp
 split at hp
 ·exact⟨_,_,Rep.AC.mp rx,Rep.AC.mp ry,hp H (Same.refl H) _ (Rep.Gc _)⟩
 ·exact hp.elim
noncomputable def mz:T->T->Rs T
 |.int i,.int j=>if 0<j/\j<1073741824 then .ok (.int (i / j))else .bad
 |_,_=>.bad
noncomputable def mn:T->T->Rs T
 |.int i,.int j=>if 0<j then .ok (.int (i % j))else .bad
 |_,_=>.bad
def oo:OpT X (PM .FloorDiv) mz:=OpT.of F5 λH O x y vx vy Q hf rx ry hp=>by
 unfold mz at hp
 split at hp
 ·split at hp
  ·rename_i h
   exact⟨_,_,Rep.AC.mp rx,Rep.AC.mp ry,h,hp H (Same.refl H) _ (Rep.Gc _)⟩
  ·exact hp.elim
 ·exact hp.elim
def ly:OpT X (PM .Mod) mn:=OpT.of Jk λH O x y vx vy Q hf rx ry hp=>by
 unfold mn at hp
 split at hp
 ·split at hp
  ·rename_i h
   exact⟨_,_,Rep.AC.mp rx,Rep.AC.mp ry,h,hp H (Same.refl H) _ (Rep.Gc _)⟩
  ·exact hp.elim
 ·exact hp.elim
def CN:qH X (PM .Add) (λx y H Q=>∃a b ys,x=.ref a/\y=.ref b/\SqT X.K H a []/\SqT X.K H b ys/\Q (.ref b) H):=by
 intro ol s σ H x y v u Q I rx ry h;obtain⟨a,b,ys,rfl,rfl,ha,hb,q⟩:=h;cases rx;cases ry;obtain⟨its,r1,p1,_⟩:=I.tuple ha;obtain⟨its2,r2,p2,_⟩:=I.tuple hb;obtain⟨⟨cls,dd,data,sl⟩,ho,hc,n,hd⟩:=id p1;obtain⟨⟨cls2,dd2,data2,sl2⟩,ho2,hc2,n2,hd2⟩:=id p2;simp only at hc hd hc2 hd2;subst hc hd hc2 hd2
 have e:its=[]:=by cases r1;rfl
 subst e;exact HT_concat0 ho ho2 ⟨.ref b,H,I,rfl,q⟩
where
 HT_concat0 {prog:Oa} {w:O0} {A:Ou} {E:V1} {s:NQ} {t b:ZE} {ws:Array NM} {n n2:Nat} {dd dd2:Option ZE} {sl sl2:Array (Option NM)} {Q:V1}
   (ho:s.heap.get? t=ZA {cls:=.type "tuple",dict:=dd,data:=.seq (([]:List NM).toArray) n,slots:=sl}) (ho2:s.heap.get? b=ZA {cls:=.type "tuple",dict:=dd2,data:=.seq ws n2,slots:=sl2}) (h:Q (.ref b) s):
   ZJ (ZK prog w) A (PM .Add (.ref t) (.ref b)) Q E s:=
  UK ⟨_,ho,rfl⟩ ⟨_,ho2,rfl⟩ SH T9 Rp Rg (Q9 _ _)
   (tuple_addW0 t b _ _ n n2 dd dd2 sl sl2 (by simp)) ⟨ho,ho2,h⟩
noncomputable def aP:T->T->Rs T
 |.int i,.int j=>.ok (.int (i+j))
 |.str i,.str j=>if i.length+j.length<=ZI then .ok (.str (i++j))else .bad
 |.tup l,.tup m=>lg (l++m)
 |.lst l,.lst m=>lh (l++m)
 |_,_=>.bad
def aN:OpT X (PM .Add) aP:=by
 intro ol s σ H O x y vx vy ux uy Q I hf rx ry r1 r2 hp;unfold aP at hp
 split at hp
 ·exact Jm ol s σ H vx vy ux uy Q I r1 r2 ⟨_,_,Rep.AC.mp rx,Rep.AC.mp ry,hp H (Same.refl H) _ (Rep.Gc _)⟩
 ·split at hp
  ·rename_i h
   exact yb ol s σ H vx vy ux uy Q I r1 r2 ⟨_,_,Rep.GM.mp rx,Rep.GM.mp ry,h,hp H (Same.refl H) _ (Rep.Nq _)⟩
  ·exact hp.elim
 ·rename_i l m
  unfold lg at hp
  split at hp
  ·rename_i h
   obtain⟨a,vs,e1,n1,q1,z1⟩:=Rep.Fk.mp rx;obtain⟨b,ws,e2,n2,q2,z2⟩:=Rep.Fk.mp ry
   have hl1:=z1.length
   have hl2:=z2.length;rw[NV]at h
   cases vs with
   |nil=>
    have e:l=[]:=by cases l with
     |nil=>rfl
     |cons _ _=>simp at hl1
    subst e
    exact CN ol s σ H vx vy ux uy Q I r1 r2 ⟨a,b,ws,e1,e2,SqT.of q1,SqT.of q2,hp H (Same.refl H) _ (Rep.Fk.mpr ⟨b,ws,rfl,n2,q2,z2⟩)⟩
   |cons v0 vr=>
    refine F6 ol s σ H vx vy ux uy Q I r1 r2 ⟨a,b,v0::vr,ws,e1,e2,SqT.of q1,SqT.of q2,by simp,by omega,λhw=>?_,λ_ p hpn=>?_⟩
    ·subst hw
     have e:m=[]:=by cases m with
      |nil=>rfl
      |cons _ _=>simp at hl2
     subst e;rw[Ol]at hp;exact hp H (Same.refl H) _ (Rep.Fk.mpr ⟨a,_,rfl,n1,q1,z1⟩)
    ·exact hp _ (bj hpn _) _ (iN hpn (hf p hpn) (z1.append z2))
  ·exact hp.elim
 ·rename_i l m
  unfold lh at hp
  split at hp
  ·rename_i h
   obtain⟨a,vs,e1,n1,q1,z1⟩:=Rep.Do.mp rx;obtain⟨b,ws,e2,n2,q2,z2⟩:=Rep.Do.mp ry
   have hl1:=z1.length
   have hl2:=z2.length;rw[NV]at h;exact CO ol s σ H vx vy ux uy Q I r1 r2 ⟨a,b,vs,ws,e1,e2,q1,q2,by omega,λp hpn=>hp _ (bj hpn _) _ (mf hpn (hf p hpn) (z1.append z2))⟩
  ·exact hp.elim
 ·exact hp.elim
noncomputable def yj:T->T->Rs T
 |.int i,.int j=>if (-(2 ^ 64)<i/\i<2 ^ 64)\/(-(2 ^ 64)<j/\j<2 ^ 64)then .ok (.int (i*j))else .bad
 |.lst l,.int k=>if -(2 ^ 63)<=k/\k<2 ^ 63/\l.length*k.toNat<=ZI then .ok (.lst (Ob k.toNat l).flatten)else .bad
 |_,_=>.bad
theorem Reps.rep{K:NK}{O:Ow}{H:Hp}{l:List T}{vs:List V}(h:Reps K O H l vs):∀k:Nat,Reps K O H (Ob k l).flatten (Ob k vs).flatten
 |0=>Reps.GE
 |k+1=>by rw[PF,PF,Qr,Qr];exact h.append (h.rep k)
def Jg:OpT X (PM .Mult) yj:=by
 intro ol s σ H O x y vx vy ux uy Q I hf rx ry r1 r2 hp;unfold yj at hp
 split at hp
 ·split at hp
  ·rename_i h
   exact Jj ol s σ H vx vy ux uy Q I r1 r2 ⟨_,_,Rep.AC.mp rx,Rep.AC.mp ry,h,hp H (Same.refl H) _ (Rep.Gc _)⟩
  ·exact hp.elim
 ·split at hp
  ·rename_i l k h
   obtain⟨a,vs,e1,n1,q1,z1⟩:=Rep.Do.mp rx
   have hl1:=z1.length;exact Ji ol s σ H vx vy ux uy Q I r1 r2 ⟨a,k,vs,e1,Rep.AC.mp ry,q1,h.1,h.2.1,by rw[<-hl1];exact h.2.2,λp hpn=>hp _ (bj hpn _) _ (mf hpn (hf p hpn) (z1.rep _))⟩
  ·exact hp.elim
 ·exact hp.elim
def jQ:T->Rs T
 |.int i=>.ok (.int (-i))
 |_=>.bad
def o1(g:T->Rs T)(fa:V5)(Z:En):Rs T:=fa Z >>= g
def Ll(ha:cz X a fa):cz X (.UnaryOp .USub a pos) (o1 jQ fa):=by
 intro ol s σ H Q I ⟨Z,O,E,hq⟩;refine Lw HZ ha ol s σ H Q I ?_
 obtain⟨Z1,O1,E1,h1⟩:=a8 E hq;refine⟨Z1,O1,E1,Post.mono h1 λts H1 s1 q vs r=>?_⟩
 obtain⟨t',r',s',E',q'⟩:=q vs r;unfold jQ at q'
 split at q'
 ·exact⟨_,Rep.AC.mp r',q' H1 (Same.refl H1) _ (Rep.Gc _)⟩
 ·exact q'.elim
def yO(p:Int->Int->Bool):T->T->Rs T
 |.int i,.int j=>.ok (.bl (p i j))
 |_,_=>.bad
def zv{p:Int->Int->Bool}(h:qH X (OL op) (Ir λi j=>.bl (p i j))):OpT X (OL op) (yO p):=OpT.of h λH O x y vx vy Q hf rx ry hp=>by
 unfold yO at hp
 split at hp
 ·exact⟨_,_,Rep.AC.mp rx,Rep.AC.mp ry,hp H (Same.refl H) _ (Rep.bl_ _)⟩
 ·exact hp.elim
abbrev pQ:=yO λi j=>decide (i<j)
abbrev Bq:=yO λi j=>decide (i<=j)
def nG:OpT X (OL .Lt) pQ:=zv LA
def rO:OpT X (OL .LtE) Bq:=zv LB
def T.isN:T->Bool
 |.non=>ZC
 |_=>ZD
def Rep.isN{t:T}(r:Rep K O H t v):decide (v=.non)=t.isN:=by
 cases t with
 |non=>rw[Rep.KB.mp r];rfl
 |bl _=>rw[Rep.FM.mp r];rfl
 |int _=>rw[Rep.AC.mp r];rfl
 |str _=>rw[Rep.GM.mp r];rfl
 |tup _=>obtain⟨a,vs,e,_⟩:=Rep.Fk.mp r;rw[e];rfl
 |lst _=>obtain⟨a,vs,e,_⟩:=Rep.Do.mp r;rw[e];rfl
 |scr _=>unfold Rep at r;obtain⟨a,e,_⟩:=r;rw[e];rfl
 |dct _ _=>obtain⟨a,_,e,_⟩:=Rep.IR.mp r;rw[e];rfl
 |ob _ _ _=>obtain⟨a,_,_,e,_⟩:=Rep.M8.mp r;rw[e];rfl
def jZ:T->T->Rs T
 |x,.non=>.ok (.bl x.isN)
 |_,_=>.bad
def dw:T->T->Rs T
 |x,.non=>.ok (.bl (!x.isN))
 |_,_=>.bad
def rP:OpT X (OL .Is) jZ:=OpT.of Jl λH O x y vx vy Q hf rx ry hp=>by
 unfold jZ at hp
 split at hp
 ·exact⟨Rep.KB.mp ry,hp H (Same.refl H) _ (by rw[rx.isN];exact Rep.bl_ _)⟩
 ·exact hp.elim
def fh:OpT X (OL .IsNot) dw:=OpT.of F4 λH O x y vx vy Q hf rx ry hp=>by
 unfold dw at hp
 split at hp
 ·exact⟨Rep.KB.mp ry,hp H (Same.refl H) _ (by rw[rx.isN];exact Rep.bl_ _)⟩
 ·exact hp.elim
end
end Tr
namespace Tr
open PySem PySem.Spec PyProof.Rows L2
open PySem.SeqAt
mutual
def ReV(s:NQ):T->NM->Prop
 |.non,u=>u=.none
 |.bl b,u=>u=.bool b
 |.int i,u=>∃t,u=.int i t
 |.str x,u=>∃t,u=.str x t
 |.tup l,u=>∃a its,u=.ref a/\s.heap.IsTuple a (UF its)/\ReVs s l its
 |.lst l,u=>∃a its,u=.ref a/\s.heap.IsList a (UF its)/\ReVs s l its
 |.scr l,u=>∃a its,u=.ref a/\s.heap.IsList a (UF its)/\RL its l
 |.dct _ _,_=>False
 |.ob _ _ _,_=>False
def ReVs(s:NQ):List T->List NM->Prop
 |[],us=>us=[]
 |t::r,us=>∃u ws,us=u::ws/\ReV s t u/\ReVs s r ws
end
variable{s:NQ}{us:List NM}
def ReVs.Da:ReVs s [] us↔us=[]:=by unfold ReVs;exact Rk
variable{l:List T}
def ReVs.me{t:T}:ReVs s (t::l) us↔ ∃u ws,us=u::ws/\ReV s t u/\ReVs s l ws:=by
 constructor
 ·intro h;unfold ReVs at h;exact h
 ·intro h;unfold ReVs;exact h
theorem ReVs.length{s:NQ}:∀{l:List T}{us:List NM},ReVs s l us->l.length=us.length
 |[],us,r=>by rw[ReVs.Da.mp r];rfl
 |t::l,us,r=>by
  obtain⟨v,ws,rfl,_,q⟩:=ReVs.me.mp r;simp[q.length]
theorem ReVs.get{s:NQ}:∀{l:List T}{us:List NM}{i:Nat}{t:T},ReVs s l us->l[i]?=ZA t->∃v,us[i]?=ZA v/\ReV s t v
 |[],_,_,_,_,e=>by simp at e
 |t::l,vs,i,u,r,e=>by
  obtain⟨v,ws,rfl,p,q⟩:=ReVs.me.mp r
  cases i with
  |zero=>simp at e;subst e;exact⟨v,rfl,p⟩
  |succ i=>
   obtain⟨z,e1,e2⟩:=q.get (i:=i) (t:=u) (by simpa using e)
   exact⟨z,by simpa using e1,e2⟩
mutual
def T.nd:T->Bool
 |.dct _ _=>ZD
 |.ob _ _ _=>ZD
 |.tup l=>nds l
 |.lst l=>nds l
 |_=>ZC
def nds:List T->Bool
 |[] =>ZC
 |t::l=>t.nd&&nds l
end
def wA{t:T}(h:nds (t::l)=ZC):t.nd=ZC/\nds l=ZC:=by unfold nds at h;exact Pa.mp h
theorem yi:∀{l:List T},(∀t∈l,t.nd=ZC)->nds l=ZC
 |[],_=>rfl
 |t::l,h=>by unfold nds;rw[h t NP,yi λu hu=>h u (NL _ hu)];rfl
variable{X:Cx}
section
variable {ol:V2}{σ:L2.St}{H:Hp}{O:Ow}
mutual
theorem Rep.val(I:Inv X ol σ H s):∀{t:T}{v:V}{u:NM},t.nd=ZC->Rep X.K O H t v->RelV v u->ReV s t u
 |.non,v,u,hn,r,q=>by cases Rep.KB.mp r;unfold ReV;exact q
 |.bl b,v,u,hn,r,q=>by cases Rep.FM.mp r;unfold ReV;exact q
 |.int b,v,u,hn,r,q=>by cases Rep.AC.mp r;unfold ReV;exact q
 |.str b,v,u,hn,r,q=>by cases Rep.GM.mp r;unfold ReV;exact q
 |.tup l,v,u,hn,r,q=>by
  obtain⟨a,vs,rfl,_,z,w⟩:=Rep.Fk.mp r;cases q;obtain⟨its,rv,p,_⟩:=I.tuple (SqT.of z);unfold ReV
  exact⟨a,its,rfl,p,Reps.val I (by unfold T.nd at hn;exact hn) w rv⟩
 |.lst l,v,u,hn,r,q=>by
  obtain⟨a,vs,rfl,_,z,w⟩:=Rep.Do.mp r;cases q;obtain⟨its,rv,p,_⟩:=I.list (SqL.of z);unfold ReV
  exact⟨a,its,rfl,p.isList,Reps.val I (by unfold T.nd at hn;exact hn) w rv⟩
 |.scr l,v,u,hn,r,q=>by
  unfold Rep at r;obtain⟨a,rfl,_,z⟩:=r;cases q;obtain⟨its,rv,p,_⟩:=I.list z;unfold ReV
  exact⟨a,its,rfl,p.isList,yD rv⟩
 |.dct _ _,v,u,hn,r,q=>by cases hn
 |.ob _ _ _,v,u,hn,r,q=>by cases hn
theorem Reps.val(I:Inv X ol σ H s):∀{l:List T}{vs:List V}{us:List NM},nds l=ZC->Reps X.K O H l vs->Vals vs us->ReVs s l us
 |[],vs,us,hn,r,q=>by
  cases Reps.Da.mp r;cases q
  exact ReVs.Da.mpr rfl
 |t::l,vs,us,hn,r,q=>by
  obtain⟨v,ws,rfl,p,z⟩:=Reps.me.mp r
  cases q with
  |cons q1 q2=>exact ReVs.me.mpr ⟨_,_,rfl,Rep.val I (wA hn).1 p q1,Reps.val I (wA hn).2 z q2⟩
end
end
mutual
def T.dep:T->Nat
 |.tup l=>deps l+1
 |.lst l=>deps l+1
 |.scr _=>1
 |_=>0
def deps:List T->Nat
 |[] =>0
 |t::l=>max t.dep (deps l)
end
def GX(i:Int):T->Bool
 |.int j=>i == j
 |.bl b=>i == (if b then 1 else 0)
 |_=>ZD
def lj:List Int->List T->Bool
 |[],[] =>ZC
 |i::r,t::l=>GX i t&&lj r l
 |_,_=>ZD
mutual
def bo:T->T->Bool
 |.non,.non=>ZC
 |.bl a,.bl b=>a == b
 |.bl a,.int b=>(if a then 1 else 0) == b
 |.int a,.bl b=>a == (if b then 1 else 0)
 |.int a,.int b=>a == b
 |.str a,.str b=>a == b
 |.tup l,.tup m=>beqTs l m
 |.lst l,.lst m=>beqTs l m
 |.lst l,.scr m=>beqTs l (m.map .int)
 |.scr l,.lst m=>lj l m
 |.scr l,.scr m=>l == m
 |_,_=>ZD
def beqTs:List T->List T->Bool
 |[],[] =>ZC
 |t::l,u::m=>bo t u&&beqTs l m
 |_,_=>ZD
end
def qB(n:Nat)(e:Nat->Bool):(OI (n+1)).all e=(e 0&&(OI n).all λj=>e (j+1)):=by
 rw[List.range_succ_eq_map,List.all_cons,List.all_map];rfl
theorem nh:∀(l m:List T)(e:Nat->Bool),(∀(j:Nat) t u,l[j]?=ZA t->m[j]?=ZA u->e j=bo t u) →
  beqTs l m=((OI (min l.length m.length)).all e&&l.length == m.length)
 |[],[],_,_=>by simp[beqTs]
 |[],_::_,_,_=>by simp[beqTs]
 |_::_,[],_,_=>by simp[beqTs]
 |t::l,u::m,e,h=>by
  have ih:=nh l m (λj=>e (j+1)) λj t' u' h1 h2=>h (j+1) t' u' (by simpa using h1) (by simpa using h2)
  rw[beqTs,ih]
  have h0:=h 0 t u rfl rfl;simp only[NU];rw[Nat.succ_min_succ,qB,h0,Bool.and_assoc]
  congr 2
  simp
theorem sJ:∀{l m:List T},l.length≠m.length->beqTs l m=ZD
 |[],[],h=>absurd rfl h
 |[],_::_,_=>by simp[beqTs]
 |_::_,[],_=>by simp[beqTs]
 |t::l,u::m,h=>by
  rw[beqTs,sJ (l:=l) (m:=m) (by intro z;exact h (by simp[z]))]
  simp
theorem ke:∀{l:List T}{i:Nat}{t:T},l[i]?=ZA t->t.dep<=deps l
 |[],_,_,e=>by simp at e
 |t::l,0,u,e=>by simp at e;subst e;unfold deps;exact Nat.le_max_left _ _
 |t::l,i+1,u,e=>by
  have:=ke (l:=l) (i:=i) (t:=u) (by simpa using e)
  unfold deps;exact OJ this (Nat.le_max_right _ _)
variable{a:ZE}
def jY{x y:List NM}(h:s.heap.IsTuple a x.toArray)(h':s.heap.IsTuple a y.toArray):x=y:=by
 obtain⟨o,e,_,n,d⟩:=h;obtain⟨o',e',_,n',d'⟩:=h';rw[e]at e';cases e';rw[d]at d';injection d' with d1 _
 simpa using congrArg SQ d1
def dk{x y:List NM}(h:s.heap.IsList a x.toArray)(h':s.heap.IsList a y.toArray):x=y:=by
 obtain⟨o,e,_,n,d⟩:=h;obtain⟨o',e',_,n',d'⟩:=h';rw[e]at e';cases e';rw[d]at d';injection d' with d1 _
 simpa using congrArg SQ d1
variable{i:Int}{k:Tok}
def Bg{t:T}(r:ReV s t (.int i k)):GX i t=ZC:=by
 cases t with
 |non=>unfold ReV at r;cases r
 |bl b=>unfold ReV at r;cases r
 |int j=>unfold ReV at r;obtain⟨t,e⟩:=r;injection e with e1 _;subst e1;simp[GX]
 |str x=>unfold ReV at r;obtain⟨t,e⟩:=r;cases e
 |tup l=>unfold ReV at r;obtain⟨a,its,e,_⟩:=r;cases e
 |lst l=>unfold ReV at r;obtain⟨a,its,e,_⟩:=r;cases e
 |scr l=>unfold ReV at r;obtain⟨a,its,e,_⟩:=r;cases e
 |dct _ _=>unfold ReV at r;exact r.elim
 |ob _ _ _=>unfold ReV at r;exact r.elim
theorem qA{s:NQ}:∀{ns:List Int}{us:List NM}{l:List T},RL us ns->ReVs s l us->lj ns l=ZC
 |[],us,l,h,r=>by
  cases h
  cases l with
  |nil=>rfl
  |cons t l=>obtain⟨_,_,e,_⟩:=ReVs.me.mp r;cases e
 |n::ns,us,l,h,r=>by
  cases h with
  |cons a b hh=>
   cases l with
   |nil=>have:=ReVs.Da.mp r;cases this
   |cons t l=>
    obtain⟨u,ws,e,p,q⟩:=ReVs.me.mp r;injection e with e1 e2
    subst e1 e2;rw[lj,Bg p,qA hh q];rfl
theorem eK{s:NQ}:∀{us:List NM}{ns:List Int},RL us ns->ReVs s (ns.map T.int) us
 |_,_,.nil=>ReVs.Da.mpr rfl
 |_,_,.cons n t h=>ReVs.me.mpr ⟨_,_,rfl,by unfold ReV;exact⟨_,rfl⟩,eK h⟩
theorem j0:∀{us:List NM}{ns ms:List Int},RL us ns->RL us ms->ns=ms
 |_,_,_,.nil,.nil=>rfl
 |_,_,_,.cons n t h,.cons _ _ h'=>by rw[j0 h h']
mutual
theorem ReV.refl{s:NQ}:∀{t u:T}{v:NM},ReV s t v->ReV s u v->bo t u=ZC
 |.non,u,v,r,q=>by
  unfold ReV at r;subst r
  cases u <;> (unfold ReV at q) <;> first|rfl| (cases q;done)| (obtain⟨_,e⟩:=q;cases e;done)| (obtain⟨_,_,e,_⟩:=q;cases e;done)
 |.bl b,u,v,r,q=>by
  unfold ReV at r;subst r
  cases u <;> (unfold ReV at q) <;> first| (cases q;done)| (cases q;simp[bo];done)| (obtain⟨_,e⟩:=q;cases e;done)| (obtain⟨_,_,e,_⟩:=q;cases e;done)
 |.int b,u,v,r,q=>by
  unfold ReV at r;obtain⟨k,rfl⟩:=r
  cases u <;> (unfold ReV at q) <;> first| (cases q;done)| (obtain⟨_,e⟩:=q;cases e;simp[bo];done)| (obtain⟨_,e⟩:=q;cases e;done)| (obtain⟨_,_,e,_⟩:=q;cases e;done)
 |.str b,u,v,r,q=>by
  unfold ReV at r;obtain⟨k,rfl⟩:=r
  cases u <;> (unfold ReV at q) <;> first| (cases q;done)| (obtain⟨_,e⟩:=q;cases e;simp[bo];done)| (obtain⟨_,e⟩:=q;cases e;done)| (obtain⟨_,_,e,_⟩:=q;cases e;done)
 |.tup l,u,v,r,q=>by
  unfold ReV at r;obtain⟨a,its,rfl,h1,h2⟩:=r
  cases u with
  |non=>unfold ReV at q;cases q
  |dct _ _=>unfold ReV at q;exact q.elim
  |ob _ _ _=>unfold ReV at q;exact q.elim
  |bl _=>unfold ReV at q;cases q
  |int _=>unfold ReV at q;obtain⟨_,e⟩:=q;cases e
  |str _=>unfold ReV at q;obtain⟨_,e⟩:=q;cases e
  |tup m=>
   unfold ReV at q;obtain⟨a',its',e,h1',h2'⟩:=q;injection e with e;subst e
   have:=jY h1 h1';subst this;unfold bo
   exact ReVs.refl h2 h2'
  |lst m=>unfold ReV at q;obtain⟨a',its',e,h1',h2'⟩:=q;injection e with e;subst e;exact absurd rfl (ne_of_list_tuple h1' h1)
  |scr m=>unfold ReV at q;obtain⟨a',its',e,h1',h2'⟩:=q;injection e with e;subst e;exact absurd rfl (ne_of_list_tuple h1' h1)
 |.lst l,u,v,r,q=>by
  unfold ReV at r;obtain⟨a,its,rfl,h1,h2⟩:=r
  cases u with
  |non=>unfold ReV at q;cases q
  |dct _ _=>unfold ReV at q;exact q.elim
  |ob _ _ _=>unfold ReV at q;exact q.elim
  |bl _=>unfold ReV at q;cases q
  |int _=>unfold ReV at q;obtain⟨_,e⟩:=q;cases e
  |str _=>unfold ReV at q;obtain⟨_,e⟩:=q;cases e
  |lst m=>
   unfold ReV at q;obtain⟨a',its',e,h1',h2'⟩:=q;injection e with e;subst e
   have:=dk h1 h1';subst this;unfold bo
   exact ReVs.refl h2 h2'
  |tup m=>unfold ReV at q;obtain⟨a',its',e,h1',h2'⟩:=q;injection e with e;subst e;exact absurd rfl (ne_of_list_tuple h1 h1')
  |scr m=>
   unfold ReV at q;obtain⟨a',its',e,h1',h2'⟩:=q;injection e with e;subst e
   have:=dk h1 h1';subst this;unfold bo
   exact ReVs.refl h2 (eK h2')
 |.scr l,u,v,r,q=>by
  unfold ReV at r;obtain⟨a,its,rfl,h1,h2⟩:=r
  cases u with
  |non=>unfold ReV at q;cases q
  |dct _ _=>unfold ReV at q;exact q.elim
  |ob _ _ _=>unfold ReV at q;exact q.elim
  |bl _=>unfold ReV at q;cases q
  |int _=>unfold ReV at q;obtain⟨_,e⟩:=q;cases e
  |str _=>unfold ReV at q;obtain⟨_,e⟩:=q;cases e
  |lst m=>
   unfold ReV at q;obtain⟨a',its',e,h1',h2'⟩:=q;injection e with e;subst e
   have:=dk h1 h1';subst this;unfold bo
   exact qA h2 h2'
  |tup m=>unfold ReV at q;obtain⟨a',its',e,h1',h2'⟩:=q;injection e with e;subst e;exact absurd rfl (ne_of_list_tuple h1 h1')
  |scr m=>
   unfold ReV at q;obtain⟨a',its',e,h1',h2'⟩:=q;injection e with e;subst e
   have:=dk h1 h1';subst this;unfold bo
   have:=j0 h2 h2'
   simp[this]
 |.dct _ _,u,v,r,q=>by unfold ReV at r;exact r.elim
 |.ob _ _ _,u,v,r,q=>by unfold ReV at r;exact r.elim
theorem ReVs.refl{s:NQ}:∀{l m:List T}{us:List NM},ReVs s l us->ReVs s m us->beqTs l m=ZC
 |[],m,us,r,q=>by
  cases ReVs.Da.mp r
  cases m with
  |nil=>simp[beqTs]
  |cons _ _=>obtain⟨_,_,e,_⟩:=ReVs.me.mp q;cases e
 |t::l,m,us,r,q=>by
  obtain⟨v,ws,rfl,p,z⟩:=ReVs.me.mp r
  cases m with
  |nil=>cases ReVs.Da.mp q
  |cons u m=>
   obtain⟨v',ws',e,p',z'⟩:=ReVs.me.mp q;injection e with e1 e2
   subst e1 e2;rw[beqTs,ReV.refl p p',ReVs.refl z z'];rfl
end
theorem qz:∀(l:List Int)(m:List T),lj l m=beqTs (l.map T.int) m
 |[],[] =>by simp[lj,beqTs]
 |[],_::_=>by simp[lj,beqTs]
 |_::_,[] =>by simp[lj,beqTs]
 |i::l,t::m=>by
  rw[lj,NO,beqTs,qz l m]
  congr 1
  cases t <;> simp[GX,bo]
theorem tf:∀(l m:List Int),(l == m)=beqTs (l.map T.int) (m.map T.int)
 |[],[] =>by simp[beqTs]
 |[],_::_=>by simp[beqTs]
 |_::_,[] =>by simp[beqTs]
 |i::l,t::m=>by
  rw[NO,NO,beqTs,<-tf l m];simp[bo]
theorem gH:∀(l:List Int),deps (l.map T.int)=0
 |[] =>rfl
 |i::l=>by rw[NO,deps,gH l];simp[T.dep]
def kB:T->T->Prop
 |.tup _,.tup _=>False
 |.lst _,.lst _=>False
 |.lst _,.scr _=>False
 |.scr _,.lst _=>False
 |.scr _,.scr _=>False
 |_,_=>True
def w8(A:Ou)(s:NQ)(x y:T)(u v:NM)(hn:kB x y)(hu:A.units<cLine)(rx:ReV s x u)(ry:ReV s y v):EqAt A s u v (bo x y)/\RcAt A s u v (bo x y)/\RcNeAt A s u v (!bo x y):=by
 match x,y,hn,rx,ry with
 |.dct _ _,_,_,rx,_=>exact(by unfold ReV at rx;exact rx:False).elim
 |.ob _ _ _,_,_,rx,_=>exact(by unfold ReV at rx;exact rx:False).elim
 |_,.dct _ _,_,_,ry=>exact(by unfold ReV at ry;exact ry:False).elim
 |_,.ob _ _ _,_,_,ry=>exact(by unfold ReV at ry;exact ry:False).elim
 |.non,.non,hn,rx,ry=>
  obtain rfl:u=Oz:=by unfold ReV at rx;exact rx
  obtain rfl:v=Oz:=by unfold ReV at ry;exact ry
  exact⟨EqAt.same _,RcAt.none_none ,RcNeAt.none_none ⟩
 |.non,.bl b2,hn,rx,ry=>
  obtain rfl:u=Oz:=by unfold ReV at rx;exact rx
  obtain rfl:v=ON b2:=by unfold ReV at ry;exact ry
  exact⟨EqAt.none_bool b2,RcAt.none_bool b2,RcNeAt.none_bool b2⟩
 |.non,.int i2,hn,rx,ry=>
  obtain rfl:u=Oz:=by unfold ReV at rx;exact rx
  obtain⟨k2,rfl⟩:∃k,v=Pz i2 k:=by unfold ReV at ry;exact ry
  exact⟨EqAt.none_int i2 k2,RcAt.none_int i2 k2,RcNeAt.none_int i2 k2⟩
 |.non,.str x2,hn,rx,ry=>
  obtain rfl:u=Oz:=by unfold ReV at rx;exact rx
  obtain⟨k2,rfl⟩:∃k,v=PB x2 k:=by unfold ReV at ry;exact ry
  exact⟨EqAt.none_str x2 k2,RcAt.none_str x2 k2,RcNeAt.none_str x2 k2⟩
 |.non,.tup l2,hn,rx,ry=>
  obtain rfl:u=Oz:=by unfold ReV at rx;exact rx
  unfold ReV at ry;obtain⟨a2,us2,rfl,h2,q2⟩:=ry
  exact⟨EqAt.none_tuple h2 hu,RcAt.none_tuple h2 hu,RcNeAt.none_tuple h2 hu⟩
 |.non,.lst l2,hn,rx,ry=>
  obtain rfl:u=Oz:=by unfold ReV at rx;exact rx
  unfold ReV at ry;obtain⟨a2,us2,rfl,h2,q2⟩:=ry
  exact⟨EqAt.none_list h2 hu,RcAt.none_list h2 hu,RcNeAt.none_list h2 hu⟩
 |.non,.scr l2,hn,rx,ry=>
  obtain rfl:u=Oz:=by unfold ReV at rx;exact rx
  unfold ReV at ry;obtain⟨a2,us2,rfl,h2,q2⟩:=ry
  exact⟨EqAt.none_list h2 hu,RcAt.none_list h2 hu,RcNeAt.none_list h2 hu⟩
 |.bl b1,.non,hn,rx,ry=>
  obtain rfl:u=ON b1:=by unfold ReV at rx;exact rx
  obtain rfl:v=Oz:=by unfold ReV at ry;exact ry
  exact⟨EqAt.bool_none b1,RcAt.bool_none b1,RcNeAt.bool_none b1⟩
 |.bl b1,.bl b2,hn,rx,ry=>
  obtain rfl:u=ON b1:=by unfold ReV at rx;exact rx
  obtain rfl:v=ON b2:=by unfold ReV at ry;exact ry
  exact⟨EqAt.bool_bool b1 b2,RcAt.bool_bool b1 b2,RcNeAt.bool_bool b1 b2⟩
 |.bl b1,.int i2,hn,rx,ry=>
  obtain rfl:u=ON b1:=by unfold ReV at rx;exact rx
  obtain⟨k2,rfl⟩:∃k,v=Pz i2 k:=by unfold ReV at ry;exact ry
  exact⟨EqAt.bool_int b1 i2 k2,RcAt.bool_int b1 i2 k2,RcNeAt.bool_int b1 i2 k2⟩
 |.bl b1,.str x2,hn,rx,ry=>
  obtain rfl:u=ON b1:=by unfold ReV at rx;exact rx
  obtain⟨k2,rfl⟩:∃k,v=PB x2 k:=by unfold ReV at ry;exact ry
  exact⟨EqAt.bool_str b1 x2 k2,RcAt.bool_str b1 x2 k2,RcNeAt.bool_str b1 x2 k2⟩
 |.bl b1,.tup l2,hn,rx,ry=>
  obtain rfl:u=ON b1:=by unfold ReV at rx;exact rx
  unfold ReV at ry;obtain⟨a2,us2,rfl,h2,q2⟩:=ry
  exact⟨EqAt.bool_tuple b1 h2 hu,RcAt.bool_tuple b1 h2 hu,RcNeAt.bool_tuple b1 h2 hu⟩
 |.bl b1,.lst l2,hn,rx,ry=>
  obtain rfl:u=ON b1:=by unfold ReV at rx;exact rx
  unfold ReV at ry;obtain⟨a2,us2,rfl,h2,q2⟩:=ry
  exact⟨EqAt.bool_list b1 h2 hu,RcAt.bool_list b1 h2 hu,RcNeAt.bool_list b1 h2 hu⟩
 |.bl b1,.scr l2,hn,rx,ry=>
  obtain rfl:u=ON b1:=by unfold ReV at rx;exact rx
  unfold ReV at ry;obtain⟨a2,us2,rfl,h2,q2⟩:=ry
  exact⟨EqAt.bool_list b1 h2 hu,RcAt.bool_list b1 h2 hu,RcNeAt.bool_list b1 h2 hu⟩
 |.int i1,.non,hn,rx,ry=>
  obtain⟨k1,rfl⟩:∃k,u=Pz i1 k:=by unfold ReV at rx;exact rx
  obtain rfl:v=Oz:=by unfold ReV at ry;exact ry
  exact⟨EqAt.int_none i1 k1,RcAt.int_none i1 k1,RcNeAt.int_none i1 k1⟩
 |.int i1,.bl b2,hn,rx,ry=>
  obtain⟨k1,rfl⟩:∃k,u=Pz i1 k:=by unfold ReV at rx;exact rx
  obtain rfl:v=ON b2:=by unfold ReV at ry;exact ry
  exact⟨EqAt.int_bool i1 k1 b2,RcAt.int_bool i1 k1 b2,RcNeAt.int_bool i1 k1 b2⟩
 |.int i1,.int i2,hn,rx,ry=>
  obtain⟨k1,rfl⟩:∃k,u=Pz i1 k:=by unfold ReV at rx;exact rx
  obtain⟨k2,rfl⟩:∃k,v=Pz i2 k:=by unfold ReV at ry;exact ry
  exact⟨EqAt.int_int i1 k1 i2 k2,RcAt.int_int i1 k1 i2 k2,RcNeAt.int_int i1 k1 i2 k2⟩
 |.int i1,.str x2,hn,rx,ry=>
  obtain⟨k1,rfl⟩:∃k,u=Pz i1 k:=by unfold ReV at rx;exact rx
  obtain⟨k2,rfl⟩:∃k,v=PB x2 k:=by unfold ReV at ry;exact ry
  exact⟨EqAt.int_str i1 k1 x2 k2,RcAt.int_str i1 k1 x2 k2,RcNeAt.int_str i1 k1 x2 k2⟩
 |.int i1,.tup l2,hn,rx,ry=>
  obtain⟨k1,rfl⟩:∃k,u=Pz i1 k:=by unfold ReV at rx;exact rx
  unfold ReV at ry;obtain⟨a2,us2,rfl,h2,q2⟩:=ry
  exact⟨EqAt.int_tuple i1 k1 h2 hu,RcAt.int_tuple i1 k1 h2 hu,RcNeAt.int_tuple i1 k1 h2 hu⟩
 |.int i1,.lst l2,hn,rx,ry=>
  obtain⟨k1,rfl⟩:∃k,u=Pz i1 k:=by unfold ReV at rx;exact rx
  unfold ReV at ry;obtain⟨a2,us2,rfl,h2,q2⟩:=ry
  exact⟨EqAt.int_list i1 k1 h2 hu,RcAt.int_list i1 k1 h2 hu,RcNeAt.int_list i1 k1 h2 hu⟩
 |.int i1,.scr l2,hn,rx,ry=>
  obtain⟨k1,rfl⟩:∃k,u=Pz i1 k:=by unfold ReV at rx;exact rx
  unfold ReV at ry;obtain⟨a2,us2,rfl,h2,q2⟩:=ry
  exact⟨EqAt.int_list i1 k1 h2 hu,RcAt.int_list i1 k1 h2 hu,RcNeAt.int_list i1 k1 h2 hu⟩
 |.str x1,.non,hn,rx,ry=>
  obtain⟨k1,rfl⟩:∃k,u=PB x1 k:=by unfold ReV at rx;exact rx
  obtain rfl:v=Oz:=by unfold ReV at ry;exact ry
  exact⟨EqAt.str_none x1 k1,RcAt.str_none x1 k1,RcNeAt.str_none x1 k1⟩
 |.str x1,.bl b2,hn,rx,ry=>
  obtain⟨k1,rfl⟩:∃k,u=PB x1 k:=by unfold ReV at rx;exact rx
  obtain rfl:v=ON b2:=by unfold ReV at ry;exact ry
  exact⟨EqAt.str_bool x1 k1 b2,RcAt.str_bool x1 k1 b2,RcNeAt.str_bool x1 k1 b2⟩
 |.str x1,.int i2,hn,rx,ry=>
  obtain⟨k1,rfl⟩:∃k,u=PB x1 k:=by unfold ReV at rx;exact rx
  obtain⟨k2,rfl⟩:∃k,v=Pz i2 k:=by unfold ReV at ry;exact ry
  exact⟨EqAt.str_int x1 k1 i2 k2,RcAt.str_int x1 k1 i2 k2,RcNeAt.str_int x1 k1 i2 k2⟩
 |.str x1,.str x2,hn,rx,ry=>
  obtain⟨k1,rfl⟩:∃k,u=PB x1 k:=by unfold ReV at rx;exact rx
  obtain⟨k2,rfl⟩:∃k,v=PB x2 k:=by unfold ReV at ry;exact ry
  exact⟨EqAt.str_str x1 k1 x2 k2,RcAt.str_str x1 k1 x2 k2,RcNeAt.str_str x1 k1 x2 k2⟩
 |.str x1,.tup l2,hn,rx,ry=>
  obtain⟨k1,rfl⟩:∃k,u=PB x1 k:=by unfold ReV at rx;exact rx
  unfold ReV at ry;obtain⟨a2,us2,rfl,h2,q2⟩:=ry
  exact⟨EqAt.str_tuple x1 k1 h2 hu,RcAt.str_tuple x1 k1 h2 hu,RcNeAt.str_tuple x1 k1 h2 hu⟩
 |.str x1,.lst l2,hn,rx,ry=>
  obtain⟨k1,rfl⟩:∃k,u=PB x1 k:=by unfold ReV at rx;exact rx
  unfold ReV at ry;obtain⟨a2,us2,rfl,h2,q2⟩:=ry
  exact⟨EqAt.str_list x1 k1 h2 hu,RcAt.str_list x1 k1 h2 hu,RcNeAt.str_list x1 k1 h2 hu⟩
 |.str x1,.scr l2,hn,rx,ry=>
  obtain⟨k1,rfl⟩:∃k,u=PB x1 k:=by unfold ReV at rx;exact rx
  unfold ReV at ry;obtain⟨a2,us2,rfl,h2,q2⟩:=ry
  exact⟨EqAt.str_list x1 k1 h2 hu,RcAt.str_list x1 k1 h2 hu,RcNeAt.str_list x1 k1 h2 hu⟩
 |.tup l1,.non,hn,rx,ry=>
  unfold ReV at rx;obtain⟨a1,us1,rfl,h1,q1⟩:=rx;obtain rfl:v=Oz:=by unfold ReV at ry;exact ry
  exact⟨EqAt.tuple_none h1 hu,RcAt.tuple_none h1 hu,RcNeAt.tuple_none h1 hu⟩
 |.tup l1,.bl b2,hn,rx,ry=>
  unfold ReV at rx;obtain⟨a1,us1,rfl,h1,q1⟩:=rx;obtain rfl:v=ON b2:=by unfold ReV at ry;exact ry
  exact⟨EqAt.tuple_bool b2 h1 hu,RcAt.tuple_bool b2 h1 hu,RcNeAt.tuple_bool b2 h1 hu⟩
 |.tup l1,.int i2,hn,rx,ry=>
  unfold ReV at rx;obtain⟨a1,us1,rfl,h1,q1⟩:=rx;obtain⟨k2,rfl⟩:∃k,v=Pz i2 k:=by unfold ReV at ry;exact ry
  exact⟨EqAt.tuple_int i2 k2 h1 hu,RcAt.tuple_int i2 k2 h1 hu,RcNeAt.tuple_int i2 k2 h1 hu⟩
 |.tup l1,.str x2,hn,rx,ry=>
  unfold ReV at rx;obtain⟨a1,us1,rfl,h1,q1⟩:=rx;obtain⟨k2,rfl⟩:∃k,v=PB x2 k:=by unfold ReV at ry;exact ry
  exact⟨EqAt.tuple_str x2 k2 h1 hu,RcAt.tuple_str x2 k2 h1 hu,RcNeAt.tuple_str x2 k2 h1 hu⟩
 |.tup _,.tup _,hn,_,_=>exact hn.elim
 |.tup l1,.lst l2,hn,rx,ry=>
  unfold ReV at rx;obtain⟨a1,us1,rfl,h1,q1⟩:=rx;unfold ReV at ry;obtain⟨a2,us2,rfl,h2,q2⟩:=ry
  exact⟨EqAt.tuple_list h1 h2 hu,RcAt.tuple_list h1 h2 hu,RcNeAt.tuple_list h1 h2 hu⟩
 |.tup l1,.scr l2,hn,rx,ry=>
  unfold ReV at rx;obtain⟨a1,us1,rfl,h1,q1⟩:=rx;unfold ReV at ry;obtain⟨a2,us2,rfl,h2,q2⟩:=ry
  exact⟨EqAt.tuple_list h1 h2 hu,RcAt.tuple_list h1 h2 hu,RcNeAt.tuple_list h1 h2 hu⟩
 |.lst l1,.non,hn,rx,ry=>
  unfold ReV at rx;obtain⟨a1,us1,rfl,h1,q1⟩:=rx;obtain rfl:v=Oz:=by unfold ReV at ry;exact ry
  exact⟨EqAt.list_none h1 hu,RcAt.list_none h1 hu,RcNeAt.list_none h1 hu⟩
 |.lst l1,.bl b2,hn,rx,ry=>
  unfold ReV at rx;obtain⟨a1,us1,rfl,h1,q1⟩:=rx;obtain rfl:v=ON b2:=by unfold ReV at ry;exact ry
  exact⟨EqAt.list_bool b2 h1 hu,RcAt.list_bool b2 h1 hu,RcNeAt.list_bool b2 h1 hu⟩
 |.lst l1,.int i2,hn,rx,ry=>
  unfold ReV at rx;obtain⟨a1,us1,rfl,h1,q1⟩:=rx;obtain⟨k2,rfl⟩:∃k,v=Pz i2 k:=by unfold ReV at ry;exact ry
  exact⟨EqAt.list_int i2 k2 h1 hu,RcAt.list_int i2 k2 h1 hu,RcNeAt.list_int i2 k2 h1 hu⟩
 |.lst l1,.str x2,hn,rx,ry=>
  unfold ReV at rx;obtain⟨a1,us1,rfl,h1,q1⟩:=rx;obtain⟨k2,rfl⟩:∃k,v=PB x2 k:=by unfold ReV at ry;exact ry
  exact⟨EqAt.list_str x2 k2 h1 hu,RcAt.list_str x2 k2 h1 hu,RcNeAt.list_str x2 k2 h1 hu⟩
 |.lst l1,.tup l2,hn,rx,ry=>
  unfold ReV at rx;obtain⟨a1,us1,rfl,h1,q1⟩:=rx;unfold ReV at ry;obtain⟨a2,us2,rfl,h2,q2⟩:=ry
  exact⟨EqAt.list_tuple h1 h2 hu,RcAt.list_tuple h1 h2 hu,RcNeAt.list_tuple h1 h2 hu⟩
 |.lst _,.lst _,hn,_,_=>exact hn.elim
 |.lst _,.scr _,hn,_,_=>exact hn.elim
 |.scr l1,.non,hn,rx,ry=>
  unfold ReV at rx;obtain⟨a1,us1,rfl,h1,q1⟩:=rx;obtain rfl:v=Oz:=by unfold ReV at ry;exact ry
  exact⟨EqAt.list_none h1 hu,RcAt.list_none h1 hu,RcNeAt.list_none h1 hu⟩
 |.scr l1,.bl b2,hn,rx,ry=>
  unfold ReV at rx;obtain⟨a1,us1,rfl,h1,q1⟩:=rx;obtain rfl:v=ON b2:=by unfold ReV at ry;exact ry
  exact⟨EqAt.list_bool b2 h1 hu,RcAt.list_bool b2 h1 hu,RcNeAt.list_bool b2 h1 hu⟩
 |.scr l1,.int i2,hn,rx,ry=>
  unfold ReV at rx;obtain⟨a1,us1,rfl,h1,q1⟩:=rx;obtain⟨k2,rfl⟩:∃k,v=Pz i2 k:=by unfold ReV at ry;exact ry
  exact⟨EqAt.list_int i2 k2 h1 hu,RcAt.list_int i2 k2 h1 hu,RcNeAt.list_int i2 k2 h1 hu⟩
 |.scr l1,.str x2,hn,rx,ry=>
  unfold ReV at rx;obtain⟨a1,us1,rfl,h1,q1⟩:=rx;obtain⟨k2,rfl⟩:∃k,v=PB x2 k:=by unfold ReV at ry;exact ry
  exact⟨EqAt.list_str x2 k2 h1 hu,RcAt.list_str x2 k2 h1 hu,RcNeAt.list_str x2 k2 h1 hu⟩
 |.scr l1,.tup l2,hn,rx,ry=>
  unfold ReV at rx;obtain⟨a1,us1,rfl,h1,q1⟩:=rx;unfold ReV at ry;obtain⟨a2,us2,rfl,h2,q2⟩:=ry
  exact⟨EqAt.list_tuple h1 h2 hu,RcAt.list_tuple h1 h2 hu,RcNeAt.list_tuple h1 h2 hu⟩
 |.scr _,.lst _,hn,_,_=>exact hn.elim
 |.scr _,.scr _,hn,_,_=>exact hn.elim
def GC:∀(n:Nat)(A:Ou)(s:NQ)(x y:T)(u v:NM),(x.dep<=n\/y.dep<=n)->A.units+n<cLine->ReV s x u->ReV s y v->EqAt A s u v (bo x y)/\RcAt A s u v (bo x y)/\RcNeAt A s u v (!bo x y):=by
 intro n
 induction n with
 |zero=>
  intro A s x y u v hd hu rx ry
  exact w8 A s x y u v (by cases x <;> cases y <;> simp_all [kB,T.dep]) (by omega) rx ry
 |succ n ih=>
  intro A s x y u v hd hu rx ry
  have hin:A.in1.units+n<cLine:=by show A.units+1+n<cLine;omega
  have items:∀(l m:List T)(us vs:List NM),(deps l<=n\/deps m<=n)->ReVs s l us->ReVs s m vs->∃e:Nat->Bool,(∀j (h1:j<us.toArray.size) (h2:j<vs.toArray.size),EqAt A.in1 s us.toArray[j] vs.toArray[j] (e j)) ∧
    (∀(j:Nat) t u,l[j]?=ZA t->m[j]?=ZA u->e j=bo t u):=λl m us vs hd r1 r2=>by
   refine⟨λj=>bo (l.getD j .non) (m.getD j .non),λj h1 h2=>?_,λj t u e1 e2=>by simp[List.getD,e1,e2]⟩
   have l1:=r1.length
   have l2:=r2.length
   have h1':j<l.length:=by rw[l1];simpa using h1
   have h2':j<m.length:=by rw[l2];simpa using h2
   have e1:l[j]?=ZA l[j]:=by simp
   have e2:m[j]?=ZA m[j]:=by simp
   obtain⟨u1,z1,w1⟩:=r1.get e1;obtain⟨u2,z2,w2⟩:=r2.get e2
   have q1:us.toArray[j]=u1:=by
    have:us[j]?=ZA us.toArray[j]:=by simp
    rw[z1]at this;exact(Oy this).symm
   have q2:vs.toArray[j]=u2:=by
    have:vs[j]?=ZA vs.toArray[j]:=by simp
    rw[z2]at this;exact(Oy this).symm
   rw[q1,q2]
   have g1:l.getD j .non=l[j]:=by simp[List.getD,e1]
   have g2:m.getD j .non=m[j]:=by simp[List.getD,e2]
   show EqAt A.in1 s u1 u2 (bo (l.getD j .non) (m.getD j .non))
   rw[g1,g2];refine(ih A.in1 s l[j] m[j] u1 u2 ?_ hin w1 w2).1
   rcases hd with hd|hd
   ·exact .inl (OJ (ke e1) hd)
   ·exact .inr (OJ (ke e2) hd)
  have lists:∀(l m:List T)(a b:ZE)(us vs:List NM),(deps l<=n\/deps m<=n)->ReVs s l us->ReVs s m vs->s.heap.IsList a us.toArray->s.heap.IsList b vs.toArray →
    EqAt A s (.ref a) (.ref b) (beqTs l m)/\RcAt A s (.ref a) (.ref b) (beqTs l m)/\RcNeAt A s (.ref a) (.ref b) (!beqTs l m):=λl m a b us vs hd r1 r2 h1 h2=>by
   have l1:=r1.length
   have l2:=r2.length
   have key:RcAt A s (.ref a) (.ref b) (beqTs l m)/\RcNeAt A s (.ref a) (.ref b) (!beqTs l m):=by
    by_cases hl:l.length=m.length
    ·obtain⟨e,he,hb⟩:=items l m us vs hd r1 r2
     have q:=nh l m e hb
     have q2:beqTs l m=(OI us.toArray.size).all e:=by
      rw[q,hl,Nat.min_self];simp[l2.symm,hl.symm,l1]
     rw[q2]
     have hsz:us.toArray.size=vs.toArray.size:=by simp;omega
     exact⟨RcAt.lists h1 h2 hsz (by omega) he,RcNeAt.lists h1 h2 hsz (by omega) he⟩
    ·rw[sJ hl]
     have hsz:(us.toArray.size != vs.toArray.size)=ZC:=by simp;omega
     exact⟨RcAt.lists_lengths h1 h2 hsz (by omega),RcNeAt.lists_lengths h1 h2 hsz (by omega)⟩
   refine⟨?_,key⟩
   by_cases hab:a=b
   ·subst hab
    have:=dk h1 h2;subst this;rw[ReVs.refl r1 r2];exact EqAt.same _
   ·exact EqAt.of_refs hab key.1
  cases x with
  |tup l=>
   cases y with
   |tup m=>
    unfold ReV at rx ry;obtain⟨a,us,rfl,h1,r1⟩:=rx;obtain⟨b,vs,rfl,h2,r2⟩:=ry
    have hd':deps l<=n\/deps m<=n:=by
     simp only[T.dep]at hd;omega
    have l1:=r1.length
    have l2:=r2.length;obtain⟨e,he,hb⟩:=items l m us vs hd' r1 r2
    have q:=nh l m e hb
    have q2:beqTs l m=((OI (min us.toArray.size vs.toArray.size)).all e&&us.toArray.size == vs.toArray.size):=by
     rw[q];simp[l1,l2]
    have key:RcAt A s (.ref a) (.ref b) (beqTs l m)/\RcNeAt A s (.ref a) (.ref b) (!beqTs l m):=by
     rw[q2];exact⟨RcAt.tuples h1 h2 (by omega) he,RcNeAt.tuples h1 h2 (by omega) he⟩
    unfold bo;refine⟨?_,key⟩
    by_cases hab:a=b
    ·subst hab
     have:=jY h1 h2;subst this;rw[ReVs.refl r1 r2];exact EqAt.same _
    ·exact EqAt.of_refs hab key.1
   |_=>exact w8 A s _ _ u v (by simp[kB]) (by omega) rx ry
  |lst l=>
   cases y with
   |lst m=>
    unfold ReV at rx ry;obtain⟨a,us,rfl,h1,r1⟩:=rx;obtain⟨b,vs,rfl,h2,r2⟩:=ry;unfold bo
    exact lists l m a b us vs (by simp only[T.dep]at hd;omega) r1 r2 h1 h2
   |scr m=>
    unfold ReV at rx ry;obtain⟨a,us,rfl,h1,r1⟩:=rx;obtain⟨b,vs,rfl,h2,r2⟩:=ry;unfold bo
    exact lists l (m.map T.int) a b us vs (by rw[gH];omega) r1 (eK r2) h1 h2
   |_=>exact w8 A s _ _ u v (by simp[kB]) (by omega) rx ry
  |scr l=>
   cases y with
   |lst m=>
    unfold ReV at rx ry;obtain⟨a,us,rfl,h1,r1⟩:=rx;obtain⟨b,vs,rfl,h2,r2⟩:=ry;unfold bo;rw[qz]
    exact lists (l.map T.int) m a b us vs (by rw[gH];omega) (eK r1) r2 h1 h2
   |scr m=>
    unfold ReV at rx ry;obtain⟨a,us,rfl,h1,r1⟩:=rx;obtain⟨b,vs,rfl,h2,r2⟩:=ry;unfold bo;rw[tf]
    exact lists (l.map T.int) (m.map T.int) a b us vs (by rw[gH];omega) (eK r1) (eK r2) h1 h2
   |_=>exact w8 A s _ _ u v (by simp[kB]) (by omega) rx ry
  |_=>exact w8 A s _ _ u v (by simp[kB]) (by omega) rx ry
mutual
def T.nf:T->T
 |.tup l=>.tup (nfs l)
 |.lst l=>.lst (nfs l)
 |.scr l=>.lst (l.map .int)
 |.non=>.non
 |.bl b=>.bl b
 |.int b=>.int b
 |.str b=>.str b
 |.dct a b=>.dct a b
 |.ob a b c=>.ob a b c
def nfs:List T->List T
 |[] =>[]
 |t::l=>t.nf::nfs l
end
theorem wy:∀(l:List Int),nfs (l.map T.int)=l.map T.int
 |[] =>rfl
 |i::l=>by rw[NO,nfs,wy l];simp[T.nf]
mutual
theorem mG:∀(t x:T),bo t.nf x=bo t x
 |.non,x=>by simp[T.nf]
 |.bl _,x=>by simp[T.nf]
 |.int _,x=>by simp[T.nf]
 |.str _,x=>by simp[T.nf]
 |.tup l,x=>by cases x <;> simp[T.nf,bo,beqTs_nf l]
 |.lst l,x=>by cases x <;> simp[T.nf,bo,beqTs_nf l]
 |.scr l,x=>by cases x <;> simp[T.nf,bo,qz,tf]
 |.dct _ _,x=>by simp[T.nf]
 |.ob _ _ _,x=>by simp[T.nf]
theorem beqTs_nf:∀(l m:List T),beqTs (nfs l) m=beqTs l m
 |[],m=>by simp[nfs]
 |t::l,m=>by cases m <;> simp[nfs,beqTs,mG t,beqTs_nf l]
end
def JX{t:T}(r:ReV s t (.int i k)):t.nf=.int i:=by
 cases t with
 |non=>unfold ReV at r;cases r
 |bl b=>unfold ReV at r;cases r
 |int j=>unfold ReV at r;obtain⟨t,e⟩:=r;injection e with e1 _;subst e1;rfl
 |str x=>unfold ReV at r;obtain⟨t,e⟩:=r;cases e
 |tup l=>unfold ReV at r;obtain⟨a,its,e,_⟩:=r;cases e
 |lst l=>unfold ReV at r;obtain⟨a,its,e,_⟩:=r;cases e
 |scr l=>unfold ReV at r;obtain⟨a,its,e,_⟩:=r;cases e
 |dct _ _=>unfold ReV at r;exact r.elim
 |ob _ _ _=>unfold ReV at r;exact r.elim
theorem zR{s:NQ}:∀{l:List T}{us:List NM}{ns:List Int},ReVs s l us->RL us ns->nfs l=ns.map T.int
 |[],us,ns,r,h=>by cases ReVs.Da.mp r;cases h;rfl
 |t::l,us,ns,r,h=>by
  obtain⟨u,ws,rfl,p,q⟩:=ReVs.me.mp r
  cases h with
  |cons a b hh=>rw[nfs,JX p,zR q hh];rfl
mutual
theorem ReV.nf{s:NQ}:∀{t u:T}{v:NM},ReV s t v->ReV s u v->t.nf=u.nf
 |.non,u,v,r,q=>by
  unfold ReV at r;subst r
  cases u <;> (unfold ReV at q) <;> first|rfl| (cases q;done)| (obtain⟨_,e⟩:=q;cases e;done)| (obtain⟨_,_,e,_⟩:=q;cases e;done)
 |.bl b,u,v,r,q=>by
  unfold ReV at r;subst r
  cases u <;> (unfold ReV at q) <;> first| (cases q;done)| (cases q;rfl)| (obtain⟨_,e⟩:=q;cases e;done)| (obtain⟨_,_,e,_⟩:=q;cases e;done)
 |.int b,u,v,r,q=>by
  unfold ReV at r;obtain⟨k,rfl⟩:=r
  cases u <;> (unfold ReV at q) <;> first| (cases q;done)| (obtain⟨_,e⟩:=q;cases e;done)| (obtain⟨_,e⟩:=q;cases e;rfl)| (obtain⟨_,_,e,_⟩:=q;cases e;done)
 |.str b,u,v,r,q=>by
  unfold ReV at r;obtain⟨k,rfl⟩:=r
  cases u <;> (unfold ReV at q) <;> first| (cases q;done)| (obtain⟨_,e⟩:=q;cases e;done)| (obtain⟨_,e⟩:=q;cases e;rfl)| (obtain⟨_,_,e,_⟩:=q;cases e;done)
 |.tup l,u,v,r,q=>by
  unfold ReV at r;obtain⟨a,its,rfl,h1,h2⟩:=r
  cases u with
  |non=>unfold ReV at q;cases q
  |dct _ _=>unfold ReV at q;exact q.elim
  |ob _ _ _=>unfold ReV at q;exact q.elim
  |bl _=>unfold ReV at q;cases q
  |int _=>unfold ReV at q;obtain⟨_,e⟩:=q;cases e
  |str _=>unfold ReV at q;obtain⟨_,e⟩:=q;cases e
  |tup m=>
   unfold ReV at q;obtain⟨a',its',e,h1',h2'⟩:=q;injection e with e;subst e
   have:=jY h1 h1';subst this;unfold T.nf
   rw[ReVs.nf h2 h2']
  |lst m=>unfold ReV at q;obtain⟨a',its',e,h1',h2'⟩:=q;injection e with e;subst e;exact absurd rfl (ne_of_list_tuple h1' h1)
  |scr m=>unfold ReV at q;obtain⟨a',its',e,h1',h2'⟩:=q;injection e with e;subst e;exact absurd rfl (ne_of_list_tuple h1' h1)
 |.lst l,u,v,r,q=>by
  unfold ReV at r;obtain⟨a,its,rfl,h1,h2⟩:=r
  cases u with
  |non=>unfold ReV at q;cases q
  |dct _ _=>unfold ReV at q;exact q.elim
  |ob _ _ _=>unfold ReV at q;exact q.elim
  |bl _=>unfold ReV at q;cases q
  |int _=>unfold ReV at q;obtain⟨_,e⟩:=q;cases e
  |str _=>unfold ReV at q;obtain⟨_,e⟩:=q;cases e
  |lst m=>
   unfold ReV at q;obtain⟨a',its',e,h1',h2'⟩:=q;injection e with e;subst e
   have:=dk h1 h1';subst this;unfold T.nf
   rw[ReVs.nf h2 h2']
  |tup m=>unfold ReV at q;obtain⟨a',its',e,h1',h2'⟩:=q;injection e with e;subst e;exact absurd rfl (ne_of_list_tuple h1 h1')
  |scr m=>
   unfold ReV at q;obtain⟨a',its',e,h1',h2'⟩:=q;injection e with e;subst e
   have:=dk h1 h1';subst this;unfold T.nf
   rw[ReVs.nf h2 (eK h2'),wy]
 |.scr l,u,v,r,q=>by
  unfold ReV at r;obtain⟨a,its,rfl,h1,h2⟩:=r
  cases u with
  |non=>unfold ReV at q;cases q
  |dct _ _=>unfold ReV at q;exact q.elim
  |ob _ _ _=>unfold ReV at q;exact q.elim
  |bl _=>unfold ReV at q;cases q
  |int _=>unfold ReV at q;obtain⟨_,e⟩:=q;cases e
  |str _=>unfold ReV at q;obtain⟨_,e⟩:=q;cases e
  |lst m=>
   unfold ReV at q;obtain⟨a',its',e,h1',h2'⟩:=q;injection e with e;subst e
   have:=dk h1 h1';subst this
   have z:=zR h2' h2;unfold T.nf
   rw[z]
  |tup m=>unfold ReV at q;obtain⟨a',its',e,h1',h2'⟩:=q;injection e with e;subst e;exact absurd rfl (ne_of_list_tuple h1 h1')
  |scr m=>
   unfold ReV at q;obtain⟨a',its',e,h1',h2'⟩:=q;injection e with e;subst e
   have:=dk h1 h1';subst this
   rw[j0 h2 h2']
 |.dct _ _,u,v,r,q=>by unfold ReV at r;exact r.elim
 |.ob _ _ _,u,v,r,q=>by unfold ReV at r;exact r.elim
theorem ReVs.nf{s:NQ}:∀{l m:List T}{us:List NM},ReVs s l us->ReVs s m us->nfs l=nfs m
 |[],m,us,r,q=>by
  cases ReVs.Da.mp r
  cases m with
  |nil=>rfl
  |cons _ _=>obtain⟨_,_,e,_⟩:=ReVs.me.mp q;cases e
 |t::l,m,us,r,q=>by
  obtain⟨v,ws,rfl,p,z⟩:=ReVs.me.mp r
  cases m with
  |nil=>cases ReVs.Da.mp q
  |cons u m=>
   obtain⟨v',ws',e,p',z'⟩:=ReVs.me.mp q;injection e with e1 e2
   subst e1 e2;rw[nfs,nfs,ReV.nf p p',ReVs.nf z z']
end
variable{e:ZG}{op:Ut}{x y:T}
section
variable {a b c:ZG}{fa fb fc:V5}{pos:Pos}
def g8(x y:T):Bool:=(decide (x.dep<=60)||decide (y.dep<=60))&&(x.nd&&y.nd)
def kP(x y:T):Rs T:=if g8 x y=ZC then .ok (.bl (bo x y))else .bad
def pO(x y:T):Rs T:=if g8 x y=ZC then .ok (.bl (!bo x y))else .bad
def j8(h:x.dep<=60)(hx:x.nd=ZC)(hy:y.nd=ZC):g8 x y=ZC:=by unfold g8;rw[decide_eq_true h,hx,hy];rfl
def DU(h:y.dep<=60)(hx:x.nd=ZC)(hy:y.nd=ZC):g8 x y=ZC:=by unfold g8;rw[decide_eq_true h,hx,hy,UG];rfl
def kK(h:g8 x y=ZC):x.nd=ZC/\y.nd=ZC:=by
 unfold g8 at h;exact Pa.mp (Pa.mp h).2
def si(h:g8 x y=ZC):x.dep<=60\/y.dep<=60:=by
 unfold g8 at h
 replace h:=(Pa.mp h).1
 rcases Bool.or_eq_true_iff.mp h with h|h
 ·exact .inl (of_decide_eq_true h)
 ·exact .inr (of_decide_eq_true h)
def jt(hu:X.A.units+60<cLine):OpT X (OL .Eq) kP:=by
 intro ol s σ H O x y vx vy ux uy Q I hf rx ry r1 r2 hp;unfold kP at hp
 split at hp
 ·rename_i h
  have z:=GC 60 X.A s x y ux uy (si h) hu (Rep.val I (kK h).1 rx r1) (Rep.val I (kK h).2 ry r2);exact z.2.1 _ _ _ _ ⟨.bl _,H,I,rfl,hp H (Same.refl H) _ (Rep.bl_ _)⟩
 ·exact hp.elim
def rN(hu:X.A.units+60<cLine):OpT X (OL .NotEq) pO:=by
 intro ol s σ H O x y vx vy ux uy Q I hf rx ry r1 r2 hp;unfold pO at hp
 split at hp
 ·rename_i h
  have z:=GC 60 X.A s x y ux uy (si h) hu (Rep.val I (kK h).1 rx r1) (Rep.val I (kK h).2 ry r2);exact z.2.2 _ _ _ _ ⟨.bl _,H,I,rfl,hp H (Same.refl H) _ (Rep.bl_ _)⟩
 ·exact hp.elim
def T.items:T->Option (List T)
 |.tup l=>ZA l
 |.lst l=>ZA l
 |.scr l=>ZA (l.map T.int)
 |_=>ZB
def fF(x:T)(l:List T):Bool:=l.any λy=>bo y x
noncomputable def AZ(x y:T):Rs T:=match y.items with
 |some l=>if (x.dep<=60\/deps l<=60)/\x.nd=ZC/\y.nd=ZC then .ok (.bl (fF x l))else .bad
 |none=>.bad
def Gf{A:Ou}{ux:NM}(rx:ReV s x ux)(hu:A.units+60<cLine)(hd:x.dep<=60\/deps l<=60)(r:ReVs s l us):
  ∃e:NM->Bool,(∀y∈us,EqAt A s y ux (e y))/\us.any e=fF x l:=by
 classical
 have ex:∀y∈us,∃t∈l,ReV s t y:=λy hy=>by
  obtain⟨i,hi,rfl⟩:=Qw hy
  have hl:=r.length
  have e1:l[i]?=ZA l[i]:=by simp
  obtain⟨u,q1,q2⟩:=r.get e1
  have:us[i]?=ZA us[i]:=by simp
  rw[this]at q1;cases q1;exact⟨l[i],Px _,q2⟩
 let e:NM->Bool:=λy=>decide (∃t∈l,ReV s t y/\bo t x=ZC)
 have dep:∀t∈l,t.dep<=60\/x.dep<=60:=λt ht=>by
  rcases hd with h|h
  ·exact .inr h
  ·obtain⟨i,hi,rfl⟩:=Qw ht
   exact .inl (OJ (ke (i:=i) (by simp)) h)
 have uniq:∀y t t',ReV s t y->ReV s t' y->bo t x=bo t' x:=λy t t' z z'=>by
  rw[<-mG t,<-mG t',ReV.nf z z']
 have agree:∀y t,t∈l->ReV s t y->e y=bo t x:=λy t h z=>by
  show decide (∃t∈l,ReV s t y/\bo t x=ZC)=bo t x
  cases q:bo t x with
  |true=>exact decide_eq_true ⟨t,h,z,q⟩
  |false=>
   refine decide_eq_false ?_
   rintro ⟨t',h',z',q'⟩
   rw[<-uniq y t t' z z',q]at q';cases q'
 refine⟨e,λy hy=>?_,?_⟩
 ·obtain⟨t,h,z⟩:=ex y hy
  rw[agree y t h z];exact(GC 60 A s t x y ux (dep t h) hu z rx).1
 ·have go:∀(l':List T)(us':List NM),(∀t∈l',t∈l)->ReVs s l' us'->us'.any e=l'.any λy=>bo y x:=by
   intro l'
   induction l' with
   |nil=>intro us' _ r';rw[ReVs.Da.mp r'];rfl
   |cons t l' ih=>
    intro us' sub r';obtain⟨u,ws,rfl,p,q⟩:=ReVs.me.mp r';rw[Qa,Qa,ih ws (λt ht=>sub t (NL _ ht)) q,agree u t (sub t NP) p]
  exact go l us (λ_ h=>h) r
def AW{u:NM}(r:ReV s y u)(h:y.items=ZA l):∃a us,u=.ref a/\ReVs s l us/\(s.heap.IsTuple a us.toArray\/s.heap.IsList a us.toArray):=by
 cases y with
 |tup m=>cases h;unfold ReV at r;obtain⟨a,us,e,h1,h2⟩:=r;exact⟨a,us,e,h2,.inl h1⟩
 |lst m=>cases h;unfold ReV at r;obtain⟨a,us,e,h1,h2⟩:=r;exact⟨a,us,e,h2,.inr h1⟩
 |scr m=>cases h;unfold ReV at r;obtain⟨a,us,e,h1,h2⟩:=r;exact⟨a,us,e,eK h2,.inr h1⟩
 |_=>cases h
def CM(hu:X.A.units+61<cLine):OpT X (OL .In) AZ:=by
 intro ol s σ H O x y vx vy ux uy Q I hf rx ry r1 r2 hp;unfold AZ at hp
 split at hp
 ·rename_i l hl
  split at hp
  ·rename_i hd3
   obtain⟨hd,hnx,hny⟩:=hd3;obtain⟨a,us,rfl,rs,hh⟩:=AW (Rep.val I hny ry r2) hl;obtain⟨e,he,ha⟩:=Gf (A:=X.A.in1) (Rep.val I hnx rx r1) (by show X.A.units+1+60<cLine;omega) hd rs
   have q:=hp H (Same.refl H) _ (Rep.bl_ (fF x l))
   have he':∀y,y∈us.toArray->EqAt X.A.in1 s y ux (e y):=λy hy=>he y (by simpa using hy)
   have ha':us.toArray.any e=fF x l:=by simpa using ha
   rcases hh with hh|hh
   ·exact in_tupleAt e hh he' (by rw[ha'];exact⟨.bl _,H,I,rfl,q⟩)
   ·exact in_listAt e hh he' (by rw[ha'];exact⟨.bl _,H,I,rfl,q⟩)
  ·exact hp.elim
 ·exact hp.elim
noncomputable def ch(g g':T->T->Rs T)(fa fb fc:V5)(Z:En):Rs T:=do
 let x <-fa Z
 let y <-fb Z
 let z <-g x y
 match z with
 |.bl ZC=>do
  let w <-fc Z
  g' y w
 |.bl ZD=>.ok (.bl ZD)
 |_=>.bad
def FN{op':Ut}{g g':T->T->Rs T}(ho:OpT X (OL op) g)(ho':OpT X (OL op') g')(ha:cz X a fa)(hb:cz X b fb)(hc:cz X c fc)
  (hm:Vi [op,op'] [b,c]=ZD:=by with_unfolding_all rfl):cz X (.Compare a [op,op'] [b,c] pos) (ch g g' fa fb fc):=by
 intro ol s σ H Q I ⟨Z,O,E,hq⟩
 have h1:=a8 E hq;refine Compare_chain (bS (ha ol s σ H _ I h1) λv s1 ⟨x,H1,I1,r1,t,rt,s',E',q1⟩=>chain_link ?_) hm
 have h2:=a8 (f:=fb) E' q1;refine bS (hb ol s1 σ H1 _ I1 h2) λu s2 hh_=>?_
 obtain⟨y,H2,I2,r2,t2,rt2,s'',E'',q2⟩:=hh_
 refine bS (ho ol s2 σ H2 O t t2 x y v u (λv' H'=>∃t',Rep X.K O H' t' v'/\Same H2 H'/\Post X H' (match t' with
  |.bl ZC=>fc Z >>= λw=>g' t2 w
  |.bl ZD=>.ok (.bl ZD)
  |_=>.bad) (λt H'=>∀v,Rep X.K O H' t v->Q v H')) I2 (λp=>E''.fresh) (rt.same s'') rt2 r1 r2 (Post.mono q2.bind λt' H' s3 q v rv=>⟨t',rv,s3,q⟩)) λd s3 ⟨z,H3,I3,r3,t3,rt3,sm3,q3⟩=>?_
 have E3:=E''.same sm3
 split at q3
 ·cases Rep.FM.mp rt3
  cases r3;refine OR (ite_tt (chain_last ?_))
  have h4:=a8 (f:=fc) E3 q3;refine bS (hc ol s3 σ H3 _ I3 h4) λw' s4 ⟨z',H4,I4,r4,t4,rt4,s4',E4,q4⟩=>?_
  exact ho' ol s4 σ H4 O t2 t4 y z' u w' Q I4 (λp=>E4.fresh) ((rt2.same sm3).same s4') rt4 r2 r4 q4
 ·cases Rep.FM.mp rt3
  cases r3;refine OR (ite_ff ⟨.bl ZD,H3,I3,rfl,q3 H3 (Same.refl H3) _ (Rep.bl_ ZD)⟩)
 ·exact q3.elim
def tb(f:V5)(Z:En):Rs Bool:=do
 let x <-f Z
 match x with
 |.bl k=>.ok k
 |_=>.bad
def bt(f:V6)(Z:En):Rs T:=do
 let k <-f Z
 .ok (.bl k)
def Iw{f:V5}(h:cz X e f)(he:∀whole,isTrue e X.env whole=(do let v <-whole;standAt e.pos;holding [v] (truthy v)):=by intro _;rfl):rn X e (tb f):=by
 intro ol s σ H Q I ⟨Z,O,E,hq⟩;refine Ct h he ol s σ H Q I ?_
 obtain⟨Z1,O1,E1,h1⟩:=a8 E hq;refine⟨Z1,O1,E1,Post.mono h1 λts H1 s1 q vs r=>?_⟩
 obtain⟨t',r',s',E',q'⟩:=q vs r
 split at q'
 ·exact⟨_,Rep.FM.mp r',q' H1 (Same.refl H1)⟩
 ·exact q'.elim
def Iz{g:T->T->Rs T}(ho:OpT X (OL op) g)(ha:cz X a fa)(hb:cz X b fb)(hm:Qd op b=ZD:=by rfl):rn X (.Compare a [op] [b] pos) (tb (o2 g fa fb)):=by
 intro ol s σ H Q I ⟨Z,O,E,hq⟩
 have hq':Post X H (o2 g fa fb Z) λt H'=>∀v,Rep X.K O H' t v->∃k,v=.bl k/\Q k H':=Post.mono hq.bind λt H' s' q v r=>by
  split at q
  ·exact⟨_,Rep.FM.mp r,q H' (Same.refl H')⟩
  ·exact q.elim
 have h1:=a8 E hq';refine RH (bS (ha ol s σ H _ I h1) λv s1 ⟨x,H1,I1,r1,t,rt,s',E',q1⟩=>?_) hm
 have h2:=a8 (f:=fb) E' q1;refine bS (hb ol s1 σ H1 _ I1 h2) λu s2 hh_=>?_
 obtain⟨y,H2,I2,r2,t2,rt2,s'',E'',q2⟩:=hh_;refine bS (ho ol s2 σ H2 O t t2 x y v u _ I2 (λp=>E''.fresh) (rt.same s'') rt2 r1 r2 q2) λd s3 hh_=>?_
 obtain⟨z,H3,I3,r3,k,e,q3⟩:=hh_;subst e;cases r3;exact OR ⟨H3,I3,q3⟩
def Cf{op':Ut}{g g':T->T->Rs T}(ho:OpT X (OL op) g)(ho':OpT X (OL op') g')(ha:cz X a fa)(hb:cz X b fb)(hc:cz X c fc)
  (hm:Vi [op,op'] [b,c]=ZD:=by with_unfolding_all rfl):rn X (.Compare a [op,op'] [b,c] pos) (tb (ch g g' fa fb fc)):=by
 intro ol s σ H Q I ⟨Z,O,E,hq⟩
 have hq':Post X H (ch g g' fa fb fc Z) λt H'=>∀v,Rep X.K O H' t v->∃k,v=.bl k/\Q k H':=Post.mono hq.bind λt H' s' q v r=>by
  split at q
  ·exact⟨_,Rep.FM.mp r,q H' (Same.refl H')⟩
  ·exact q.elim
 have h1:=a8 E hq';refine isTrue_chain (bS (ha ol s σ H _ I h1) λv s1 ⟨x,H1,I1,r1,t,rt,s',E',q1⟩=>test_link ?_) hm
 have h2:=a8 (f:=fb) E' q1;refine bS (hb ol s1 σ H1 _ I1 h2) λu s2 hh_=>?_
 obtain⟨y,H2,I2,r2,t2,rt2,s'',E'',q2⟩:=hh_
 refine bS (ho ol s2 σ H2 O t t2 x y v u (λv' H'=>∃t',Rep X.K O H' t' v'/\Same H2 H'/\Post X H' (match t' with
  |.bl ZC=>fc Z >>= λw=>g' t2 w
  |.bl ZD=>.ok (.bl ZD)
  |_=>.bad) (λt H'=>∀v,Rep X.K O H' t v->∃k,v=.bl k/\Q k H')) I2 (λp=>E''.fresh) (rt.same s'') rt2 r1 r2 (Post.mono q2.bind λt' H' s3 q v rv=>⟨t',rv,s3,q⟩)) λd s3 ⟨z,H3,I3,r3,t3,rt3,sm3,q3⟩=>?_
 have E3:=E''.same sm3
 split at q3
 ·cases Rep.FM.mp rt3
  cases r3;refine OR (ite_tt (test_last ?_))
  have h4:=a8 (f:=fc) E3 q3;refine bS (hc ol s3 σ H3 _ I3 h4) λw' s4 ⟨z',H4,I4,r4,t4,rt4,s4',E4,q4⟩=>?_
  refine bS (ho' ol s4 σ H4 O t2 t4 y z' u w' _ I4 (λp=>E4.fresh) ((rt2.same sm3).same s4') rt4 r2 r4 q4) λd' s5 ⟨z2,H5,I5,r5,k2,e2,q5⟩=>?_
  subst e2;cases r5;exact OR ⟨H5,I5,q5⟩
 ·cases Rep.FM.mp rt3
  cases r3;obtain⟨k,e,q⟩:=q3 H3 (Same.refl H3) _ (Rep.bl_ ZD);cases e;exact OR (ite_ff ⟨H3,I3,q⟩)
 ·exact q3.elim
def lL(f g:V6)(Z:En):Rs Bool:=do
 let k <-f Z
 if k then g Z else .ok ZD
def nS(f g:V6)(Z:En):Rs Bool:=do
 let k <-f Z
 if k then .ok ZC else g Z
noncomputable def cI(f:V6)(Z:En):Rs Bool:=do
 let k <-f Z
 .ok (!k)
variable {f g:V6}{bU:List ZG}
abbrev HF(X:Cx)(e:ZG)(f:V6):Prop:=PW X e (BN X f)
def Fu(ha:rn X a f):HF X (.BoolOp .And [a] pos) f:=FP ha
def Iu(ha:rn X a f):HF X (.BoolOp .Or [a] pos) f:=xZ ha
def Iv(ha:rn X a f)(hb:HF X (.BoolOp .And (b::bU) pos) g):HF X (.BoolOp .And (a::b::bU) pos) (lL f g):=by
 intro wh ol s σ H Q I ⟨Z,O,E,hq⟩;refine IU ha hb wh ol s σ H Q I ?_
 obtain⟨Z1,O1,E1,h1⟩:=lP E hq;refine⟨Z1,O1,E1,Post.mono h1 λk H1 s1 q=>?_⟩
 obtain⟨s',E',q'⟩:=q
 cases k with
 |true=>rw[if_pos rfl];exact⟨Z,O,E',by simpa using q'⟩
 |false=>rw[if_neg N0];exact q' H1 (Same.refl H1)
def K9(ha:rn X a f)(hb:HF X (.BoolOp .Or (b::bU) pos) g):HF X (.BoolOp .Or (a::b::bU) pos) (nS f g):=by
 intro wh ol s σ H Q I ⟨Z,O,E,hq⟩;refine Cp ha hb wh ol s σ H Q I ?_
 obtain⟨Z1,O1,E1,h1⟩:=lP E hq;refine⟨Z1,O1,E1,Post.mono h1 λk H1 s1 q=>?_⟩
 obtain⟨s',E',q'⟩:=q
 cases k with
 |true=>rw[if_pos rfl];exact q' H1 (Same.refl H1)
 |false=>rw[if_neg N0];exact⟨Z,O,E',by simpa using q'⟩
def qt_w(h:HF X e f):rn X e f:=h.pt
def Iy(ha:rn X a f):rn X (.UnaryOp .Not a pos) (cI f):=by
 intro ol s σ H Q I ⟨Z,O,E,hq⟩;refine Cu ha ol s σ H Q I ?_
 obtain⟨Z1,O1,E1,h1⟩:=lP E hq;exact⟨Z1,O1,E1,Post.mono h1 λk H1 s1 ⟨s',E',q'⟩=>q' H1 (Same.refl H1)⟩
noncomputable def dt(f g:V5)(Z:En):Rs T:=do
 let x <-f Z
 match x with
 |.bl ZC=>g Z
 |.bl ZD=>.ok (.bl ZD)
 |_=>.bad
def EJ(f g:V5)(Z:En):Rs T:=do
 let x <-f Z
 match x with
 |.bl ZC=>.ok (.bl ZC)
 |.bl ZD=>g Z
 |_=>.bad
def Ga:T->Rs T
 |.bl k=>.ok (.bl (!k))
 |_=>.bad
def Li{op}(h:cz X a fa):cz X (.BoolOp op [a] pos) fa:=Jb h
def Lu(ha:cz X a fa)(hb:cz X (.BoolOp .And (b::bU) pos) fb):cz X (.BoolOp .And (a::b::bU) pos) (dt fa fb):=by
 intro ol s σ H Q I ⟨Z,O,E,hq⟩;refine Jf ha hb ol s σ H Q I ?_
 obtain⟨Z1,O1,E1,h1⟩:=a8 E hq;refine⟨Z1,O1,E1,Post.mono h1 λts H1 s1 q vs r=>?_⟩
 obtain⟨t',r',s',E',q'⟩:=q vs r
 split at q'
 ·exact⟨ZC,Rep.FM.mp r',by rw[if_pos rfl];exact⟨Z,O,E',q'⟩⟩
 ·exact⟨ZD,Rep.FM.mp r',by rw[if_neg N0];exact q' H1 (Same.refl H1) _ (Rep.bl_ ZD)⟩
 ·exact q'.elim
def q_or(ha:cz X a fa)(hb:cz X (.BoolOp .Or (b::bU) pos) fb):cz X (.BoolOp .Or (a::b::bU) pos) (EJ fa fb):=by
 intro ol s σ H Q I ⟨Z,O,E,hq⟩;refine Lx ha hb ol s σ H Q I ?_
 obtain⟨Z1,O1,E1,h1⟩:=a8 E hq;refine⟨Z1,O1,E1,Post.mono h1 λts H1 s1 q vs r=>?_⟩
 obtain⟨t',r',s',E',q'⟩:=q vs r
 split at q'
 ·exact⟨ZC,Rep.FM.mp r',by rw[if_pos rfl];exact q' H1 (Same.refl H1) _ (Rep.bl_ ZC)⟩
 ·exact⟨ZD,Rep.FM.mp r',by rw[if_neg N0];exact⟨Z,O,E',q'⟩⟩
 ·exact q'.elim
def Lj(ha:cz X a fa):cz X (.UnaryOp .Not a pos) (o1 Ga fa):=by
 intro ol s σ H Q I ⟨Z,O,E,hq⟩;refine Jc ha ol s σ H Q I ?_
 obtain⟨Z1,O1,E1,h1⟩:=a8 E hq;refine⟨Z1,O1,E1,Post.mono h1 λts H1 s1 q vs r=>?_⟩
 obtain⟨t',r',s',E',q'⟩:=q vs r;unfold Ga at q'
 split at q'
 ·exact⟨_,Rep.FM.mp r',q' H1 (Same.refl H1) _ (Rep.bl_ _)⟩
 ·exact q'.elim
def yE(f:V6)(fa fb:V5)(Z:En):Rs T:=do
 let k <-f Z
 if k then fa Z else fb Z
def q_if(hc:rn X c f)(ha:cz X a fa)(hb:cz X b fb):cz X (.IfExp c a b pos) (yE f fa fb):=by
 intro ol s σ H Q I ⟨Z,O,E,hq⟩;refine vX hc ha hb ol s σ H Q I ?_
 obtain⟨Z1,O1,E1,h1⟩:=lP E hq;refine⟨Z1,O1,E1,Post.mono h1 λk H1 s1 q=>?_⟩
 obtain⟨s',E',q'⟩:=q
 cases k with
 |true=>rw[if_pos rfl];exact⟨Z,O,E',by simpa using q'⟩
 |false=>rw[if_neg N0];exact⟨Z,O,E',by simpa using q'⟩
end
end Tr
namespace HT
open PySem PyProof.Rows
section
variable {prog:Oa}{w:O0}{A:Ou}{E:V1}{s:NQ}
def kR{t:ZE}{items:Array NM}{Q:Bool->NQ->Prop}(ht:Vm s.heap t items)(h:Q ZC s):ZJ (ZK prog w) A (RZ (.ref t)) Q E s:=by
 unfold RZ;refine NS (R8 ht.typeIs (N5 ?_))
 exact h
def getItem_tuple_whole{t sl:ZE}{items:Array NM}{vl vu:NM}{lo hi:Option Int}{Q:V1}(ht:Vm s.heap t items)(hs:s.heap.IsSliceOf sl vl vu .none)(pl:Ua vl lo)(pu:Ua vu hi)
  (hw:sIx items.size 0 lo=0/\sIx items.size items.size hi=items.size) (h:Q (.ref t) s):ZJ (ZK prog w) A (getItem (.ref t) (.ref sl)) Q E s:=by
 obtain⟨os,hos,hcs,hds⟩:=id hs
 have hTs:s.TypeIs (.ref sl) "slice":=⟨os,hos,hcs⟩;unfold getItem
 try with_reducible refine SC ?_
 first|refine NS (N5 ?_)|skip
 refine NS (Uw ht.typeIs (by decide) ?_)
 refine NS (PX (name:=N7 "__getitem__") ht.typeIs OZ
  (Q7 OZ ht.typeIs TH ?_ (Ub _ _)))
 show ZJ _ _ (RY (.ref t) >>= _) _ _ s
 refine NS (Uc ht ?_)
 refine NS (R8 hTs ?_)
 rw[if_pos (by decide)]
 refine NS (iM hs pl pu ?_)
 have hyes:(((sIx items.size 0 lo:Nat):Int) == 0&&(1:Int) == 1&&(sIx items.size items.size hi - sIx items.size 0 lo) == items.size)=ZC:=by
  rw[hw.1,hw.2];simp
 show ZJ _ _ (if (((sIx items.size 0 lo:Nat):Int) == 0&&(1:Int) == 1&&(sIx items.size items.size hi - sIx items.size 0 lo) == items.size)=ZC then _ else _) _ _ s
 rw[if_pos hyes]
 first
  |refine NS (kR ht ?_)
  |refine kR ht ?_
 try rw[if_pos rfl]
 first
  |exact NS (Ux (N5 ⟨_,rfl,N5 h⟩))
  |exact NS (Ux (NS (N5 (N5 ⟨_,rfl,N5 h⟩))))
end
end HT
namespace Tr
open PySem PySem.Spec PyProof.Rows L2
variable{H:Hp}{K:NK}{O:Ow}{Ty:String}{X:Cx}{Z:En}{e:ZG}{es:List ZG}{fa fb fc:V5}{l:List T}{p pos:Pos}{v:V}{vs:List V}{x:Str}{α:Type}{σ:L2.St}
section
variable {a b c:ZG}
theorem Reps.atI{K:NK}{O:Ow}{H:Hp}{l:List T}{vs:List V}{i:Int}{t:T}(r:Reps K O H l vs)(e:L2.atI l i=ZA t):∃v,L2.atI vs i=ZA v/\Rep K O H t v:=by
 unfold L2.atI at e ⊢;rw[r.length]at e
 cases q:ixN vs.length i with
 |none=>rw[q]at e;cases e
 |some j=>
  rw[q]at e;obtain⟨v,e1,e2⟩:=r.get (i:=j) (t:=t) e;exact⟨v,e1,e2⟩
def aV(x y:T):Rs T:=match x.items,y with
 |some l,.int i=>match L2.atI l i with
  |some t=>.ok t
  |none=>.bad
 |_,_=>.bad
def q_ix(ha:cz X a fa)(hb:cz X b fb)(hs:Ah b:=by intro _ _;rfl):cz X (.Subscript a b pos) (o2 aV fa fb):=by
 intro ol s σ H Q I ⟨Z,O,E,hq⟩
 have h1:=a8 E hq;refine Subscript_ (bS (ha ol s σ H _ I h1) λv s1 hh_=>?_)
 obtain⟨x,H1,I1,r1,t,rt,s',E',q1⟩:=hh_
 have h2:=a8 (f:=fb) E' q1;refine bS (hb ol s1 σ H1 _ I1 h2) λu s2 hh_=>?_
 obtain⟨y,H2,I2,r2,t2,rt2,s'',E'',q2⟩:=hh_
 have rt':=rt.same s'';unfold aV at q2
 split at q2
 ·rename_i l i hl
  split at q2
  ·rename_i z hz
   have hy:=Rep.AC.mp rt2;refine JV a b ol s2 σ H2 x y v u Q I2 r1 r2 ?_ (hs _ _)
   cases t with
   |tup m=>
    cases hl;obtain⟨p,vs,e,n,q,rr⟩:=Rep.Fk.mp rt';obtain⟨w,ew,rw'⟩:=rr.atI hz
    exact .inr (.inl ⟨p,vs,i,w,e,hy,SqT.of q,ew,q2 H2 (Same.refl H2) _ rw'⟩)
   |lst m=>
    cases hl;obtain⟨p,vs,e,n,q,rr⟩:=Rep.Do.mp rt';obtain⟨w,ew,rw'⟩:=rr.atI hz
    exact .inl ⟨p,vs,i,w,e,hy,SqL.of q,ew,q2 H2 (Same.refl H2) _ rw'⟩
   |scr m=>
    cases hl;unfold Rep at rt';obtain⟨p,e,n,q⟩:=rt';obtain⟨w,ew,rw'⟩:=(Reps.ints (K:=X.K) (O:=O) (H:=H2) (ns:=m)).atI hz
    exact .inl ⟨p,_,i,w,e,hy,q,ew,q2 H2 (Same.refl H2) _ rw'⟩
   |_=>cases hl
  ·exact q2.elim
 ·exact q2.elim
def n9(l:List T)(lo hi:Option Int):List T:=(l.drop (HT.sIx l.length 0 lo)).take (HT.sIx l.length l.length hi - HT.sIx l.length 0 lo)
def Reps.cut(r:Reps K O H l vs)(lo hi:Option Int):Reps K O H (n9 l lo hi) (xk vs lo hi):=by
 unfold n9 xk;rw[r.length];exact(r.drop _).take _
def A9{lo hi:Option Int}(h:HT.sIx l.length 0 lo=0/\HT.sIx l.length l.length hi=l.length):n9 l lo hi=l:=by
 unfold n9;rw[h.1,h.2];simp
def sl_tup_whole:SlR X (λx lo hi H Q=>∃a xs,x=.ref a/\SqT X.K H a xs/\(HT.sIx xs.length 0 lo=0/\HT.sIx xs.length xs.length hi=xs.length)/\Q (.ref a) H):=by
 intro ol s σ H x v vl vu lo hi sl Q I rx hs pl pu h;obtain⟨a,xs,rfl,hx,hw,q⟩:=h;cases rx;obtain⟨its,r,ht,hz⟩:=I.tuple hx
 have hlen:its.toArray.size=xs.length:=by rw[N6];exact r.length.symm
 refine⟨"tuple",_,OZ.lookup,ht.typeIs,?_⟩
 exact HT.getItem_tuple_whole ht hs pl pu (by rw[hlen];exact hw) ⟨.ref a,H,I,rfl,q⟩
def pN(_:En):Rs (Option Int):=.ok ZB
def pS(f:V5)(Z:En):Rs (Option Int):=do
 let x <-f Z
 match x with
 |.int i=>.ok (ZA i)
 |_=>.bad
def tPO(X:Cx)(f:En->Rs (Option Int)):TO:=λσ H Q=>∃Z O,EnvO X.K O H Z σ/\Post X H (f Z) λb H'=>Q b H'
abbrev Mz(X:Cx)(e:Option ZG)(f:En->Rs (Option Int)):Prop:=PO X e (tPO X f)
def FD:Mz X ZB pN:=by
 intro ol s σ H Q I ⟨Z,O,E,hq⟩;exact FW ol s σ H Q I (hq H (Same.refl H))
def FC(ha:cz X a fa):Mz X (ZA a) (pS fa):=by
 intro ol s σ H Q I ⟨Z,O,E,hq⟩;refine FV ha ol s σ H Q I ?_
 obtain⟨Z1,O1,E1,h1⟩:=a8 E hq;refine⟨Z1,O1,E1,Post.mono h1 λts H1 s1 q vs r=>?_⟩
 obtain⟨t',r',s',E',q'⟩:=q vs r
 split at q'
 ·exact⟨_,Rep.AC.mp r',q' H1 (Same.refl H1)⟩
 ·exact q'.elim
def slT(x:T)(lo hi:Option Int):Rs T:=match x with
 |.tup l=>.ok (.tup (n9 l lo hi))
 |.lst l=>.ok (.lst (n9 l lo hi))
 |_=>.bad
noncomputable def sl(fe:V5)(fl fu:En->Rs (Option Int))(Z:En):Rs T:=do
 let x <-fe Z
 let l <-fl Z
 let u <-fu Z
 slT x l u
def vA{f:En->Rs (Option Int)}{k:Option Int->Rs α}{Q:α->Hp->Prop}(E:EnvO X.K O H Z σ)(h:Post X H (f Z >>= k) Q):
  tPO X f σ H λb H'=>Same H H'/\EnvO X.K O H' Z σ/\Post X H' (k b) Q:=
 ⟨Z,O,E,Post.mono h.bind λt H' s q=>⟨s,E.same s,q⟩⟩
def FK{lo hi:Option ZG}{p2:Pos}{fl fu:En->Rs (Option Int)}(ha:cz X a fa)(hl:Mz X lo fl)(hu:Mz X hi fu):cz X (.Subscript a (.Slice lo hi ZB p2) pos) (sl fa fl fu):=by
 intro ol s σ H Q I ⟨Z,O,E,hq⟩;refine CC (sl_tup.or (sl_tup_whole.or Ff)) ha hl hu ol s σ H Q I ?_
 obtain⟨Z1,O1,E1,h1⟩:=a8 E hq;refine⟨Z1,O1,E1,Post.mono h1 λts H1 s1 q vs r=>?_⟩
 obtain⟨t',r',s',E',q'⟩:=q vs r;obtain⟨Z2,O2,E2,h2⟩:=vA E' q';refine⟨Z2,O2,E2,Post.mono h2 λo1 H2 s2 q=>?_⟩
 obtain⟨s2',E2',q2⟩:=q;obtain⟨Z3,O3,E3,h3⟩:=vA E2' q2;refine⟨Z3,O3,E3,Post.mono h3 λo2 H3 s3 q=>?_⟩
 obtain⟨s3',E3',q3⟩:=q
 have rt:=(r'.same s2').same s3';unfold slT at q3
 split at q3
 ·rename_i l
  obtain⟨p,ws,e,n,q,rr⟩:=Rep.Fk.mp rt
  have hlen:=rr.length
  by_cases hw:HT.sIx ws.length 0 o1=0/\HT.sIx ws.length ws.length o2=ws.length
  ·refine .inr (.inl ⟨p,ws,e,SqT.of q,hw,?_⟩)
   rw[<-hlen]at hw;refine q3 H3 (Same.refl H3) _ ?_
   rw[A9 hw];exact Rep.Fk.mpr ⟨p,ws,rfl,n,q,rr⟩
  ·exact .inl ⟨p,ws,e,SqT.of q,hw,λp' hp=>q3 _ (bj hp _) _ (iN hp (E3'.fresh hp) (rr.cut o1 o2))⟩
 ·rename_i l
  obtain⟨p,ws,e,n,q,rr⟩:=Rep.Do.mp rt;exact .inr (.inr ⟨p,ws,e,SqL.of q,λp' hp=>q3 _ (bj hp _) _ (mf hp (E3'.fresh hp) (rr.cut o1 o2))⟩)
 ·exact q3.elim
def CallT(X:Cx)(f:NM)(g:List T->Rs T):Prop:=
 ∀(ol:V2)(s:NQ)(σ:L2.St)(H:Hp)(O:Ow)(ts:List T)(vs:List V)(us:List NM)(Q:VK),Inv X ol σ H s->(∀p,H p=ZB->¬ O p)->Reps X.K O H ts vs->Vals vs us →
  Post X H (g ts) (λt H'=>∀v,Rep X.K O H' t v->Q v H')->ZJ (ZK X.prog X.w) X.A (call f us) (EP X ol σ Q) X.xe s
def CallT.of{f:NM}{r:List V->Hp->VK->Prop}(h:CallR X f r){g:List T->Rs T}
  (w:∀(H:Hp)(O:Ow)(ts:List T)(vs:List V)(Q:VK),(∀p,H p=ZB->¬ O p)->Reps X.K O H ts vs->Post X H (g ts) (λt H'=>∀v,Rep X.K O H' t v->Q v H')->r vs H Q):CallT X f g:=
 λol s σ H O ts vs us Q I hf rs rv hp=>h ol s σ H vs us Q I rv (w H O ts vs Q hf rs hp)
def cl(g:List T->Rs T)(fs:V3)(Z:En):Rs T:=fs Z >>= g
variable {fs:V3}{id:String}{g:List T->Rs T}
def FO(hc:CallT X (.builtin id) g)(hm:X.mg x=ZB)(hv:OK x=ZA (.builtin id))(ha:qC X (e::es) fs)(hg:Gl X x:=by rfl)(hn:x≠ "__name__":=by decide)(hdb:eO x:=by decide)
  (he:NY (e::es) X.env=(ZD,eval e X.env)::NY es X.env:=by rfl) (hpl:(backTo pos (NY es X.env)).any (·.1)=ZD:=by rfl):cz X (.Call (.Name x p) (e::es) [] pos) (cl g fs):=by
 intro ol s σ H Q I ⟨Z,O,E,hq⟩;refine OG (gU I hg hm hv ?_ hn hdb)
 have h1:=gL E hq;exact PN (bS (ha pos ol s σ H _ I h1) λus s1 ⟨vs,H1,I1,r1,ts,rs,s',E',q1⟩=>hc ol s1 σ H1 O ts vs us Q I1 (λp=>E'.fresh) rs r1 q1) he hpl
def Co(hc:CallT X (.type Ty) g)(hm:X.mg x=ZB)(hv:OK x=ZA (.type Ty))(ha:qC X (e::es) fs)(hg:Gl X x:=by rfl)(hn:x≠ "__name__":=by decide)(hdb:eO x:=by decide)
  (he:NY (e::es) X.env=(ZD,eval e X.env)::NY es X.env:=by rfl) (hpl:(backTo pos (NY es X.env)).any (·.1)=ZD:=by rfl):cz X (.Call (.Name x p) (e::es) [] pos) (cl g fs):=by
 intro ol s σ H Q I ⟨Z,O,E,hq⟩;refine OG (gU I hg hm hv ?_ hn hdb)
 have h1:=gL E hq;exact Pb (bS (ha pos ol s σ H _ I h1) λus s1 ⟨vs,H1,I1,r1,ts,rs,s',E',q1⟩=>hc ol s1 σ H1 O ts vs us Q I1 (λp=>E'.fresh) rs r1 q1) he hpl
def Reps.one{t:T}(r:Reps K O H [t] vs):∃v,vs=[v]/\Rep K O H t v:=by
 obtain⟨v,ws,rfl,p,q⟩:=Reps.me.mp r;cases Reps.Da.mp q;exact⟨v,rfl,p⟩
def Rep.sq{t:T}(r:Rep K O H t v)(h:t.items=ZA l):∃a vs,v=.ref a/\¬ O a/\Reps K O H l vs/\(SqL K H a vs\/SqT K H a vs):=by
 cases t with
 |tup m=>cases h;obtain⟨a,vs,e,n,q,z⟩:=Rep.Fk.mp r;exact⟨a,vs,e,n,z,.inr (SqT.of q)⟩
 |lst m=>cases h;obtain⟨a,vs,e,n,q,z⟩:=Rep.Do.mp r;exact⟨a,vs,e,n,z,.inl (SqL.of q)⟩
 |scr m=>cases h;unfold Rep at r;obtain⟨a,e,n,q⟩:=r;exact⟨a,_,e,n,Reps.ints,.inl q⟩
 |_=>cases h
noncomputable def bO:List T->Rs T
 |[.str x] =>if x.length<=ZI then .ok (.int x.length)else .bad
 |[x] =>match x.items with
  |some l=>.ok (.int l.length)
  |none=>.bad
 |_=>.bad
def bW:CallT X (.builtin "len") bO:=CallT.of (call_len_seq.or u5) λH O ts vs Q hf rs hp=>by
 unfold bO at hp
 split at hp
 ·obtain⟨v,rfl,r⟩:=rs.one
  split at hp
  ·rename_i h
   exact .inr ⟨_,by rw[Rep.GM.mp r],h,hp H (Same.refl H) _ (Rep.Gc _)⟩
  ·exact hp.elim
 ·obtain⟨v,rfl,r⟩:=rs.one
  split at hp
  ·rename_i l hl
   obtain⟨a,vs,rfl,n,z,q⟩:=r.sq hl;exact .inl ⟨a,vs,rfl,q,hp H (Same.refl H) _ (by rw[<-z.length];exact Rep.Gc _)⟩
  ·exact hp.elim
 ·exact hp.elim
def iZ:List T->Rs T
 |[.tup l] =>.ok (.tup l)
 |[.lst l] =>.ok (.tup l)
 |_=>.bad
def kg:CallT X (.type "tuple") iZ:=CallT.of rj λH O ts vs Q hf rs hp=>by
 unfold iZ at hp
 split at hp
 ·obtain⟨v,rfl,r⟩:=rs.one
  obtain⟨a,ws,rfl,n,q,z⟩:=Rep.Fk.mp r;exact⟨a,ws,rfl,.inr ⟨SqT.of q,hp H (Same.refl H) _ (Rep.Fk.mpr ⟨a,ws,rfl,n,q,z⟩)⟩⟩
 ·obtain⟨v,rfl,r⟩:=rs.one
  obtain⟨a,ws,rfl,n,q,z⟩:=Rep.Do.mp r;exact⟨a,ws,rfl,.inl ⟨SqL.of q,λl hl=>hp _ (bj hl _) _ (iN hl (hf l hl) z)⟩⟩
 ·exact hp.elim
noncomputable def wV:List T->Rs T
 |[.int i] =>.ok (.int i)
 |[.bl k] =>.ok (.int (if k then 1 else 0))
 |_=>.bad
def Ek:CallT X (.type "int") wV:=CallT.of Bf λH O ts vs Q hf rs hp=>by
 unfold wV at hp
 split at hp
 ·obtain⟨v,rfl,r⟩:=rs.one
  exact .inl ⟨_,by rw[Rep.AC.mp r],hp H (Same.refl H) _ (Rep.Gc _)⟩
 ·obtain⟨v,rfl,r⟩:=rs.one
  exact .inr ⟨_,by rw[Rep.FM.mp r],hp H (Same.refl H) _ (Rep.Gc _)⟩
 ·exact hp.elim
noncomputable def qy:List T->Option (List Bool)
 |[] =>ZA []
 |.bl k::r=>(qy r).map (k:: ·)
 |_=>ZB
noncomputable def rk:List T->Rs T
 |[.lst l] =>match qy l with
  |some ks=>.ok (.bl (ks.all λk=>k))
  |none=>.bad
 |_=>.bad
theorem qx{K:NK}{O:Ow}{H:Hp}:∀{l:List T}{ks:List Bool}{vs:List V}{us:List NM},qy l=ZA ks->Reps K O H l vs->Vals vs us->us=ks.map ON
 |[],ks,vs,us,e,r,v=>by cases e;cases Reps.Da.mp r;cases v;rfl
 |t::l,ks,vs,us,e,r,v=>by
  obtain⟨w,ws,rfl,p,q⟩:=Reps.me.mp r
  cases t with
  |bl k=>
   unfold qy at e
   cases z:qy l with
   |none=>rw[z]at e;cases e
   |some ks'=>
    rw[z]at e;cases e
    cases v with
    |cons v1 v2=>
     cases Rep.FM.mp p;cases v1
     rw[qx z q v2];rfl
  |_=>cases e
def uZ(hc:X.calm=ZC):CallT X (.builtin "all") rk:=by
 intro ol s σ H O ts vs us Q I hf rs rv hp;unfold rk at hp
 split at hp
 ·obtain⟨v,rfl,r⟩:=rs.one
  split at hp
  ·rename_i ks hk
   obtain⟨a,ws,rfl,n,q,z⟩:=Rep.Do.mp r;obtain⟨u,rfl,ru⟩:=kQ rv;cases ru;obtain⟨its,r',pl,hz⟩:=I.list (SqL.of q)
   have hits:=qx hk z r';refine call_all_walk (Sr pl.isList ?_)
   have hne:a≠s.heap.objs.size:=λe=>by
    obtain⟨o,ho,_⟩:=pl.isList;rw[e]at ho;exact absurd (NZ ho) (Ot _)
   refine⟨s.heap.objs.size,_,_,_,_,_,λi=>(ks[i]?).getD ZC,rfl,Walks.list (A:=X.A.in1) (I.ok.hd hc) s.heap.objs.size a hne its.toArray,⟨⟨_,Oc _ rfl,rfl,rfl⟩,?_⟩,?_,?_⟩
   ·obtain⟨o,ho,hh⟩:=pl.isList
    exact⟨o,NX _ ho,hh⟩
   ·intro i v s' Q' E' hP hQ'
    subst hits
    dsimp only at hQ'
    have hP':(ks.map ON)[i]?=ZA v:=by simpa using hP
    rw[Oe]at hP'
    cases e:ks[i]? with
    |none=>rw[e]at hP';cases hP'
    |some k=>
     rw[e]at hP' hQ';cases hP';exact OR hQ'
   ·intro h' tk hk'
    have hlen:its.toArray.size=ks.length:=by rw[hits];simp
    have e:((OI its.toArray.size).all λi=>(ks[i]?).getD ZC)=(ks.all λk=>k):=by
     rw[hlen];rw[Ri,Od,Od]
     constructor
     ·intro h x hx
      obtain⟨i,hi,rfl⟩:=Qw hx
      have:=h i (Pr.mpr hi)
      simpa [hi]using this
     ·intro h i hi
      have hi':=Pr.mp hi
      have:=h ks[i] (Px hi')
      simpa [hi']using this
    rw[e]
    have I1:Inv X ol σ H {s with heap:=s.heap.push {cls:=.type "list_iterator",data:=.fields #[.ref a,.int 0 0]}}:=I.kept (t':=s.toks) λb o e=>NX _ e
    have I2:Inv X ol σ H {s with heap:=h',toks:=tk}:=by
     have:=I1.turned (h':=h') (t':=tk) (it:=s.heap.objs.size) (λb o hb e=>hk' b o (by simpa using hb) e) (I.hok.fresh (N4 _))
      (R5 I.lt) (.inr I.sz) (λx c e z=>?_) (λp hp z=>?_)
     ·exact this
     ·obtain⟨v,q⟩:=I.cell x c e
      exact absurd (N8 q.lt (RB z.symm)) (Ot _)
     ·exact absurd (N8 (NZ (I.pin p hp).1) (RB z.symm)) (Ot _)
    exact⟨.bl _,H,I2,rfl,hp H (Same.refl H) _ (Rep.bl_ _)⟩
  ·exact hp.elim
 ·exact hp.elim
end
noncomputable def T.ty:T->Option String
 |.non=>ZA "NoneType"
 |.bl _=>ZA "bool"
 |.int _=>ZA "int"
 |.str _=>ZA "str"
 |.tup _=>ZA "tuple"
 |.lst _=>ZA "list"
 |.scr _=>ZB
 |.dct _ _=>ZB
 |.ob _ _ _=>ZB
noncomputable def wZ(i b t l s:Bool)(Ty:String):Option Bool:=match Ty with
 | "int" =>ZA i| "bool" =>ZA b| "tuple" =>ZA t| "list" =>ZA l| "str" =>ZA s
 |_=>ZB
noncomputable def zP(n Ty:String):Option Bool:=match n with
 | "NoneType" =>wZ ZD ZD ZD ZD ZD Ty
 | "bool" =>wZ ZC ZC ZD ZD ZD Ty
 | "int" =>wZ ZC ZD ZD ZD ZD Ty
 | "str" =>wZ ZD ZD ZD ZD ZC Ty
 | "tuple" =>wZ ZD ZD ZC ZD ZD Ty
 | "list" =>wZ ZD ZD ZD ZC ZD Ty
 |_=>ZB
variable{n:String}
def AY(K:NK){b:Bool}(h:zP n Ty=ZA b):PySem.W.kitOne K (.type n) (.type Ty)=ZA b:=by
 unfold zP at h
 split at h <;> first| (cases h;done)| (unfold wZ at h;split at h <;> first| (cases h;done)| (cases h;kernel_rfl))
def Gz(Ty:String)(t:T):Rs T:=match t.ty with
 |some n=>match zP n Ty with
  |some b=>.ok (.bl b)
  |none=>.bad
 |none=>.bad
def Rep.NI{t:T}(r:Rep K O H t v)(h:t.ty=ZA n):nj K H v (.type n):=by
 cases t with
 |non=>cases h;cases Rep.KB.mp r;exact .non
 |bl b=>cases h;cases Rep.FM.mp r;exact .bl b
 |int b=>cases h;cases Rep.AC.mp r;exact .int b
 |str b=>cases h;cases Rep.GM.mp r;exact .str b
 |tup l=>cases h;obtain⟨a,vs,rfl,_,q,_⟩:=Rep.Fk.mp r;exact .tup q
 |lst l=>cases h;obtain⟨a,vs,rfl,_,q,_⟩:=Rep.Do.mp r;exact .lst q
 |scr l=>cases h
 |dct _ _=>cases h
 |ob _ _ _=>cases h
variable{M:Mn}{P:Oa}{fd:Ox}{g:T->En->Rs En}{gs:List T->En->Rs En}{i k n:Nat}{iter tg:ZG}{ol:V2}{ps:List Str}{s:NQ}{w:O0}
section
variable {a b c:ZG}{fs:V3}{p2:Pos}
def gq:OK "isinstance" =ZA (.builtin "isinstance"):=by decide+kernel
def Ln{tn:Str}(hm:X.mg "isinstance" =ZB)(hmt:X.mg tn=ZB)(hv:OK tn=ZA (.type Ty))(ha:cz X a fa)(hg:Gl X "isinstance":=by rfl)(hgt:Gl X tn:=by rfl)
  (hn:tn≠ "__name__":=by decide) (hd:eO tn:=by decide)
  (he:NY [a,.Name tn p2] X.env=(ZD,eval a X.env)::NY [.Name tn p2] X.env:=by rfl) (hpl:(backTo pos (NY [.Name tn p2] X.env)).any (·.1)=ZD:=by rfl)
  (hs:NY [.Name tn p2] X.env=(ZD,eval (.Name tn p2) X.env)::NY [] X.env:=by rfl):
  cz X (.Call (.Name "isinstance" p) [a,.Name tn p2] [] pos) (o1 (Gz Ty) fa):=by
 intro ol s σ H Q I ⟨Z,O,E,hq⟩;refine OG (gU I hg hm gq ?_ (by decide) (by decide))
 have hA:PA X [a,.Name tn p2] (hV (tP X fa) (hV (tC (.ty Ty)) vB)):=bq ha (bq (zr (v:=.ty Ty) hgt hmt hv rfl hn hd) dH hs) he;obtain⟨Z1,O1,E1,h1⟩:=a8 E hq;refine PN (bS (hA pos ol s σ H (λvs H'=>∃v t,vs=[v,.ty Ty]/\Rep X.K O H' t v/\Post X H' (Gz Ty t) (λt H'=>∀v,Rep X.K O H' t v->Q v H')) I ?_) λus s1 ⟨vs,H1,I1,r1,v,t,e1,rt,q⟩=>?_) he hpl
 ·refine⟨Z1,O1,E1,Post.mono h1 λts H1 s1 q vs r=>?_⟩
  obtain⟨t',r',s',E',q'⟩:=q vs r;exact⟨vs,t',rfl,r',q'⟩
 ·subst e1
  obtain⟨u,w',rfl,ru,rw'⟩:=vk r1;cases rw';unfold Gz at q
  split at q
  ·rename_i n hn'
   split at q
   ·rename_i bb hb
    exact AX I1 ru (rt.NI hn') (AY _ hb) λtk=>⟨.bl bb,H1,I1.tok _,rfl,q H1 (Same.refl H1) _ (Rep.bl_ _)⟩
   ·exact q.elim
  ·exact q.elim
def spP(K:NK)(n:Nat)(g:List T->Rs T):Sp:=λvs H Q _=>∃ts O,Reps K O H ts vs/\(∀a,O a->Mtb H a)/\ts.length=n ∧
 match g ts with
 |.ok t=>∀v H',Same H H'->Rep K O H' t v->Q v H'
 |_=>False
def MM(P:Oa)(w:O0)(mg:V0)(outer:List Env)(H:Hp)(s:NQ)(c:Str)(ev:NM)(s':NQ):Prop:=
 ∃e T C H',ev=.ref e/\mg c=ZA (.ref C)/\s'.os=s.os/\SB s'.gens/\Un (m9 outer) [] H H' s.heap s'.heap/\HOk P w H' s'.heap/\Same H H'/\H' e=ZB/\s.heap.get? e=ZB/\MB s'.heap C e (ZA T)/\H' T=ZB/\s.heap.get? T=ZB
def FnX(P:Oa)(w:O0)(K:NK)(mg:V0)(base:ZH)(k:Nat)(f:ZE)(fd:Ox)(ps:List Str)(n:Nat)(g:List T->Rs T):Prop:=
 ∀(A:Ou)(outer:List Env)(s:NQ)(H:Hp)(args:Args)(us:List NM)(vs:List V)(O:Ow)(ts:List T)(c:Str)(R:To->NQ->Prop),Room k A->Env0 P w K mg base A outer s H->Sb s fd args (ps.zip us)->Vals vs us →
  Reps K O H ts vs->(∀a,O a->Mtb H a)->ts.length=n->g ts=.err c->(∀ev s',MM P w mg outer H s c ev s'->R (.error ev) s')->ZL (ZK P w) A (.call (.ref f) args) R s
structure EF (P:Oa)(w:O0)(K:NK)(mg:V0)(base:ZH)(k:Nat)(f:ZE)(fd:Ox)(ps:List Str)(n:Nat)(g:List T->Rs T):Prop where
 h:FnOk P w K mg base CX0 k f fd ps (spP K n g)
 x:FnX P w K mg base k f fd ps n g
def CQ{h:ZH}{a:ZE}{o:HO}(x:ObjOk P w H h a o):∃u,h.get? a=ZA u:=by
 cases o with
 |lst xs=>obtain⟨_,_,_,_,e⟩:=x;exact⟨_,e⟩
 |tup xs=>obtain⟨_,_,_,ob,e,_⟩:=x;exact⟨_,e⟩
 |dK kvs=>obtain⟨_,_,_,_,o,_,_,e,_⟩:=x;exact⟨_,e⟩
 |dT kvs=>obtain⟨_,_,_,_,o,_,_,e,_⟩:=x;exact⟨_,e⟩
 |set S n=>obtain⟨o,_,_,_,e,_⟩:=x;exact⟨_,e⟩
 |ins C dx fs=>obtain⟨_,_,_,e,_⟩:=x;exact⟨_,e⟩
 |own y=>obtain⟨_,e⟩:=x;exact⟨_,e⟩
 |xd fs=>obtain⟨_,⟨_,_,_,e,_⟩,_⟩:=x;exact⟨_,e⟩
 |rng lo hi=>obtain⟨_,_,_,e⟩:=x;exact⟨_,e⟩
 |frz ob u=>obtain⟨e,_⟩:=x;exact⟨_,e⟩
 |tbl ps=>exact⟨_,(show h.get? a=ZA _ from x)⟩
 |met f y=>exact⟨_,(show h.get? a=ZA _ from x)⟩
 |ext φ=>obtain⟨_,⟨_,e⟩,_⟩:=x;exact⟨_,e⟩
def jM(I:Inv X ol σ H s){e:ZE}(n:s.heap.get? e=ZB):H e=ZB:=by
 cases z:H e with
 |none=>rfl
 |some o=>
  obtain⟨o',ho'⟩:=CQ (I.hok e o z);rw[n]at ho';cases ho'
def eG(I:Inv X ol σ H s)(hex:X.ex=[]){e:ZE}(n:s.heap.get? e=ZB):X.s₀.heap.get? e=ZB:=by
 cases z:X.s₀.heap.get? e with
 |none=>rfl
 |some o=>
  obtain⟨o',ho'⟩:=I.base.there e o z (by rw[hex];simp)
  rw[n]at ho';cases ho'
def IT{f:ZE}{g:List T->Rs T}(F:EF X.prog X.w X.K X.mg X.base k f fd ps n g)(hr:Room k X.A)(hm:X.mg x=ZA (.ref f))(hk:PL X.K (.ref f)=ZC)(hb:Binds X.K fd ps [])(hps:ps.length=n)
  (hl:∀Z ts,fs Z=.ok ts->ts.length=n) (ha:qC X (e::es) fs) (hg:Gl X x:=by rfl) (hdb:eO x:=by decide) (he:NY (e::es) X.env=(ZD,eval e X.env)::NY es X.env:=by rfl) (hpl:(backTo pos (NY es X.env)).any (·.1)=ZD:=by rfl):
  cz X (.Call (.Name x p) (e::es) [] pos) (cl g fs):=by
 intro ol s σ H Q I ⟨Z,O,E,hq⟩
 have hq':Post X H (fs Z >>= g) λt H'=>∀v,Rep X.K O H' t v->Q v H':=hq
 cases q:fs Z with
 |bad=>rw[q]at hq';exact hq'.elim
 |err c=>
  rw[q]at hq';refine zq (E:=E0) F.h hr hg hm hk hb .nil v3 ha hdb he hpl ol s σ H Q I ⟨Z,O,E,?_⟩
  rw[q]
  exact hq'
 |ok ts=>
  rw[q]at hq'
  have hq2:Post X H (g ts) λt H'=>∀v,Rep X.K O H' t v->Q v H':=hq'
  cases q2:g ts with
  |bad=>rw[q2]at hq2;exact hq2.elim
  |ok t=>
   rw[q2]at hq2;refine zq (E:=E0) F.h hr hg hm hk hb .nil v3 ha hdb he hpl ol s σ H Q I ⟨Z,O,E,?_⟩
   rw[q];intro H1 s1 vs rs;rw[Ol];refine⟨ts,O,rs,(E.same s1).mtb,hl Z ts q,?_⟩
   rw[q2]
   exact λv H' s2 r=>hq2 H' (s1.trans s2) v r
  |err c=>
   rw[q2]at hq2;refine OG (fS I hg hm ?_ hdb)
   refine PP (h₀:=X.base) I.ok.mod.kin hk (bS (ha pos ol s σ H (λvs H'=>Same H H'/\Reps X.K O H' ts vs) I ⟨Z,O,E,?_⟩) (λus s1 ⟨vs,H1,I1,r,sm,rs⟩=>⟨I1.kIn,?_⟩)) he hpl
   ·rw[q];exact λH' sm vs rs=>⟨sm,rs⟩
   ·have hlen:us.length=ps.length:=by rw[<-r.length,<-rs.length,hl Z ts q,hps]
    have hb':=hb s1 us I1.kIn (by rw[Ol];exact hlen)
    rw[Ol]at hb';refine Ru (Qe (F.x X.A X.stack s1 H1 ⟨us,[]⟩ us vs O ts c (λr s'=>match r with|.error ev=>X.xe ev s'|_=>False) hr I1.Nc hb' r rs (E.same sm).mtb (hl Z ts q) q2 λev s' w=>?_) λr s' hq=>?_)
    ·obtain⟨ea,T,C,H',rfl,hmc,ho,hbare,hun,hok,sm2,hea,heo,fl,hT,hTo⟩:=w
     have I2:Inv X ol σ H' s':=I1.M7 ho hun hok hbare (λb z=>absurd z (by simp))
     exact hq2 ol _ _ ⟨ea,ZA T,C,σ,H',rfl,hmc,I2,λb o q _=>sm2 b o (sm b o q),hea,λhex=>eG I1 hex heo,fl,(λt zt=>by cases zt;exact⟨hT,λhex=>eG I1 hex hTo⟩),λpp hpp=>⟨λzz=>(by have:=(I1.pin pp hpp).1;rw[zz,heo]at this;cases this),λzz=>(by cases zz;have:=(I1.pin pp hpp).1;rw[hTo]at this;cases this)⟩⟩
    ·cases r with
     |error ev=>exact hq
     |ok fl=>exact hq.elim
def BO(X:Cx)(g:T->En->Rs En):TG:=λv σ H Q=>∃Z O M t,EnvM X.K O M H Z σ/\Rep X.K O H t v/\match g t Z with
 |.ok Z'=>∀σ',EnvM X.K O M H Z' σ'->Q σ' H
 |_=>False
abbrev EM(X:Cx)(tg:ZG)(g:T->En->Rs En):Prop:=PG X tg (BO X g)
def tPGs(X:Cx)(g:List T->En->Rs En):G4:=λvs σ H Q=>∃Z O M ts,EnvM X.K O M H Z σ/\Reps X.K O H ts vs/\match g ts Z with
 |.ok Z'=>∀σ',EnvM X.K O M H Z' σ'->Q σ' H
 |_=>False
abbrev EC(X:Cx)(tg:List ZG)(g:List T->En->Rs En):Prop:=PGs X tg (tPGs X g)
def PG.imp{t t':TG}(h:PG X e t)(w:∀v σ H Q,t' v σ H Q->t v σ H Q):PG X e t':=λol s σ H v u Q I r q=>h ol s σ H v u Q I r (w v σ H Q q)
def PGs.imp{e:List ZG}{t t':G4}(h:PGs X e t)(w:∀v σ H Q,t' v σ H Q->t v σ H Q):PGs X e t':=λol s σ H v u Q I r q=>h ol s σ H v u Q I r (w v σ H Q q)
def gN(i:Nat)(t:T)(Z:En):Rs En:=if i<Z.length then .ok (Z.set i (.va t))else .bad
def EnvM.set{t:T}(E:EnvM K O M H Z σ)(hi:i<Z.length)(r:Rep K O H t v):EnvM K O M H (Z.set i (.va t)) (σ.set i (ZA v)) where
 len:=by rw[Pe,Pe];exact E.len
 val:=λj u e=>by
  by_cases hj:i=j
  ·subst hj
   rw[Oh hi]at e
   cases e;exact⟨v,Oh (by rw[<-E.len];exact hi),r⟩
  ·rw[Oj hj]at e
   obtain⟨w,e1,e2⟩:=E.val j u e;exact⟨w,by rw[Oj hj];exact e1,e2⟩
 own:=λj o e=>by
  by_cases hj:i=j
  ·subst hj
   rw[Oh hi]at e
   cases e
  ·rw[Oj hj]at e
   obtain⟨w,e1,e2⟩:=E.own j o e;exact⟨w,by rw[Oj hj];exact e1,e2⟩
 sub:=E.sub
 dis:=E.dis
 trk:=E.trk
def FI(i:Nat)(hN:X.N.Nodup)(hi:X.N[i]?=ZA x:=by rfl)(hx:Loc X.env.scope x:=by first|exact OB rfl|exact Oq rfl)(hf:X.fn x=ZC\/X.env.scope.names.lookup x=ZA .local:=by first|exact .inl rfl|exact .inr rfl|assumption):EM X (.Name x pos) (gN i):=
 PG.imp (F1 hN hi hx hf) λv σ H Q hh_=>by
  obtain⟨Z,O,M,t,E,r,h⟩:=hh_;unfold gN at h
  split at h
  ·rename_i Z' e
   split at e
   ·rename_i hl
    cases e;exact h _ (E.set hl r)
   ·cases e
  ·exact h.elim
def nK(ts:List T)(Z:En):Rs En:=match ts with
 |[] =>.ok Z
 |_=>.bad
def eU(g:T->En->Rs En)(gs:List T->En->Rs En)(ts:List T)(Z:En):Rs En:=match ts with
 |t::r=>do
  let Z1 <-g t Z
  gs r Z1
 |[] =>.bad
def FH:EC X [] nK:=PGs.imp F0 λvs σ H Q hh_=>by
 obtain⟨Z,O,M,ts,E,r,h⟩:=hh_;unfold nK at h
 cases ts with
 |nil=>exact⟨Reps.Da.mp r,h σ E⟩
 |cons _ _=>exact h.elim
def Cm(h1:EM X e g)(h2:EC X es gs)
  (hs:(PH (e::es) X.env).map (·.2)=assign e X.env::(PH es X.env).map (·.2):=by rfl):EC X (e::es) (eU g gs):=
 PGs.imp (CA h1 h2 hs) λvs σ H Q hh_=>by
  obtain⟨Z,O,M,ts,E,r,h⟩:=hh_
  cases ts with
  |nil=>exact h.elim
  |cons t ts=>
   obtain⟨v,ws,rfl,p,q⟩:=Reps.me.mp r;refine⟨v,ws,rfl,Z,O,M,t,E,p,?_⟩
   unfold eU at h
   cases e1:g t Z with
   |bad=>simp[e1]at h
   |err c=>simp[e1]at h
   |ok Z1=>
    intro σ1 E1;refine⟨Z1,O,M,ts,E1,q,?_⟩
    simp only[e1,ay]at h
    cases e2:gs ts Z1 with
    |bad=>simp[e2]at h
    |err c=>simp[e2]at h
    |ok Z2=>
     simp only[e2]at h;exact λσ2 E2=>h σ2 E2
def gT(n:Nat)(gs:List T->En->Rs En)(t:T)(Z:En):Rs En:=match t with
 |.tup l=>if l.length=n then gs l Z else .bad
 |_=>.bad
def IM(hc:X.calm=ZC)(h:EC X es gs)(hn:(PH es X.env).length=n:=by rfl)(hst:(PH es X.env).findIdx? (·.1)=ZB:=by rfl):EM X (.Tuple es k pos) (gT n gs):=
 PG.imp (IZ hc h hn hst) λv σ H Q hh_=>by
  obtain⟨Z,O,M,t,E,r,h⟩:=hh_;unfold gT at h
  cases t with
  |tup l=>
   obtain⟨a,vs,rfl,n',q,z⟩:=Rep.Fk.mp r
   by_cases hl:l.length=n
   ·simp only[if_pos hl]at h
    exact⟨a,vs,rfl,SqT.of q,by rw[<-z.length];exact hl,Z,O,M,l,E,z,h⟩
   ·simp only[if_neg hl]at h
  |_=>exact h.elim
def SqL.nn{a:ZE}(q:SqL K H a vs):¬ Nw K H a:=λ⟨h1,h2⟩=>by
 rcases q with(q|⟨o,q⟩)|⟨o,_,_,q,_⟩
 ·rw[h1]at q;cases q
 ·rw[h1]at q;cases q
 ·rw[h2]at q;cases q
mutual
theorem Rep.more{K:NK}{O O':Ow}{H:Hp}(sub:∀a,O' a->O a\/Nw K H a):∀{t:T}{v:V},Rep K O H t v->Rep K O' H t v
 |.non,_,r=>by unfold Rep at r ⊢;exact r
 |.bl _,_,r=>by unfold Rep at r ⊢;exact r
 |.int _,_,r=>by unfold Rep at r ⊢;exact r
 |.str _,_,r=>by unfold Rep at r ⊢;exact r
 |.tup l,_,r=>by
  unfold Rep at r ⊢;obtain⟨a,vs,e,n,q,z⟩:=r
  exact⟨a,vs,e,λp=>(sub a p).elim n λw=>(by rw[w.1]at q;cases q),q,Reps.more sub z⟩
 |.lst l,_,r=>by
  unfold Rep at r ⊢;obtain⟨a,vs,e,n,q,z⟩:=r
  exact⟨a,vs,e,λp=>(sub a p).elim n λw=>(by rw[w.1]at q;cases q),q,Reps.more sub z⟩
 |.scr l,_,r=>by
  unfold Rep at r ⊢;obtain⟨a,e,n,q⟩:=r
  exact⟨a,e,λp=>(sub a p).elim n λw=>Tr.SqL.nn q w,q⟩
 |.dct ks ts,_,r=>by
  unfold Rep at r ⊢;obtain⟨a,kvs,e,n,q,k,z⟩:=r
  exact⟨a,kvs,e,λp=>(sub a p).elim n λw=>(by rcases q with q|⟨_,q⟩ <;> rw[w.1]at q <;> cases q),q,k,Reps.more sub z⟩
 |.ob C ns ts,_,r=>by
  unfold Rep at r ⊢;obtain⟨a,dx,fs,e,n,q,k,z⟩:=r;exact⟨a,dx,fs,e,λp=>(sub a p).elim n λw=>(by rw[w.1]at q;cases q),q,k,Reps.more sub z⟩
theorem Reps.more{K:NK}{O O':Ow}{H:Hp}(sub:∀a,O' a->O a\/Nw K H a):∀{l:List T}{vs:List V},Reps K O H l vs->Reps K O' H l vs
 |[],_,r=>by unfold Reps at r ⊢;exact r
 |t::l,_,r=>by
  unfold Reps at r ⊢;obtain⟨v,ws,e,p,q⟩:=r;exact⟨v,ws,e,Rep.more sub p,Reps.more sub q⟩
end
def Rep.move{O' P:Ow}{H':Hp}{t:T}(hP:∀a,P a->O a\/Nw K H a)(hO:∀a,O' a->O a\/Nw K H a)(h:SameO P H H')(r:Rep K O H t v):Rep K O' H' t v:=
 Rep.less (O:=λa=>O' a\/P a) (λ_ z=>.inl z) (Rep.keep h (λ_ z=>.inr z) (Rep.more (λa z=>z.elim (hO a) (hP a)) r))
def Reps.move{O' P:Ow}{H':Hp}{t:List T}{v:List V}(hP:∀a,P a->O a\/Nw K H a)(hO:∀a,O' a->O a\/Nw K H a)(h:SameO P H H')(r:Reps K O H t v):Reps K O' H' t v:=
 Reps.less (O:=λa=>O' a\/P a) (λ_ z=>.inl z) (Reps.keep h (λ_ z=>.inr z) (Reps.more (λa z=>z.elim (hO a) (hP a)) r))
def MW(K:NK)(O:Ow)(H:Hp)(ts:List T)(J:It):Prop:=∀(P O':Ow),(∀a,P a->O a\/Nw K H a)->(∀a,O' a->O a\/Nw K H a)->∀(i:Nat)(Hc:Hp),SameO P H Hc->(∀a,O' a->∃o,Hc a=ZA o) →
 (ts.length<=i->J.stop i Hc)/\(∀t,ts[i]?=ZA t->J.go i Hc/\∀x Hc',J.yld i Hc x Hc'->Same Hc Hc'/\Rep K O' Hc' t x)
def MF(X:Cx)(f:V3):TI:=λσ H R=>∃Z O,EnvO X.K O H Z σ/\Post X H (f Z) λts H'=>∀J,MW X.K O H' ts J->R J H'
abbrev Bs(X:Cx)(tg iter:ZG)(f:V3):Prop:=PI X tg iter (MF X f)
def PI.imp{t t':TI}(h:PI X tg iter t)(w:∀σ H R,t' σ H R->t σ H R):PI X tg iter t':=λol s σ H R I q=>h ol s σ H R I (w σ H R q)
def iL(f:V5)(Z:En):Rs (List T):=do
 let x <-f Z
 match x with
 |.lst l=>.ok l
 |_=>.bad
def iT(f:V5)(Z:En):Rs (List T):=do
 let x <-f Z
 match x with
 |.tup l=>.ok l
 |_=>.bad
def zh(ha:cz X a fa):Bs X tg a (iL fa):=PI.imp (FY ha) λσ H R hh_=>by
 obtain⟨Z,O,E,h⟩:=hh_;obtain⟨Z1,O1,E1,h1⟩:=a8 E h;refine⟨Z1,O1,E1,Post.mono h1 λts H1 s1 q vs r=>?_⟩
 obtain⟨t',r',s',E',q'⟩:=q vs r
 split at q'
 ·rename_i l
  obtain⟨a,ws,rfl,n,q,z⟩:=Rep.Do.mp r';refine⟨a,rfl,⟨ws,SqL.of q⟩,q' H1 (Same.refl H1) _ λP O' hP hO i Hc hs ht=>?_⟩
  have hnP:¬ P a:=λz=>(hP a z).elim n λw=>by rw[w.1]at q;cases q
  refine⟨λhi=>⟨ws,SqL.of (hs _ _ q hnP),by rw[<-z.length];exact hi⟩,λt ht'=>?_⟩
  obtain⟨v,e1,e2⟩:=z.get ht';refine⟨⟨ws,v,SqL.of (hs _ _ q hnP),e1⟩,λx Hc' y=>?_⟩
  obtain⟨e,y⟩:=y;subst e
  have:=y ws (SqL.of (hs _ _ q hnP));rw[e1]at this;cases this;exact⟨Same.refl _,e2.move hP hO hs⟩
 ·exact q'.elim
def IK(ha:cz X a fa):Bs X tg a (iT fa):=PI.imp (IY ha) λσ H R hh_=>by
 obtain⟨Z,O,E,h⟩:=hh_;obtain⟨Z1,O1,E1,h1⟩:=a8 E h;refine⟨Z1,O1,E1,Post.mono h1 λts H1 s1 q vs r=>?_⟩
 obtain⟨t',r',s',E',q'⟩:=q vs r
 split at q'
 ·rename_i l
  obtain⟨a,ws,rfl,n,q,z⟩:=Rep.Fk.mp r';refine⟨a,rfl,⟨ws,SqT.of q⟩,q' H1 (Same.refl H1) _ λP O' hP hO i Hc hs ht=>?_⟩
  have hnP:¬ P a:=λz=>(hP a z).elim n λw=>by rw[w.1]at q;cases q
  refine⟨λhi=>⟨ws,SqT.of (hs _ _ q hnP),by rw[<-z.length];exact hi⟩,λt ht'=>?_⟩
  obtain⟨v,e1,e2⟩:=z.get ht';refine⟨⟨ws,v,SqT.of (hs _ _ q hnP),e1⟩,λx Hc' y=>?_⟩
  obtain⟨e,y⟩:=y;subst e
  have:=y ws (SqT.of (hs _ _ q hnP));rw[e1]at this;cases this;exact⟨Same.refl _,e2.move hP hO hs⟩
 ·exact q'.elim
def rng(lo hi:Int):List T:=(OI (hi - lo).toNat).map λ(k:Nat)=>T.int (lo+(k:Int))
def yF(i:Int):Bool:=decide (-(2 ^ 62)<=i)&&decide (i<2 ^ 62)
noncomputable def iR(f:V3)(Z:En):Rs (List T):=do
 let x <-f Z
 match x with
 |[.int j] =>if yF j then .ok (rng 0 j)else .bad
 |[.int i,.int j] =>if yF i&&yF j then .ok (rng i j)else .bad
 |_=>.bad
def kH{i:Int}(h:yF i=ZC): -(2 ^ 62)<=i/\i<2 ^ 62:=by
 unfold yF at h;rw[NN]at h;exact⟨of_decide_eq_true h.1,of_decide_eq_true h.2⟩
def oy(lo hi:Int):MW K O H (rng lo hi) (Itr lo (hi - lo).toNat):=λP O' hP hO i Hc hs ht=>by
 refine⟨λh=>?_,λt h=>?_⟩
 ·show(hi - lo).toNat<=i
  unfold rng at h;rw[NR,Qs]at h;exact h
 ·unfold rng at h
  rw[Oe]at h
  by_cases hi':i<(hi - lo).toNat
  ·rw[List.getElem?_range hi']at h
   cases h;refine⟨hi',λx Hc' y=>?_⟩
   obtain⟨e,y⟩:=y;subst e y;exact⟨Same.refl _,Rep.Gc _⟩
  ·rw[RC (by simpa using hi')]at h
   cases h
def AA(hm:X.mg "range" =ZB)(ha:qC X [a] fs)(hg:Gl X "range":=by rfl)(hs:NY [a] X.env=[(ZD,eval a X.env)]:=by rfl):Bs X tg (.Call (.Name "range" p) [a] [] pos) (iR fs):=by
 intro ol s σ H R I ⟨Z,O,E,h⟩
 have h1:=gL E h;refine Call_ (gU I hg hm boot_range (Pb (bS (ha pos ol s σ H _ I h1) λus s1 ⟨vs,H1,I1,r1,ts,rs,s',E',q1⟩=>?_) hs rfl))
 split at q1
 ·obtain⟨v,rfl,r⟩:=rs.one
  split at q1
  ·rename_i j hj
   obtain⟨b1,b2⟩:=kH hj;cases Rep.AC.mp r
   cases r1 with
   |cons r rr=>
    cases rr;obtain⟨t,rfl⟩:=r;exact call_range_1 (mh I1 (by omega) (by omega) b1 b2 (q1 H1 (Same.refl H1) _ (oy 0 j)))
  ·exact q1.elim
 ·obtain⟨v,ws,rfl,p1,q⟩:=Reps.me.mp rs
  obtain⟨v2,rfl,r⟩:=q.one
  split at q1
  ·rename_i i j hj
   rw[NN]at hj;obtain⟨b1,b2⟩:=kH hj.1;obtain⟨b3,b4⟩:=kH hj.2;cases Rep.AC.mp p1;cases Rep.AC.mp r
   cases r1 with
   |cons r rr=>
    cases rr with
    |cons r' rr=>
     cases rr;obtain⟨t,rfl⟩:=r;obtain⟨t',rfl⟩:=r';exact call_range_2 (mh I1 b1 b2 b3 b4 (q1 H1 (Same.refl H1) _ (oy i j)))
  ·exact q1.elim
 ·exact q1.elim
def Az(hm:X.mg "range" =ZB)(ha:qC X [a,b] fs)(hg:Gl X "range":=by rfl)(hs:NY [a,b] X.env=[(ZD,eval a X.env),(ZD,eval b X.env)]:=by rfl)(hs2:NY [b] X.env=[(ZD,eval b X.env)]:=by rfl):
  Bs X tg (.Call (.Name "range" p) [a,b] [] pos) (iR fs):=by
 intro ol s σ H R I ⟨Z,O,E,h⟩
 have h1:=gL E h;refine Call_ (gU I hg hm boot_range (Pb (bS (ha pos ol s σ H _ I h1) λus s1 ⟨vs,H1,I1,r1,ts,rs,s',E',q1⟩=>?_) (by rw[hs,hs2]) (by rw[hs2];rfl)))
 split at q1
 ·obtain⟨v,rfl,r⟩:=rs.one
  split at q1
  ·rename_i j hj
   obtain⟨b1,b2⟩:=kH hj;cases Rep.AC.mp r
   cases r1 with
   |cons r rr=>
    cases rr;obtain⟨t,rfl⟩:=r;exact call_range_1 (mh I1 (by omega) (by omega) b1 b2 (q1 H1 (Same.refl H1) _ (oy 0 j)))
  ·exact q1.elim
 ·obtain⟨v,ws,rfl,p1,q⟩:=Reps.me.mp rs
  obtain⟨v2,rfl,r⟩:=q.one
  split at q1
  ·rename_i i j hj
   rw[NN]at hj;obtain⟨b1,b2⟩:=kH hj.1;obtain⟨b3,b4⟩:=kH hj.2;cases Rep.AC.mp p1;cases Rep.AC.mp r
   cases r1 with
   |cons r rr=>
    cases rr with
    |cons r' rr=>
     cases rr;obtain⟨t,rfl⟩:=r;obtain⟨t',rfl⟩:=r';exact call_range_2 (mh I1 b1 b2 b3 b4 (q1 H1 (Same.refl H1) _ (oy i j)))
  ·exact q1.elim
 ·exact q1.elim
end
variable{B:Ow}{D:nt}{N':List Str}{Q:VK}{body:List ZF}{f:V6}{fe:V5}{fi:V3}{ifs:List ZG}{scope:Q8}{st:ZF}{tgt:T->En->Rs En}
section
variable {a b c:ZG}{fs:V3}{p2:Pos}
def b8(src:List (Option Nat))(Z:En):En:=src.map λo=>match o with
 |some i=>match Z[i]? with
  |some (.va t)=>.va t
  |_=>.em
 |none=>.em
noncomputable def d8(tgt:T->En->Rs En)(fc:V6)(fe:V5):List T->V3
 |[],_=>.ok []
 |t::r,Z=>do
  let Z1 <-tgt t Z
  let k <-fc Z1
  if k then do
   let y <-fe Z1
   let ys <-d8 tgt fc fe r Z1
   .ok (y::ys)
  else d8 tgt fc fe r Z1
noncomputable def ig(fi:V3)(src:List (Option Nat))(tgt:T->En->Rs En)(fc:V6)(fe:V5)(Z:En):Rs T:=do
 let ts <-fi Z
 if ts.length<=ZI then match d8 tgt fc fe ts (b8 src Z)with
  |.ok ys=>.ok (.lst ys)
  |_=>.bad
 else .bad
def bT(_:En):Rs Bool:=.ok ZC
def tP0(K:NK)(f:V5):TE:=λσ H Q=>∃Z O,EnvO K O H Z σ/\match f Z with
 |.ok t=>∀H',Same H H'->∀v,Rep K O H' t v->Q v H'
 |_=>False
def tPT0(K:NK)(f:V6):TT:=λσ H Q=>∃Z O,EnvO K O H Z σ/\match f Z with
 |.ok t=>∀H',Same H H'->Q t H'
 |_=>False
def tP0.up{f:V5}(h:tP0 X.K f σ H Q):tP X f σ H Q:=by
 obtain⟨Z,O,E,h⟩:=h;refine⟨Z,O,E,?_⟩
 cases q:f Z with
 |ok t=>rw[q]at h;exact h
 |err c=>rw[q]at h;exact h.elim
 |bad=>rw[q]at h;exact h.elim
def tPT0.up{Q:Bool->Hp->Prop}(h:tPT0 X.K f σ H Q):BN X f σ H Q:=by
 obtain⟨Z,O,E,h⟩:=h;refine⟨Z,O,E,?_⟩
 cases q:f Z with
 |ok t=>rw[q]at h;exact h
 |err c=>rw[q]at h;exact h.elim
 |bad=>rw[q]at h;exact h.elim
def FF:Bt X [] (BN X bT):=λol s σ H Q I ⟨Z,O,E,h⟩=>tS ol s σ H Q I (h H (Same.refl H))
def FE(h:rn X c f):Bt X [c] (BN X f):=FX h
abbrev noM:Mn:=λ_ _=>False
def AR{src:List (Option Nat)}{j:Nat}{o:OT}(e:(b8 src Z)[j]?=ZA (.ow o)):False:=by
 unfold b8 at e;rw[Oe]at e
 cases q:src[j]? with
 |none=>rw[q]at e;cases e
 |some o'=>
  rw[q]at e
  cases o' with
  |none=>cases e
  |some i=>
   have e':(match Z[i]? with|some (Sl.va t)=>Sl.va t|_=>Sl.em)=Sl.ow o:=Oy e
   split at e' <;> cases e'
def wM(E:EnvO K O H Z σ)(src:List (Option Nat)):EnvM K O noM H (b8 src Z) (gD src σ) where
 len:=by unfold b8 gD;rw[NR,NR]
 val:=λj t e=>by
  unfold b8 at e;unfold gD;rw[Oe]at e ⊢
  cases q:src[j]? with
  |none=>rw[q]at e;cases e
  |some o=>
   rw[q]at e
   cases o with
   |none=>cases e
   |some i=>
    have e':(match Z[i]? with|some (Sl.va t)=>Sl.va t|_=>Sl.em)=Sl.va t:=Oy e
    cases q2:Z[i]? with
    |none=>rw[q2]at e';cases e'
    |some z=>
     rw[q2]at e'
     cases z with
     |em=>cases e'
     |ow l=>cases e'
     |va t'=>
      cases e';obtain⟨v,e1,e2⟩:=E.val i _ q2;exact⟨v,by simp[e1],e2⟩
 own:=λj o e=>(AR e).elim
 sub:=λ_ _ z=>z.elim
 dis:=λ_ _ _ z=>z.elim
 trk:=E.mtb
def ORep.no{o:OT}(r:ORep K O k8 H o v):False:=by
 cases o with
 |lst l=>obtain⟨a,_,_,e,_⟩:=r;exact(e a).mpr rfl
 |dct ks ts=>obtain⟨a,_,_,e,_⟩:=r;exact(e a).mpr rfl
 |dd ks rows=>obtain⟨a,_,_,_,e,_⟩:=r;exact(e a).mpr (.inl rfl)
 |ob C ns ls=>obtain⟨a,_,_,_,e,_⟩:=r;exact(e a).mpr (.inl rfl)
theorem EnvM.move{K:NK}{O O' P:Ow}{H H':Hp}{Z:En}{σ:L2.St}(E:EnvM K O noM H Z σ)(hP:∀a,P a->O a\/Nw K H a)(hO:∀a,O' a->O a\/Nw K H a)(h:SameO P H H')(trk:∀a,O' a->Mtb H' a):EnvM K O' noM H' Z σ where
 len:=E.len
 val:=λi t e=>let ⟨v,e1,e2⟩:=E.val i t e;⟨v,e1,e2.move hP hO h⟩
 own:=λi o e=>let ⟨_,_,r⟩:=E.own i o e;r.no.elim
 sub:=λ_ _ z=>z.elim
 dis:=λ_ _ _ z=>z.elim
 trk:=trk
def Kx(fi:V3)(src:List (Option Nat))(tgt:T->En->Rs En)(fc:V6)(fe:V5)(Z:En):Rs (List T):=fi Z >>= λts=>if ts.length<=ZI then(match d8 tgt fc fe ts (b8 src Z)with|.ok ys=>Rs.ok ys|_=>.bad)else .bad
def Df{src:List (Option Nat)}{fc:V6}:ig fi src tgt fc fe Z=Kx fi src tgt fc fe Z >>= λl=>.ok (.lst l):=by
 unfold ig Kx
 cases fi Z with
 |bad=>rfl
 |err c=>rfl
 |ok ts=>
  rw[ay,ay]
  by_cases hz:ts.length<=ZI
  ·rw[if_pos hz,if_pos hz]
   cases d8 tgt fc fe ts (b8 src Z) <;> rfl
  ·rw[if_neg hz,if_neg hz];rfl
def De{src:List (Option Nat)}{fc:V6}(E:EnvO X.K O H Z σ)
  (hq1:Post X H (Kx fi src tgt fc fe Z) λall H1=>∀D ys H',Nw X.K H1 D->Same H1 H'->H' D=ZA (.lst ys)->Reps X.K (λa=>O a\/a=D) H' all ys->Q (.ref D) H'):Ih X.K (MF X fi) src (BO X tgt) (tPT0 X.K fc) (tP0 X.K fe) σ H Q:=by
 unfold Kx at hq1;refine⟨Z,O,E,Post.mono hq1.bind λts H1 s1 q1 J hJ D hD hK=>?_⟩
 have E1:=E.same s1
 by_cases hz:ts.length<=ZI
 ·rw[if_pos hz]at q1
  cases hall:d8 tgt fc fe ts (b8 src Z)with
  |bad=>rw[hall]at q1;exact q1.elim
  |err c=>rw[hall]at q1;exact q1.elim
  |ok all=>
   rw[hall]at q1
   have q2:∀D ys H',Nw X.K H1 D->Same H1 H'->H' D=ZA (.lst ys)->Reps X.K (λa=>O a\/a=D) H' all ys->Q (.ref D) H':=q1 H1 (Same.refl H1)
   have nD:Nw X.K H1 D:=⟨hD,hK⟩
   let O':Ow:=λa=>O a\/a=D
   have subO:∀a,O' a->O a\/Nw X.K H1 a:=λa z=>z.elim .inl λw=>.inr (w▸nD)
   -- the walk's word
   refine⟨λi m σ' ys H'=>m=ts.length - i/\i<=ts.length/\ys.length<=i/\H' D=ZA (.lst ys)/\SameO (λa=>a=D) (upd H1 D (.lst [])) H' ∧
    ∃Z' yts zs,EnvM X.K O' noM H' Z' σ'/\Reps X.K O' H' yts ys/\d8 tgt fc fe (ts.drop i) Z'=.ok zs/\yts++zs=all,⟨ts.length,?_⟩,?_⟩
   ·have sN:Same H1 (upd H1 D (.lst [])):=bj hD _
    refine⟨by omega,Qk _,N4 _,aG,λb o e _=>e,b8 src Z,[],all,?_,Reps.GE,by simpa using hall,rfl⟩
    have E2:EnvM X.K O noM H1 (b8 src Z) (gD src σ):=wM E1 src
    exact E2.move (P:=λa=>a=D) (λa z=>.inr (z▸nD)) subO (λb o e _=>sN b o e) λa z=>by
     rcases z with z|z
     ·exact(E1.mtb a z).same sN
     ·rw[z];exact .inl ⟨_,aG⟩
   ·rintro i m σ' ys H' ⟨rfl,hi',hyl,hDl,hsm,Z',yts,zs,E',ry,hl,hyz⟩
    refine⟨hDl,?_⟩
    have sm1:SameO (λa=>a=D) H1 H':=λb o e nb=>hsm b o (by rw[aB nb];exact e) nb
    have it:=hJ (λa=>a=D) O' (λa z=>.inr (z▸nD)) subO i H' sm1 (λa z=>(E'.trk a z).some)
    by_cases hlt:i<ts.length
    ·refine .inr ?_
     have hti:ts[i]?=ZA ts[i]:=by simp
     obtain⟨go,yl⟩:=it.2 ts[i] hti;refine⟨go,by omega,λxx Hc y=>?_⟩
     obtain⟨sc,rx⟩:=yl xx Hc y
     have Ec:=E'.same sc;rw[Q3 hlt]at hl;unfold d8 at hl;refine⟨Z',O',noM,ts[i],Ec,rx,?_⟩
     cases e1:tgt ts[i] Z' with
     |bad=>rw[e1]at hl;cases hl
     |err cc=>rw[e1]at hl;cases hl
     |ok Z1=>
      rw[e1,ay]at hl;intro σ1 Eg;refine⟨Z1,O',⟨noM,Eg⟩,?_⟩
      cases e2:fc Z1 with
      |bad=>rw[e2]at hl;cases hl
      |err cc=>rw[e2]at hl;cases hl
      |ok k=>
       rw[e2,ay]at hl;intro H3 s3
       have E3:=Eg.same s3
       have tot:Same H' H3:=sc.trans s3
       have D3:H3 D=ZA (.lst ys):=tot _ _ hDl
       have sm3:SameO (λa=>a=D) (upd H1 D (.lst [])) H3:=λb o e nb=>tot _ _ (hsm b o e nb)
       cases k with
       |false=>
        refine L2.iteF ?_
        have hl':d8 tgt fc fe (ts.drop (i+1)) Z1=.ok zs:=by simpa using hl
        exact⟨ts.length - (i+1),by omega,rfl,hlt,by omega,D3,sm3,Z1,yts,zs,E3,ry.same tot,hl',hyz⟩
       |true=>
        refine L2.iteT ?_
        have hl':(fe Z1 >>= λy=>d8 tgt fc fe (ts.drop (i+1)) Z1 >>= λys=>Rs.ok (y::ys))=.ok zs:=by simpa using hl
        refine⟨Z1,O',⟨noM,E3⟩,?_⟩
        cases e3:fe Z1 with
        |bad=>rw[e3]at hl';cases hl'
        |err cc=>rw[e3]at hl';cases hl'
        |ok yt=>
         rw[e3,ay]at hl'
         cases e4:d8 tgt fc fe (ts.drop (i+1)) Z1 with
         |bad=>rw[e4]at hl';cases hl'
         |err cc=>rw[e4]at hl';cases hl'
         |ok zs'=>
          rw[e4,ay]at hl'
          have hzs:yt::zs'=zs:=by injection hl'
          intro H4 s4 v rv
          have D4:H4 D=ZA (.lst ys):=s4 _ _ D3
          have E4:=E3.same s4
          have tot4:Same H' H4:=tot.trans s4
          have smD:SameO (λa=>a=D) H4 (upd H4 D (.lst (ys++[v]))):=λb o e nb=>by rw[aB nb];exact e
          have inO:∀a,a=D->O' a\/Nw X.K H4 a:=λa z=>.inl (.inr z)
          refine⟨D4,ts.length - (i+1),by omega,rfl,hlt,?_,aG,λb o e nb=>smD b o (s4 _ _ (sm3 b o e nb)) nb,Z1,yts++[yt],zs',?_,?_,e4,?_⟩
          ·rw[NV,Pq];omega
          ·exact E4.move inO (λa z=>.inl z) smD λaa z=>by
            by_cases hz:aa=D
            ·rw[hz];exact .inl ⟨_,aG⟩
            ·unfold Mtb;rw[aB hz];exact E4.trk aa z
          ·have r1:Reps X.K O' H4 (yts++[yt]) (ys++[v]):=(ry.same tot4).append (Reps.FS rv Reps.GE)
           exact r1.move inO (λa z=>.inl z) smD
          ·rw[Oo,List.singleton_append,hzs];exact hyz
    ·refine .inl ⟨it.1 (by omega),?_⟩
     have hi2:i=ts.length:=by omega
     subst hi2;rw[UP]at hl
     have hzs:zs=[]:=by unfold d8 at hl;injection hl with hl;exact hl.symm
     subst hzs;rw[Ol]at hyz;subst hyz
     have sF:Same H1 H':=λb o e=>sm1 b o e λz=>by rw[z,hD]at e;cases e
     exact q2 D ys H' nD sF hDl ry
 ·rw[if_neg hz]at q1
  exact q1.elim
def zE{src:List (Option Nat)}{fc:V6}(h0:tP X (ig fi src tgt fc fe) σ H Q):Ih X.K (MF X fi) src (BO X tgt) (tPT0 X.K fc) (tP0 X.K fe) σ H Q:=by
 obtain⟨Z,O,E,hq⟩:=h0;refine De E ?_
 have e:ig fi src tgt fc fe Z=Kx fi src tgt fc fe Z >>= λl=>.ok (.lst l):=Df
 rw[e]at hq
 cases q:Kx fi src tgt fc fe Z with
 |bad=>rw[q]at hq;exact hq.elim
 |err c=>rw[q]at hq;exact hq
 |ok l=>
  rw[q,ay]at hq;intro H1 s1 D ys H' nD sD eD rD;exact hq H' (s1.trans sD) _ (Rep.Do.mpr ⟨D,ys,rfl,λz=>(E.same s1).fresh nD.1 z,eD,rD.less λa z=>.inl z⟩)
def q_lc{elt:ZG}{src:List (Option Nat)}{fc:V6}
  (hc:X.calm=ZC) (S:LcScope X scope N' src) (hi:Bs X tg iter fi)
  (block:∀cl C s₀ H₀ fp,EM (cm X scope cl N' C s₀ H₀ fp) tg tgt/\Bt (cm X scope cl N' C s₀ H₀ fp) ifs (BN (cm X scope cl N' C s₀ H₀ fp) fc)/\cz (cm X scope cl N' C s₀ H₀ fp) elt fe)
  (hs:∀x,OS iter X.env x=pure x:=by intro _;rfl):
  cz X (.ListComp elt [⟨tg,iter,ifs,0⟩] scope pos) (ig fi src tgt fc fe):=by
 have hPG:∀cl C s₀ H₀ fp,PG (cm X scope cl N' C s₀ H₀ fp) tg (BO X tgt):=λcl C s₀ H₀ fp=>(block cl C s₀ H₀ fp).1
 have hPI:∀cl C s₀ H₀ fp,Bt (cm X scope cl N' C s₀ H₀ fp) ifs (tPT0 X.K fc):=λcl C s₀ H₀ fp ol s σ H Q I h=>(block cl C s₀ H₀ fp).2.1 ol s σ H Q I (tPT0.up (X:=cm X scope cl N' C s₀ H₀ fp) h)
 have hPE:∀cl C s₀ H₀ fp,PE (cm X scope cl N' C s₀ H₀ fp) elt (tP0 X.K fe):=λcl C s₀ H₀ fp ol s σ H Q I h=>(block cl C s₀ H₀ fp).2.2 ol s σ H Q I (tP0.up (X:=cm X scope cl N' C s₀ H₀ fp) h)
 exact PE.imp (vW (g:=BO X tgt) (tc:=tPT0 X.K fc) (te:=tP0 X.K fe) hc S hi (λcl C s₀ H₀ fp=>⟨hPG cl C s₀ H₀ fp,hPI cl C s₀ H₀ fp,hPE cl C s₀ H₀ fp⟩) hs) λσ H Q h=>zE h
inductive Fl where
 |nx (Z:En)|rt (t:T)|bk (Z:En)|ct (Z:En)
abbrev V4:=En->Rs Fl
def OO(B:Ow)(M:Mn):Ow:=λa=>B a\/M.u a
structure Ev (K:NK)(B:Ow)(M:Mn)(H:Hp)(Z:En)(σ:L2.St):Prop where
 env:EnvM K (OO B M) M H Z σ
 mine:∀a,M.u a->¬ B a
theorem Ev.same{K:NK}{B:Ow}{M:Mn}{H H':Hp}{Z:En}{σ:L2.St}(h:Same H H')(e:Ev K B M H Z σ):Ev K B M H' Z σ:=⟨e.env.same h,e.mine⟩
def Ev.o(e:Ev K B M H Z σ):EnvO K (OO B M) H Z σ:=⟨M,e.env⟩
def PostF(X:Cx)(B P:Ow)(H:Hp)(r:Rs Fl)(D:nt):Prop:=match r with
 |.ok (.nx Z')=>∀σ' H' M',SameO P H H'->Ev X.K B M' H' Z' σ'->(∀a,M'.u a->P a\/Nw X.K H a)->D.nx σ' H'
 |.ok (.rt t)=>∀v H',SameO P H H'->Rep X.K B H' t v->D.rt v H'
 |.ok (.bk Z')=>∀σ' H' M',SameO P H H'->Ev X.K B M' H' Z' σ'->(∀a,M'.u a->P a\/Nw X.K H a)->D.bk σ' H'
 |.ok (.ct Z')=>∀σ' H' M',SameO P H H'->Ev X.K B M' H' Z' σ'->(∀a,M'.u a->P a\/Nw X.K H a)->D.ct σ' H'
 |.err c=>XA X P H c
 |.bad=>False
def ME(X:Cx)(F:V4):TS:=λD σ H=>∃Z B M,Ev X.K B M H Z σ/\PostF X B M.u H (F Z) D
abbrev oJ(X:Cx)(s:ZF)(F:V4):Prop:=PS X s (ME X F)
abbrev mI(X:Cx)(s:List ZF)(F:V4):Prop:=PSs X s (ME X F)
theorem PostF.later{B P P1:Ow}{H H1:Hp}{r:Rs Fl}{D:nt}(h:PostF X B P H r D)(s:SameO P H H1)(sub:∀a,P1 a->P a\/Nw X.K H a):PostF X B P1 H1 r D:=by
 have back:∀a,P1 a\/Nw X.K H1 a->P a\/Nw X.K H a:=λa z=>z.elim (sub a) (gz s)
 cases r with
 |bad=>exact h
 |err c=>exact XA.later h s sub
 |ok f=>
  cases f with
  |nx Z'=>exact λσ' H' M' s' E' o'=>h σ' H' M' (s.trans s' sub) E' λa z=>back a (o' a z)
  |rt t=>exact λv H' s' r=>h v H' (s.trans s' sub) r
  |bk Z'=>exact λσ' H' M' s' E' o'=>h σ' H' M' (s.trans s' sub) E' λa z=>back a (o' a z)
  |ct Z'=>exact λσ' H' M' s' E' o'=>h σ' H' M' (s.trans s' sub) E' λa z=>back a (o' a z)
def PostF.xa{P:Ow}{c:Str}(h:PostF X B P H (.err c) D):XA X k8 H c:=XA.later (P:=P) h (λ_ _ e _=>e) λ_ z=>z.elim
def sN(Z:En):Rs Fl:=.ok (.nx Z)
def aD(F G:V4)(Z:En):Rs Fl:=do
 let f <-F Z
 match f with
 |.nx Z'=>G Z'
 |f=>.ok f
def ID:mI X [] sN:=PSs.imp oj λD σ H ⟨Z,B,M,E,h⟩=>h σ H M (λ_ _ e _=>e) E λa z=>.inl z
def FA{bU:List ZF}{F G:V4}(h1:oJ X st F)(h2:mI X bU G):mI X (st::bU) (aD F G):=PSs.imp (iP h1 h2) λD σ H hh_=>by
 obtain⟨Z,B,M,E,h⟩:=hh_;refine⟨Z,B,M,E,?_⟩
 unfold aD at h
 cases q:F Z with
 |bad=>rw[q]at h;exact h.elim
 |err c=>rw[q]at h;exact h
 |ok f=>
  rw[q,ay]at h
  cases f with
  |nx Z'=>exact λσ' H' M' s' E' o'=>⟨Z',B,M',E',h.later s' o'⟩
  |rt t=>exact h
  |bk Z'=>exact h
  |ct Z'=>exact h
def IC{F:V4}(h:oJ X st F):mI X [st] F:=fg h
def aR(f:V5)(Z:En):Rs Fl:=do
 let t <-f Z
 .ok (.rt t)
def IA(ha:cz X a fa):oJ X (.Return (ZA a) pos) (aR fa):=PS.imp (iu ha) λD σ H hh_=>by
 obtain⟨Z,B,M,E,h⟩:=hh_;refine⟨Z,OO B M,E.o,?_⟩
 unfold aR at h
 cases q:fa Z with
 |bad=>rw[q]at h;exact h.elim
 |err c=>rw[q]at h;exact PostF.xa h
 |ok t=>
  rw[q,ay]at h;exact λH' s v r=>h v H' (SameO.of s) (r.less λ_ z=>.inl z)
def e9(f:V6)(F G:V4)(Z:En):Rs Fl:=do
 let k <-f Z
 if k then F Z else G Z
def Lc{A B:List ZF}{F G:V4}(hc:rn X c f)(ha:mI X A F)(hb:mI X B G):oJ X (.If c A B pos) (e9 f F G):=PS.imp (vU hc ha hb) λD σ H hh_=>by
 obtain⟨Z,B,M,E,h⟩:=hh_;refine⟨Z,OO B M,E.o,?_⟩
 unfold e9 at h
 cases q:f Z with
 |bad=>rw[q]at h;exact h.elim
 |err c=>rw[q]at h;exact PostF.xa h
 |ok k=>
  rw[q,ay]at h;intro H' s
  have E':Ev X.K B M H' Z σ:=E.same s
  cases k with
  |true=>refine L2.iteT ?_;exact⟨Z,B,M,E',PostF.later (by simpa using h) (SameO.of s) λa z=>.inl z⟩
  |false=>refine L2.iteF ?_;exact⟨Z,B,M,E',PostF.later (by simpa using h) (SameO.of s) λa z=>.inl z⟩
def cg(f:V5)(g:T->En->Rs En)(Z:En):Rs Fl:=do
 let t <-f Z
 match g t Z with
 |.ok Z'=>.ok (.nx Z')
 |_=>.bad
variable{f:V5}
def BZ(E:Ev X.K B M H Z σ)(h:PostF X B M.u H (cg f g Z) D):BP (tP X f) (BO X g) D σ H:=by
 refine⟨Z,OO B M,E.o,?_⟩
 unfold cg at h
 cases q:f Z with
 |bad=>rw[q]at h;exact h.elim
 |err c=>rw[q]at h;exact PostF.xa h
 |ok t=>
  rw[q,ay]at h;intro H' s v r;refine⟨Z,OO B M,M,t,E.env.same s,r,?_⟩
  cases q2:g t Z with
  |bad=>rw[q2]at h;exact h.elim
  |err c=>rw[q2]at h;exact h.elim
  |ok Z'=>
   rw[q2]at h;exact λσ' E'=>h σ' H' M (SameO.of s) ⟨E',E.mine⟩ λa z=>.inl z
def zd{Q':VK}(h:tP X f σ H Q)(w:∀v H',Q v H'->Q' v H'):tP X f σ H Q':=by
 obtain⟨Z,O,E,q⟩:=h;exact⟨Z,O,E,Post.mono q λt H' _ z v r=>w v H' (z v r)⟩
def Lb{elt:ZG}{spos py:Pos}{src:List (Option Nat)}{fc:V6}(i:Nat){y:Str}
  (hc:X.calm=ZC) (S:LcScope X scope N' src) (hi:Bs X tg iter fi)
  (block:∀cl C s₀ H₀ fp,EM (cm X scope cl N' C s₀ H₀ fp) tg tgt/\Bt (cm X scope cl N' C s₀ H₀ fp) ifs (BN (cm X scope cl N' C s₀ H₀ fp) fc)/\cz (cm X scope cl N' C s₀ H₀ fp) elt fe)
  (hN:X.N.Nodup) (hiy:X.N[i]?=ZA y:=by rfl) (hy:Loc X.env.scope y:=by first|exact OB rfl|exact Oq rfl) (hsw:OW (.ListComp elt [⟨tg,iter,ifs,0⟩] scope pos) (ZA (.Name y py)) spos.line X.env=pure ZC:=by rfl)
  (hf:X.fn y=ZC\/X.env.scope.names.lookup y=ZA .local:=by first|exact .inl rfl|exact .inr rfl|assumption) (hs:∀x,OS iter X.env x=pure x:=by intro _;rfl):
  oJ X (.Assign [.Name y py] (.ListComp elt [⟨tg,iter,ifs,0⟩] scope pos) spos) (cg (ig fi src tgt fc fe) (gN i)):=by
 have hPG:∀cl C s₀ H₀ fp,PG (cm X scope cl N' C s₀ H₀ fp) tg (BO X tgt):=λcl C s₀ H₀ fp=>(block cl C s₀ H₀ fp).1
 have hPI:∀cl C s₀ H₀ fp,Bt (cm X scope cl N' C s₀ H₀ fp) ifs (tPT0 X.K fc):=λcl C s₀ H₀ fp ol s σ H Q I h=>(block cl C s₀ H₀ fp).2.1 ol s σ H Q I (tPT0.up (X:=cm X scope cl N' C s₀ H₀ fp) h)
 have hPE:∀cl C s₀ H₀ fp,PE (cm X scope cl N' C s₀ H₀ fp) elt (tP0 X.K fe):=λcl C s₀ H₀ fp ol s σ H Q I h=>(block cl C s₀ H₀ fp).2.2 ol s σ H Q I (tP0.up (X:=cm X scope cl N' C s₀ H₀ fp) h)
 refine PS.imp (Lv (g:=BO X tgt) (tc:=tPT0 X.K fc) (te:=tP0 X.K fe) (i:=i) hc S hi (λcl C s₀ H₀ fp=>⟨hPG cl C s₀ H₀ fp,hPI cl C s₀ H₀ fp,hPE cl C s₀ H₀ fp⟩) hN hiy hy hsw hf hs) λD σ H ⟨Z,B,M,E,h⟩=>zE (zd (BZ E h) λv H' z=>?_)
 obtain⟨Z',O,M',t,E',r,q⟩:=z;unfold gN at q
 split at q
 ·rename_i Z2 e
  split at e
  ·rename_i hl
   cases e;exact q _ (E'.set hl r)
  ·cases e
 ·exact q.elim
def II(ha:cz X a fa)(hg:EM X tg g)(hs:T6 [tg] a pos.line X.env=pure ZD:=by rfl)(hw:T7 [tg] a X.env=pure ZB:=by rfl)
  (h1:(PH [tg] X.env).map (·.2)=[assign tg X.env]:=by rfl):oJ X (.Assign [tg] a pos) (cg fa g):=PS.imp (IX ha hg hs hw h1) λD σ H ⟨Z,B,M,E,h⟩=>BZ E h
def xW(f:V5)(Z:En):Rs Fl:=do
 let _ <-f Z
 .ok (.nx Z)
def Fz(ha:cz X a fa)(hs:OW a ZB pos.line X.env=pure ZD:=by rfl):oJ X (.Expr a pos) (xW fa):=PS.imp (om ha hs) λD σ H hh_=>by
 obtain⟨Z,B,M,E,h⟩:=hh_;refine⟨Z,OO B M,E.o,?_⟩
 unfold xW at h
 cases q:fa Z with
 |bad=>rw[q]at h;exact h.elim
 |err c=>rw[q]at h;exact PostF.xa h
 |ok t=>
  rw[q,ay]at h;exact λH' s v r=>h σ H' M (SameO.of s) (E.same s) λa z=>.inl z
noncomputable def bx(g:T->En->Rs En)(F:V4):List T->V4
 |[],Z=>.ok (.nx Z)
 |t::r,Z=>do
  let Z1 <-g t Z
  let f <-F Z1
  match f with
  |.nx Z2=>bx g F r Z2
  |.ct Z2=>bx g F r Z2
  |.bk Z2=>.ok (.nx Z2)
  |.rt t=>.ok (.rt t)
def fI(fi:V3)(g:T->En->Rs En)(F:V4)(Z:En):Rs Fl:=do
 let ts <-fi Z
 match bx g F ts Z with
 |.ok f=>.ok f
 |_=>.bad
def mR{t:Sem α}{Q:α->NQ->Prop}{E:V1}{A:Ou}(h:ZJ (ZK P w) A t Q (λ_ _=>False) s):ZJ (ZK P w) A t Q E s:=Pw h (λ_ _ q=>q) λ_ _ z=>z.elim
def FT{wi:TI}{g:TG}{tb:TS}(hc:X.calm=ZC)(hi:PI X tg iter wi)(hg:PG X.nox tg g)(hb:PSs X.nox body tb)
  (hs:∀x,OS iter X.env x=pure x:=by intro _;rfl):PS X (.For tg iter body [] pos) (tFor wi g tb):=by
 intro ol s σ H D I h;refine wpAny_For (bS (hi ol s σ H _ I h) λv s1 h1=>bS h1 λitv s2 h2=>?_) hs
 obtain⟨it,fp,tn,J,H2,e,I2,T,st2,f2,W,⟨m0,w0⟩,turn⟩:=h2;subst e
 have stat:∀{H':Hp},(∀b∈fp,H' b=ZB)->∀b∈fp,qD X ol H' b:=λhn b hb=>⟨hn b hb,(f2 b hb).2⟩
 refine codeAny_forLoop_any (λn s'=>∃i σ' H',Inv X ol σ' H' s'/\tn i s'.heap/\(∀b∈fp,H' b=ZB)/\W i n σ' H') ?_ m0 ⟨0,σ,H2,I2,st2,λb hb=>(f2 b hb).1,w0⟩
 rintro n s3 ⟨i,σ3,H3,I3,st3,fr3,w3⟩
 rcases turn i n σ3 H3 w3 with⟨stop,qn⟩|⟨go,N,hN,step⟩
 ·refine mR (bS (T.done X.nox rfl rfl rfl hc i ol s3 σ3 H3 _ (I3.FB _) (stat fr3) st3 stop) λr s4 ⟨hr,I4⟩=>?_)
  subst hr;exact QJ ⟨σ3,H3,I4.FB _,qn⟩
 ·refine mR (bS (T.item X.nox rfl rfl rfl hc i ol s3 σ3 H3 _ (I3.FB _) (stat fr3) st3 go) λr s4 ⟨u,hr,h4⟩=>?_)
  subst hr;refine mR (bS h4 λ_ s5 hh_=>?_)
  obtain⟨x,H5,I5,r5,y5,st5,fr5⟩:=hh_
  have I5':=Inv.pinned (X:=X.nox) I5 (stat fr5) (T.obj _ _ st5);refine mR (bS (hg _ s5 σ3 H5 x u _ I5' r5 (step x H5 y5)) λ_ s6 hh_=>?_)
  obtain⟨σ6,H6,I6,q6⟩:=hh_;refine mR (bS (hb _ s6 σ6 H6 _ I6 q6) λf s7 q7=>?_)
  have again:∀{σ7:L2.St}{H7:Hp},Inv X.nox (ol++ph fp s5.heap) σ7 H7 s7->N σ7 H7->∃m,m<n/\∃i σ' H',Inv X ol σ' H' s7/\tn i s7.heap/\(∀b∈fp,H' b=ZB)/\W i m σ' H':=λ{σ7 H7} I7 n7=>by
   obtain⟨m',hm,w7⟩:=hN σ7 H7 n7;refine⟨m',hm,i+1,σ7,H7,(Inv.MX (X:=X.nox) I7).FB _,T.keep _ _ _ st5 λb hb o e=>(I7.pin (b,o) (Of _ (Of _ (i7 hb e)))).1,λb hb=>?_,w7⟩
   obtain⟨o,e,d⟩:=T.obj _ _ st5 b hb;exact(I7.pin (b,o) (Of _ (Of _ (i7 hb e)))).2.1
  cases f with
  |next=>obtain⟨σ7,H7,I7,n7⟩:=q7;exact again I7 n7
  |cont=>obtain⟨σ7,H7,I7,n7⟩:=q7;exact again I7 n7
  |brk=>obtain⟨σ7,H7,I7,q7⟩:=q7;exact⟨σ7,H7,(Inv.MX (X:=X.nox) I7).FB _,q7⟩
  |ret v=>obtain⟨x7,σ7,H7,I7,r7,q7⟩:=q7;exact⟨x7,σ7,H7,(Inv.MX (X:=X.nox) I7).FB _,r7,q7⟩
def IF{F:V4}(hc:X.calm=ZC)(hi:Bs X tg iter fi)(hg:EM X.nox tg g)(hb:mI X.nox body F)
  (hs:∀x,OS iter X.env x=pure x:=by intro _;rfl):oJ X (.For tg iter body [] pos) (fI fi g F):=PS.imp (FT hc hi hg hb hs) λD σ H hh_=>by
 obtain⟨Z,B,M,E,h⟩:=hh_;refine⟨Z,OO B M,E.o,?_⟩
 unfold fI at h
 cases q:fi Z with
 |bad=>rw[q]at h;exact h.elim
 |err c=>rw[q]at h;exact PostF.xa h
 |ok ts=>
  rw[q,ay]at h
  cases qq:bx g F ts Z with
  |bad=>rw[qq]at h;exact h.elim
  |err c=>rw[qq]at h;exact h.elim
  |ok fin=>
  rw[qq]at h;intro H1 s1 J hJ
  have E1:Ev X.K B M H1 Z σ:=E.same s1
  have h1:PostF X B M.u H1 (.ok fin) D:=PostF.later h (SameO.of s1) λa z=>.inl z
  refine⟨λi m σ' H'=>m=ts.length - i/\i<=ts.length/\SameO M.u H1 H'/\∃Z' M',Ev X.K B M' H' Z' σ'/\(∀a,M'.u a->M.u a\/Nw X.K H1 a)/\bx g F (ts.drop i) Z'=.ok fin,
   ⟨ts.length,by omega,Qk _,λ_ _ e _=>e,Z,M,E1,λa z=>.inl z,by simpa using qq⟩,?_⟩
  rintro i m σ' H' ⟨rfl,hi',sm,Z',M',E',ow,hl⟩
  have it:=hJ M.u (OO B M') (λa z=>.inl (.inr z)) (λa z=>z.elim (λw=>.inl (.inl w)) λw=>(ow a w).elim (λy=>.inl (.inr y)) .inr) i H' sm (λa z=>(E'.env.trk a z).some)
  by_cases hlt:i<ts.length
  ·have hti:ts[i]?=ZA ts[i]:=by simp
   obtain⟨go,yl⟩:=it.2 ts[i] hti;rw[Q3 hlt]at hl;unfold bx at hl;refine .inr ⟨go,λσ2 H2=>∃m',m'<ts.length - i/\(m'=ts.length - (i+1)/\i+1<=ts.length/\SameO M.u H1 H2/\∃Z2 M2,Ev X.K B M2 H2 Z2 σ2/\(∀a,M2.u a->M.u a\/Nw X.K H1 a)/\bx g F (ts.drop (i+1)) Z2=.ok fin),λσ2 H2 z=>z,λx Hc y=>?_⟩
   obtain⟨sc,rx⟩:=yl x Hc y;refine⟨Z',OO B M',M',ts[i],E'.env.same sc,rx,?_⟩
   cases e1:g ts[i] Z' with
   |bad=>rw[e1]at hl;cases hl
   |err cc=>rw[e1]at hl;cases hl
   |ok Z1=>
    rw[e1,ay]at hl;intro σ1 Eg
    have E2:Ev X.K B M' Hc Z1 σ1:=⟨Eg,E'.mine⟩;refine⟨Z1,B,M',E2,?_⟩
    have smc:SameO M.u H1 Hc:=λb o e n=>sc _ _ (sm b o e n)
    have onward:∀{σ3:L2.St}{H3:Hp}{Z3:En}{M3:Mn},SameO M'.u Hc H3->Ev X.K B M3 H3 Z3 σ3->(∀a,M3.u a->M'.u a\/Nw X.K Hc a)->bx g F (ts.drop (i+1)) Z3=.ok fin →
      ∃m',m'<ts.length - i/\(m'=ts.length - (i+1)/\i+1<=ts.length/\SameO M.u H1 H3/\∃Z2 M2,Ev X.K B M2 H3 Z2 σ3/\(∀a,M2.u a->M.u a\/Nw X.K H1 a)/\bx g F (ts.drop (i+1)) Z2=.ok fin):=
     λ{σ3 H3 Z3 M3} s3 E3 o3 p3=>⟨_,by omega,rfl,hlt,smc.trans s3 ow,Z3,M3,E3,λa z=>(o3 a z).elim (ow a) (gz smc),p3⟩
    cases e2:F Z1 with
    |bad=>rw[e2]at hl;cases hl
    |err cc=>rw[e2]at hl;cases hl
    |ok f=>
     rw[e2,ay]at hl
     cases f with
     |nx Z2=>exact λσ3 H3 M3 s3 E3 o3=>onward s3 E3 o3 hl
     |ct Z2=>exact λσ3 H3 M3 s3 E3 o3=>onward s3 E3 o3 hl
     |bk Z2=>
      cases hl
      exact λσ3 H3 M3 s3 E3 o3=>h1 σ3 H3 M3 (smc.trans s3 ow) E3 λa z=>(o3 a z).elim (ow a) (gz smc)
     |rt t=>
      cases hl;exact λv H3 s3 r=>h1 v H3 (smc.trans s3 ow) r
  ·refine .inl ⟨it.1 (by omega),?_⟩
   have hi2:i=ts.length:=by omega
   subst hi2;rw[UP]at hl;cases hl;exact h1 σ' H' M' sm E' ow
noncomputable def bZ(c:V6)(F:V4):Nat->V4
 |0,_=>.bad
 |n+1,Z=>match c Z with
  |.ok ZD=>.ok (.nx Z)
  |.ok ZC=>match F Z with
   |.ok (.nx Z')=>bZ c F n Z'
   |.ok (.ct Z')=>bZ c F n Z'
   |.ok (.bk Z')=>.ok (.nx Z')
   |.ok (.rt t)=>.ok (.rt t)
   |_=>.bad
  |_=>.bad
def Cg{fc:V6}{F:V4}(n:Nat)(hc:rn X.nox c fc)(hb:mI X.nox body F):oJ X (.While c body [] pos) (bZ fc F n):=by
 have base:PS X.nox (.While c body [] pos) (xM (BN X.nox fc) (ME X.nox F)):=Cv PassesOwn.never hc hb;intro ol s σ H D I ⟨Z,B,M,E,h⟩
 cases qq:bZ fc F n Z with
 |bad=>rw[qq]at h;exact h.elim
 |err c=>
  exfalso
  have:∀n Z,bZ fc F n Z≠ .err c:=by
   intro n
   induction n with
   |zero=>intro Z z;cases z
   |succ n ih=>
    intro Z z;unfold bZ at z
    split at z
    ·cases z
    ·split at z <;> first|exact ih _ z|cases z
    ·cases z
  exact this n Z qq
 |ok fin=>
  rw[qq]at h
  have goal:xM (BN X.nox fc) (ME X.nox F) D σ H:=by
   refine⟨λm σ' H'=>SameO M.u H H'/\∃Z' M',Ev X.K B M' H' Z' σ'/\(∀a,M'.u a->M.u a\/Nw X.K H a)/\bZ fc F m Z'=.ok fin,⟨n,λ_ _ e _=>e,Z,M,E,λa z=>.inl z,qq⟩,?_⟩
   rintro m σ' H' ⟨sm,Z',M',E',ow,hl⟩
   cases m with
   |zero=>cases hl
   |succ m=>
    refine⟨Z',OO B M',E'.o,?_⟩
    unfold bZ at hl
    cases e1:fc Z' with
    |bad=>rw[e1]at hl;cases hl
    |err cc=>rw[e1]at hl;cases hl
    |ok k=>
     rw[e1]at hl;intro H2 s2
     have E2:Ev X.K B M' H2 Z' σ':=E'.same s2
     have sm2:SameO M.u H H2:=λb o e n=>s2 _ _ (sm b o e n)
     cases k with
     |false=>
      cases hl;refine L2.iteF ?_
      exact h σ' H2 M' sm2 E2 ow
     |true=>
      refine L2.iteT ?_
      refine⟨λσ3 H3=>SameO M.u H H3/\∃Z3 M3,Ev X.K B M3 H3 Z3 σ3/\(∀a,M3.u a->M.u a\/Nw X.K H a)/\bZ fc F m Z3=.ok fin,λσ3 H3 z=>⟨m,SD m,z⟩,Z',B,M',E2,?_⟩
      have hl':(match F Z' with|.ok (.nx Z')=>bZ fc F m Z'|.ok (.ct Z')=>bZ fc F m Z'|.ok (.bk Z')=>.ok (.nx Z')|.ok (.rt t)=>.ok (.rt t)|_=>.bad)=.ok fin:=hl
      cases e2:F Z' with
      |bad=>rw[e2]at hl';cases hl'
      |err cc=>rw[e2]at hl';cases hl'
      |ok f=>
       rw[e2]at hl'
       cases f with
       |nx Z2=>exact λσ3 H3 M3 s3 E3 o3=>⟨sm2.trans s3 ow,Z2,M3,E3,λa z=>(o3 a z).elim (ow a) (gz sm2),hl'⟩
       |ct Z2=>exact λσ3 H3 M3 s3 E3 o3=>⟨sm2.trans s3 ow,Z2,M3,E3,λa z=>(o3 a z).elim (ow a) (gz sm2),hl'⟩
       |bk Z2=>
        cases hl'
        exact λσ3 H3 M3 s3 E3 o3=>h σ3 H3 M3 (sm2.trans s3 ow) E3 λa z=>(o3 a z).elim (ow a) (gz sm2)
       |rt t=>
        cases hl';exact λv H3 s3 r=>h v H3 (sm2.trans s3 ow) r
  refine mR (bS (base ol s σ H D (I.FB _) goal) λf s' q=>?_)
  cases f with
  |next=>obtain⟨σ7,H7,I7,n7⟩:=q;exact⟨σ7,H7,I7.FB _,n7⟩
  |cont=>obtain⟨σ7,H7,I7,n7⟩:=q;exact⟨σ7,H7,I7.FB _,n7⟩
  |brk=>obtain⟨σ7,H7,I7,n7⟩:=q;exact⟨σ7,H7,I7.FB _,n7⟩
  |ret v=>obtain⟨x7,σ7,H7,I7,r7,q7⟩:=q;exact⟨x7,σ7,H7,I7.FB _,r7,q7⟩
def Hj(Z:En):Rs Fl:=.ok (.ct Z)
end
noncomputable def bR(F:V4)(Z:En):Rs T:=do
 let f <-F Z
 match f with
 |.nx _=>.ok .non
 |.rt t=>.ok t
 |_=>.bad
def aQ(n:Nat)(ts:List T):En:=ts.map Sl.va++Ob (n - ts.length) Sl.em
variable{ts:List T}
def Au{o:OT}(e:(aQ n ts)[i]?=ZA (.ow o)):False:=by
 unfold aQ at e
 by_cases hi:i<ts.length
 ·rw[O9 (by simpa using hi),Oe,N9 hi]at e
  cases e
 ·rw[Py (by simpa using hi),Ph]at e
  split at e <;> cases e
variable{N:List Str}
def kx(r:Reps K O H ts vs)(hl:ts.length<=N.length)(trk:∀a,O a->Mtb H a):Ev K O noM H (aQ N.length ts) (start N vs):=by
 have hlen:=r.length
 have sub:∀a,OO O noM a->O a:=λa z=>z.elim id λ⟨_,w⟩=>w.elim
 refine⟨⟨by unfold aQ L2.start;simp;omega,λi t e=>?_,λi o e=>(Au e).elim,λ_ _ z=>z.elim,λ_ _ _ z=>z.elim,λa z=>trk a (sub a z)⟩,λa ⟨_,z⟩=>z.elim⟩
 unfold aQ at e;unfold L2.start
 by_cases hi:i<ts.length
 ·rw[O9 (by simpa using hi),Oe,N9 hi]at e
  have e':ts[i]=t:=by injection e with e;injection e
  obtain⟨v,e1,e2⟩:=r.get (i:=i) (t:=t) (by rw[<-e'];simp)
  refine⟨v,?_,e2.less sub⟩
  rw[O9 (by simp;omega),Oe,e1];rfl
 ·rw[Py (by simpa using hi),Ph]at e
  split at e <;> cases e
section
variable {mg:V0}{base:ZH}
def Mj{qual:Str}{f:ZE}{g:List T->Rs T}(Fn:L2.Fun K x qual st f fd)(S:aA N ps (aj st))(hn:ps.length=n)
  (hbody:∀(cdv:NM)(A:Ou)(outer:List Env)(s:NQ)(H:Hp)(E:XK),Room k (A.deeper (envOfC qual (aj st) s.heap.objs.size f cdv)) →
   ∃F,mI (gp CX0 P w K mg base N qual (aj st) f cdv A outer s H E).nox (bD st) F/\∀ts,ts.length=n->∀t,g ts=.ok t->bR F (aQ N.length ts)=.ok t):FnOk P w K mg base CX0 (k+1) f fd ps (spP K n g):=by
 have hpl:ps.length<=N.length:=by have:=congrArg O7 S.pre;rw[OY]at this;omega
 refine Fn.ok S (λvs H Q E h=>?_) (λcdv A outer s H vs Q E hr h=>?_)
 ·obtain⟨ts,O,r,_,hl,_⟩:=h
  rw[<-r.length,hl,hn]
 ·obtain⟨ts,O,r,trk,hl,h⟩:=h
  obtain⟨F,hF,hv⟩:=hbody cdv A outer s H E hr;refine⟨_,hF,aQ N.length ts,O,noM,kx r (by omega) trk,?_⟩
  have no:∀a,¬noM.u a:=λa ⟨_,z⟩=>z
  cases q:g ts with
  |bad=>rw[q]at h;exact h.elim
  |err c=>rw[q]at h;exact h.elim
  |ok t=>
   rw[q]at h
   have hb:=hv ts hl t q;unfold bR at hb
   cases q2:F (aQ N.length ts)with
   |bad=>rw[q2]at hb;cases hb
   |err c=>rw[q2]at hb;cases hb
   |ok fl=>
    rw[q2,ay]at hb
    have sameOf:∀H',SameO noM.u H H'->Same H H':=λH' s b o e=>s b o e (no b)
    cases fl with
    |nx Z'=>cases hb;exact λσ' H' M' s' E' o'=>h .non H' (sameOf H' s') Rep.Nh
    |rt t'=>cases hb;exact λv H' s' r'=>h v H' (sameOf H' s') r'
    |bk Z'=>cases hb
    |ct Z'=>cases hb
end
end Tr
namespace Enu
open PySem
open AutoSeq1 (wpAny_loadPart')
variable{A:Ou}{E Q:V1}{its:Array NM}{k:Nat}{prog:Oa}{s:NQ}{w:O0}
def E7{it tt:ZE}{x:NM}(hi:s.heap.IsTupleIter it tt k)(ht:s.heap.IsTuple tt its)(hx:its[k]?=ZA x)
  (hQ:∀h',h'.IsTupleIter it tt (k+1)->Rb it s.heap h'->Q x {s with heap:=h'}):ZJ (ZK prog w) A (Qi (.ref it)) Q E s:=by
 obtain⟨ob,g1,g2,g3⟩:=id hi;obtain⟨ot,k1,_,m,k3⟩:=ht;unfold Qi;refine NS (PX (name:=N7 "__next__") hi.typeIs P7 (Q7 P7 hi.typeIs RT ?_ (RO _)))
 show ZJ (ZK prog w) _ (field (.ref it) 0 >>= _) _ _ s
 refine NS (Qn g1 g3 (x:=.ref tt) rfl ?_)
 show ZJ (ZK prog w) _ (if (N3 tt == Oz)=ZC then _ else _) _ _ s
 rw[if_neg (show ¬((N3 tt == Oz)=ZC)by exact N0)]
 show ZJ (ZK prog w) _ (field (.ref it) 1 >>= _) _ _ s
 refine NS (Qn g1 g3 (x:=.int k 0) rfl ?_)
 show ZJ (ZK prog w) _ (seqItems? (.ref tt) >>= _) _ _ s
 refine NS (Tq k1 k3 ?_)
 simp only[hx,PD];refine NS (Ts g1 g3 (by simp) (N5 ⟨x,rfl,N5 (hQ _ ?_ (Tt ..))⟩))
 refine⟨_,RD _ g1 (RE (Qb g3 _)),(Obj.cls_mapFields ..).trans g2,?_⟩
 rw[Qb g3];simp[rawInt]
def tupStop{it tt:ZE}(hh:A.handled=ZB)(hi:s.heap.IsTupleIter it tt k)(ht:s.heap.IsTuple tt its)(hx:its[k]?=ZB)
  (hE:∀h' e,Heap.ExtBut it s.heap h'->(∃o,h'.get? e=ZA o/\o.cls=.type "StopIteration")->E (.ref e) {s with heap:=h'}):ZJ (ZK prog w) A (Qi (.ref it)) Q E s:=by
 obtain⟨ob,g1,g2,g3⟩:=id hi;obtain⟨ot,k1,_,m,k3⟩:=ht;unfold Qi;refine NS (PX (name:=N7 "__next__") hi.typeIs P7 (Q7 P7 hi.typeIs RT ?_ (RO _)))
 show ZJ (ZK prog w) _ (field (.ref it) 0 >>= _) _ _ s
 refine NS (Qn g1 g3 (x:=.ref tt) rfl ?_)
 show ZJ (ZK prog w) _ (if (N3 tt == Oz)=ZC then _ else _) _ _ s
 rw[if_neg (show ¬((N3 tt == Oz)=ZC)by exact N0)]
 show ZJ (ZK prog w) _ (field (.ref it) 1 >>= _) _ _ s
 refine NS (Qn g1 g3 (x:=.int k 0) rfl ?_)
 show ZJ (ZK prog w) _ (seqItems? (.ref tt) >>= _) _ _ s
 refine NS (Tq k1 k3 ?_)
 simp only[hx,PD];refine NS (Ux (NS (Ts g1 g3 (by simp) ?_)))
 show ZJ (ZK prog w) _ (newExc (.type "StopIteration") [] >>= _) _ _ _
 refine NS ?_
 simp only[newTuple,newExc];refine NS (PJ ?_ (by size_fits))
 refine NS (m:=firstArgMember _ _) (wpAny_of_eq (a:=Oz) (by first| (simp only[firstArgMember];rfl)|rfl) ?_)
 refine PJ ?_ (by size_fits)
 simp only[raiseNew];refine NS (wpAny_handled ?_)
 first|rw[hh]|rw[show A.in1.handled=ZB from hh]
 refine NS (N5 (wpAny_throw ?_))
 refine hE _ _ (((Tt ..).extBut.push _).push _) ⟨_,Oc _ rfl,rfl⟩
def tupDraws(hh:A.handled=ZB)(it tt:ZE)(hne:tt≠it)(its:Array NM):
  Draws prog w A it [it,tt] its.size (λi v=>its[i]?=ZA v) (λi h=>h.IsTupleIter it tt i/\h.IsTuple tt its) where
 live:=λ_ _ st=>by obtain⟨o,ho,_⟩:=st.1;exact⟨o,ho⟩
 frame:=λ_ _ _ st hk=>by
  obtain⟨⟨o,e,r⟩,⟨o',e',r'⟩⟩:=st;exact⟨⟨o,hk it (by simp) o e,r⟩,⟨o',hk tt (by simp) o' e',r'⟩⟩
 item:=λi s Q E hi st hQ=>by
  refine E7 st.1 st.2 (x:=its[i]) (by simp[hi]) λh' hit' hs'=>?_
  obtain⟨o',e',r'⟩:=st.2;exact hQ _ h' s.toks (by simp[hi]) ⟨hit',⟨o',(hs'.2 tt hne).trans e',r'⟩⟩ hs'
 done:=λs Q E st hE=>tupStop hh st.1 st.2 (by simp) hE
def newT(l:ZE)(items:Array NM)(n:Nat)(dct:Option ZE)(sl:Array (Option NM)):
  Meets (Builtin.«enumerate.__new__» ⟨[.type "enumerate",.ref l],[]⟩) (λ_ R s=>s.heap.get? l=ZA {cls:=.type "tuple",dict:=dct,data:=.seq items n,slots:=sl} ∧
   R (.ok (.ret (.ref (s.heap.push {cls:=.type "tuple_iterator",data:=.fields #[.ref l,.int 0 0]}).objs.size)))
    {s with heap:=(s.heap.push {cls:=.type "tuple_iterator",data:=.fields #[.ref l,.int 0 0]}).push {cls:=.type "enumerate",data:=.fields #[.none,.bool ZD,.ref s.heap.objs.size,rawInt 0,.none,.none]}}):=
 .of_wp λprog w A R s h=>by
  obtain⟨hp,g,d,tk,os⟩:=s;obtain⟨hl,h⟩:=h
  have hsub:=sub_enumerate
  have hT:Heap.IsTuple (Shared.heap ⟨hp,g,d,tk,os⟩) l items:=⟨_,hl,rfl,n,rfl⟩
  wp_walk using Qu hl
  refine wpAny_stack_any λst=>N5 ?_
  split
  ·rename_i c _ _ _ _ _
   cases (c == Rr "enumerate")
   ·wp_walk using Qu hl,Rm hT
    exact⟨_,rfl,h⟩
   ·wp_walk using Qu hl,Rm hT
    exact⟨_,rfl,h⟩
  ·wp_walk using Qu hl,Rm hT
   exact⟨_,rfl,h⟩
def callT{l:ZE}{items:Array NM}(hL:s.heap.IsTuple l items)
  (h:∀h',IsEnum h' (s.heap.objs.size+1) s.heap.objs.size 0 .none->h'.IsTupleIter s.heap.objs.size l 0->h'.objs.size=s.heap.objs.size+2 →
   (∀b o,s.heap.get? b=ZA o->h'.get? b=ZA o)->Q (.ref (s.heap.objs.size+1)) {s with heap:=h'}):ZJ (ZK prog w) A (call (.type "enumerate") [.ref l]) Q E s:=by
 obtain⟨⟨cc,dc,dd,ss⟩,hl,hc,n,hd⟩:=hL
 replace hc:cc=.type "tuple":=hc
 replace hd:dd=.seq items n:=hd
 subst hc hd;refine callType_new F.called_enumerate (by decide) (F.typeCall_enumerate_1 _) (F.newCall_enumerate_1 _) (λobj=>F.args_object_init_2 obj _) F.entry_enumerate_new (newT l items n dc ss) ⟨hl,?_⟩
 have hz:(s.heap.push {cls:=.type "tuple_iterator",data:=.fields #[.ref l,.int 0 0]}).objs.size=s.heap.objs.size+1:=Qj ..
 show _/\_
 rw[hz]
 have he:IsEnum ((s.heap.push {cls:=.type "tuple_iterator",data:=.fields #[.ref l,.int 0 0]}).push
   {cls:=.type "enumerate",data:=.fields #[.none,.bool ZD,.ref s.heap.objs.size,rawInt 0,.none,.none]}) (s.heap.objs.size+1) s.heap.objs.size 0 .none:=by
  have q:=Oc (s.heap.push {cls:=.type "tuple_iterator",data:=.fields #[.ref l,.int 0 0]})
   (o:={cls:=.type "enumerate",data:=.fields #[.none,.bool ZD,.ref s.heap.objs.size,rawInt 0,.none,.none]}) rfl
  rw[hz]at q;exact q
 refine⟨⟨_,he,rfl⟩,h _ he ⟨_,NX _ (Oc _ rfl),rfl,rfl⟩ (by rw[Qj,hz]) λb o x=>NX _ (NX _ x)⟩
end Enu
namespace L2
open PySem PySem.Spec PyProof.Rows
variable{X:Cx}{fp:List ZE}{h':ZH}{t':Nat}
section
variable {ol:V2}{σ:L2.St}{H:Hp}{s:NQ}
def Inv.Nl{Tp:ZE}{xs:List V}(I:Inv X ol σ H s)(hf:∀b∈fp,qD X ol H b)(k:∀b o,b∉fp->s.heap.get? b=ZA o->h'.get? b=ZA o)
  (ht:∀b∈fp,∃o,h'.get? b=ZA o) (hT:s.heap.objs.size<=Tp) (new:ObjOk X.prog X.w (upd H Tp (.tup xs)) h' Tp (.tup xs)):Inv X ol σ (upd H Tp (.tup xs)) {s with heap:=h',toks:=t'}:=by
 have hn:H Tp=ZB:=I.hok.fresh hT
 have pO:∀b o,s.heap.get? b=ZA o->b≠Tp:=λb o e=>Pk (N8 (NZ e) hT)
 have nf:∀b u,H b=ZA u->b∉fp:=λb u e z=>by rw[(hf b z).1]at e;cases e
 refine I.step (g':=s.gens) (d':=s.drawn) (ch:=fp) (λb hb=>⟨(hf b hb).2.2.2.1,(hf b hb).2.1,(hf b hb).2.2.2.2.1,(hf b hb).2.2.2.2.2⟩) (λb o _ _ hc e _=>k b o hc e) (λb o _ _ hc e _=>⟨o.slots,k b o hc e⟩)
  (λb o _ e n=>by rw[aB (pO b o e)];exact n) (λb o hc e=>⟨o,k b o hc e⟩) (λb ys e=>by rw[aB (cw e hn)];exact e) (λb o u e=>by rw[aB (cw e hn)];exact e)
  (λb ps e=>⟨#[],by rw[aB (cw e hn),e];simp⟩) (λm hm=>?_) (λb u e=>?_) I.bare
 ·obtain⟨o,es,ep,ho,r⟩:=hm
  exact⟨o,es,ep,k _ o (λz=>(hf _ z).2.1 rfl) ho,r⟩
 ·by_cases hb:b=Tp
  ·subst hb;rw[aG]at e;cases e;exact new
  ·rw[aB hb]at e
   refine(I.hok b u e).M4 (λc v hc q=>k c v ?_ q) (λc q=>by rw[aB (cw q hn)];exact q) λc ys q=>by rw[aB (cw q hn)];exact q
   rcases hc with z|z
   ·rw[z];exact nf b u e
   ·exact nf c _ z
def Inv.M9(I:Inv X ol σ H s)(hf:∀b∈fp,qD X ol H b)(k:∀b o,b∉fp->s.heap.get? b=ZA o->h'.get? b=ZA o):Inv X ol σ H {s with heap:=h',toks:=t'}:=by
 have nf:∀b u,H b=ZA u->b∉fp:=λb u e z=>by rw[(hf b z).1]at e;cases e
 refine I.step (g':=s.gens) (d':=s.drawn) (ch:=fp) (λb hb=>⟨(hf b hb).2.2.2.1,(hf b hb).2.1,(hf b hb).2.2.2.2.1,(hf b hb).2.2.2.2.2⟩) (λb o _ _ hc e _=>k b o hc e) (λb o _ _ hc e _=>⟨o.slots,k b o hc e⟩)
  (λb o _ e n=>n) (λb o hc e=>⟨o,k b o hc e⟩) (λb ys e=>e) (λb o u e=>e)
  (λb ps e=>⟨#[],by rw[e];simp⟩) (λm hm=>?_) (λb u e=>?_) I.bare
 ·obtain⟨o,es,ep,ho,r⟩:=hm
  exact⟨o,es,ep,k _ o (λz=>(hf _ z).2.1 rfl) ho,r⟩
 ·refine(I.hok b u e).M4 (λc v hc q=>k c v ?_ q) (λc q=>q) λc ys q=>q
  rcases hc with z|z
  ·rw[z];exact nf b u e
  ·exact nf c _ z
end
def EL(K:NK)(H:Hp)(a:ZE)(tt:Bool)(xs:List V):Prop:=if tt then SqT K H a xs else SqL K H a xs
def MV(K:NK)(a:ZE)(tt:Bool):It:=
 ⟨λi H=>∃xs x,EL K H a tt xs/\xs[i]?=ZA x,λi H x H'=>∃p v,x=.ref p/\H p=ZB/\H'=upd H p (.tup [.int (i:Nat),v])/\∀xs,EL K H a tt xs->xs[i]?=ZA v,λi H=>∃xs,EL K H a tt xs/\xs.length<=i⟩
def itAt(tt:Bool)(h:ZH)(it a:ZE)(i:Nat):Prop:=if tt then h.IsTupleIter it a i else h.IsListIter it a i
variable{h:ZH}{i:Nat}{tt:Bool}
def itAt.obj{it a:ZE}(st:itAt tt h it a i):∃o,h.get? it=ZA o/\∀v,o.data≠ .cell v:=by
 cases tt with
 |true=>obtain⟨o,e,c,d⟩:=(show h.IsTupleIter it a i from st);exact⟨o,e,λv z=>by rw[d]at z;cases z⟩
 |false=>obtain⟨o,e,c,d⟩:=(show h.IsListIter it a i from st);exact⟨o,e,λv z=>by rw[d]at z;cases z⟩
def itAt.keep{it a:ZE}(st:itAt tt h it a i)(k:∀o,h.get? it=ZA o->h'.get? it=ZA o):itAt tt h' it a i:=by
 cases tt with
 |true=>obtain⟨o,e,r⟩:=(show h.IsTupleIter it a i from st);exact(show h'.IsTupleIter it a i from⟨o,k o e,r⟩)
 |false=>obtain⟨o,e,r⟩:=(show h.IsListIter it a i from st);exact(show h'.IsListIter it a i from⟨o,k o e,r⟩)
variable{elts:List ZG}{kk:Nat}{pos:Pos}
def Aq{P:Oa}{w:O0}{K:NK}(tt:Bool)(a e it:ZE)(hei:e≠it):
  Ez P w K (.Tuple elts kk pos) (MV K a tt) [e,it] e (λi h=>(∃old,IsEnum h e it i old)/\itAt tt h it a i) where
 mem:=by simp
 obj:=λi h st b hb=>by
  obtain⟨⟨old,he⟩,hi⟩:=st;rcases NT.mp hb with rfl|hb
  ·exact⟨_,he,λv z=>by have z':Data.fields _=Data.cell v:=z;cases z'⟩
  ·rw[N1.mp hb];exact hi.obj
 keep:=λi h h' st k=>by
  obtain⟨⟨old,he⟩,hi⟩:=st;exact⟨⟨old,k e (by simp) _ he⟩,hi.keep λo q=>k it (by simp) o q⟩
 item:=by
  intro X hP hw hK hc i ol s σ H E I hf st hg;subst hP hw hK;obtain⟨xs,x,hq,hx⟩:=hg;obtain⟨⟨old,he⟩,hi⟩:=st
  -- by what is walked
  have key:∀(its:List NM),Vals xs its->(∀ys,EL X.K H a tt ys->ys=xs)->∀(fp0:List ZE)(St:Nat->ZH->Prop),Draws X.prog X.w X.A.in1 it fp0 its.toArray.size (λi v=>its.toArray[i]?=ZA v) St->e∉fp0->it∈fp0->St i s.heap →
    (∀h',St (i+1) h'->itAt tt h' it a (i+1)) →
    ZJ (ZK X.prog X.w) X.A (pyNext (.ref e)) (λr s1=>∃u,r=ZA u/\ZJ (ZK X.prog X.w) X.A (Rl (.Tuple elts kk pos) (.ref e) u) (λ_ s2=>∃x' H',Inv X ol σ H' s2/\RelV x' u/\(MV X.K a tt).yld i H x' H' ∧
     ((∃old,IsEnum s2.heap e it (i+1:Nat) old)/\itAt tt s2.heap it a (i+1))/\∀b∈ [e,it],H' b=ZB) E s1) E s:=by
   intro its rv uniq fp0 St D hef hif hst hnext;obtain⟨u,hu,ru⟩:=rv.get hx
   have hlt:i<its.toArray.size:=by
    have:=(NW.mp hu).1
    simpa using this
   have W:=WalksT.enumerateD D e hei hef hif;refine W.item i s _ _ hlt ⟨⟨old,he⟩,hst⟩ λTp vals h1 tk hPt hTsz hTup hMid hk=>⟨.ref Tp,rfl,?_⟩
   refine W.go elts kk pos i Tp {s with heap:=h1,toks:=tk} _ _ hMid λh2 hst2 hk2=>?_
   obtain⟨t,x',hPx,hvals⟩:=hPt;subst hvals
   have hxe:x'=u:=by
    have h1':its.toArray[i]?=ZA x':=hPx
    have h2':its.toArray[i]?=ZA u:=by simpa using hu
    rw[h1']at h2';exact Oy h2'
   subst hxe
   have hTw:=W.apart i Tp h1 hMid;obtain⟨oT,eT,rT⟩:=hTup
   have eT2:h2.get? Tp=ZA oT:=hk2 Tp oT hTw eT
   have kAll:∀b o,b∉ [e,it]->s.heap.get? b=ZA o->h2.get? b=ZA o:=λb o hb q=>hk2 b o hb (hk b o hb q)
   obtain⟨⟨old2,he2⟩,hs2⟩:=hst2
   have hit2:=hnext h2 hs2
   have there:∀b∈ [e,it],∃o,h2.get? b=ZA o:=λb hb=>by
    rcases NT.mp hb with rfl|hb
    ·exact⟨_,he2⟩
    ·rw[N1.mp hb];obtain⟨o,q,_⟩:=hit2.obj;exact⟨o,q⟩
   have hn:H Tp=ZB:=I.hok.fresh hTsz
   have new:ObjOk X.prog X.w (upd H Tp (.tup [.int (i:Nat),x])) h2 Tp (.tup [.int (i:Nat),x]):=
    ⟨by show 2<=ZI;decide,[.int (i:Nat) t,x'],.cons ⟨t,rfl⟩ (.cons ru .nil),⟨oT,eT2,rT⟩⟩
   have I2:=I.Nl (t':=tk) hf kAll there hTsz new;refine⟨.ref Tp,_,I2,rfl,⟨Tp,x,rfl,hn,rfl,λys hy=>by rw[uniq ys hy];exact hx⟩,⟨⟨old2,he2⟩,hit2⟩,λb hb=>?_⟩
   have hbT:b≠Tp:=λz=>by
    obtain⟨o,q⟩:∃o,s.heap.get? b=ZA o:=by
     rcases NT.mp hb with rfl|hb
     ·exact⟨_,he⟩
     ·rw[N1.mp hb];obtain⟨o,q,_⟩:=hi.obj;exact⟨o,q⟩
    exact absurd (N8 (NZ q) hTsz) (by rw[z];exact Ot _)
   rw[aB hbT];exact(hf b hb).1
  have hne:∀b∈ [e,it],a≠b:=λb hb z=>by
   have hb':=(hf b hb).1;rw[<-z]at hb'
   have hbs:=hf b hb
   cases tt with
   |true=>
    have hq':SqT X.K H a xs:=hq;rcases hq' with(q|⟨o,q⟩)|⟨o,its,n,q,_⟩
    ·rw[hb']at q;cases q
    ·rw[hb']at q;cases q
    ·rcases hbs.2.2.2.1 with z1|z1
     ·exact I.ok.noex a o (I.ok.mod.kin a o q) (z▸z1)
     ·exact absurd (N8 (NZ (I.ok.bs a o (I.ok.mod.kin a o q)).1) (z▸z1)) (Ot _)
   |false=>
    have hq':SqL X.K H a xs:=hq;rcases hq' with(q|⟨o,q⟩)|⟨o,its,n,q,_⟩
    ·rw[hb']at q;cases q
    ·rw[hb']at q;cases q
    ·rcases hbs.2.2.2.1 with z1|z1
     ·exact I.ok.noex a o (I.ok.mod.kin a o q) (z▸z1)
     ·exact absurd (N8 (NZ (I.ok.bs a o (I.ok.mod.kin a o q)).1) (z▸z1)) (Ot _)
  have hea:e≠a:=λz=>hne e (by simp) z.symm
  have hia:it≠a:=λz=>hne it (by simp) z.symm
  cases tt with
  |true=>
   have hq':SqT X.K H a xs:=hq;obtain⟨its,rv,p,hz⟩:=I.tuple hq'
   exact key its rv (λys hy=>I.M6 hy hq') _ _ (Enu.tupDraws (A:=X.A.in1) (I.ok.hd hc) it a (O6 hia) its.toArray) (by simp[hei,hea]) (by simp) ⟨hi,p⟩ λh' z=>z.1
  |false=>
   have hq':SqL X.K H a xs:=hq;obtain⟨its,rv,p,hz⟩:=I.list hq';exact key its rv (λys hy=>I.Nd hy hq') _ _ (Draws.list (A:=X.A.in1) (I.ok.hd hc) it a (O6 hia) its.toArray) (by simp[hei,hea]) (by simp) ⟨hi,p.isList⟩ λh' z=>z.1
 done:=by
  intro X hP hw hK hc i ol s σ H E I hf st hg;subst hP hw hK;obtain⟨xs,hq,hx⟩:=hg;obtain⟨⟨old,he⟩,hi⟩:=st
  have fin:∀h',Heap.ExtBut it s.heap h'->(ZB:Option NM)=ZB/\Inv X ol σ H {s with heap:=h'}:=λh' eb=>⟨rfl,I.M9 (t':=s.toks) hf λb o hb q=>eb b o (λz=>hb (by simp[z])) q⟩
  cases tt with
  |true=>
   have hq':SqT X.K H a xs:=hq;obtain⟨its,rv,p,hz⟩:=I.tuple hq'
   have hl:=rv.length
   have hnone:its.toArray[i]?=ZB:=by simp;omega
   have hT:s.TypeIs (.ref e) "enumerate":=⟨_,he,rfl⟩;unfold pyNext;refine NS (wpAny_attempt (PX (name:=N7 "__next__") hT SS (Q7 SS hT F.entry_enumerate_next ?_ (F.args_enumerate_next_1 _))))
   show ZJ (ZK X.prog X.w) _ (field (.ref e) 2 >>= _) _ _ _
   refine NS (Qn he rfl (x:=.ref it) rfl ?_)
   refine NS (Enu.tupStop (I.ok.hd hc) hi p hnone λh' x he' hx'=>?_)
   obtain⟨o,ho,hcl⟩:=hx'
   exact NS (wpAny_isInstance (T:="StopIteration") (b:=ZC) ⟨o,ho,hcl⟩ isSubtype_stop (N5 (fin h' he')))
  |false=>
   have hq':SqL X.K H a xs:=hq;obtain⟨its,rv,p,hz⟩:=I.list hq'
   have hl:=rv.length
   have hnone:its.toArray[i]?=ZB:=by simp;omega
   exact wpAny_pyNext_enum_end (I.ok.hd hc) he hi p.isList hnone fin
 self:=λ_ _ _ _ _ st h=>by
  obtain⟨⟨old,he⟩,_⟩:=st;exact Uy he h
section
variable {tpos:Pos}
def qw:OK "enumerate" =ZA (.type "enumerate"):=by decide+kernel
def iEnu(K:NK)(tl:TA):TI:=λσ H R=>tl σ H λvs H1=>∃a tt,vs=[.ref a]/\(∃xs,EL K H1 a tt xs)/\R (MV K a tt) H1
def FZ{l:ZG}{tl:TA}{p:Pos}(hg:Gl X "enumerate")(hm:X.mg "enumerate" =ZB)(hl:PA X [l] tl)(hs:NY [l] X.env=[(ZD,eval l X.env)]:=by rfl):PI X (.Tuple elts kk tpos) (.Call (.Name "enumerate" p) [l] [] pos) (iEnu X.K tl):=by
 intro ol s σ H R I h;refine Call_ (gU I hg hm qw (Pb (bS (hl pos ol s σ H _ I h) λus s1 ⟨vs,H1,I1,r1,q1⟩=>?_) hs rfl))
 obtain⟨a,tt,e,⟨xs,hq⟩,q⟩:=q1;subst e;obtain⟨u,rfl,ru⟩:=kQ r1;cases ru
 have fin:∀h',IsEnum h' (s1.heap.objs.size+1) s1.heap.objs.size 0 .none->itAt tt h' s1.heap.objs.size a 0->h'.objs.size=s1.heap.objs.size+2->(∀b o,s1.heap.get? b=ZA o->h'.get? b=ZA o) →
   ZJ (ZK X.prog X.w) X.A (pyIter (.ref (s1.heap.objs.size+1))) (PIE X ol σ (.Tuple elts kk tpos) R) X.xe {s1 with heap:=h'}:=λh' he hi hsz hk=>by
  refine Uy he ?_
  have I2:Inv X ol σ H1 {s1 with heap:=h'}:=I1.kept (t':=s1.toks) hk
  refine⟨s1.heap.objs.size+1,[s1.heap.objs.size+1,s1.heap.objs.size],_,_,H1,rfl,I2,Aq tt a (s1.heap.objs.size+1) s1.heap.objs.size (Nat.succ_ne_self _),⟨⟨_,he⟩,hi⟩,λb hb=>?_,q⟩
  rcases NT.mp hb with rfl|hb
  ·exact I1.Nj (by omega) (I1.hok.fresh (by omega))
  ·rw[N1.mp hb];exact I1.Nj (N4 _) (I1.hok.fresh (N4 _))
 cases tt with
 |true=>
  have hq':SqT X.K H1 a xs:=hq;obtain⟨its,rv,pl,hz⟩:=I1.tuple hq'
  exact Enu.callT pl λh' he hi hsz hk=>fin h' he hi hsz hk
 |false=>
  have hq':SqL X.K H1 a xs:=hq;obtain⟨its,rv,pl,hz⟩:=I1.list hq';exact call_enumerate_list pl.isList λh' he hi hsz hk=>fin h' he hi hsz hk
end
end L2
namespace Tr
open PySem PySem.Spec PyProof.Rows L2
section
variable {X:Cx}{a:ZG}{fa:V5}{fs:V3}{p pos:Pos}
def iS(f:V5)(Z:En):Rs (List T):=do
 let x <-f Z
 match x with
 |.lst l=>.ok l
 |.tup l=>.ok l
 |_=>.bad
def IL{tg:ZG}(ha:cz X a fa):Bs X tg a (iS fa):=by
 intro ol s σ H R I ⟨Z,O,E,h⟩;unfold iS at h
 cases q:fa Z with
 |bad=>rw[q]at h;exact h.elim
 |err c=>exact zh ha ol s σ H R I ⟨Z,O,E,by unfold iL;rw[q]at h ⊢;exact h⟩
 |ok x=>
  rw[q,ay]at h
  cases x with
  |lst l=>exact zh ha ol s σ H R I ⟨Z,O,E,by unfold iL;rw[q];exact h⟩
  |tup l=>exact IK ha ol s σ H R I ⟨Z,O,E,by unfold iT;rw[q];exact h⟩
  |_=>exact h.elim
def cQ:Nat->List T->List T
 |_,[] =>[]
 |n,t::r=>.tup [.int n,t] ::cQ (n+1) r
theorem sr:∀(l:List T)(n i:Nat),(cQ n l)[i]?=(l[i]?).map λt=>T.tup [.int ((n+i:Nat):Int),t]
 |[],n,i=>by simp[cQ]
 |t::l,n,0=>by simp[cQ]
 |t::l,n,i+1=>by
  rw[cQ,Pv,sr l (n+1) i,Pv]
  congr 2
  funext t
  congr 4
  omega
theorem sk:∀(l:List T)(n:Nat),(cQ n l).length=l.length
 |[],n=>rfl
 |t::l,n=>by rw[cQ,NU,NU,sk l]
noncomputable def iE(f:V3)(Z:En):Rs (List T):=do
 let xs <-f Z
 match xs with
 |[x] =>match x.items with
  |some l=>.ok (cQ 0 l)
  |none=>.bad
 |_=>.bad
def FG{elts:List ZG}{kk:Nat}{tpos:Pos}(hm:X.mg "enumerate" =ZB)(ha:qC X [a] fs)(hg:Gl X "enumerate":=by rfl)(hs:NY [a] X.env=[(ZD,eval a X.env)]:=by rfl):
  Bs X (.Tuple elts kk tpos) (.Call (.Name "enumerate" p) [a] [] pos) (iE fs):=PI.imp (FZ hg hm ha hs) λσ H R hh_=>by
 obtain⟨Z,O,E,h⟩:=hh_;obtain⟨Z1,O1,E1,h1⟩:=gL E h;refine⟨Z1,O1,E1,Post.mono h1 λts H1 s1 q vs r=>?_⟩
 obtain⟨t',r',s',E',q'⟩:=q vs r
 split at q'
 ·rename_i x0
  obtain⟨v,rfl,rv⟩:=r'.one
  split at q'
  ·rename_i l hl
   have main:∀(aa:ZE)(tt:Bool)(ws:List V),v=.ref aa->¬ O aa->Reps X.K O H1 l ws->EL X.K H1 aa tt ws->(∀P Hc,SameO P H1 Hc->¬ P aa->EL X.K Hc aa tt ws)->¬ Nw X.K H1 aa →
     ∃a tt,[v]=[V.ref a]/\(∃xs,EL X.K H1 a tt xs)/\R (MV X.K a tt) H1:=λaa tt ws e n z sq mv nn=>by
    refine⟨aa,tt,by rw[e],⟨ws,sq⟩,q' H1 (Same.refl H1) _ λP O' hP hO i Hc hsm htr=>?_⟩
    have hnP:¬ P aa:=λy=>(hP aa y).elim n nn
    have sqc:=mv P Hc hsm hnP;refine⟨λhi=>⟨ws,sqc,by rw[<-z.length,<-sk l 0];exact hi⟩,λt ht=>?_⟩
    rw[sr]at ht
    cases e1:l[i]? with
    |none=>rw[e1]at ht;cases ht
    |some t0=>
     rw[e1]at ht;cases ht;obtain⟨v0,f1,f2⟩:=z.get e1;refine⟨⟨ws,v0,sqc,f1⟩,λx Hc' y=>?_⟩
     obtain⟨pp,vv,e2,hpn,e3,hy⟩:=y
     have:=hy ws sqc;rw[f1]at this;cases this;subst e2 e3;refine⟨bj hpn _,iN hpn (λzz=>?_) (Reps.FS (by simpa using Rep.Gc _) (Reps.FS (f2.move hP hO hsm) Reps.GE))⟩
     obtain⟨o,w⟩:=htr pp zz;rw[hpn]at w;cases w
   cases x0 with
   |tup m=>
    cases hl;obtain⟨aa,ws,e,n,qq,z⟩:=Rep.Fk.mp rv
    exact main aa ZC ws e n z (show SqT X.K H1 aa ws from SqT.of qq) (λP Hc hsm hn=>show SqT X.K Hc aa ws from SqT.of (hsm _ _ qq hn)) λw=>by rw[w.1]at qq;cases qq
   |lst m=>
    cases hl;obtain⟨aa,ws,e,n,qq,z⟩:=Rep.Do.mp rv
    exact main aa ZD ws e n z (show SqL X.K H1 aa ws from SqL.of qq) (λP Hc hsm hn=>show SqL X.K Hc aa ws from SqL.of (hsm _ _ qq hn)) λw=>by rw[w.1]at qq;cases qq
   |scr m=>
    cases hl;unfold Rep at rv;obtain⟨aa,e,n,qq⟩:=rv
    exact main aa ZD _ e n Reps.ints (show SqL X.K H1 aa _ from qq) (λP Hc hsm hn=>show SqL X.K Hc aa _ from Tr.SqL.keep hsm hn qq) (Tr.SqL.nn qq)
   |_=>cases hl
  ·exact q'.elim
 ·exact q'.elim
end
end Tr
namespace Tm
open PySem PyProof.Rows
def mT:fillsNumberSlot (.type "tuple") "mul" =pure ZD:=
 PySem.fillsNumberSlot_seq (id:="tuple.__mul__") (r:=ZA (.builtin "tuple.__rmul__")) SE.lookup (by decide+kernel) Uo.lookup (by decide+kernel)
def tM:seqRepeat? (.type "tuple")=pure (ZA (.builtin "tuple.__mul__")):=by
 unfold seqRepeat?;rw[UQ (T:="tuple") (name:="__mul__") (id:="tuple.__mul__") SE.lookup (by decide+kernel),UQ (T:="tuple") (name:="__rmul__") (id:="tuple.__rmul__") Uo.lookup (by decide+kernel)]
 rfl
def xY(a:Int)(t:Tok)(l:ZE)(items:Array NM)(n:Nat)(dd:Option ZE)(sl:Array (Option NM)):
  Meets (Builtin.«int.__rmul__» ⟨[.int a t,.ref l],[]⟩) (λ_ R s=>s.heap.get? l=ZA {cls:=.type "tuple",dict:=dd,data:=.seq items n,slots:=sl}/\R (.ok (.ret Value.notImplemented)) s):=
 .of_wp λprog w A R s h=>by obtain⟨hp,g,d,tk,os⟩:=s;obtain⟨hl,h⟩:=h;wp_walk;exact⟨_,rfl,h⟩
open AutoSeq1 (wpAny_loadPart')
def C2(l:ZE)(items:Array NM)(n:Nat)(dd:Option ZE)(sl:Array (Option NM))(x:Int)(u:Tok)(h1:1<x)(h2:x<2 ^ 31)(hne:items.isEmpty=ZD)(hz:items.size*x.toNat<=ZI)
  (hz2:(Sm (λa b=>a++b) #[] (Ob x.toNat items)).size<=ZI):
  Meets (Builtin.«tuple.__mul__» ⟨[.ref l,.int x u],[]⟩) (λ_ R s=>s.heap.get? l=ZA {cls:=.type "tuple",dict:=dd,data:=.seq items n,slots:=sl} ∧
   R (.ok (.ret (N3 s.heap.objs.size))) {s with heap:=s.heap.push {cls:=Rr "tuple",data:=Data.seq (Sm (λa b=>a++b) #[] (Ob x.toNat items))}}):=
 .of_wp λprog w A R s h=>by
  obtain⟨hp,g,d,tk,os⟩:=s;obtain⟨hl,h⟩:=h
  have hT:Vm hp l items:=⟨_,hl,rfl,n,rfl⟩
  have hx:((items.size:Nat):Int)*x=((items.size*x.toNat:Nat):Int):=by
   have e:x=((x.toNat:Nat):Int):=by omega
   rw[Int.natCast_mul,<-e]
  wp_walk using Qu hl
  rw[if_neg (by simp;omega)]
  refine NS (Uc (s:=⟨hp,g,d,tk,os⟩) hT ?_)
  dsimp only
  rw[if_neg (by rw[hne];simp;omega),if_neg (by rw[hne];simp;omega),hx,if_neg (by have:(ZI:Nat)<=1000000000:=(by decide);omega),if_neg (by unfold Builtin.Tuple.tupleTooMany;rw[decide_eq_true_iff];omega)]
  refine NS (m:=PQ _) (PJ ?_ hz2)
  exact N5 ⟨_,rfl,h⟩
section
variable {prog:Oa}{w:O0}{A:Ou}{E:V1}{s:NQ}
def mul_tuple{t:ZE}{vs:List NM}{k:Int}{tk:Tok}{Q:V1}(ht:Vm s.heap t vs.toArray)(h1:1<k)(h2:k<2 ^ 31)(hv:vs≠ [])(hz:vs.length*k.toNat<=ZI)
  (h:Q (.ref s.heap.objs.size) {s with heap:=s.heap.push {cls:=.type "tuple",data:=.seq (Ob k.toNat vs).flatten.toArray}}):
  ZJ (ZK prog w) A (PM .Mult (.ref t) (.int k tk)) Q E s:=by
 obtain⟨⟨cls,dd,data,sl⟩,ho,hc,n,hd⟩:=id ht;simp only at hc hd;subst hc hd
 have e:Sm (λa b=>a++b) #[] (Ob k.toNat vs.toArray)=(Ob k.toNat vs).flatten.toArray:=by
  have q:=L2.foldl_rep vs k.toNat []
  simpa using q
 refine Sd (T:="tuple") (U:="int") (by decide) ⟨_,ho,rfl⟩ (λs'=>Tc s' k tk) mT U6 RS tM UN.lookup
  (Q0 RS (Tc s k tk) UO (Uk _ _) (xY k tk t vs.toArray n dd sl)
   ⟨ho,rfl,⟨_,ho,rfl⟩,Q0 SE ⟨_,ho,rfl⟩ F.entry_tuple_mul (F.args_tuple_mul_2 _ _) (C2 t vs.toArray n dd sl k tk h1 h2 (by simpa using hv) (by simpa using hz) (by rw[e,N6,L2.len_rep,UE];exact hz)) ⟨ho,?_⟩⟩)
 rw[e];exact h
end
end Tm
namespace Tr
open PySem PySem.Spec PyProof.Rows L2
variable{X:Cx}
noncomputable def b6(x y:T):Rs T:=match x,y with
 |.tup l,.int k=>if 1<k/\k<2 ^ 31/\l≠ []/\l.length*k.toNat<=ZI then .ok (.tup (Ob k.toNat l).flatten)else .bad
 |x,y=>yj x y
instance (l:List T):Decidable (l≠ []):=by cases l <;> simp <;> infer_instance
def dh:OpT X (PM .Mult) b6:=by
 intro ol s σ H O x y vx vy ux uy Q I hf rx ry r1 r2 hp;unfold b6 at hp
 split at hp
 ·rename_i l k
  split at hp
  ·rename_i h
   obtain⟨a,vs,e1,n1,q1,z1⟩:=Rep.Fk.mp rx;subst e1;cases Rep.AC.mp ry;cases r1;obtain⟨tk,rfl⟩:=r2;obtain⟨its,rv,pl,hz⟩:=I.tuple (SqT.of q1)
   have hl1:=z1.length
   have hl2:=rv.length
   have hne:its≠ []:=λz=>h.2.2.1 (List.eq_nil_of_length_eq_zero (by rw[hl1,hl2,z];rfl))
   refine Tm.mul_tuple pl h.1 h.2.1 hne (by rw[<-hl2,<-hl1];exact h.2.2.2) ?_
   have hn:=I.hok.fresh (N4 _);refine⟨.ref _,_,I.laid (t':=s.toks) (o:=.tup (Ob k.toNat vs).flatten) (λb ob q=>NX _ q) (N4 _) ?_,rfl,hp _ (bj hn _) _ (iN hn (hf _ hn) (z1.rep _))⟩
   refine⟨?_,_,rv.rep k.toNat,U4 _ _⟩
   rw[len_rep,UE,<-hl1];exact h.2.2.2
  ·exact hp.elim
 ·exact Jg ol s σ H O _ _ vx vy ux uy Q I hf rx ry r1 r2 hp
noncomputable def JC(outer:List (Str×QY))(N:List Str)(names:List (Str×QY))(N':List Str)(src:List (Option Nat)):Bool:=
 names.all (λy=>y.2 != .cell||names.lookup y.1 == ZA .cell)&&names.all (λy=>y.2 != .local||names.lookup y.1 == ZA .local)&&src.length == N'.length&&
 (OI N'.length).all (λj=>match src[j]? with
  |some (ZA i)=>match N'[j]? with
   |some x=>N[i]? == ZA x&&names.lookup x == ZA .free
   |none=>ZC
  |_=>ZC)&&
 names.all (λy=>y.2 != .free||(outer.lookup y.1 == ZA .cell||outer.lookup y.1 == ZA .free))
theorem LcScope.by{X:Cx}{scope:Q8}{N N':List Str}{src:List (Option Nat)}{names:List (Str×QY)}(hN:X.N=N)(hs:X.env.scope.names=names)(hk:scope.kind=.function)(h:JC names N scope.names N' src=ZC):LcScope X scope N' src:=by
 unfold JC at h;simp only[NN]at h;obtain⟨⟨⟨⟨h1,h2⟩,h3⟩,h4⟩,h5⟩:=h
 have a1:=Od.mp h1
 have a2:=Od.mp h2
 have a4:=Od.mp h4
 have a5:=Od.mp h5;refine⟨hk,λy hy hl=>by have:=a1 y hy;rw[hl]at this;simpa using this,λy hy hl=>?_,by simpa using h3,λj i x e1 e2=>?_,λx hx=>?_⟩
 ·have:=a2 y hy
  rw[hl]at this
  simpa using this
 ·have hj:j<N'.length:=(NW.mp e2).1
  have:=a4 j (Pr.mpr hj);rw[e1]at this;simp only[e2]at this;rw[NN]at this;rw[hN];exact⟨by simpa using this.1,by simpa using this.2⟩
 ·have:=a5 _ hx
  simp only[bne_self_eq_false,Sz,RU]at this
  show X.env.scope.names.lookup x=_\/X.env.scope.names.lookup x=_
  rw[hs];rcases this with z|z
  ·exact .inl (by simpa using z)
  ·exact .inr (by simpa using z)
def br:ZG->Bool
 |.Starred .. =>ZD
 |_=>ZC
def bF:List ZG->Bool
 |[] =>ZC
 |e::r=>br e&&bF r
variable{e:ZG}{es:List ZG}
def bp{env:Env}(h:br e=ZC):NY (e::es) env=(ZD,eval e env)::NY es env:=by
 cases e <;> first|rfl|cases h
theorem eY{pos:Pos}{env:Env}:∀{es:List ZG},bF es=ZC->(backTo pos (NY es env)).any (·.1)=ZD
 |[],_=>rfl
 |e::r,h=>by
  unfold bF at h;rw[NN]at h;rw[bp h.1]
  have ih:=eY (pos:=pos) (env:=env) h.2
  show(ZD||(backTo pos (NY r env)).any (·.1))=ZD
  rw[ih];rfl
variable{Ty:String}{f fa:V5}{g:List T->Rs T}{k n:Nat}{x:Str}
section
variable {a b:ZG}{fs:V3}{pos p p2:Pos}
def qa_c{g:V3}(he:cz X e f)(hr:qC X es g)(hn:br e=ZC:=by rfl):qC X (e::es) (ae f g):=FJ he hr (bp hn)
def q_cB{id:String}(hc:CallT X (.builtin id) g)(hm:X.mg x=ZB)(hv:OK x=ZA (.builtin id))(ha:qC X (e::es) fs)(hn:bF (e::es)=ZC:=by rfl)(hg:Gl X x:=by rfl)(h1:x≠ "__name__":=by decide)(h2:eO x:=by decide):
  cz X (.Call (.Name x p) (e::es) [] pos) (cl g fs):=by
 unfold bF at hn;rw[NN]at hn;exact FO hc hm hv ha hg h1 h2 (bp hn.1) (eY hn.2)
def q_cT(hc:CallT X (.type Ty) g)(hm:X.mg x=ZB)(hv:OK x=ZA (.type Ty))(ha:qC X (e::es) fs)(hn:bF (e::es)=ZC:=by rfl)(hg:Gl X x:=by rfl)(h1:x≠ "__name__":=by decide)(h2:eO x:=by decide):
  cz X (.Call (.Name x p) (e::es) [] pos) (cl g fs):=by
 unfold bF at hn;rw[NN]at hn;exact Co hc hm hv ha hg h1 h2 (bp hn.1) (eY hn.2)
def q_c{f:ZE}{fd:Ox}{ps:List Str}(F:EF X.prog X.w X.K X.mg X.base k f fd ps n g)(hr:Room k X.A)(hm:X.mg x=ZA (.ref f))(hk:PL X.K (.ref f)=ZC)(hb:Binds X.K fd ps [])
  (hl:∀Z ts,fs Z=.ok ts->ts.length=n) (ha:qC X (e::es) fs) (hps:ps.length=n:=by rfl) (hn:bF (e::es)=ZC:=by rfl) (hg:Gl X x:=by rfl) (h2:eO x:=by decide):cz X (.Call (.Name x p) (e::es) [] pos) (cl g fs):=by
 unfold bF at hn;rw[NN]at hn;exact IT F hr hm hk hb hps hl ha hg h2 (bp hn.1) (eY hn.2)
def q_is{tn:Str}(hm:X.mg "isinstance" =ZB)(hmt:X.mg tn=ZB)(hv:OK tn=ZA (.type Ty))(ha:cz X a fa)(hn:br a=ZC:=by rfl)(hg:Gl X "isinstance":=by rfl)(hgt:Gl X tn:=by rfl)
  (h1:tn≠ "__name__":=by decide) (h2:eO tn:=by decide):cz X (.Call (.Name "isinstance" p) [a,.Name tn p2] [] pos) (o1 (Gz Ty) fa):=
 Ln hm hmt hv ha hg hgt h1 h2 (bp hn) (eY rfl) (bp rfl)
end
def xp(Z:En)(ts:List T)(h:ai Z=.ok ts):ts.length=0:=by cases h;rfl
def xo{g:V3}(hg:∀Z ts,g Z=.ok ts->ts.length=n)(Z:En)(ts:List T)(h:ae f g Z=.ok ts):ts.length=n+1:=by
 unfold ae at h
 cases q:f Z with
 |bad=>rw[q]at h;cases h
 |err c=>rw[q]at h;cases h
 |ok t=>
  rw[q,ay]at h
  cases q2:g Z with
  |bad=>rw[q2]at h;cases h
  |err c=>rw[q2]at h;cases h
  |ok r=>
   rw[q2,ay]at h;cases h;rw[NU,hg Z r q2]
variable{A:Ou}
def jz(h:Room k A):A.units+60<cLine:=by have:=h.un;omega
def GA(h:Room k A):A.units+61<cLine:=by have:=h.un;omega
structure Fn (K:NK)(mg:V0)(x:Str)(st:ZF)(ps:List Str)(f:ZE)(fd:Ox):Prop where
 fn:L2.Fun K x x st f fd
 bd:Binds K fd ps []
 mg:mg x=ZA (.ref f)
def val(n m:Nat)(F:V4)(ts:List T):Rs T:=if ts.length=n then bR F (aQ m ts)else .bad
def HY{m:Nat}{F:V4}{ts:List T}{t:T}(h:val n m F ts=.ok t):bR F (aQ m ts)=.ok t:=by
 unfold val at h
 split at h
 ·exact h
 ·cases h
variable{H:Hp}{K:NK}{a:ZE}
def sp_script{ns:List Int}{E:XK}(hS:SqL K H a (ns.map V.int))(h:g [.scr ns]=.ok (.bl ZC)):spP K 1 g [.ref a] H (λv _=>v=.bl ZC) E:=by
 refine⟨[.scr ns],λ_=>False,Reps.FS ?_ Reps.GE,λ_ z=>z.elim,rfl,?_⟩
 ·unfold Rep;exact⟨a,rfl,λz=>z,hS⟩
 ·rw[h];exact λv H' _ r=>Rep.FM.mp r
variable{i:Nat}
def vF{α:Type}{l:List α}{z:α}(h:l[i]?=ZA z):l.set i z=l:=by
 obtain⟨hi,rfl⟩:=NW.mp h
 exact SU hi
def Mn.set(M:Mn)(i:Nat)(m:Ow):Mn:=λj=>if j=i then m else M j
variable{M:Mn}{m:Ow}
def Mn.KF(h:(M.set i m).u a):m a\/M.u a:=by
 obtain⟨j,h⟩:=h;unfold Mn.set at h
 by_cases z:j=i
 ·rw[if_pos z]at h;exact .inl h
 ·rw[if_neg z]at h;exact .inr ⟨j,h⟩
def Mn.MZ:M.set i m i=m:=by unfold Mn.set;rw[if_pos rfl]
def Mn.Na{j:Nat}(h:j≠i):M.set i m j=M j:=by unfold Mn.set;rw[if_neg h]
theorem RowsR.move{K:NK}{O O' P:Ow}{H H':Hp}(hP:∀a,P a->O a\/Nw K H a)(hO:∀a,O' a->O a\/Nw K H a)(h:SameO P H H'):∀{rs:List (List T×List T)}{as:List ZE},(∀b∈as,¬P b)->RowsR K O H rs as->RowsR K O' H' rs as
 |[],_,_,r=>r
 |_::_,_,hb,⟨b,bs,kvs,e1,e2,e3,e4,e5⟩=>by
  subst e1;exact⟨b,bs,kvs,rfl,h _ _ e2 (hb b NP),e3,e4.move hP hO h,e5.move hP hO h λc hc=>hb c (NL _ hc)⟩
theorem LsR.move{K:NK}{O O' P:Ow}{H H':Hp}(hP:∀a,P a->O a\/Nw K H a)(hO:∀a,O' a->O a\/Nw K H a)(h:SameO P H H'):∀{rs:List (List T)}{as:List ZE},(∀b∈as,¬P b)->LsR K O H rs as->LsR K O' H' rs as
 |[],_,_,r=>r
 |_::_,_,hb,⟨b,bs,vs,e1,e2,e4,e5⟩=>by
  subst e1;exact⟨b,bs,vs,rfl,h _ _ e2 (hb b NP),e4.move hP hO h,e5.move hP hO h λc hc=>hb c (NL _ hc)⟩
theorem ORep.move{K:NK}{O O' P M:Ow}{H H':Hp}{o:OT}{v:V}(hP:∀a,P a->O a\/Nw K H a)(hO:∀a,O' a->O a\/Nw K H a)(h:SameO P H H')(hM:∀a,M a->¬ P a)(r:ORep K O M H o v):ORep K O' M H' o v:=by
 cases o with
 |lst l=>obtain⟨a,vs,e1,e2,e3,e4⟩:=r;exact⟨a,vs,e1,e2,h _ _ e3 (hM a ((e2 a).mpr rfl)),e4.move hP hO h⟩
 |dct ks ts=>obtain⟨a,kvs,e1,e2,e3,e4,e5⟩:=r;exact⟨a,kvs,e1,e2,h _ _ e3 (hM a ((e2 a).mpr rfl)),e4,e5.move hP hO h⟩
 |dd ks rows=>
  obtain⟨a,kvs,as,e1,e2,e3,e4,e5,e6,e7,e8⟩:=r
  exact⟨a,kvs,as,e1,e2,e3,e4,h _ _ e5 (hM a ((e2 a).mpr (.inl rfl))),e6,e7,e8.move hP hO h λb hb=>hM b ((e2 b).mpr (.inr hb))⟩
 |ob C ns ls=>
  obtain⟨a,dx,as,e1,e2,e3,e4,e5,e6,e7,e8⟩:=r;exact⟨a,dx,as,e1,e2,e3,h _ _ e4 (hM a ((e2 a).mpr (.inl rfl))),h _ _ e5 (hM dx ((e2 dx).mpr (.inr (.inl rfl)))),e6,e7,e8.move hP hO h λb hb=>hM b ((e2 b).mpr (.inr (.inr hb)))⟩
theorem RowsR.mtb{K:NK}{O:Ow}{H:Hp}:∀{rs:List (List T×List T)}{as:List ZE},RowsR K O H rs as->∀b∈as,∃kvs,H b=ZA (.dT kvs)
 |[],_,r,b,hb=>by unfold RowsR at r;subst r;simp at hb
 |_::_,_,⟨b0,bs,kvs,e1,e2,e3,e4,e5⟩,b,hb=>by
  subst e1;rcases NT.mp hb with rfl|hb
  ·exact⟨kvs,e2⟩
  ·exact e5.mtb b hb
theorem LsR.mtb{K:NK}{O:Ow}{H:Hp}:∀{rs:List (List T)}{as:List ZE},LsR K O H rs as->∀b∈as,∃vs,H b=ZA (.lst vs)
 |[],_,r,b,hb=>by unfold LsR at r;subst r;simp at hb
 |_::_,_,⟨b0,bs,kvs,e1,e2,e4,e5⟩,b,hb=>by
  subst e1;rcases NT.mp hb with rfl|hb
  ·exact⟨kvs,e2⟩
  ·exact e5.mtb b hb
def LO(H:Hp)(a:ZE):Prop:=(∃vs,H a=ZA (.lst vs))\/∃o,H a=ZA o/\isO o=ZC
def OT.isD:OT->Bool
 |.lst _=>ZD
 |.ob _ _ _=>ZD
 |_=>ZC
variable{O:Ow}{v:V}
def ORep.kind{M:Ow}{o:OT}(r:ORep K O M H o v):∀a,M a->if o.isD then ∃kvs,H a=ZA (.dT kvs)else LO H a:=λa z=>by
 cases o with
 |lst l=>obtain⟨b,vs,e1,e2,e3,e4⟩:=r;cases (e2 a).mp z;exact .inl ⟨vs,e3⟩
 |dct ks ts=>obtain⟨b,kvs,e1,e2,e3,e4,e5⟩:=r;cases (e2 a).mp z;exact⟨kvs,e3⟩
 |dd ks rows=>
  obtain⟨b,kvs,as,e1,e2,e3,e4,e5,e6,e7,e8⟩:=r
  rcases(e2 a).mp z with z|z
  ·cases z;exact⟨kvs,e5⟩
  ·exact e8.mtb a z
 |ob C ns ls=>
  obtain⟨b,dx,as,e1,e2,e3,e4,e5,e6,e7,e8⟩:=r
  rcases(e2 a).mp z with z|z|z
  ·cases z;exact .inr ⟨_,e4,rfl⟩
  ·cases z;exact .inr ⟨_,e5,rfl⟩
  ·exact .inl (e8.mtb a z)
def ORep.mtb{M:Ow}{o:OT}(r:ORep K O M H o v)(a:ZE)(z:M a):Mtb H a:=by
 have:=r.kind a z
 split at this
 ·exact .inr (.inl this)
 ·exact this.imp_right .inr
theorem vN{K:NK}{O:Ow}{H:Hp}:∀{rs:List (List T×List T)}{as:List ZE},(∀b∈as,¬O b)->RowsR K O H rs as->Reps K O H (rs.map λr=>T.dct r.1 r.2) (as.map V.ref)
 |[],_,_,r=>by unfold RowsR at r;subst r;exact Reps.GE
 |_::_,_,hn,⟨b,bs,kvs,e1,e2,e3,e4,e5⟩=>by
  subst e1;exact Reps.FS (Rep.IR.mpr ⟨b,kvs,rfl,hn b NP,.inl e2,e3,e4⟩) (vN (λc hc=>hn c (NL _ hc)) e5)
theorem RowsR.less{K:NK}{O O':Ow}{H:Hp}(sub:∀a,O' a->O a):∀{rs:List (List T×List T)}{as:List ZE},RowsR K O H rs as->RowsR K O' H rs as
 |[],_,r=>r
 |_::_,_,⟨b,bs,kvs,e1,e2,e3,e4,e5⟩=>⟨b,bs,kvs,e1,e2,e3,e4.less sub,e5.less sub⟩
theorem LsR.less{K:NK}{O O':Ow}{H:Hp}(sub:∀a,O' a->O a):∀{rs:List (List T)}{as:List ZE},LsR K O H rs as->LsR K O' H rs as
 |[],_,r=>r
 |_::_,_,⟨b,bs,kvs,e1,e2,e4,e5⟩=>⟨b,bs,kvs,e1,e2,e4.less sub,e5.less sub⟩
theorem LsR.rep{K:NK}{O:Ow}{H:Hp}:∀{rs:List (List T)}{as:List ZE},(∀b∈as,¬O b)->LsR K O H rs as->Reps K O H (rs.map T.lst) (as.map V.ref)
 |[],_,_,r=>by unfold LsR at r;subst r;exact Reps.GE
 |_::_,_,hn,⟨b,bs,kvs,e1,e2,e4,e5⟩=>by
  subst e1;exact Reps.FS (Rep.Do.mpr ⟨b,kvs,rfl,hn b NP,e2,e4⟩) (LsR.rep (λc hc=>hn c (NL _ hc)) e5)
theorem og{α β:Type}:∀{l:List α}{m:List β},l.length=m.length->(l.zip m).map (·.1)=l
 |[],[],_=>rfl
 |a::l,b::m,h=>by
  have h':l.length=m.length:=by simpa using h
  show a::(l.zip m).map (·.1)=_
  rw[og h']
theorem yZ{α β:Type}:∀{l:List α}{m:List β},l.length=m.length->(l.zip m).map (·.2)=m
 |[],[],_=>rfl
 |a::l,b::m,h=>by
  have h':l.length=m.length:=by simpa using h
  show b::(l.zip m).map (·.2)=_
  rw[yZ h']
theorem ORep.rep{K:NK}{O O' M:Ow}{H:Hp}{o:OT}{v:V}(sub:∀a,O' a->O a)(hn:∀a,M a->¬ O' a)(r:ORep K O M H o v):Rep K O' H o.view v:=by
 cases o with
 |lst l=>obtain⟨a,vs,e1,e2,e3,e4⟩:=r;exact Rep.Do.mpr ⟨a,vs,e1,hn a ((e2 a).mpr rfl),e3,e4.less sub⟩
 |dct ks ts=>obtain⟨a,kvs,e1,e2,e3,e4,e5⟩:=r;exact Rep.IR.mpr ⟨a,kvs,e1,hn a ((e2 a).mpr rfl),.inl e3,e4,e5.less sub⟩
 |dd ks rows=>
  obtain⟨a,kvs,as,e1,e2,e3,e4,e5,e6,e7,e8⟩:=r;refine Rep.IR.mpr ⟨a,kvs,e1,hn a ((e2 a).mpr (.inl rfl)),.inl e5,e6,?_⟩
  rw[e7]
  exact vN (λb hb=>hn b ((e2 b).mpr (.inr hb))) (e8.less sub)
 |ob C ns ls=>
  obtain⟨a,dx,as,e1,e2,e3,e4,e5,e6,e7,e8⟩:=r
  have hl:ns.length=(as.map V.ref).length:=by rw[NR];exact e6
  refine Rep.M8.mpr ⟨a,dx,_,e1,hn a ((e2 a).mpr (.inl rfl)),e4,og hl,?_⟩
  rw[yZ hl];exact(e8.less sub).rep λb hb=>hn b ((e2 b).mpr (.inr (.inr hb)))
variable{B:Ow}{Z:En}{σ:L2.St}
section
variable {H':Hp}{o o':OT}
def Ev.new(E:Ev K B M H Z σ)(hl:i<Z.length)(hm:∀a,m a->Nw K H a)(s:Same H H')(r:ORep K (OO B (M.set i m)) m H' o v):
  Ev K B (M.set i m) H' (Z.set i (.ow o)) (σ.set i (ZA v))/\∀a,(M.set i m).u a->M.u a\/Nw K H a:=by
 have hls:i<σ.length:=by rw[<-E.env.len];exact hl
 have sub:∀a,(M.set i m).u a->M.u a\/Nw K H a:=λa z=>(Mn.KF z).elim (λw=>.inr (hm a w)) .inl
 have subO:∀a,OO B (M.set i m) a->OO B M a\/Nw K H a:=λa z=>z.elim (λw=>.inl (.inl w)) λw=>(sub a w).elim (λy=>.inl (.inr y)) .inr
 have cI:∀a,Nw K H a->¬ OO B M a:=λa w z=>by
  obtain⟨o,e⟩:=(E.env.trk a z).some;rw[w.1]at e;cases e
 refine⟨⟨⟨by rw[Pe,Pe];exact E.env.len,λj t e=>?_,λj o' e=>?_,λj a z=>.inr ⟨j,z⟩,λj k a z1 z2=>?_,λa z=>?_⟩,λa z=>?_⟩,sub⟩
 ·by_cases hj:i=j
  ·subst hj;rw[Oh hl]at e;cases e
  ·rw[Oj hj]at e
   obtain⟨w,e1,e2⟩:=E.env.val j t e;exact⟨w,by rw[Oj hj];exact e1,(e2.more subO).same s⟩
 ·by_cases hj:i=j
  ·subst hj
   rw[Oh hl]at e
   cases e;exact⟨v,Oh hls,by rw[Mn.MZ];exact r⟩
  ·rw[Oj hj]at e
   obtain⟨w,e1,e2⟩:=E.env.own j o' e;refine⟨w,by rw[Oj hj];exact e1,?_⟩
   rw[Mn.Na (λz=>hj z.symm)]
   exact(e2.move (P:=k8) (λ_ z=>z.elim) subO (λb u q _=>q) λ_ _ z=>z).same s
 ·unfold Mn.set at z1 z2
  by_cases hj:j=i
  ·by_cases hk:k=i
   ·exact hj.trans hk.symm
   ·rw[if_pos hj]at z1;rw[if_neg hk]at z2
    exact(cI a (hm a z1) (.inr ⟨k,z2⟩)).elim
  ·by_cases hk:k=i
   ·rw[if_neg hj]at z1;rw[if_pos hk]at z2
    exact(cI a (hm a z2) (.inr ⟨j,z1⟩)).elim
   ·rw[if_neg hj]at z1;rw[if_neg hk]at z2
    exact E.env.dis j k a z1 z2
 ·rcases z with z|z
  ·exact(E.env.trk a (.inl z)).same s
  ·rcases Mn.KF z with w|w
   ·exact r.mtb a w
   ·exact(E.env.trk a (.inr w)).same s
 ·intro hb
  rcases Mn.KF z with w|w
  ·exact cI a (hm a w) (.inl hb)
  ·exact E.mine a w hb
def Ev.put(E:Ev K B M H Z σ)(hi:Z[i]?=ZA (.ow o))(hs:σ[i]?=ZA (ZA v))(s:SameO (M i) H H')(r:ORep K (OO B M) (M i) H' o' v):Ev K B M H' (Z.set i (.ow o')) σ/\SameO M.u H H':=by
 have hl:i<Z.length:=(NW.mp hi).1
 have inO:∀a,M i a->OO B M a\/Nw K H a:=λa z=>.inl (.inr ⟨i,z⟩)
 have idO:∀a,OO B M a->OO B M a\/Nw K H a:=λa z=>.inl z
 refine⟨⟨⟨by rw[Pe];exact E.env.len,λj t e=>?_,λj o2 e=>?_,E.env.sub,E.env.dis,λa z=>?_⟩,E.mine⟩,λb u e n=>s b u e λz=>n ⟨i,z⟩⟩
 ·by_cases hj:i=j
  ·subst hj;rw[Oh hl]at e;cases e
  ·rw[Oj hj]at e
   obtain⟨w,e1,e2⟩:=E.env.val j t e;exact⟨w,e1,e2.move inO idO s⟩
 ·by_cases hj:i=j
  ·subst hj
   rw[Oh hl]at e
   cases e;exact⟨v,hs,r⟩
  ·rw[Oj hj]at e
   obtain⟨w,e1,e2⟩:=E.env.own j o2 e;exact⟨w,e1,e2.move inO idO s λa z y=>hj (E.env.dis i j a y z)⟩
 ·by_cases hz:M i a
  ·exact r.mtb a hz
  ·exact(E.env.trk a z).at λo e=>s _ _ e hz
def disown(i:Nat)(Z:En):En:=match Z[i]? with
 |some (.ow o)=>Z.set i (.va o.view)
 |_=>Z
theorem EnvM.disown{O O':Ow}{Z:En}(E:EnvM K O M H Z σ)(i:Nat)(sub:∀a,O' a->O a)(hn:∀a,M i a->¬ O' a)(hin:∀j a,j≠i->M j a->O' a):EnvM K O' (M.set i k8) H (disown i Z) σ:=by
 have base:EnvM K O' (M.set i k8) H (Z.set i (match Z[i]? with|some (.ow o)=>.va o.view|some x=>x|none=>.em)) σ:=by
  refine⟨by rw[Pe];exact E.len,λj t e=>?_,λj o e=>?_,λj a z=>?_,λj k a z1 z2=>?_,λa z=>E.trk a (sub a z)⟩
  ·by_cases hj:i=j
   ·subst hj
    by_cases hl:i<Z.length
    ·rw[Oh hl]at e
     cases q:Z[i]? with
     |none=>rw[q]at e;cases e
     |some z=>
      rw[q]at e
      cases z with
      |em=>cases e
      |va t'=>cases e;obtain⟨w,e1,e2⟩:=E.val i _ q;exact⟨w,e1,e2.less sub⟩
      |ow o=>cases e;obtain⟨w,e1,e2⟩:=E.own i _ q;exact⟨w,e1,e2.rep sub hn⟩
    ·rw[RC (by rw[Pe];omega)]at e;cases e
   ·rw[Oj hj]at e
    obtain⟨w,e1,e2⟩:=E.val j t e;exact⟨w,e1,e2.less sub⟩
  ·by_cases hj:i=j
   ·subst hj
    by_cases hl:i<Z.length
    ·rw[Oh hl]at e
     cases q:Z[i]? with
     |none=>rw[q]at e;cases e
     |some z=>
      rw[q]at e
      cases z with
      |em=>cases e
      |va t'=>cases e
      |ow o=>cases e
    ·rw[RC (by rw[Pe];omega)]at e;cases e
   ·rw[Oj hj]at e
    obtain⟨w,e1,e2⟩:=E.own j o e;refine⟨w,e1,?_⟩
    rw[Mn.Na (λz=>hj z.symm)]
    exact e2.move (P:=k8) (λ_ z=>z.elim) (λa z=>.inl (sub a z)) (λb u q _=>q) λ_ _ z=>z
  ·unfold Mn.set at z
   by_cases hj:j=i
   ·rw[if_pos hj]at z;exact z.elim
   ·rw[if_neg hj]at z;exact hin j a hj z
  ·unfold Mn.set at z1 z2
   by_cases hj:j=i
   ·rw[if_pos hj]at z1;exact z1.elim
   ·by_cases hk:k=i
    ·rw[if_pos hk]at z2;exact z2.elim
    ·rw[if_neg hj]at z1;rw[if_neg hk]at z2;exact E.dis j k a z1 z2
 unfold Tr.disown
 cases q:Z[i]? with
 |none=>rw[q,List.set_eq_of_length_le (List.getElem?_eq_none_iff.mp q)]at base;exact base
 |some z=>
  rw[q]at base
  cases z with
  |em=>rw[vF q]at base;exact base
  |va t=>rw[vF q]at base;exact base
  |ow o=>exact base
theorem Ev.disown(E:Ev K B M H Z σ)(i:Nat):Ev K B (M.set i k8) H (disown i Z) σ/\∀a,(M.set i k8).u a->M.u a:=by
 have sub:∀a,(M.set i k8).u a->M.u a:=λa z=>(Mn.KF z).elim (λw=>w.elim) id
 refine⟨⟨E.env.disown i (λa z=>z.elim .inl λw=>.inr (sub a w)) (λa z y=>?_) λj a hj z=>.inr ⟨j,by rw[Mn.Na hj];exact z⟩,λa z=>E.mine a (sub a z)⟩,sub⟩
 rcases y with y|⟨j,y⟩
 ·exact E.mine a ⟨i,z⟩ y
 ·unfold Mn.set at y
  by_cases hj:j=i
  ·rw[if_pos hj]at y;exact y
  ·rw[if_neg hj]at y;exact hj (E.env.dis j i a y z)
end
variable{apos cpos:Pos}
section
variable {a:ZG}{pos p2 p3:Pos}
def Ev.subO(hm:∀a,m a->Nw K H a)(a:ZE)(z:OO B (M.set i m) a):OO B M a\/Nw K H a:=
 z.elim (λw=>.inl (.inl w)) λw=>(Mn.KF w).elim (λy=>.inr (hm a y)) λy=>.inl (.inr y)
def fP{H1:Hp}(s:Same H H1){a:ZE}(n:Nw K H1 a):Nw K H a:=(gz (SameO.of (P:=k8) s) n).elim (λz=>z.elim) id
def KS(X:Cx)(t:TA):TE:=λσ H Q=>t σ H λxs H1=>xs.length<=ZI/\∀p,Nw X.K H1 p->Q (.ref p) (upd H1 p (.lst xs))
def zl{t:TA}(h:PA X es t):PE X (.List es pos) (KS X t):=by
 intro ol s σ H Q I hq;refine T8 (bS (h pos ol s σ H _ I hq) λus s1 ⟨xs,H1,I1,r,z,q⟩=>⟨by rw[<-r.length];exact z,?_⟩)
 have hf:H1 s1.heap.objs.size=ZB:=I1.hok.fresh (N4 _)
 have hk:X.K.lookup s1.heap.objs.size=ZB:=by
  cases q:X.K.lookup s1.heap.objs.size with
  |none=>rfl
  |some o=>exact absurd (NZ (I1.kIn _ o q)) (Ot _)
 refine⟨.ref s1.heap.objs.size,upd H1 s1.heap.objs.size (.lst xs),I1.laid (t':=s1.toks) (λb u e=>NX _ e) (N4 _) ?_,rfl,q _ ⟨hf,hk⟩⟩
 exact⟨z,us,0,r,Oc _ rfl⟩
noncomputable def jJ(i:Nat)(f:V3)(Z:En):Rs Fl:=do
 let l <-f Z
 if i<Z.length/\l.length<=ZI then .ok (.nx (Z.set i (.ow (.lst l))))else .bad
def Fw(i:Nat){f:V3}(hN:X.N.Nodup)(ha:qC X es f)(hi:X.N[i]?=ZA x:=by rfl)(hx:Loc X.env.scope x:=by first|exact OB rfl|exact Oq rfl)(hs:OW (.List es p2) (ZA (.Name x p3)) pos.line X.env=pure ZD:=by rfl)
  (hf:X.fn x=ZC\/X.env.scope.names.lookup x=ZA .local:=by first|exact .inl rfl|exact .inr rfl|assumption):oJ X (.Assign [.Name x p3] (.List es p2) pos) (jJ i f):=PS.imp (mO hN hi hx (zl ha) hs hf) λD σ H hh_=>by
 obtain⟨Z,B,M,E,h⟩:=hh_;refine⟨Z,OO B M,E.o,?_⟩
 unfold jJ at h
 cases q:f Z with
 |bad=>rw[q]at h;exact h.elim
 |err c=>rw[q]at h;exact PostF.xa h
 |ok l=>
  rw[q,ay]at h;intro H1 s1 vs rs
  by_cases hl:i<Z.length/\l.length<=ZI
  ·rw[if_pos hl]at h
   refine⟨by rw[<-rs.length];exact hl.2,λp hp=>?_⟩
   have hm:∀a,a=p->Nw X.K H1 a:=λa z=>z▸hp
   obtain⟨E2,sub⟩:=(E.same s1).new (m:=λa=>a=p) (o:=.lst l) (v:=.ref p) (H':=upd H1 p (.lst vs)) hl.1 hm (bj hp.1 _) ⟨p,vs,rfl,λb=>Rk,aG,(rs.more (Ev.subO hm)).same (bj hp.1 _)⟩
   exact h _ _ _ (SameO.of (s1.trans (bj hp.1 _))) E2 λa z=>(sub a z).imp_right (fP s1)
  ·rw[if_neg hl]at h
   exact h.elim
noncomputable def jx(i:Nat)(f:V5)(Z:En):Rs Fl:=match Z[i]? with
 |some (.ow (.lst l))=>f Z >>= λt=>if l.length<ZI then .ok (.nx (Z.set i (.ow (.lst (l++[t])))))else .bad
 |_=>.bad
def Ev.putL{o:OT}{l':List T}{b:ZE}{vs':List V}(E:Ev K B M H Z σ)(hi:Z[i]?=ZA (.ow o))(hs:σ[i]?=ZA (ZA (.ref b)))(hM:∀c,M i c↔c=b)(r:Reps K (OO B M) H l' vs'):
  Ev K B M (upd H b (.lst vs')) (Z.set i (.ow (.lst l'))) σ/\SameO M.u H (upd H b (.lst vs')):=by
 have sm:SameO (M i) H (upd H b (.lst vs')):=λc u e nb=>by rw[aB (λz=>nb ((hM c).mpr z))];exact e
 exact E.put hi hs sm ⟨b,vs',rfl,hM,aG,r.move (P:=M i) (λa z=>.inl (.inr ⟨i,z⟩)) (λa z=>.inl z) sm⟩
def IJ(i:Nat)(ha:cz X a fa)(hN:X.N[i]?=ZA x:=by rfl)(hv:lM X.env.scope x:=by first|exact OB rfl|exact Oq (OB rfl)|exact Oq (Oq rfl))(hn:br a=ZC:=by rfl)
  (hbase:Os (.Name x p2) "append" X.env (eval (.Name x p2) X.env)=eval (.Name x p2) X.env:=by rfl) (hline:(apos.endLine == cpos.line)=ZC:=by rfl)
  (hd:eO x:=by decide) (hcd:(x == ("__classdict__" : Str))=ZD:=by decide)
  (hsw:OW (.Call (.Attribute (.Name x p2) "append" apos) [a] [] cpos) ZB pos.line X.env=pure ZD:=by rfl):oJ X (.Expr (.Call (.Attribute (.Name x p2) "append" apos) [a] [] cpos) pos) (jx i fa):=by
 have h1:NY [a] X.env=(ZD,eval a X.env)::NY [] X.env:=bp hn;refine PS.imp (om (vZ Pg Sh Si mX (eF hN hv hd hcd) (bq ha dH h1) hbase ?_ hline h1 rfl) hsw) λD σ H ⟨Z,B,M,E,h⟩=>?_
 ·rw[h1];rfl
 unfold jx at h
 split at h
 ·rename_i l hl
  obtain⟨v0,e1,b,vs,rfl,hM,e3,e4⟩:=E.env.own i _ hl;refine⟨.ref b,e1,.inl ⟨rfl,vs,SqL.of e3⟩,Z,OO B M,E.o,?_⟩
  cases q:fa Z with
  |bad=>rw[q]at h;exact h.elim
  |err c=>rw[q]at h;exact PostF.xa h
  |ok t=>
   rw[q,ay]at h
   split at h
   ·rename_i hz
    intro H1 s1 v r
    have e3':=s1 _ _ e3;refine⟨b,vs,v,rfl,rfl,e3',by rw[<-e4.length];exact hz,?_⟩
    obtain⟨g1,g2⟩:=(E.same s1).putL (l':=l++[t]) (vs':=vs++[v]) hl e1 hM ((e4.same s1).append (Reps.FS r Reps.GE));exact h σ _ M (λc o e nb=>g2 c o (s1 _ _ e) nb) g1 λc z=>.inl z
   ·exact h.elim
 ·exact h.elim
noncomputable def J3(i:Nat)(l:List T)(Z:En):T->Rs Fl
 |.lst m=>if l.length+m.length<=ZI then .ok (.nx (Z.set i (.ow (.lst (l++m)))))else .bad
 |_=>.bad
def o9(i:Nat)(f:V5)(Z:En):Rs Fl:=match Z[i]? with
 |some (.ow (.lst l))=>f Z >>= J3 i l Z
 |_=>.bad
def IG(i:Nat)(ha:cz X a fa)(hN:X.N[i]?=ZA x:=by rfl)(hv:lM X.env.scope x:=by first|exact OB rfl|exact Oq (OB rfl)|exact Oq (Oq rfl))(hn:br a=ZC:=by rfl)
  (hbase:Os (.Name x p2) "extend" X.env (eval (.Name x p2) X.env)=eval (.Name x p2) X.env:=by rfl) (hline:(apos.endLine == cpos.line)=ZC:=by rfl)
  (hd:eO x:=by decide) (hcd:(x == ("__classdict__" : Str))=ZD:=by decide)
  (hsw:OW (.Call (.Attribute (.Name x p2) "extend" apos) [a] [] cpos) ZB pos.line X.env=pure ZD:=by rfl):oJ X (.Expr (.Call (.Attribute (.Name x p2) "extend" apos) [a] [] cpos) pos) (o9 i fa):=by
 have h1:NY [a] X.env=(ZD,eval a X.env)::NY [] X.env:=bp hn;refine PS.imp (om (vZ Pg PySem.F.slot_list_extend PySem.F.type_list_extend AL (eF hN hv hd hcd) (bq ha dH h1) hbase ?_ hline h1 rfl) hsw) λD σ H ⟨Z,B,M,E,h⟩=>?_
 ·rw[h1];rfl
 unfold o9 at h
 split at h
 ·rename_i l hl
  obtain⟨v0,e1,b,vs,rfl,hM,e3,e4⟩:=E.env.own i _ hl;refine⟨.ref b,e1,.inl ⟨rfl,vs,SqL.of e3⟩,Z,OO B M,E.o,?_⟩
  cases q:fa Z with
  |bad=>rw[q]at h;exact h.elim
  |err c=>rw[q]at h;exact PostF.xa h
  |ok t=>
   rw[q,ay]at h;unfold J3 at h
   split at h
   ·rename_i m
    split at h
    ·rename_i hz
     intro H1 s1 v r;obtain⟨c,ws,rfl,nO,hc,rm⟩:=Rep.Do.mp r
     have e3':=s1 _ _ e3;refine⟨b,c,vs,ws,rfl,rfl,e3',hc,by rw[<-e4.length,<-rm.length];exact hz,?_⟩
     obtain⟨g1,g2⟩:=(E.same s1).putL (l':=l++m) (vs':=vs++ws) hl e1 hM ((e4.same s1).append rm);exact h σ _ M (λc o e nb=>g2 c o (s1 _ _ e) nb) g1 λc z=>.inl z
    ·exact h.elim
   ·exact h.elim
 ·exact h.elim
def nQ(i:Nat)(F:V4)(Z:En):Rs Fl:=F (disown i Z)
def IH(i:Nat){st:ZF}{F:V4}(h:oJ X st F):oJ X st (nQ i F):=PS.imp h λD σ H hh_=>by
 obtain⟨Z,B,M,E,q⟩:=hh_;obtain⟨E',sub⟩:=E.disown i;exact⟨disown i Z,B,_,E',PostF.later q (λ_ _ e _=>e) λa z=>.inl (sub a z)⟩
mutual
def T.nk(D:Bool):T->Bool
 |.scr _=>ZD
 |.dct _ ts=>!D&&nks D ts
 |.ob _ _ _=>ZD
 |.lst l=>D&&nks D l
 |.tup l=>nks D l
 |_=>ZC
def nks(D:Bool):List T->Bool
 |[] =>ZC
 |t::l=>t.nk D&&nks D l
end
mutual
theorem Rep.lend{K:NK}{O O':Ow}{H:Hp}{D:Bool}(hk:∀a,O a->O' a\/if D then ∃kvs,Rd H a (.dT kvs)else LO H a):∀{t:T}{v:V},t.nk D=ZC->Rep K O' H t v->Rep K O H t v
 |.non,_,_,r=>by unfold Rep at r ⊢;exact r
 |.bl _,_,_,r=>by unfold Rep at r ⊢;exact r
 |.int _,_,_,r=>by unfold Rep at r ⊢;exact r
 |.str _,_,_,r=>by unfold Rep at r ⊢;exact r
 |.tup l,_,h,r=>by
  unfold Rep at r ⊢;unfold T.nk at h;obtain⟨a,vs,e,n,q,z⟩:=r;refine⟨a,vs,e,λp=>(hk a p).elim n λw=>?_,q,Reps.lend hk h z⟩
  split at w
  ·obtain⟨_,w|⟨_,w⟩⟩:=w <;> rw[q]at w <;> cases w
  ·rcases w with⟨_,w⟩|⟨_,w,y⟩ <;> rw[q]at w <;> cases w <;> cases y
 |.lst l,_,h,r=>by
  unfold Rep at r ⊢;unfold T.nk at h;rw[NN]at h;obtain⟨h1,h2⟩:=h;subst h1;obtain⟨a,vs,e,n,q,z⟩:=r;refine⟨a,vs,e,λp=>(hk a p).elim n λw=>?_,q,Reps.lend hk h2 z⟩
  rw[if_pos rfl]at w;obtain⟨_,w|⟨_,w⟩⟩:=w <;> rw[q]at w <;> cases w
 |.scr l,_,h,r=>by unfold T.nk at h;cases h
 |.dct ks ts,_,h,r=>by
  unfold Rep at r ⊢;unfold T.nk at h;rw[NN]at h;obtain⟨h1,h2⟩:=h
  cases D with
  |true=>cases h1
  |false=>
   obtain⟨a,kvs,e,n,q,k,z⟩:=r;refine⟨a,kvs,e,λp=>(hk a p).elim n λw=>?_,q,k,Reps.lend hk h2 z⟩
   rw[if_neg N0]at w;rcases w with⟨_,w⟩|⟨_,w,y⟩ <;> rcases q with q|⟨_,q⟩ <;> rw[q]at w <;> cases w <;> cases y
 |.ob _ _ _,_,h,r=>by unfold T.nk at h;cases h
theorem Reps.lend{K:NK}{O O':Ow}{H:Hp}{D:Bool}(hk:∀a,O a->O' a\/if D then ∃kvs,Rd H a (.dT kvs)else LO H a):∀{l:List T}{vs:List V},nks D l=ZC->Reps K O' H l vs->Reps K O H l vs
 |[],_,_,r=>by unfold Reps at r ⊢;exact r
 |t::l,_,h,r=>by
  unfold Reps at r ⊢;unfold nks at h;rw[NN]at h;obtain⟨v,ws,e,p,q⟩:=r;exact⟨v,ws,e,Rep.lend hk h.1 p,Reps.lend hk h.2 q⟩
end
noncomputable def ln(i:Nat)(f:V5)(Z:En):Rs T:=match Z[i]? with
 |some (.ow o)=>f (disown i Z) >>= λt=>if t.nk o.isD=ZC then .ok t else .bad
 |_=>f Z
def JA(i:Nat)(f:V6)(Z:En):Rs Bool:=f (disown i Z)
def sM(E:EnvM K O M H Z σ)(i:Nat):EnvM K (λa=>O a/\¬ M i a) (M.set i k8) H (disown i Z) σ:=
 E.disown i (λa z=>z.1) (λa z y=>y.2 z) λj a hj z=>⟨E.sub j a z,λy=>hj (E.dis j i a z y)⟩
def q_ln(i:Nat)(h:cz X e f):cz X e (ln i f):=PE.imp h λσ H Q ⟨Z,O,⟨M,E⟩,q⟩=>by
 unfold ln at q
 split at q
 ·rename_i o hi
  refine⟨disown i Z,_,⟨_,sM E i⟩,?_⟩
  obtain⟨w,e1,r⟩:=E.own i o hi;refine Post.mono (Post.bind q) λt H' s q2 v rv=>?_
  split at q2
  ·rename_i hk
   have kd:=(r.same s).kind;refine q2 H' (Same.refl _) v (Rep.lend (λa z=>?_) hk rv)
   by_cases hm:M i a
   ·refine .inr ?_
    have this:=kd a hm
    by_cases hD:o.isD=ZC
    ·rw[if_pos hD]at this ⊢;exact this.imp λ_ z=>.inl z
    ·rw[if_neg hD]at this ⊢;exact this
   ·exact .inl ⟨z,hm⟩
  ·exact q2.elim
 ·exact⟨Z,O,⟨M,E⟩,q⟩
def La(i:Nat){f:V6}(h:rn X e f):rn X e (JA i f):=PT.imp h λσ H Q ⟨Z,O,⟨M,E⟩,q⟩=>⟨disown i Z,_,⟨_,sM E i⟩,q⟩
end
end Tr
namespace Tr
open PySem L2
noncomputable def n8:List T->List T->List Key->Option T
 |k'::ks,v::vs,k=>if keyOf k'=ZA k then ZA v else n8 ks vs k
 |_,_,_=>ZB
noncomputable def hI(k v:T):List T->List T->List T×List T
 |k'::ks,v'::vs=>if keyOf k'=keyOf k then(k'::ks,v::vs)else(k'::(hI k v ks vs).1,v'::(hI k v ks vs).2)
 |_,_=>([k],[v])
def bJ(x y:T):Rs T:=match x,keyOf y with
 |.dct ks vs,ZA k=>match n8 ks vs k with
  |some t=>.ok t
  |none=>.bad
 |_,_=>.bad
def jw(x y:T):Rs T:=match x,keyOf y with
 |.dct ks vs,ZA k=>match n8 ks vs k with
  |some t=>.ok t
  |none=>.ok .non
 |_,_=>.bad
def oD(g:T->T->Rs T)(fa fb:V5)(Z:En):Rs T:=fa Z >>= λx=>match x with
 |.dct ks vs=>fb Z >>= g (.dct ks vs)
 |_=>.bad
def oL(g:T->T->Rs T)(fa fb:V5)(Z:En):Rs T:=fa Z >>= λx=>match x with
 |.lst l=>fb Z >>= g (.lst l)
 |_=>.bad
noncomputable def Kv:List T->Option (List (T×T))
 |[] =>ZA []
 |.tup [k,v] ::l=>match keyOf k,Kv l with
  |some _,ZA r=>ZA ((k,v)::r)
  |_,_=>ZB
 |_=>ZB
def kc:List (T×T)->List T×List T->List T×List T
 |[],d=>d
 | (k,v)::r,d=>kc r (hI k v d.1 d.2)
noncomputable def z8:List T->Rs T
 |[.lst l] =>match Kv l with
  |some ps=>if l.length<=1000 then .ok (.dct (kc ps ([],[])).1 (kc ps ([],[])).2)else .bad
  |none=>.bad
 |_=>.bad
def nJ:List T->Bool
 |[] =>ZC
 |k::l=>(keyOf k).isSome&&nJ l
noncomputable def rJ(i:Nat)(f:V5)(Z:En):Rs Fl:=f Z >>= λt=>z8 [t] >>= λd=>match d with
 |.dct ks vs=>if i<Z.length then .ok (.nx (Z.set i (.ow (.dct ks vs))))else .bad
 |_=>.bad
noncomputable def Aw(i:Nat)(fk fv:V5)(Z:En):Rs Fl:=match Z[i]? with
 |some (.ow (.dct ks vs))=>fv Z >>= λv=>fk Z >>= λk=>match keyOf k with
  |some _=>if ks.length<1000 then .ok (.nx (Z.set i (.ow (.dct (hI k v ks vs).1 (hI k v ks vs).2))))else .bad
  |none=>.bad
 |_=>.bad
noncomputable def o8(i j:Nat)(Z:En):Rs Fl:=match Z[j]? with
 |some (.va (.lst l))=>if i<Z.length/\nJ l=ZC/\(l.map keyOf).Nodup/\l.length<=1000 then .ok (.nx (Z.set i (.ow (.dd l (l.map λ_=>(l,l.map λ_=>.non))))))else .bad
 |_=>.bad
noncomputable def qM:List T->List (List T×List T)->List Key->Option (List T×List T)
 |k'::ks,r::rs,k=>if keyOf k'=ZA k then ZA r else qM ks rs k
 |_,_,_=>ZB
noncomputable def qL(k:List Key)(x:List T×List T):List T->List (List T×List T)->List (List T×List T)
 |k'::ks,r::rs=>if keyOf k'=ZA k then x::rs else r::qL k x ks rs
 |_,rs=>rs
noncomputable def jr(i:Nat)(fa fb fv:V5)(Z:En):Rs Fl:=match Z[i]? with
 |some (.ow (.dd ks rows))=>fv Z >>= λv=>fa Z >>= λa=>match(keyOf a).bind λka=>(qM ks rows ka).map λr=>(ka,r)with
  |some (ka,r)=>fb Z >>= λb=>if (keyOf b).isSome=ZC/\r.1.length<1000 then .ok (.nx (Z.set i (.ow (.dd ks (qL ka (hI b v r.1 r.2) ks rows)))))else .bad
  |none=>.bad
 |_=>.bad
def rQ:List T->Option (List Int)
 |[] =>ZA []
 |.int i::l=>(rQ l).map (i:: ·)
 |_=>ZB
def yo(i:Int):List Int->Int
 |[] =>i
 |j::l=>yo (if j<i then j else i) l
def yp(i:Int):List Int->Int
 |[] =>i
 |j::l=>yp (if i<j then j else i) l
noncomputable def C3:List T->Rs T
 |[.lst l] =>match rQ l with
  |some (i::ns)=>.ok (.int (yo i ns))
  |_=>.bad
 |[.int i,.int j] =>.ok (.int (yo i [j]))
 |_=>.bad
noncomputable def rh:List T->Rs T
 |[.lst l] =>match rQ l with
  |some (i::ns)=>.ok (.int (yp i ns))
  |_=>.bad
 |[.int i,.int j] =>.ok (.int (yp i [j]))
 |_=>.bad
def kL(x:T):List T->Nat->Option Nat
 |[],_=>ZB
 |t::l,n=>if bo t x then ZA n else kL x l (n+1)
noncomputable def hZ(y x:T):Rs T:=match y with
 |.lst l=>if (x.dep<=60\/deps l<=60)/\x.nd=ZC/\nds l=ZC then match kL x l 0 with
   |some n=>.ok (.int n)
   |none=>.bad
  else .bad
 |_=>.bad
def FU:Nat:=1000000000000
end Tr
namespace Tr
open PySem PySem.Spec PyProof.Rows L2
theorem iC{h b b':ZH}:∀{l:List Env},h.FunFrames b l->(∀a∈l.filterMap (·.frame),b'.get? a=ZB)->h.FunFrames b' l
 |[],_,_=>trivial
 |env::bU,⟨hk,⟨L,o,hf,hn,ho,hd⟩,hr⟩,q=>by
  rw[Pc,hf]at q;exact⟨hk,⟨L,o,hf,q L NP,ho,hd⟩,iC hr λa ha=>q a (NL _ ha)⟩
variable{A:Ou}{C e:ZE}{E:V1}{M:Vk}{env:Env}{outer:List Env}{s:NQ}
structure EE (fs:List ZE)(C e:ZE)(T:Option ZE)(h h':ZH)(T':ZE):Prop where
 flt:MB h' C e (ZA T')
 new:T=ZA T'\/h.get? T'=ZB
 keep:∀b o,b∉fs->b≠e->T≠ZA b->h.get? b=ZA o->h'.get? b=ZA o
 slot:∀b o,b∈fs->h.get? b=ZA o->∃sl,h'.get? b=ZA {o with slots:=sl}
def Dd{base:ZH}{L:ZE}{T:Option ZE}{Q:Unit->NQ->Prop}(hfr:A.frames=ZA (env::outer))(hl:s.heap.FunFrames base (env::outer))(hf:env.frame=ZA L)
  (F:MB s.heap C e T) (h:∀h' T',EE ((env::outer).filterMap (·.frame)) C e T s.heap h' T'->Q () {s with heap:=h'}):ZJ M A (leaving env (.ref e)) Q E s:=by
 generalize hB:SN s.heap (e::(T.toList++(env::outer).filterMap (·.frame)))=B
 have bm:∀b,b∈e::(T.toList++(env::outer).filterMap (·.frame))->B.get? b=ZB:=λb m=>by rw[<-hB];exact RM _ m
 have hl':s.heap.FunFrames B (env::outer):=iC hl λa ha=>bm a (NL _ (Of _ ha))
 have hst:B.StaysIn s.heap:=λb o q=>by rw[<-hB]at q;exact R4 _ q
 have hen:B.get? e=ZB:=bm e NP
 have main:∀h',Heap.Left B (env::outer) e (.ref C) s.heap h'->Q () {s with heap:=h'}:=λh' ⟨x1,x2,⟨oe,vs,T',oT,ts,he,hc,hd,h1,hnT,hTe,hT,hdT,h3⟩,x4⟩=>by
  refine h h' T' ⟨⟨hTe,oe,vs,he,hc,hd,h1,oT,ts,hT,hdT,h3⟩,?_,λb o n1 n2 n3 q=>?_,λb o m q=>?_⟩
  ·cases q:s.heap.get? T' with
   |none=>exact .inr rfl
   |some o=>
    left
    by_cases z:T'∈e::(T.toList++(env::outer).filterMap (·.frame))
    ·rcases NT.mp z with z|z
     ·exact absurd z hTe
     ·rcases Oi.mp z with z|z
      ·cases T with
       |none=>simp at z
       |some t=>simp at z;rw[z]
      ·obtain⟨_,o',ho',hnf⟩:=x2.mem z
       rw[hT]at ho';cases ho';exact absurd hdT (hnf ts)
    ·rw[<-hB,Qv _ q z]at hnT;cases hnT
  ·refine x1 b o ?_
   rw[<-hB];refine Qv _ q λz=>?_
   rcases NT.mp z with z|z
   ·exact n2 z
   ·rcases Oi.mp z with z|z
    ·cases T with
     |none=>simp at z
     |some t=>simp at z;exact n3 (by rw[z])
    ·exact n1 z
  ·obtain⟨_,o',ho',hnf⟩:=hl.mem m
   rw[q]at ho';cases ho';exact x4 b o q hnf
 cases T with
 |none=>
  obtain⟨oe,vs,he,hc,hd,h1⟩:=F;refine wpAny_leaving_first hfr hl' hf he hst hen hd h1 λh' x=>main h' ?_
  rw[hc]at x;exact x
 |some t=>
  obtain⟨hte,oe,vs,he,hc,hd,h1,oT,ts,hT,hdT,h3⟩:=F;exact wpAny_leaving_next hfr hl' hf ⟨oe,vs,t,oT,ts,he,hc,hd,h1,bm t (NL _ (On _ (by simp))),hte,hT,hdT,h3⟩ hst hen main
abbrev oa:List NM:=[.type "ValueError",.type "Exception",.type "BaseException",.type "object"]
structure OwnExc (K:NK)(C:ZE)(bm:List NM):Prop where
 at_:∀h:ZH,K.In h->∃nm q N bs hdct sn sub ab col dd k0 k1 k2 k3 k5 mN,h.get? C=ZA (Pj nm q C N bs bm hdct sn sub ab col dd k0 k1 k2 k3 k5 "ValueError.__new__")/\h.Ns N mN/\mN "__init__" =ZB/\OwnTail h oa bm
variable{K:NK}{bm:List NM}{h:ZH}
def OwnExc.base(O:OwnExc K C bm)(k:K.In h):bm.contains (.type "BaseException")=ZC:=by
 obtain⟨_,_,_,_,_,_,_,_,_,_,_,_,_,_,_,_,_,_,_,T⟩:=O.at_ h k;exact T.hasType (by decide)
def xX(c:Str)(_:En):Rs Fl:=.err c
variable{X:Cx}{c:Str}{p1 pos:Pos}
def Ci{msg:Str}{np cpos:Pos}{j:Nat}(O:OwnExc X.K C bm)(hc:X.calm=ZC)(hm:X.mg c=ZA (.ref C))(hg:Gl X c:=by rfl)(hd:eO c:=by decide):
  oJ X (.Raise (ZA (.Call (.Name c np) [.Constant (.str msg) j p1] [] cpos)) ZB pos) (xX c):=by
 intro ol s σ H D I ⟨Z,B,M,E,k⟩
 have k:XA X M.u H c:=k;obtain⟨nm,q,N,bs,hdct,sn,sub,ab,col,dd,k0,k1,k2,k3,k5,mN,hC,hN,hni,T⟩:=O.at_ s.heap I.kIn;refine wpAny_Raise_call_subU (C:=C) (mN:=mN) (nm:=nm) (q:=q) (N:=N) (bs:=bs) (hdct:=hdct) (sn:=sn) (sub:=sub) (ab:=ab) (col:=col) (dd:=dd) (k0:=k0) (k1:=k1) (k2:=k2) (k3:=k3) (k5:=k5) R0 (Bn:="ValueError") (by decide) R0 (O.base I.kIn) (I.ok.hd hc) (by rfl) hni (fS I hg hm ⟨rfl,?_⟩ hd)
 show ZJ _ _ (evalArgs (.ref C) ZC ((ZD,eval (.Constant (.str msg) j p1) X.env)::backTo cpos (NY [] X.env)) []) _ _ s
 refine Q1 (Rj (TM (Rt ?_)))
 refine⟨rfl,by show 1<=ZI;decide,hC,hN,T,λh' e hm'=>k ol _ _ ?_⟩
 obtain⟨t,ht,ht2,ht3⟩:=hm'.there
 have I':Inv X ol σ H {s with heap:=h',toks:=s.toks+1}:=I.kept (t':=s.toks+1) λb o z=>hm'.keeps b o z
 refine⟨e,ZB,C,σ,H,rfl,hm,I',λb o z _=>z,?_,?_,⟨_,_,ht,rfl,rfl,rfl⟩,(λt z=>by cases z),λp hp=>⟨λz=>?_,λz=>by cases z⟩⟩
 ·exact jM I hm'.new
 ·exact λhex=>eG I hex hm'.new
 ·have:=(I.pin p hp).1
  rw[z,show s.heap.get? e=ZB from hm'.new]at this
  cases this
variable{N ps:List Str}{P:Oa}{f:ZE}{fd:Ox}{g:List T->Rs T}{k n:Nat}{mg:V0}{qual x:Str}{st:ZF}{w:O0}
section
variable {base:ZH}
def JZ(Fn:L2.Fun K x qual st f fd)(S:aA N ps (aj st))(hn:ps.length=n)
  (hbody:∀(cdv:NM)(A:Ou)(outer:List Env)(s:NQ)(H:Hp)(E:XK),Room k (A.deeper (envOfC qual (aj st) s.heap.objs.size f cdv)) →
   ∃F,(∀xe,mI ((gp CX0 P w K mg base N qual (aj st) f cdv A outer s H E).FB xe) (bD st) F)/\∀ts,ts.length=n->∀c,g ts=.err c->F (aQ N.length ts)=.err c):FnX P w K mg base (k+1) f fd ps n g:=by
 intro A outer s H args us vs O ts c R hr e0 hb r rs trk hl hg hR
 have hpl:ps.length<=N.length:=by have:=congrArg O7 S.pre;rw[OY]at this;omega
 obtain⟨oc,od,kV,doc,pm,an,cdv,ct,osl,rfl,lk,hcd⟩:=Fn.ex
 have hlen:vs.length=ps.length:=by rw[<-rs.length,hl,hn]
 have KX:K.In s.heap:=e0.mod.kin.keeps λb o e=>(e0.bs b o e).1
 have lim:s.heap.NoLimit:=e0.mod.nolimit.keeps λb o e=>(e0.bs b o e).1
 have hkind:∀y∈ps.zip us,(aj st).names.lookup y.1=ZA .local\/((aj st).names.lookup y.1=ZA .cell/\((P4 (s.heap.objs.size+1) (aj st).names []).lookup y.1).isSome=ZC):=λ⟨n,v⟩ hy=>by
  rcases S.par n (QD hy).1 with q|q
  ·exact .inl q
  ·exact .inr ⟨q,P6 _ _ _ (.inl q)⟩
 refine QL hr.depth (KX _ _ lk) rfl S.co S.gen rfl (Rf KX hcd) (hb _ _ _ _ ?_)
 refine P8 S.kind hkind λenv he s1 x=>?_
 subst he;refine⟨lim.keeps x.toInCall.keep,S5 ?_⟩
 obtain⟨F,hF,hv⟩:=hbody cdv A outer s H E0 (hr.deeper _)
 let xe:V1:=λev s'=>ZJ (ZK P w) (A.deeper (envOfC qual (aj st) s.heap.objs.size f cdv)) (leaving (envOfC qual (aj st) s.heap.objs.size f cdv) ev) (λ_ s''=>R (.error ev) s'') (λe' s''=>R (.error e') s'') s'
 have I:Inv ((gp CX0 P w K mg base N qual (aj st) f cdv A outer s H E0).FB xe) [] (start N vs) H s1:=(kG S hr.hd e0 hlen r x).FB _
 have no:∀a,¬noM.u a:=λa ⟨_,z⟩=>z
 refine Pw (hF xe [] s1 (start N vs) H {nx:=λ_ _=>False,rt:=λ_ _=>False,bk:=λ_ _=>False,ct:=λ_ _=>False} I ⟨aQ N.length ts,O,noM,kx rs (by omega) trk,?_⟩) (λfl s' z=>?_) λe s' hs=>hs
 rotate_left
 ·cases fl with
  |next=>obtain⟨_,_,_,z⟩:=z;exact z.elim
  |cont=>obtain⟨_,_,_,z⟩:=z;exact z.elim
  |brk=>obtain⟨_,_,_,z⟩:=z;exact z.elim
  |ret v=>obtain⟨_,_,_,_,_,z⟩:=z;exact z.elim
 rw[hv ts hl c hg];intro ol ev s' w'
 show ZJ _ _ _ _ _ _
 obtain⟨e,T,C,σ',H',rfl,hm,I',sm,he,heo,fl,hT,_⟩:=w'
 have heo:=heo rfl
 have hT:∀t,T=ZA t->H' t=ZB/\s.heap.get? t=ZB:=λt z=>⟨(hT t z).1,(hT t z).2 rfl⟩
 refine Dd (base:=base) (outer:=outer) (L:=s.heap.objs.size) I'.ok.frames I'.stack rfl fl λh' T' g=>hR _ _ ?_
 have hex:((gp CX0 P w K mg base N qual (aj st) f cdv A outer s H E0).FB xe).ex=[]:=rfl
 have Tn:H' T'=ZB/\s.heap.get? T'=ZB:=by
  rcases g.new with z|z
  ·exact hT T' z
  ·exact⟨jM I' z,eG I' hex z⟩
 have out:∀b o,s.heap.get? b=ZA o->b≠s.heap.objs.size:=λb o q z=>by
  have:=NZ q;rw[z]at this;exact absurd this (Ot _)
 have mem:∀b,b∈m9 ((envOfC qual (aj st) s.heap.objs.size f cdv)::outer)->b=s.heap.objs.size\/b∈m9 outer:=λb z=>by
  have z':b∈s.heap.objs.size::m9 outer:=z;exact NT.mp z'
 have ne:∀b o,s.heap.get? b=ZA o->b≠e/\T≠ZA b:=λb o q=>⟨λz=>(by subst z;rw[show s.heap.get? b=ZB from heo]at q;cases q),λz=>(by rw[show s.heap.get? b=ZB from(hT b z).2]at q;cases q)⟩
 have keepH:∀b u,H' b≠ZB->s'.heap.get? b=ZA u->h'.get? b=ZA u:=λb u hb q=>by
  refine g.keep b u (λz=>hb (I'.KM b z)) (λz=>hb (by rw[z];exact he)) (λz=>hb (hT b z).1) q
 refine⟨e,T',C,H',rfl,hm,I'.os,I'.bare,⟨λb o q n hb hx=>?_,λb o q n hb hx=>?_,λb o q n hx=>I'.base.free b o q n hx,λb o q hx=>?_,I'.base.tups,I'.base.frzs,I'.base.tbls⟩,λa o q=>?_,λb o q=>sm b o q (no b),he,heo,g.flt,Tn.1,Tn.2⟩
 ·exact g.keep b o (λz=>(mem b z).elim (out b o q) hb) (ne b o q).1 (ne b o q).2 (I'.base.keep b o q n hb hx)
 ·obtain⟨sl,q1⟩:=I'.base.slot b o q n hb hx
  obtain⟨sl',q2⟩:=g.slot b _ (NL _ hb) q1;exact⟨sl',q2⟩
 ·obtain⟨o',q1⟩:=I'.base.there b o q hx
  by_cases z:b∈m9 ((envOfC qual (aj st) s.heap.objs.size f cdv)::outer)
  ·obtain⟨sl,q2⟩:=g.slot b o' z q1
   exact⟨_,q2⟩
  ·exact⟨o',g.keep b o' z (ne b o q).1 (ne b o q).2 q1⟩
 ·refine(I'.hok a o q).M4 (λb u hb z=>keepH b u ?_ z) (λ_ z=>z) λ_ _ z=>z
  rcases hb with rfl|hb
  ·rw[q];simp
  ·rw[hb];simp
end
variable{ts:List T}
def E6{m:Nat}{F:V4}(h:val n m F ts=.err c):F (aQ m ts)=.err c:=by
 unfold val at h
 split at h
 ·unfold bR at h
  cases z:F (aQ m ts)with
  |bad=>rw[z]at h;cases h
  |err c'=>rw[z]at h;cases h;rfl
  |ok f=>
   rw[z,ay]at h;cases f <;> cases h
 ·cases h
section
variable {base:ZH}
def J2{F:V4}(Fn:L2.Fun K x qual st f fd)(S:aA N ps (aj st))(hn:ps.length=n)
  (hbody:∀(cdv:NM)(A:Ou)(outer:List Env)(s:NQ)(H:Hp)(E:XK),Room k (A.deeper (envOfC qual (aj st) s.heap.objs.size f cdv)) →
   ∀xe,mI ((gp CX0 P w K mg base N qual (aj st) f cdv A outer s H E).FB xe) (bD st) F):EF P w K mg base (k+1) f fd ps n (val n N.length F):=
 ⟨Mj Fn S hn λcdv A outer s H E hr=>⟨F,hbody cdv A outer s H E hr _,λts _ _ h=>HY h⟩,JZ Fn S hn λcdv A outer s H E hr=>⟨F,hbody cdv A outer s H E hr,λts _ c h=>E6 h⟩⟩
end
variable{H:Hp}{ol:V2}{us:List NM}{vs:List V}{σ:L2.St}
section
variable {O:Ow}{Q:VK}
def K3(F:EF X.prog X.w X.K X.mg X.base k f fd ps n g)(hr:Room k X.A)(hb:Binds X.K fd ps [])(hps:ps.length=n)(I:Inv X ol σ H s)(r:Vals vs us)(rs:Reps X.K O H ts vs)(mt:∀a,O a->Mtb H a)(hl:ts.length=n)
  (hq:Post X H (g ts) λt H'=>∀v,Rep X.K O H' t v->Q v H'):ZJ (ZK X.prog X.w) X.A (call (.ref f) us) (EP X ol σ Q) X.xe s:=by
 cases q2:g ts with
 |bad=>rw[q2]at hq;exact hq.elim
 |ok t=>
  rw[q2]at hq;refine tJ (E:=E0) (dvs:=[]) (ds:=[]) F.h hr hb .nil v3 I r ⟨ts,O,by simpa using rs,mt,hl,?_⟩
  rw[q2]
  exact λv H' s2 rr=>hq H' s2 v rr
 |err c=>
  rw[q2]at hq
  have hlen:us.length=ps.length:=by rw[<-r.length,<-rs.length,hl,hps]
  have hb':=hb s us I.kIn (by rw[Ol];exact hlen)
  rw[Ol]at hb';refine Ru (Qe (F.x X.A X.stack s H ⟨us,[]⟩ us vs O ts c (λr s'=>match r with|.error ev=>X.xe ev s'|_=>False) hr I.Nc hb' r rs mt hl q2 λev s' w=>?_) λr s' hq=>?_)
  ·obtain⟨ea,T,C,H',rfl,hmc,ho,hbare,hun,hok,sm2,hea,heo,fl,hT,hTo⟩:=w
   have I2:Inv X ol σ H' s':=I.M7 ho hun hok hbare (λb z=>absurd z (by simp))
   exact hq ol _ _ ⟨ea,ZA T,C,σ,H',rfl,hmc,I2,λb o q _=>sm2 b o q,hea,λhex=>eG I hex heo,fl,(λt zt=>by cases zt;exact⟨hT,λhex=>eG I hex hTo⟩),λpp hpp=>⟨λzz=>(by have:=(I.pin pp hpp).1;rw[zz,heo]at this;cases this),λzz=>(by cases zz;have:=(I.pin pp hpp).1;rw[hTo]at this;cases this)⟩⟩
  ·cases r with
   |error ev=>exact hq
   |ok fl=>exact hq.elim
end
section
variable {a:ZG}{fa:V5}{p:Pos}
def Ld:oJ X (.Continue pos) Hj:=PS.imp vV λD σ H ⟨Z,B,M,E,h⟩=>h σ H M (λ_ _ e _=>e) E λa z=>.inl z
end
inductive OTail (h:ZH):List NM->Prop
 |base:OTail h oa
 |own {A:ZE} {c0:NM} {dd:Option ZE} {cd:ClassData} {sl:Array (Option NM)} {mA:V0} {tl:List NM} :
   h.get? A=ZA {cls:=c0,dict:=dd,data:=.cls cd,slots:=sl}->h.Ns cd.ns mA->(∀n∈calmNames,mA n=ZB)->OTail h tl->OTail h (.ref A::tl)
variable{tl:List NM}
def OTail.tail(T:OTail h tl):OwnTail h oa tl:=by
 induction T with
 |base=>exact .base
 |own hA hN hq _ ih=>exact .own hA hN (hq _ (.head _)) ih
variable{Q:Option NM->NQ->Prop}{R:To->NQ->Prop}{a:ZE}{ab hdct:Bool}{col:Option Bool}{d:Drawn}{dd:Option ZE}{g:Array T5}{k0 k1 k2 k3 k5 y:Option NM}{newId:String}{nm q:Str}{os:Uu}{prog:Oa}{sn:List Str}{tk:Tok}
section
variable {t:Nat}
variable{n:Str}
def G2(hn:n∈calmNames)(T:OTail h tl)(hrest:Vj oa n=pure y)(hq:Q y ⟨h,g,d,t,os⟩):
  ZJ M A (Vj tl n) Q E ⟨h,g,d,t,os⟩:=by
 induction T with
 |base=>rw[hrest];exact N5 hq
 |own hA hN hni _ ih=>
  rw[UW];refine NS (wpAny_classOwn_cls hA hN ?_)
  rw[hni n hn];exact ih
def LK:mroOf (.type "ValueError")=pure oa:=by rw[mroOf_type];kernel_rfl
variable {N:ZE}{bs:List NM}{sub:List NM}{mN:V0}
def yn(hn:n∈calmNames)(hC:h.get? C=ZA (Pj nm q C N bs bm hdct sn sub ab col dd k0 k1 k2 k3 k5 newId))(hN:h.Ns N mN)(hmN:∀n∈calmNames,mN n=ZB)(T:OTail h bm)
  (hB:Rv (.type "ValueError") n=pure y) (hq:Q y ⟨h,g,d,t,os⟩):ZJ M A (Rv (.ref C) n) Q E ⟨h,g,d,t,os⟩:=by
 have hrest:Vj oa n=pure y:=by rw[typeLookup_eq,LK]at hB;exact hB
 rw[typeLookup_eq];refine NS (wpAny_mroOf_exc hC ?_)
 rw[UW];refine NS (wpAny_classOwn_exc hC hN ?_)
 rw[hmN n hn];exact G2 hn T hrest hq
def C7:Rv (.type "ValueError") "__class__" =pure (ZA (.builtin "object.__class__")):=by rw[Rn,Qg];kernel_rfl
def yq:Rv (.type "ValueError") "__getattr__" =pure ZB:=by rw[Rn,Qg];kernel_rfl
def ga_V:Slot "ValueError" "__getattribute__" "BaseException.__getattribute__":=.of (owner:="BaseException") (n:="__getattribute__") (by rw[Rn,Qg];kernel_rfl) (by decide+kernel) (by decide+kernel) (by decide+kernel) (by first|exact .inl (by decide+kernel)|exact .inr (by decide+kernel)) (by rw[isSubtype_type];kernel_rfl)
variable {o:Obj}{vs:Array NM}
def GV(hC:h.get? C=ZA (Pj nm q C N bs bm hdct sn sub ab col dd k0 k1 k2 k3 k5 newId))(T:OTail h bm)
  (hx:h.get? a=ZA o) (hc:o.cls=.ref C) (hq:R (.ok (.ret (.ref C))) ⟨h,g,d,t,os⟩):
  ZL (ZK prog w) A (.call (.builtin "getset_descriptor.__get__") ⟨[.builtin "object.__class__",.ref a,.ref C],[]⟩) R ⟨h,g,d,t,os⟩:=by
 have hT5:(⟨h,g,d,t,os⟩:NQ).TypeIs (.builtin "object.__class__") "getset_descriptor":=RF
 have hcB:(N3 C::bm).contains (.type (".".intercalate ("object.__class__".cutAt '.').dropLast))=ZC:=by
  rw[F.owner_object_class,O4,T.tail.hasType (b:=ZC) (by decide)];rfl
 refine RN TV.plain F.entry_gs_get (TV.check _ _ _ _ _ _ _ _ hT5 (F.args_gs_get _ _ _) ?_)
 repeat (any_goals (first|assumption| (with_reducible refine OU hx ?_;rw[hc])| (with_reducible refine P5 hC ?_;rw[hcB])|wp_step))
 refine⟨Code.quiet_builtin _ (by decide+kernel),S8 F.entry_object_class ?_⟩
 repeat (any_goals (first|assumption| (with_reducible refine OU hx ?_;rw[hc])|wp_step))
def DJ{nameV:NM}{Q:Unit->NQ->Prop}(hC:h.get? C=ZA (Pj nm q C N bs bm hdct sn sub ab col dd k0 k1 k2 k3 k5 newId))(T:OTail h bm)
  (hx:h.get? a=ZA o) (hc:o.cls=.ref C) (hq:Q () ⟨h,g,d,t,os⟩):ZJ M A (UX "BaseException.__getattribute__" ⟨[.ref a,nameV],[]⟩) Q E ⟨h,g,d,t,os⟩:=by
 have hk:builtinKind "BaseException.__getattribute__" =ZA .slot:=by decide+kernel
 have hsplit:splitId "BaseException.__getattribute__" =ZA ("BaseException","__getattribute__"):=by decide+kernel
 have hcB:(N3 C::bm).contains (.type "BaseException")=ZC:=by rw[O4,T.tail.hasType (b:=ZC) (by decide)];rfl
 have ha:=F.args_bexc_ga (.ref a) nameV;simp only[UX,hk,hsplit];refine NS ?_
 ·unfold isInstance
  repeat (first| (with_reducible refine OU hx ?_;rw[hc])| (with_reducible refine P5 hC ?_;rw[hcB])|wp_step)
  exact hq
def Bb{Q:Fin->NQ->Prop}(hC:h.get? C=ZA (Pj nm q C N bs bm hdct sn sub ab col dd k0 k1 k2 k3 k5 newId))(hN:h.Ns N mN)
  (hmN:∀n∈calmNames,mN n=ZB) (T:OTail h bm) (hx:h.get? a=ZA o) (hc:o.cls=.ref C) (hd:o.data=.fields vs) (hq:Q (.done (.ret (.ref C))) ⟨h,g,d,t,os⟩):
  ZJ (ZK prog w) A (Builtin.«object.__getattribute__» ⟨[.ref a,.str "__class__" tk],[]⟩) Q E ⟨h,g,d,t,os⟩:=by
 have hT5:(⟨h,g,d,t,os⟩:NQ).TypeIs (.builtin "object.__class__") "getset_descriptor":=RF
 have f5:=RF
 have f6:=TV.lookup
 have f7:=F.slot_gs_set.lookup
 have hmA:("__class__" : Str)∈calmNames:=.tail _ (.tail _ (.tail _ (.head _)))
 repeat (any_goals (first|assumption| (with_reducible refine OU hx ?_;rw[hc])|with_reducible refine yn hmA hC hN hmN T C7 ?_|wp_step))
 refine GV hC T hx hc ?_
 repeat (any_goals (first|assumption|wp_step))
def Eo(hC:h.get? C=ZA (Pj nm q C N bs bm hdct sn sub ab col dd k0 k1 k2 k3 k5 newId))(hN:h.Ns N mN)
  (hmN:∀n∈calmNames,mN n=ZB) (T:OTail h bm) (hx:h.get? a=ZA o) (hc:o.cls=.ref C) (hd:o.data=.fields vs) (hq:R (.ok (.ret (.ref C))) ⟨h,g,d,t,os⟩):
  ZL (ZK prog w) A (.call (.builtin "BaseException.__getattribute__") ⟨[.ref a,.str "__class__" tk],[]⟩) R ⟨h,g,d,t,os⟩:=
 RN ga_V.plain F.entry_bexc_ga (DJ hC T hx hc (Bb hC hN hmN T hx hc hd hq))
def Kl{fill expr:Bool}{Q:V1}(hC:h.get? C=ZA (Pj nm q C N bs bm hdct sn sub ab col dd k0 k1 k2 k3 k5 newId))(hN:h.Ns N mN)
  (hmN:∀n∈calmNames,mN n=ZB) (T:OTail h bm) (hx:h.get? a=ZA o) (hc:o.cls=.ref C) (hd:o.data=.fields vs) (hq:Q (.ref C) ⟨h,g,d,t,os⟩):
  ZJ (ZK prog w) A (getAttrBy (.ref a) (.str "__class__" tk) fill expr) Q E ⟨h,g,d,t,os⟩:=by
 have f3:=ga_V.bind (.ref a)
 have hx0:(expr&&onTheHeap (QR "BaseException.__getattribute__"))=ZD:=by cases expr <;> rfl
 have hx2:(QR "BaseException.__getattribute__" == QR "object.__getattribute__")=ZD:=by decide+kernel
 have hx1:(onTheHeap (N3 C)&&QR "BaseException.__getattribute__" == QR "object.__getattribute__")=ZD:=by rw[hx2];rfl
 have hm1:("__getattribute__" : Str)∈calmNames:=.tail _ (.head _)
 have hm2:("__getattr__" : Str)∈calmNames:=.tail _ (.tail _ (.head _))
 repeat (any_goals (first|assumption| (with_reducible refine OU hx ?_;rw[hc])|with_reducible refine yn hm1 hC hN hmN T ga_V.lookup ?_|with_reducible refine yn hm2 hC hN hmN T yq ?_|wp_step))
 refine Eo hC hN hmN T hx hc hd ?_
 repeat (any_goals (first|assumption|wp_step))
def Ep(hC:h.get? C=ZA (Pj nm q C N bs bm hdct sn sub ab col dd k0 k1 k2 k3 k5 newId))(hN:h.Ns N mN)
  (hmN:∀n∈calmNames,mN n=ZB) (T:OTail h bm) (hx:h.get? a=ZA o) (hc:o.cls=.ref C) (hd:o.data=.fields vs) (hq:Q (ZA (.ref C)) ⟨h,g,d,t+1,os⟩):
  ZJ (ZK prog w) A (getAttr? (.ref a) "__class__") Q E ⟨h,g,d,t,os⟩:=by
 unfold getAttr? getAttrBy?
 repeat (any_goals (first|assumption|with_reducible apply Kl hC hN hmN T hx hc hd|wp_step))
end
variable{D:ZE}{Q:Fin->NQ->Prop}
section
variable {t:Nat}
variable {N:ZE}{bs:List NM}{sub:List NM}{mN:V0}
variable {o:Obj}{vs:Array NM}
def AJ{dep:Int}(hx:h.get? a=ZA o)(hc:o.cls=.ref C)(hq:Q (.done (.ret (.bool ZC))) ⟨h,g,d,t,os⟩):
  ZJ (ZK prog w) A (Builtin.«isinstance.nested» ⟨[.ref a,.ref C,.int dep tk],[]⟩) Q E ⟨h,g,d,t,os⟩:=by
 have e:(N3 C == N3 C)=ZC:=by simp
 repeat (any_goals (first|assumption| (with_reducible refine OU hx ?_;rw[hc])|wp_step))
def Ju{dep:Int}(hC:h.get? C=ZA (Pj nm q C N bs bm hdct sn sub ab col dd k0 k1 k2 k3 k5 newId))(T:OTail h bm)(hx:h.get? a=ZA o)(hc:o.cls=.ref C)
  (hq:Q (.done (.ret (.bool ZC))) ⟨h,g,d,t,os⟩):ZJ (ZK prog w) A (Builtin.«isinstance.nested» ⟨[.ref a,.type "ValueError",.int dep tk],[]⟩) Q E ⟨h,g,d,t,os⟩:=by
 have e:(N3 C == Rr "ValueError")=ZD:=rfl
 have hty:typeOf (.type "ValueError")=pure (.type "type"):=by kernel_rfl
 have hcB:(N3 C::bm).contains (.type "ValueError")=ZC:=by rw[O4,T.tail.hasType (b:=ZC) (by decide)];rfl
 repeat (any_goals (first|assumption| (with_reducible refine OU hx ?_;rw[hc])| (with_reducible refine P5 hC ?_;rw[hcB])|wp_step))
def C0{oD:Obj}{cD:ClassData}{dep:Int}(hC:h.get? C=ZA (Pj nm q C N bs bm hdct sn sub ab col dd k0 k1 k2 k3 k5 newId))(hN:h.Ns N mN)(hmN:∀n∈calmNames,mN n=ZB)(T:OTail h bm)
  (hx:h.get? a=ZA o) (hc:o.cls=.ref C) (hd:o.data=.fields vs) (hD:h.get? D=ZA oD) (hDt:oD.cls=.type "type") (hDd:oD.data=.cls cD) (hne:(N3 C == N3 D)=ZD) (hnb:(N3 C::bm).contains (.ref D)=ZD)
  (hq:Q (.done (.ret (.bool ZD))) ⟨h,g,d,t+1,os⟩):ZJ (ZK prog w) A (Builtin.«isinstance.nested» ⟨[.ref a,.ref D,.int dep tk],[]⟩) Q E ⟨h,g,d,t,os⟩:=by
 repeat (any_goals (first|assumption| (with_reducible refine OU hx ?_;rw[hc])| (with_reducible refine OU hD ?_;rw[hDt])| (with_reducible refine OU hD ?_;rw[hDd])| (with_reducible refine OU hC ?_)| (with_reducible refine P5 hC ?_;rw[hnb])|with_reducible refine Ep hC hN hmN T hx hc hd ?_|wp_step))
end
structure OX (K:NK)(C:ZE)(bm:List NM):Prop where
 at_:∀h:ZH,K.In h->∃nm q N bs hdct sn sub ab col dd k0 k1 k2 k3 k5 mN,h.get? C=ZA (Pj nm q C N bs bm hdct sn sub ab col dd k0 k1 k2 k3 k5 "ValueError.__new__")/\h.Ns N mN/\(∀n∈calmNames,mN n=ZB)/\OTail h bm
def OX.own(O:OX K C bm):OwnExc K C bm:=⟨λh k=>by
 obtain⟨nm,q,N,bs,hdct,sn,sub,ab,col,dd,k0,k1,k2,k3,k5,mN,h1,h2,h3,h4⟩:=O.at_ h k;exact⟨nm,q,N,bs,hdct,sn,sub,ab,col,dd,k0,k1,k2,k3,k5,mN,h1,h2,h3 _ (.head _),h4.tail⟩⟩
variable{Q:VK}{oe:Obj}
section
variable {ev:Array NM}{bmD:List NM}
def tIs(e:ZE)(b:Bool):TE:=λσ H Q=>σ[0]?=ZA (ZA (.ref e))/\Q (.bl b) H
def Dy(hp:(e,oe)∈X.pn)(hc:oe.cls=.ref C)(hd:oe.data=.fields ev)(OC:OX X.K C bm)(OD:OX X.K D bmD)(b:Bool)(hb:(decide (C=D))=b)(hnb:C≠D->bm.contains (.ref D)=ZD)
  (I:Inv X ol σ H s) (q:Q (.bl b) H):ZJ (ZK X.prog X.w) X.A (call (.builtin "isinstance") [.ref e,.ref D]) (EP X ol σ Q) X.xe s:=by
 have hx:s.heap.get? e=ZA oe:=(I.pin (e,oe) (On _ hp)).1;obtain⟨nm,qq,N,bs,hdct,sn,sub,ab,col,dd,k0,k1,k2,k3,k5,mN,hC,hN,hmN,T⟩:=OC.at_ s.heap I.kIn;obtain⟨nm',qq',N',bs',hdct',sn',sub',ab',col',dd',k0',k1',k2',k3',k5',mN',hD,_⟩:=OD.at_ s.heap I.kIn;obtain⟨h,g,d,t,os⟩:=s;refine Ue ?_ (by intro z;cases z)
 by_cases z:C=D
 ·subst z
  have:b=ZC:=by rw[<-hb];simp
  subst this;exact AJ hx hc ⟨.bl ZC,H,I,rfl,q⟩
 ·have:b=ZD:=by rw[<-hb];simp[z]
  subst this;refine C0 hC hN hmN T hx hc hd hD rfl rfl ?_ ?_ ⟨.bl ZD,H,I.tok _,rfl,q⟩
  ·rw[beq_eq_false_iff_ne];exact λy=>z (TL y)
  ·rw[O4,hnb z,Bool.or_false,beq_eq_false_iff_ne]
   exact λy=>z (TL y).symm
def Dz(hp:(e,oe)∈X.pn)(hc:oe.cls=.ref C)(OC:OX X.K C bm)
  (I:Inv X ol σ H s) (q:Q (.bl ZC) H):ZJ (ZK X.prog X.w) X.A (call (.builtin "isinstance") [.ref e,.type "ValueError"]) (EP X ol σ Q) X.xe s:=by
 have hx:s.heap.get? e=ZA oe:=(I.pin (e,oe) (On _ hp)).1;obtain⟨nm,qq,N,bs,hdct,sn,sub,ab,col,dd,k0,k1,k2,k3,k5,mN,hC,hN,hmN,T⟩:=OC.at_ s.heap I.kIn;obtain⟨h,g,d,t,os⟩:=s;refine Ue ?_ (by intro z;cases z)
 exact Ju hC T hx hc ⟨.bl ZC,H,I,rfl,q⟩
def mP{en dn:Str}{p p2:Pos}(hN:X.N[0]?=ZA en)(hv:lM X.env.scope en)(hp:(e,oe)∈X.pn)(hc:oe.cls=.ref C)(hd:oe.data=.fields ev)(OC:OX X.K C bm)(OD:OX X.K D bmD)(b:Bool)(hb:(decide (C=D))=b)(hnb:C≠D->bm.contains (.ref D)=ZD)
  (hm:X.mg "isinstance" =ZB) (hmD:X.mg dn=ZA (.ref D)) (hg:Gl X "isinstance":=by rfl) (hgD:Gl X dn:=by rfl) (hde:eO en:=by decide) (hce:(en == ("__classdict__" : Str))=ZD:=by decide) (hdd:eO dn:=by decide)
  (he:NY [.Name en p1,.Name dn p2] X.env=(ZD,eval (.Name en p1) X.env)::NY [.Name dn p2] X.env:=by rfl) (hpl:(backTo pos (NY [.Name dn p2] X.env)).any (·.1)=ZD:=by rfl)
  (hs:NY [.Name dn p2] X.env=(ZD,eval (.Name dn p2) X.env)::NY [] X.env:=by rfl):
  PE X (.Call (.Name "isinstance" p) [.Name en p1,.Name dn p2] [] pos) (tIs e b):=by
 intro ol s σ H Q I ⟨hσ,q⟩;refine OG (gU I hg hm gq ?_ (by decide) (by decide))
 have hA:PA X [.Name en p1,.Name dn p2] (hV (oR 0) (hV (tC (.ref D)) vB)):=bq (eF hN hv hde hce) (bq (zo hgD hmD rfl hdd) dH hs) he;refine PN (bS (hA pos ol s σ H (λvs H'=>vs=[.ref e,.ref D]/\H'=H) I ⟨.ref e,hσ,rfl,rfl⟩) λus s1 ⟨vs,H1,I1,r1,e1,e2⟩=>?_) he hpl
 subst e1;obtain⟨u,w',rfl,ru,rw'⟩:=vk r1;cases ru;cases rw';subst e2;exact Dy hp hc hd OC OD b hb hnb I1 q
end
def eqB(a b:Bool):MeetsSeq.EqGives (.bool a) (.bool b) (a == b):=λprog w A E s Q h=>(PySem.SeqAt.EqAt.bool_bool a b (A:=A) (s:=s)) prog w E Q h
theorem sT:∀{ks:List Bool}{us:List NM},Vals (ks.map V.bl) us->us=ks.map ON
 |[],us,r=>by cases r;rfl
 |k::ks,us,r=>by
  cases r with
  |cons r1 r2=>cases r1;rw[sT r2];rfl
def mw:NM->Bool
 |.bool b=>b
 |_=>ZD
def Fs:V->List V->Hp->VK->Prop:=λx vs H Q=>∃(l:ZE)(ks:List Bool),x=.ref l/\vs=[.bl ZC]/\H l=ZA (.lst (ks.map V.bl))/\Q (.int (ks.countP id:Nat)) H
def AM:MU X "list.count" Fs:=by
 intro ol s σ H x vs v us Q I rx rv h;obtain⟨l,ks,rfl,rfl,hH,q⟩:=h;cases rx;obtain⟨u,rfl,ru⟩:=rv.one;cases ru;obtain⟨z,its,n,r,hl,e⟩:=I.M0 hH
 have hi:=sT r;subst hi;refine Q0 F.slot_list_count ⟨_,e,rfl⟩ F.entry_list_count (F.args_list_count_2 _ _) (MeetsSeq.list_count l (ks.map ON).toArray n (.bool ZC) mw λy hy=>?_) ⟨e,?_⟩
 ·have hy':y∈ks.map ON:=by simpa using hy
  obtain⟨k,_,rfl⟩:=Om.mp hy'
  have:=eqB k ZC;cases k <;> exact this
 ·have hc:(ks.map ON).toArray.toList.countP mw=ks.countP id:=by
   simp only[List.countP_map];rfl
  rw[hc];exact⟨.int _,H,I.tok _,⟨_,rfl⟩,q⟩
def Fp:V->List V->Hp->VK->Prop:=λx vs H Q=>∃(l:ZE)(ks:List Bool)(j:Nat),x=.ref l/\vs=[.bl ZC]/\H l=ZA (.lst (ks.map V.bl))/\ks[j]?=ZA ZC/\(∀m,m<j->ks[m]?=ZA ZD)/\j<=1000/\Q (.int (j:Nat)) H
def AK:MU X "list.index" Fp:=by
 intro ol s σ H x vs v us Q I rx rv h;obtain⟨l,ks,j,rfl,rfl,hH,hj,hno,hs,q⟩:=h;cases rx;obtain⟨u,rfl,ru⟩:=rv.one;cases ru;obtain⟨z,its,n,r,hl,e⟩:=I.M0 hH
 have hi:=sT r;subst hi
 have hjl:j<ks.length:=(NW.mp hj).1
 refine Q0 Uq ⟨_,e,rfl⟩ TX (Tx _ _) (MeetsSeq.list_index l (ks.map ON).toArray n (.bool ZC) mw (λy hy=>?_) j (by simpa using hjl) (by omega) ?_ ?_) ⟨e,?_⟩
 ·have hy':y∈ks.map ON:=by simpa using hy
  obtain⟨k,_,rfl⟩:=Om.mp hy'
  have:=eqB k ZC;cases k <;> exact this
 ·have:ks[j]=ZC:=by have:=(NW.mp hj).2;exact this
  simp[this,mw]
 ·intro m hm hmj
  have hmk:m<ks.length:=by simpa using hm
  have:=(NW.mp (hno m hmj)).2
  simp[this,mw]
 ·exact⟨.int _,H,I.tok _,⟨_,rfl⟩,q⟩
abbrev ML(P:Oa)(w:O0)(K:NK)(mg:V0)(base:ZH)(N:List Str)(qual:Str)(scope:Q8)(f:ZE)(cd:NM)(A:Ou)(outer:List Env)(s:NQ)(H:Hp)(e:ZE)(oe:Obj):Cx:=
 {gp CX0 P w K mg base N qual scope f cd A outer s H E0 with calm:=ZD,pn:=[(e,oe)],xe:=λ_ _=>False}
section
variable {base:ZH}
def yC{scope:Q8}{cd:NM}{s1:NQ}
  (S:aA N ps scope) (e0:Env0 P w K mg base A outer s H) (hl:vs.length=ps.length) (r:Vals vs us)
  (x:InCallC s s.heap.objs.size (bindL (envOfC qual scope s.heap.objs.size f cd).kindOf (ps.zip us) λ_=>ZB) (P4 (s.heap.objs.size+1) scope.names []) (bindC (envOfC qual scope s.heap.objs.size f cd).kindOf (ps.zip us) λ_=>ZB) s1)
  (he:s.heap.get? e=ZA oe) (hH:H e=ZB) (hf:e∉m9 outer) (hc:∀v,oe.data≠ .cell v):
  Inv (ML P w K mg base N qual scope f cd A outer s H e oe) [] (start N vs) H s1:=by
 have e0':Env0 P w K mg base {A with handled:=ZB} outer s H:=⟨e0.frames,e0.mod,e0.bs,e0.bsz,e0.funs,e0.frf,e0.hok,e0.bare⟩
 have I:=kG (CX:=CX0) (E:=E0) S (A:={A with handled:=ZB}) rfl e0' hl r x
 obtain⟨h1,tk,hs1,hk⟩:=x.done
 have ok:=I.ok;refine⟨⟨ok.mod,ok.kind,ok.glob,ok.blt,ok.above,ok.inj,ok.has,ok.cab,(λz=>by cases z),Td e0.frames,.inr ⟨rfl,rfl⟩,ok.exf,ok.bs,ok.bsz,ok.noex,ok.exfs,ok.funs,ok.frf⟩,I.os,I.bare,I.base,I.loc,I.cell,I.free,I.freeC,λp hp=>?_,I.hok,I.len⟩
 have hp':p=(e,oe):=by simpa using hp
 subst hp';refine⟨?_,hH,?_,hf,hc⟩
 ·rw[hs1];exact hk e oe he
 ·exact Pk (NZ he)
def J1{args:Args}(Fn:L2.Fun K x qual st f fd)(S:aA N ps (aj st))(hlen:vs.length=ps.length)
  (hr:A.depth+3<Q5) (e0:Env0 P w K mg base A outer s H) (hb:Sb s fd args (ps.zip us)) (r:Vals vs us) (he:s.heap.get? e=ZA oe) (hH:H e=ZB) (hf:e∉m9 outer) (hc:∀v,oe.data≠ .cell v)
  (hbody:∀(cdv:NM),∃t,PSs (ML P w K mg base N qual (aj st) f cdv A outer s H e oe) (bD st) t/\t {nx:=λ_ _=>False,rt:=Q} (start N vs) H):
  ZL (ZK P w) A (.call (.ref f) args) (CR CX0 outer P w H s Q E0) s:=by
 obtain⟨oc,od,kV,doc,pm,an,cdv,ct,osl,rfl,lk,hcd⟩:=Fn.ex
 have KX:K.In s.heap:=e0.mod.kin.keeps λb o e=>(e0.bs b o e).1
 have lim:s.heap.NoLimit:=e0.mod.nolimit.keeps λb o e=>(e0.bs b o e).1
 have hkind:∀y∈ps.zip us,(aj st).names.lookup y.1=ZA .local\/((aj st).names.lookup y.1=ZA .cell/\((P4 (s.heap.objs.size+1) (aj st).names []).lookup y.1).isSome=ZC):=λ⟨n,v⟩ hy=>by
  rcases S.par n (QD hy).1 with q|q
  ·exact .inl q
  ·exact .inr ⟨q,P6 _ _ _ (.inl q)⟩
 refine QL (by omega) (KX _ _ lk) rfl S.co S.gen rfl (Rf KX hcd) (hb _ _ _ _ ?_)
 refine P8 S.kind hkind λenv hen s1 x=>?_
 subst hen;refine⟨lim.keeps x.toInCall.keep,S5 ?_⟩
 obtain⟨t,ht,hq⟩:=hbody cdv
 have I:=yC S e0 hlen r x he hH hf hc;refine Pw (ht [] s1 (start N vs) H _ I hq) (λfl s' hs=>?_) λe s' hs=>hs.elim
 cases fl with
 |ret u=>
  obtain⟨v,σ',H',J,rv,q⟩:=hs
  exact⟨v,H',J.os,J.bare,J.base,J.hok,rv,q⟩
 |next=>obtain⟨_,_,_,q⟩:=hs;exact q.elim
 |brk=>obtain⟨_,_,_,q⟩:=hs;exact q.elim
 |cont=>obtain⟨_,_,_,q⟩:=hs;exact q.elim
end
def Hl{base:ZH}{L:ZE}{T:Option ZE}{Q:Unit->NQ->Prop}(hfr:A.frames=ZA (env::outer))(hl:s.heap.FunFrames base (env::outer))(hf:env.frame=ZA L)
  (F:MB s.heap C e T) (h:∀h' T',EE ((env::outer).filterMap (·.frame)) C e T s.heap h' T'->Q () {s with heap:=h'}):
  ZJ M A (Vh (.ref e) env) (λ_ s'=>ZJ M A (setFlight (.ref e) ZB) Q E s') E s:=by
 generalize hB:SN s.heap (e::(T.toList++(env::outer).filterMap (·.frame)))=B
 have bm:∀b,b∈e::(T.toList++(env::outer).filterMap (·.frame))->B.get? b=ZB:=λb m=>by rw[<-hB];exact RM _ m
 have hl':s.heap.FunFrames B (env::outer):=iC hl λa ha=>bm a (NL _ (Of _ ha))
 have hst:B.StaysIn s.heap:=λb o q=>by rw[<-hB]at q;exact R4 _ q
 have hen:B.get? e=ZB:=bm e NP
 have main:∀h',Heap.Left B (env::outer) e (.ref C) s.heap h'->Q () {s with heap:=h'}:=λh' ⟨x1,x2,⟨oe,vs,T',oT,ts,he,hc,hd,h1,hnT,hTe,hT,hdT,h3⟩,x4⟩=>by
  refine h h' T' ⟨⟨hTe,oe,vs,he,hc,hd,h1,oT,ts,hT,hdT,h3⟩,?_,λb o n1 n2 n3 q=>?_,λb o m q=>?_⟩
  ·cases q:s.heap.get? T' with
   |none=>exact .inr rfl
   |some o=>
    left
    by_cases z:T'∈e::(T.toList++(env::outer).filterMap (·.frame))
    ·rcases NT.mp z with z|z
     ·exact absurd z hTe
     ·rcases Oi.mp z with z|z
      ·cases T with
       |none=>simp at z
       |some t=>simp at z;rw[z]
      ·obtain⟨_,o',ho',hnf⟩:=x2.mem z
       rw[hT]at ho';cases ho';exact absurd hdT (hnf ts)
    ·rw[<-hB,Qv _ q z]at hnT;cases hnT
  ·refine x1 b o ?_
   rw[<-hB];refine Qv _ q λz=>?_
   rcases NT.mp z with z|z
   ·exact n2 z
   ·rcases Oi.mp z with z|z
    ·cases T with
     |none=>simp at z
     |some t=>simp at z;exact n3 (by rw[z])
    ·exact n1 z
  ·obtain⟨_,o',ho',hnf⟩:=hl.mem m
   rw[q]at ho';cases ho';exact x4 b o q hnf
 cases T with
 |none=>
  obtain⟨oe,vs,he,hc,hd,h1⟩:=F;unfold Vh;simp only[hf];refine NS (Qn he hd h1 ?_)
  rw[if_neg (by decide)]
  refine wpAny_newEntry hfr hl' hf he hst hen hd (O5.mp h1).1 λh' x=>main h' ?_
  rw[hc]at x;exact x
 |some t=>
  obtain⟨hte,oe,vs,he,hc,hd,h1,oT,ts,hT,hdT,h3⟩:=F
  have hnT:B.get? t=ZB:=bm t (NL _ (On _ (by simp)))
  unfold Vh;simp only[hf];refine NS (Qn he hd h1 ?_)
  rw[if_pos (show(N3 t != Oz)=ZC from by simp)]
  refine NS (Qn hT hdT h3 ?_)
  rw[if_neg (show ¬((Oz == rawInt L)=ZC)from by simp[rawInt])]
  refine NS (Ts hT hdT (O5.mp h3).1 ?_)
  have other:∀b,b≠t->(s.heap.update t (RP (·.setIfInBounds 3 Oz))).get? b=s.heap.get? b:=λb hb=>QB _ _ (O6 hb)
  have noRec:∀b o,s.heap.get? b=ZA o->(∀vs,o.data≠ .fields vs)->b≠t:=λb o hb hnf q=>by
   rw[q,hT]at hb;injection hb with hb;subst hb;exact hnf ts hdT
  refine wpAny_newEntry hfr (hl'.of_keeps λb o hb hnf=>⟨o,(other b (noRec b o hb hnf)).trans hb,rfl⟩) hf ((other e (O6 hte)).trans he)
   (λb o hbo=>(other b λq=>by rw[q,hnT]at hbo;cases hbo).trans (hst b o hbo)) hen hd (O5.mp h1).1
   λh' x=>main h' ?_
  obtain⟨x1,x2,x3,x4⟩:=x;rw[hc]at x3;exact⟨x1,x2,x3,λb o hb hnf=>x4 b o ((other b (noRec b o hb hnf)).trans hb) hnf⟩
variable{h':ZH}
def Inv.gone{T':ZE}{T:Option ZE}(I:Inv X ol σ H s)(hst:X.stack=X.env::X.outer)(hfe:X.env.frame=ZA X.env.locals)(hcl:∀x c,X.env.cells.lookup x≠ZA c)(hex:X.ex=[])
  (g:EE ((X.env::X.outer).filterMap (·.frame)) C e T s.heap h' T') (he:H e=ZB) (heo:X.s₀.heap.get? e=ZB) (hT:∀t,T=ZA t->H t=ZB/\X.s₀.heap.get? t=ZB) (hp:∀p∈X.pn++ol,p.1≠e/\T≠ZA p.1):
  Inv X ol σ H {s with heap:=h'}:=by
 have mem:∀b,b∈(X.env::X.outer).filterMap (·.frame)↔b=X.env.locals\/b∈X.fs:=λb=>by
  rw[Pc,hfe];exact NT
 have out:∀b o,X.s₀.heap.get? b=ZA o->b≠X.env.locals:=λb o q z=>by
  have h1:=NZ q
  have h2:=I.ok.above;rw[z]at h1;exact absurd (N8 h1 h2) (Ot _)
 have ne:∀b o,X.s₀.heap.get? b=ZA o->b≠e/\T≠ZA b:=λb o q=>⟨λz=>(by subst z;rw[heo]at q;cases q),λz=>(by rw[(hT b z).2]at q;cases q)⟩
 have fr:∀b,b∈(X.env::X.outer).filterMap (·.frame)->H b=ZB:=λb z=>I.KM b (by rw[hst];exact z)
 have keepH:∀b u,H b≠ZB->s.heap.get? b=ZA u->h'.get? b=ZA u:=λb u hb q=>by
  refine g.keep b u (λz=>hb (fr b z)) (λz=>hb (by rw[z];exact he)) (λz=>hb (hT b z).1) q
 refine⟨I.ok,I.os,I.bare,⟨λb o q n hb hx=>?_,λb o q n hb hx=>?_,I.base.free,λb o q hx=>?_,I.base.tups,I.base.frzs,I.base.tbls⟩,?_,λx c z=>absurd z (hcl x c),I.free,I.freeC,λp hp'=>?_,λa o q=>?_,I.len⟩
 ·exact g.keep b o (λz=>((mem b).mp z).elim (out b o q) hb) (ne b o q).1 (ne b o q).2 (I.base.keep b o q n hb hx)
 ·obtain⟨sl,q1⟩:=I.base.slot b o q n hb hx
  obtain⟨sl',q2⟩:=g.slot b _ ((mem b).mpr (.inr hb)) q1;exact⟨sl',q2⟩
 ·obtain⟨o',q1⟩:=I.base.there b o q hx
  by_cases z:b∈(X.env::X.outer).filterMap (·.frame)
  ·obtain⟨sl,q2⟩:=g.slot b o' z q1
   exact⟨_,q2⟩
  ·exact⟨o',g.keep b o' z (ne b o q).1 (ne b o q).2 q1⟩
 ·obtain⟨m,⟨o,es,ep,ho,hd,r⟩,hl⟩:=I.loc
  obtain⟨sl,q2⟩:=g.slot X.env.locals o ((mem _).mpr (.inl rfl)) ho;refine⟨m,⟨_,es,ep,q2,hd,r⟩,λi x v a1 a2 a3=>?_⟩
  obtain⟨u,ru,lk⟩:=hl i x v a1 a2 a3;refine⟨u,ru,?_⟩
  rcases lk with z|⟨_,c,z,_⟩
  ·exact .inl z
  ·exact absurd z (hcl x c)
 ·obtain⟨b1,b2,b3,b4,b5⟩:=I.pin p hp'
  exact⟨g.keep p.1 p.2 (λz=>((mem _).mp z).elim b3 b4) (hp p hp').1 (hp p hp').2 b1,b2,b3,b4,b5⟩
 ·refine(I.hok a o q).M4 (λb u hb z=>keepH b u ?_ z) (λ_ z=>z) λ_ _ z=>z
  rcases hb with rfl|hb
  ·rw[q];simp
  ·rw[hb];simp
variable{N:ZE}{ab' hdct':Bool}{bs' sub':List NM}{col':Option Bool}{dd':Option ZE}{sn':List Str}
section
variable {t:Nat}
variable {bs:List NM}{sub:List NM}
variable {nm' q':Str}{N':ZE}{bm':List NM}{k0' k1' k2' k3' k5':Option NM}{newId':String}
def rZ{Q:Bool->NQ->Prop}(hC:h.get? C=ZA (Pj nm q C N bs bm hdct sn sub ab col dd k0 k1 k2 k3 k5 newId))(hD:h.get? D=ZA (Pj nm' q' D N' bs' bm' hdct' sn' sub' ab' col' dd' k0' k1' k2' k3' k5' newId'))
  (he:h.get? e=ZA oe) (hcls:oe.cls=.ref C) (hb:bm'.contains (.type "BaseException")=ZC) (hin:(N3 C::bm).contains (.ref D)=ZC) (hq:Q ZC ⟨h,g,d,t,os⟩):ZJ M A (excMatches (.ref e) (.ref D)) Q E ⟨h,g,d,t,os⟩:=by
 have hcB:(N3 D::bm').contains (.type "BaseException")=ZC:=by rw[O4,hb,UG]
 have f:=tc_notTuple;unfold excMatches
 repeat (first| (with_reducible refine OU he ?_;rw[hcls])|with_reducible refine OU hD ?_| (with_reducible refine P5 hD ?_;rw[hcB])| (with_reducible refine P5 hC ?_;rw[hin])|wp_step)
 exact hq
end
abbrev uX(X:Cx)(e:ZE)(oe:Obj):Cx:={X with A:=X.A.mark (ZA (.ref e)),calm:=ZD,pn:=(e,oe)::X.pn,xe:=λ_ _=>False}
def oA(I:Inv X ol σ H s)(he:s.heap.get? e=ZA oe)(hH:H e=ZB)(hne:e≠X.env.locals)(hf:e∉X.fs)(hc:∀v,oe.data≠ .cell v):Inv (uX X e oe) ol σ H s:=by
 have ok:=I.ok;refine⟨⟨ok.mod,ok.kind,ok.glob,ok.blt,ok.above,ok.inj,ok.has,ok.cab,(λz=>by cases z),?_,ok.stk,ok.exf,ok.bs,ok.bsz,ok.noex,ok.exfs,ok.funs,ok.frf⟩,I.os,I.bare,I.base,I.loc,I.cell,I.free,I.freeC,λp hp=>?_,I.hok,I.len⟩
 ·exact ok.frames
 ·rcases NT.mp (show p∈(e,oe)::(X.pn++ol)from hp)with z|z
  ·subst z;exact⟨he,hH,hne,hf,hc⟩
  ·exact I.pin p z
def zQ(ok:X.Ok)(I:Inv (uX X e oe) ol σ H s):Inv X ol σ H s:=
 ⟨ok,I.os,I.bare,I.base,I.loc,I.cell,I.free,I.freeC,λp hp=>I.pin p (NL _ hp),I.hok,I.len⟩
def Inv.forget{tk:Nat}{m:V0}(I:Inv X ol σ H s)(hcl:∀x c,X.env.cells.lookup x≠ZA c)(hn:h'.Ns X.env.locals m)(hs:Rb X.env.locals s.heap h'):Inv X ol (Ob X.N.length ZB) H {s with heap:=h',toks:=tk}:=by
 have out:∀b o,X.s₀.heap.get? b=ZA o->b≠X.env.locals:=λb o q z=>by
  have h1:=NZ q
  have h2:=I.ok.above;rw[z]at h1;exact absurd (N8 h1 h2) (Ot _)
 have kp:∀b o,b≠X.env.locals->s.heap.get? b=ZA o->h'.get? b=ZA o:=λb o n q=>hs.extBut b o n q
 refine⟨I.ok,I.os,I.bare,⟨λb o q n hb hx=>kp b o (out b o q) (I.base.keep b o q n hb hx),λb o q n hb hx=>?_,I.base.free,λb o q hx=>?_,I.base.tups,I.base.frzs,I.base.tbls⟩,⟨m,hn,λi x v a1 a2 a3=>?_⟩,λx c z=>absurd z (hcl x c),I.free,I.freeC,λp hp=>?_,λa o q=>?_,by simp⟩
 ·obtain⟨sl,q1⟩:=I.base.slot b o q n hb hx
  exact⟨sl,kp b _ (out b o q) q1⟩
 ·obtain⟨o',q1⟩:=I.base.there b o q hx
  exact⟨o',kp b o' (out b o q) q1⟩
 ·rw[Ph]at a2
  split at a2 <;> cases a2
 ·obtain⟨b1,b2,b3,b4,b5⟩:=I.pin p hp
  exact⟨kp p.1 p.2 b3 b1,b2,b3,b4,b5⟩
 ·have nl:∀b u,H b=ZA u->b≠X.env.locals:=λb u q z=>by rw[z,I.free]at q;cases q
  refine(I.hok a o q).M4 (λb u hb z=>kp b u ?_ z) (λ_ z=>z) λ_ _ z=>z
  rcases hb with rfl|hb
  ·exact nl _ _ q
  ·exact nl _ _ hb
def mH(X:Cx)(i:Nat)(suite:List ZF)(CE:ZE)(h:Str->Rs T):Prop:=
 ∀(c:Str)(C:ZE)(t:T),X.mg c=ZA (.ref C)->h c=.ok t->∃bm,OX X.K C bm/\(N3 C::bm).contains (.ref CE)=ZC ∧
  ∀(e:ZE)(oe:Obj)(ev:Array NM),oe.cls=.ref C->oe.data=.fields ev->∀(ol:V2)(s:NQ)(σ:L2.St)(H:Hp)(O:Ow)(Q:VK),Inv (uX X e oe) ol σ H s->H e=ZB->e∉m9 X.stack->σ[i]?=ZA (ZA (.ref e))->(∀p,H p=ZB->¬ O p) →
   (∀v H',Same H H'->Rep X.K O H' t v->Q v H')->ZJ (ZK X.prog X.w) (uX X e oe).A (execs suite X.env) (SP (uX X e oe) ol {nx:=λ_ _=>False,rt:=Q}) (λ_ _=>False) s
def Inv.Np(ol:V2)(I:Inv X ol σ H s):Inv {X with pn:=X.pn++ol} [] σ H s:=
 ⟨⟨I.ok.mod,I.ok.kind,I.ok.glob,I.ok.blt,I.ok.above,I.ok.inj,I.ok.has,I.ok.cab,I.ok.hd,I.ok.frames,I.ok.stk,I.ok.exf,I.ok.bs,I.ok.bsz,I.ok.noex,I.ok.exfs,I.ok.funs,I.ok.frf⟩,I.os,I.bare,I.base,I.loc,I.cell,I.free,I.freeC,λp hp=>I.pin p (by rw[Ol]at hp;exact hp),I.hok,I.len⟩
def Inv.Nn{pins1:V2}{xe:V1}(I:Inv {X with pn:=X.pn++ol,xe:=xe} pins1 σ H s):Inv X ol σ H s:=
 ⟨⟨I.ok.mod,I.ok.kind,I.ok.glob,I.ok.blt,I.ok.above,I.ok.inj,I.ok.has,I.ok.cab,I.ok.hd,I.ok.frames,I.ok.stk,I.ok.exf,I.ok.bs,I.ok.bsz,I.ok.noex,I.ok.exfs,I.ok.funs,I.ok.frf⟩,I.os,I.bare,I.base,I.loc,I.cell,I.free,I.freeC,λp hp=>I.pin p (On _ hp),I.hok,I.len⟩
def Kn:OK "ValueError" =ZA (.type "ValueError"):=by decide+kernel
def Jd{en:Str}{p p2:Pos}(hN:X.N[0]?=ZA en)(hv:lM X.env.scope en)(hp:(e,oe)∈X.pn)(hc:oe.cls=.ref C)(OC:OX X.K C bm)
  (hm:X.mg "isinstance" =ZB) (hmD:X.mg "ValueError" =ZB) (hg:Gl X "isinstance":=by rfl) (hgD:Gl X "ValueError":=by rfl) (hde:eO en:=by decide) (hce:(en == ("__classdict__" : Str))=ZD:=by decide)
  (he:NY [.Name en p1,.Name "ValueError" p2] X.env=(ZD,eval (.Name en p1) X.env)::NY [.Name "ValueError" p2] X.env:=by rfl) (hpl:(backTo pos (NY [.Name "ValueError" p2] X.env)).any (·.1)=ZD:=by rfl)
  (hs:NY [.Name "ValueError" p2] X.env=(ZD,eval (.Name "ValueError" p2) X.env)::NY [] X.env:=by rfl):
  PE X (.Call (.Name "isinstance" p) [.Name en p1,.Name "ValueError" p2] [] pos) (tIs e ZC):=by
 intro ol s σ H Q I ⟨hσ,q⟩;refine OG (gU I hg hm gq ?_ (by decide) (by decide))
 have hA:PA X [.Name en p1,.Name "ValueError" p2] (hV (oR 0) (hV (tC (.ty "ValueError")) vB)):=bq (eF hN hv hde hce) (bq (zr (v:=.ty "ValueError") hgD hmD Kn rfl) dH hs) he;refine PN (bS (hA pos ol s σ H (λvs H'=>vs=[.ref e,.ty "ValueError"]/\H'=H) I ⟨.ref e,hσ,rfl,rfl⟩) λus s1 ⟨vs,H1,I1,r1,e1,e2⟩=>?_) he hpl
 subst e1;obtain⟨u,w',rfl,ru,rw'⟩:=vk r1;cases ru;cases rw';subst e2;exact Dz hp hc OC I1 q
def LH{ob:NM}{oe:Option ZE}{es:Array DictEntry}{oz:Array (Option NM)}(r:K.lookup N=ZA ⟨ob,oe,.dict es n,oz⟩)(s:(es.toList.all λe=>BQ e.key)=ZC)
  (u0:Ra K N "__init__" =ZA ZB) (u1:Ra K N "__getattribute__" =ZA ZB) (u2:Ra K N "__getattr__" =ZA ZB) (u3:Ra K N "__class__" =ZA ZB):
  ∀h:ZH,K.In h->∃mN,h.Ns N mN/\∀n∈calmNames,mN n=ZB:=λh k=>by
 refine⟨nsFind es,⟨_,es,n,k _ _ r,rfl,λe he=>?_,λ_=>rfl⟩,λx hx=>?_⟩
 ·have:=Od.mp s e (by simpa using he)
  cases q:e.key <;> rw[q]at this <;> first|exact⟨_,_,rfl⟩|cases this
 ·have key:∀x,Ra K N x=ZA ZB->nsFind es x=ZB:=λx u=>by
   unfold Ra at u;rw[r]at u;simp only at u
   split at u
   ·cases u
   ·rename_i he
    unfold nsFind findBy;rw[<-TN,he];rfl
  unfold calmNames at hx;simp only[NT,Po,or_false]at hx;rcases hx with rfl|rfl|rfl|rfl
  ·exact key _ u0
  ·exact key _ u1
  ·exact key _ u2
  ·exact key _ u3
section
variable {bs:List NM}{sub:List NM}
variable {nm' q':Str}{N':ZE}{k0' k1' k2' k3' k5':Option NM}
def F2(w:K.lookup C=ZA (Pj nm q C N bs oa hdct sn sub ab col dd k0 k1 k2 k3 k5 "ValueError.__new__"))(ns:∀h:ZH,K.In h->∃mN,h.Ns N mN/\∀n∈calmNames,mN n=ZB):OX K C oa:=⟨λh k=>by
 obtain⟨mN,h1,h2⟩:=ns h k;exact⟨nm,q,N,bs,hdct,sn,sub,ab,col,dd,k0,k1,k2,k3,k5,mN,k _ _ w,h1,h2,.base⟩⟩
def CL(w:K.lookup C=ZA (Pj nm q C N bs (.ref D::oa) hdct sn sub ab col dd k0 k1 k2 k3 k5 "ValueError.__new__"))(ns:∀h:ZH,K.In h->∃mN,h.Ns N mN/\∀n∈calmNames,mN n=ZB)
  (wD:K.lookup D=ZA (Pj nm' q' D N' bs' oa hdct' sn' sub' ab' col' dd' k0' k1' k2' k3' k5' "ValueError.__new__")) (nsD:∀h:ZH,K.In h->∃mN,h.Ns N' mN/\∀n∈calmNames,mN n=ZB):OX K C (.ref D::oa):=⟨λh k=>by
 obtain⟨mN,h1,h2⟩:=ns h k;obtain⟨mD,d1,d2⟩:=nsD h k;exact⟨nm,q,N,bs,hdct,sn,sub,ab,col,dd,k0,k1,k2,k3,k5,mN,k _ _ w,h1,h2,.own (k _ _ wD) d1 d2 .base⟩⟩
end
def Hk(h:Room k A):A.depth+3<Q5:=by have:=h.dp;omega
end Tr
namespace L2
open PySem PySem.Spec PyProof.Rows
variable{y:V}
section
variable {κ:Type}[DecidableEq κ]
noncomputable def iY(kvs:List (κ×V))(k:κ):Option V:=(kvs.find? λkv=>decide (kv.1=k)).map (·.2)
noncomputable def dG(kvs:List (κ×V))(k:κ)(v:V):List (κ×V):=
 if (kvs.any λkv=>decide (kv.1=k))=ZC then kvs.map (λkv=>if kv.1=k then(kv.1,v)else kv)else kvs++[(k,v)]
def BH{k:κ}:iY ([]:List (κ×V)) k=ZB:=rfl
def gJ{p:κ×V}{r:List (κ×V)}{k:κ}(e:p.1=k):iY (p::r) k=ZA p.2:=by simp[iY,QH,e]
def gK{p:κ×V}{r:List (κ×V)}{k:κ}(e:¬ p.1=k):iY (p::r) k=iY r k:=by simp[iY,QH,e]
theorem vn(k:κ):∀kvs:List (κ×V),(kvs.any λkv=>decide (kv.1=k))=(iY kvs k).isSome
 |[] =>rfl
 |p::r=>by
  rw[Qa]
  by_cases e:p.1=k
  ·simp only[gJ e,decide_eq_true e,UH,TU]
  ·rw[gK e,decide_eq_false e,Sz];exact vn k r
def ie(kvs:List (κ×V))(k:κ)(v:V):(dG kvs k v).length<=kvs.length+1:=by
 unfold dG;split
 ·rw[NR];omega
 ·rw[NV,NU,U8];omega
def RelO.Ni{o:Option V}{u:Option NM}(r:RelO o u):o.isSome=u.isSome:=by
 cases o with
 |none=>cases u with
  |none=>rfl
  |some _=>exact(show False from r).elim
 |some _=>cases u with
  |none=>exact(show False from r).elim
  |some _=>rfl
def RelO.getD{o:Option V}{u:Option NM}{d:V}{d':NM}(r:RelO o u)(rd:RelV d d'):RelV (o.getD d) (u.getD d'):=by
 cases o with
 |none=>cases u with
  |none=>exact rd
  |some _=>exact(show False from r).elim
 |some _=>cases u with
  |none=>exact(show False from r).elim
  |some _=>exact r
def KV.val{kvs:List (κ×V)}{vs:List (κ×NM)}(r:KV kvs vs)(k:κ):RelO (iY kvs k) (valueAt vs k):=by
 unfold KV at r
 induction r with
 |nil=>exact Qq
 |@cons p q ps qs h t ih=>
  obtain⟨h1,h2⟩:=h
  by_cases e:p.1=k
  ·have e':q.1=k:=h1.symm.trans e
   have b:valueAt (q::qs) k=ZA q.2:=by simp[valueAt,QH,e']
   rw[gJ e,b];exact h2
  ·have e':¬ q.1=k:=λz=>e (h1.trans z)
   have b:valueAt (q::qs) k=valueAt qs k:=by simp[valueAt,QH,e']
   rw[gK e,b];exact ih
def KV.any{kvs:List (κ×V)}{vs:List (κ×NM)}(r:KV kvs vs)(k:κ):(kvs.any λkv=>decide (kv.1=k))=vs.any λkv=>decide (kv.1=k):=by
 unfold KV at r
 induction r with
 |nil=>rfl
 |cons h t ih=>rw[Qa,Qa,ih,h.1]
def KV.Nr{kvs:List (κ×V)}{vs:List (κ×NM)}(r:KV kvs vs)(k:κ){u:NM}(ry:RelV y u):
  KV (kvs.map λkv=>if kv.1=k then(kv.1,y)else kv) (vs.map λkv=>if kv.1=k then(kv.1,u)else kv):=by
 unfold KV at r ⊢
 induction r with
 |nil=>exact .nil
 |@cons p q ps qs h t ih=>
  rw[NO,NO];refine .cons ?_ ih
  obtain⟨h1,h2⟩:=h
  by_cases e:p.1=k
  ·rw[if_pos e,if_pos (h1.symm.trans e)];exact⟨h1,ry⟩
  ·rw[if_neg e,if_neg (λz=>e (h1.trans z))];exact⟨h1,h2⟩
def KV.put{kvs:List (κ×V)}{vs:List (κ×NM)}(r:KV kvs vs)(k:κ){u:NM}(ry:RelV y u):KV (dG kvs k y) (stored vs k u):=by
 unfold dG stored;rw[r.any k]
 by_cases e:(vs.any λkv=>decide (kv.1=k))=ZC
 ·rw[if_pos e,if_pos e];exact r.Nr k ry
 ·rw[if_neg e,if_neg e];exact Paired.snoc r ⟨rfl,ry⟩
def KV.length{kvs:List (κ×V)}{vs:List (κ×NM)}(r:KV kvs vs):kvs.length=vs.length:=Sy r
end
variable{P:Oa}{w:O0}
def zO{k:Key}{u:NM}(r:RelV (kV k) u):(cU P w).is k u=ZC:=by
 cases k with
 |inl i=>obtain⟨t,e⟩:=(show ∃t,u=Pz i t from r);subst e;exact wH P w i t
 |inr x=>obtain⟨t,e⟩:=(show ∃t,u=PB x t from r);subst e;exact wG P w x t
theorem sg{P:Oa}{w:O0}:∀{ks:List Key}{us:List NM},Vals (ks.map kV) us->ItemsAre (cU P w) ks us
 |[],_,r=>by rw[SR]at r;cases r;exact .nil
 |k::ks,_,r=>by
  rw[NO]at r
  cases r with
  |cons h t=>exact .cons (zO h) (sg t)
abbrev KT(H:Hp):List (List Key×V)->List (List Key×ZE×NM)->Prop:=Vl λp q=>p.1=q.1/\H q.2.1=ZA (.tup (p.1.map kV))/\RelV p.2 q.2.2
variable{H:Hp}{kvs:List (List Key×V)}{xs:List (List Key×ZE×NM)}
def KT.val(r:KT H kvs xs)(k:List Key):RelO (iY kvs k) ((atKey xs k).map (·.2)):=by
 induction r with
 |nil=>exact Qq
 |@cons p q ps qs h t ih=>
  obtain⟨h1,_,h2⟩:=h
  by_cases e:p.1=k
  ·have e':q.1=k:=h1.symm.trans e
   have b:atKey (q::qs) k=ZA q.2:=by simp[atKey,QH,e']
   rw[gJ e,b];exact h2
  ·have e':¬ q.1=k:=λz=>e (h1.trans z)
   have b:atKey (q::qs) k=atKey qs k:=by simp[atKey,QH,e']
   rw[gK e,b];exact ih
def KT.Nr(r:KT H kvs xs)(k:List Key){u:NM}(ry:RelV y u):
  KT H (kvs.map λkv=>if kv.1=k then(kv.1,y)else kv) (xs.map (putAt k u)):=by
 induction r with
 |nil=>exact .nil
 |@cons p q ps qs h t ih=>
  rw[NO,NO];refine .cons ?_ ih
  obtain⟨h1,h2,h3⟩:=h;unfold putAt
  by_cases e:p.1=k
  ·rw[if_pos e,if_pos (h1.symm.trans e)];exact⟨h1,h2,ry⟩
  ·rw[if_neg e,if_neg (λz=>e (h1.trans z))];exact⟨h1,h2,h3⟩
variable{b:ZE}
def KT.put(r:KT H kvs xs)(k:List Key){u:NM}(hb:H b=ZA (.tup (k.map kV)))(ry:RelV y u):
  KT H (dG kvs k y) (storedH xs k b u):=by
 have e:(kvs.any λkv=>decide (kv.1=k))=(atKey xs k).isSome:=by
  rw[vn,(r.val k).Ni,Option.isSome_map]
 unfold dG storedH;rw[e]
 by_cases q:(atKey xs k).isSome=ZC
 ·rw[if_pos q,if_pos q];exact r.Nr k ry
 ·rw[if_neg q,if_neg q];exact Paired.snoc r ⟨rfl,hb,ry⟩
variable{H':Hp}
def KT.keeps(r:KT H kvs xs)(ht:∀b ys,H b=ZA (.tup ys)->H' b=ZA (.tup ys)):KT H' kvs xs:=
 Paired.Nu r λ_ _ z=>⟨z.1,ht _ _ z.2.1,z.2.2⟩
variable{a:ZE}
section
variable {h:ZH}
def vS{u:HO}(ok:HOk P w H h)(e:Rd H a u):ObjOk P w H h a u:=e.ok ok
def xf{kvs:List (Key×V)}(ok:HOk P w H h)(e:Rd H a (.dK kvs)):kvs.length<=ZI/\(a == QZ)=ZD/\∃vs,KV kvs vs/\h.DictOf (cU P w) a vs:=
 show ObjOk P w H h a (.dK kvs)from vS ok e
def Mu{kvs:List (Key×V)}(ok:HOk P w H h)(e:H a=ZA (.dK kvs)):kvs.length<=ZI/\(a == QZ)=ZD/\∃vs,KV kvs vs/\h.DictOf (cU P w) a vs:=xf ok (.inl e)
def pX{ks:List Key}(ok:HOk P w H h)(e:H a=ZA (.tup (ks.map kV))):(Sq (cU P w)).is h ks a:=by
 obtain⟨_,its,r,o,h1,h2,n,h3⟩:=(show ObjOk P w H h a (.tup (ks.map kV))from ok a _ e)
 exact⟨o,its.toArray,n,h1,h2,h3,by simpa using sg r⟩
def xb(ok:HOk P w H h)(e:Rd H a (.dT kvs)):kvs.length<=ZI/\(a == QZ)=ZD ∧
  ∃xs,KT H kvs xs/\h.DictOfH (Sq (cU P w)) a xs:=by
 obtain⟨z,y,xs,r,o,es,ep,h1,h2,h3,h4,h5⟩:=(show ObjOk P w H h a (.dT kvs)from vS ok e)
 refine⟨z,y,xs,r,o,es,ep,h1,h2,h3,h4,λx hx=>?_,h5⟩
 have all:∀{l:List (List Key×V)}{m:List (List Key×ZE×NM)},KT H l m->∀x∈m,(Sq (cU P w)).is h x.1 x.2.1:=by
  intro l m q
  induction q with
  |nil=>intro x hx;exact nomatch hx
  |@cons p q ps qs hq t ih=>
   intro x hx;rcases NT.mp hx with e|hx
   ·subst e
    exact pX ok (by rw[<-hq.1];exact hq.2.1)
   ·exact ih x hx
 exact all r x hx
def Ef(ok:HOk P w H h)(e:H a=ZA (.dT kvs)):kvs.length<=ZI/\(a == QZ)=ZD ∧
  ∃xs,KT H kvs xs/\h.DictOfH (Sq (cU P w)) a xs:=xb ok (.inl e)
end
def DGet(H:Hp)(a:ZE)(y:V)(r:Option V):Prop:=
 (∃kvs k,Rd H a (.dK kvs)/\y=kV k/\r=iY kvs k)\/∃kvs k b,Rd H a (.dT kvs)/\y=.ref b/\H b=ZA (.tup (k.map kV))/\r=iY kvs k
def DPut(H:Hp)(a:ZE)(y v:V)(H':Hp):Prop:=
 (∃kvs k,H a=ZA (.dK kvs)/\y=kV k/\kvs.length<ZI/\H'=upd H a (.dK (dG kvs k v))) ∨
 ∃kvs k b,H a=ZA (.dT kvs)/\y=.ref b/\H b=ZA (.tup (k.map kV))/\kvs.length<ZI/\H'=upd H a (.dT (dG kvs k v))
variable{k:List Key}
def DGet.t(e:H a=ZA (.dT kvs))(eb:H b=ZA (.tup (k.map kV))):DGet H a (.ref b) (iY kvs k):=.inr ⟨kvs,k,b,.inl e,rfl,eb,rfl⟩
def DPut.t{v:V}(e:H a=ZA (.dT kvs))(eb:H b=ZA (.tup (k.map kV)))(hl:kvs.length<ZI):
  DPut H a (.ref b) v (upd H a (.dT (dG kvs k v))):=.inr ⟨kvs,k,b,e,rfl,eb,hl,rfl⟩
variable{A:Ou}{E Q:V1}{X:Cx}{h':ZH}{ol:V2}{s:NQ}{σ:St}
section
variable {v:V}{u r:NM}{o:Option V}
def Inv.big(I:Inv X ol σ H s):QZ<s.heap.objs.size:=by
 have h:OA<s.heap.objs.size:=(I.mod.glob.keeps I.bk).lt;exact Nat.lt_trans (by decide) h
def A8(hu:A.units+1<cLine)(I:Inv X ol σ H s)(g:DGet H a y (ZA v))(ry:RelV y u)(h:∀w' s',Inv X ol σ H s'->RelV v w'->Q w' s'):
  ZJ (ZK X.prog X.w) A (getItem (.ref a) u) Q E s:=by
 rcases g with⟨kvs,k,e,ey,l⟩|⟨kvs,k,b,e,ey,eb,l⟩
 ·subst ey
  obtain⟨z,hd,vs,rel,dd⟩:=xf I.hok e;obtain⟨w',hw,rw'⟩:=RelO.some_of (v:=v) (o:=valueAt vs k) (by rw[l];exact rel.val k)
  exact wpAny_getItem_of (zO ry) dd.mapOf hw (h w' _ (I.tok _) rw')
 ·subst ey
  cases (show u=N3 b from ry)
  obtain⟨z,hd,xs,rel,dd⟩:=xb I.hok e;obtain⟨w',hw,rw'⟩:=RelO.some_of (v:=v) (o:=(atKey xs k).map (·.2)) (by rw[l];exact rel.val k)
  obtain⟨p,hp,hp2⟩:=QC.mp hw;refine wpAny_getItem_heap (Ro hu) (pX I.hok eb) dd hp ?_
  rw[hp2];exact h w' _ (I.tok _) rw'
def uW{t':Nat}{ob:HO}(I:Inv X ol σ H s)(mu:MA (H a))(hs:Rb a s.heap h')(he:∃q,h'.get? a=ZA q)(new:ObjOk X.prog X.w (upd H a ob) h' a ob):
  Inv X ol σ (upd H a ob) {s with heap:=h',toks:=t'}:=
 I.write (x:=a) (e:=a) mu (.inl rfl) (λb q hb z=>(hs.2 b hb).trans z) he new
def Ke{kvs:List (Key×V)}{vs:List (Key×NM)}(z:kvs.length<=ZI)(hd:(a == QZ)=ZD)(rel:KV kvs vs)(dd:h'.DictOf (cU P w) a vs):
  ObjOk P w H' h' a (.dK kvs):=⟨z,hd,vs,rel,dd⟩
def A7{Q:Unit->NQ->Prop}(hu:A.units+1<cLine)(I:Inv X ol σ H s)(g:DPut H a y v H')(ry:RelV y u)(rv:RelV v r)(h:∀s',Inv X ol σ H' s'->Q () s'):
  ZJ (ZK X.prog X.w) A (setItem (.ref a) u r) Q E s:=by
 rcases g with⟨kvs,k,e,ey,l,eH⟩|⟨kvs,k,b,e,ey,eb,l,eH⟩
 ·subst ey eH
  obtain⟨z,hd,vs,rel,dd⟩:=Mu I.hok e
  have hz:vs.length<=ZI:=by rw[<-rel.length];exact z
  have hl:(dG kvs k v).length<=ZI:=by have:=ie kvs k v;omega
  refine wpAny_setItem_pairs (hsz:=hz) (zO ry) dd λh' dd' hs=>h _ ?_
  have he:∃q,h'.get? a=ZA q:=let ⟨q,_,_,hq,_⟩:=dd';⟨q,hq⟩
  exact uW I (by rw[e];exact Qq) hs he (Ke hl hd (rel.put k rv) dd')
 ·subst ey eH
  cases (show u=N3 b from ry)
  obtain⟨z,hd,xs,rel,dd⟩:=Ef I.hok e
  have hz:xs.length<=ZI:=by rw[<-Sy rel];exact z
  have hl:(dG kvs k v).length<=ZI:=by have:=ie kvs k v;omega
  refine wpAny_setItem_heap (hsz:=hz) (Ro hu) (pX I.hok eb) dd λh' dd' hs=>h _ ?_
  obtain⟨q,es,ep,hq,h2,h3,h4,_,h5⟩:=dd';refine uW I (by rw[e];exact Qq) hs ⟨q,hq⟩ ⟨hl,hd,_,(rel.put k eb rv).keeps λc ys ec=>?_,q,es,ep,hq,h2,h3,h4,h5⟩
  rw[aB (jR ec e (λz=>nomatch z))]
  exact ec
end
def Bk(i:ZG):Prop:=∀ov iv,TJ i ZD ov iv=operate [ov,iv] (getItem ov iv)
variable{pos:Pos}{value:ZG}
def Fd{prog:Oa}{env:Env}{slice:ZG}{T id:String}
  (hl:Rv (.type T) "__getitem__" =pure (ZA (.builtin id))) (hs:Bk slice)
  (h:ZJ (ZK prog w) A (eval value env) (λo s₁=>ZJ (ZK prog w) A (eval slice env) (λi s₂=>s₂.TypeIs o T/\ZJ (ZK prog w) A (getItem o i) Q E s₂) E s₁) E s):
  ZJ (ZK prog w) A (eval (.Subscript value slice pos) env) Q E s:=by
 refine Subscript_ (Pw h (λo s₁ h₁=>Pw h₁ (λi s₂ h₂=>?_) λ_ _ x=>x) λ_ _ x=>x)
 obtain⟨hT,h₂⟩:=h₂;unfold Ud;refine NS ?_
 rw[getitemInPython_of_ne hT.not_modules];refine NS (wpAny_specialOf hT hl ?_)
 have fin:ZJ (ZK prog w) A (TJ slice ZD o i) (λr s₃=>ZJ (ZK prog w) A (letTemporaryGo value o r >>= λ_=>pure r) Q E s₃) E s₂:=by
  rw[hs o i];exact wpAny_operating (Pw h₂ (λr s₃ h₃=>NS (wpAny_letTemporaryGo (N5 h₃))) λ_ _ x=>x)
 first
  |exact N5 (NS fin)
  |exact NS (N5 (NS fin))
  |exact NS fin
def xg{o:Option V}(I:Inv X ol σ H s)(g:DGet H a y o):s.TypeIs (.ref a) "dict":=by
 rcases g with⟨kvs,k,e,_,_⟩|⟨kvs,k,b,e,_,_,_⟩
 ·obtain⟨_,_,vs,_,dd⟩:=xf I.hok e
  exact dd.typeIs
 ·obtain⟨_,_,xs,_,dd⟩:=xb I.hok e
  exact dd.typeIs
def KW(td ty:TE):TE:=λσ H Q=>td σ H λx H1=>ty σ H1 λy H2=>∃a v,x=.ref a/\DGet H2 a y (ZA v)/\Q v H2
def K1(td ty tv:TE):TS:=λD σ H=>tv σ H λv H1=>td σ H1 λx H2=>ty σ H2 λy H3=>∃a H4,x=.ref a/\DPut H3 a y v H4/\D.nx σ H4
section
variable {o i e:ZG}{pos' tpos:Pos}{td ty tv:TE}
def zp(hu:X.A.units+1<cLine)(ho:PE X o td)(hi:PE X i ty)(hs:Bk i):PE X (.Subscript o i pos) (KW td ty):=by
 intro ol s σ H Q I h;refine Fd PySem.F.slot_dict_getitem.lookup hs (bS (ho ol s σ H _ I h) λu s1 ⟨x,H1,I1,rx,q1⟩=>bS (hi ol s1 σ H1 _ I1 q1) λiv s2 hh_=>?_)
 obtain⟨y,H2,I2,ry,a,v,ex,g,q2⟩:=hh_;subst ex;obtain rfl:u=N3 a:=rx;exact⟨xg I2 g,A8 hu I2 g ry λw' s3 I3 rw'=>⟨v,H2,I3,rw',q2⟩⟩
def zj(hu:X.A.units+1<cLine)(ho:PE X o td)(hi:PE X i ty)(hv:PE X value tv)(hs:OW value (ZA (.Subscript o i pos')) pos.line X.env=pure ZD):
  PS X (.Assign [.Subscript o i pos'] value pos) (K1 td ty tv):=by
 intro ol s σ H D I h;refine wpAny_Assign_Subscript (bS (hv ol s σ H _ I h) λr s1 ⟨v,H1,I1,rv,q1⟩=>bS (ho ol s1 σ H1 _ I1 q1) λu s2 ⟨x,H2,I2,rx,q2⟩=>bS (hi ol s2 σ H2 _ I2 q2) λiv s3 ⟨y,H3,I3,ry,a,H4,ex,g,q3⟩=>?_) hs
 subst ex;obtain rfl:u=N3 a:=rx;exact A7 hu I3 g ry rv λs4 I4=>⟨σ,H4,I4,q3⟩
end
def Eh(h:ZH)(hb:QZ<h.objs.size):ObjOk P w H (h.push {cls:=.type "dict",data:=.dict #[]}) h.objs.size (.dT []):=
 ⟨Qk _,beq_eq_false_iff_ne.mpr (O6 (Pk hb)),[],.nil,_,#[],0,Oc _ rfl,⟨rfl,rfl,rfl⟩,rfl,rfl,Ql⟩
structure M1 (X:Cx)(o:ZG)(m:Str)(apos:Pos)(e:ZG)(cpos:Pos):Prop where
 base:Os o m X.env (eval o X.env)=eval o X.env
 few:((backTo cpos (NY [e] X.env)).all (λx=>!x.1)&&(R9 cpos (QP [] X.env)).all (λx=>x.1.isSome)
  &&decide (([e]:List ZG).length+([]:List Vg).length+(if ([]:List Vg).isEmpty then 0 else 1)<30))=ZC
 line:(apos.endLine == cpos.line)=ZC
 trees:backTo cpos (NY [e] X.env)=[(ZD,eval e X.env)]
structure M2 (X:Cx)(o:ZG)(m:Str)(apos:Pos)(e f:ZG)(cpos:Pos):Prop where
 base:Os o m X.env (eval o X.env)=eval o X.env
 few:((backTo cpos (NY [e,f] X.env)).all (λx=>!x.1)&&(R9 cpos (QP [] X.env)).all (λx=>x.1.isSome)
  &&decide (([e,f]:List ZG).length+([]:List Vg).length+(if ([]:List Vg).isEmpty then 0 else 1)<30))=ZC
 line:(apos.endLine == cpos.line)=ZC
 trees:backTo cpos (NY [e,f] X.env)=[(ZD,eval e X.env),(ZD,eval f X.env)]
def IsD(H:Hp)(a:ZE):Prop:=(∃kvs,Rd H a (.dK kvs))\/∃kvs,Rd H a (.dT kvs)
def JW(I:Inv X ol σ H s)(d:IsD H a):
  s.TypeIs (.ref a) "dict"/\(∀b,N3 a=.ref b->∃ob,s.heap.get? b=ZA ob/\ob.dict=ZB)/\(a == QZ)=ZD:=by
 rcases d with⟨kvs,e⟩|⟨kvs,e⟩
 ·obtain⟨_,hd,vs,_,dd⟩:=xf I.hok e
  refine⟨dd.typeIs,λb q=>?_,hd⟩
  cases q;obtain⟨ob,_,_,h1,h2,_⟩:=dd;exact⟨ob,h1,h2.2.1⟩
 ·obtain⟨_,hd,xs,_,dd⟩:=xb I.hok e
  refine⟨dd.typeIs,λb q=>?_,hd⟩
  cases q;obtain⟨ob,_,_,h1,h2,_⟩:=dd;exact⟨ob,h1,h2.2.1⟩
section
variable {d:V}{u r:NM}{o:Option V}
def Kh(hu:A.units+1<cLine)(I:Inv X ol σ H s)(g:DGet H a y o)(ry:RelV y u)(h:∀w' s',Inv X ol σ H s'->RelV (o.getD .non) w'->Q w' s'):
  ZJ (ZK X.prog X.w) A (call (.builtin "dict.get") [.ref a,u]) Q E s:=by
 rcases g with⟨kvs,k,e,ey,l⟩|⟨kvs,k,b,e,ey,eb,l⟩
 ·subst ey
  obtain⟨z,hd,vs,rel,dd⟩:=xf I.hok e;refine call_meetsIn Ry dd.typeIs SI (Ss _ _) (meets_dict_get (cU X.prog X.w) a (zO ry) hd) ⟨_,dd.mapOf,h _ _ (I.tok _) ?_⟩
  rw[l];exact(rel.val k).getD rfl
 ·subst ey
  cases (show u=N3 b from ry)
  obtain⟨z,hd,xs,rel,dd⟩:=xb I.hok e;refine call_meetsIn Ry dd.typeIs SI (Ss _ _) (meetsH_dict_get (Sq (cU X.prog X.w)) a b hd) ⟨Ro hu,k,xs,pX I.hok eb,dd,h _ _ (I.tok _) ?_⟩
  rw[l];exact(rel.val k).getD rfl
end
def Ij(td ty:TE):TE:=λσ H Q=>td σ H λx H1=>∃a,x=.ref a/\IsD H1 a/\ty σ H1 λy H2=>∃o,DGet H2 a y o/\Q (o.getD .non) H2
section
variable {o e f:ZG}{apos cpos:Pos}{td ty tx:TE}
def CH(hu:X.A.units+1<cLine)(ho:PE X o td)(he:PE X e ty)(m:M1 X o "get" apos e cpos):PE X (.Call (.Attribute o "get" apos) [e] [] cpos) (Ij td ty):=by
 intro ol s σ H Q I h;refine wpAny_Call_method m.base m.few m.line PySem.F.plainAttrs_dict Ry PySem.F.type_dict_get (bS (ho ol s σ H _ I h) λu s1 hh_=>?_)
 obtain⟨x,H1,I1,rx,a,ex,d,q1⟩:=hh_;subst ex;obtain rfl:u=N3 a:=rx;obtain⟨t1,t2,_⟩:=JW I1 d;refine⟨t1,t2,?_⟩
 rw[m.trees];refine Qz rfl (Q1 (Rj (bS (he ol s1 σ H1 _ I1 q1) λiv s2 ⟨y,H2,I2,ry,ov,g,q2⟩=>Rt ?_)))
 exact Kh hu I2 g ry λw' s3 I3 rw'=>⟨_,H2,I3,rw',q2⟩
end
end L2
namespace Tr
open PySem PySem.Spec PyProof.Rows L2
variable{H:Hp}{a:ZE}{k:List Key}{kvs:List (List Key×V)}
def DGet.Nz{b:ZE}(e:Rd H a (.dT kvs))(eb:H b=ZA (.tup (k.map kV))):DGet H a (.ref b) (iY kvs k):=.inr ⟨kvs,k,b,e,rfl,eb,rfl⟩
def nZ{k:Nat}{A:Ou}(h:Room k A):A.units+1<cLine:=by have:=h.un;omega
theorem pY{K:NK}{O:Ow}{H:Hp}:∀{l:List T}{vs:List V}{k:List Key},pZ l=ZA k->Reps K O H l vs->vs=k.map kV
 |[],vs,k,h,r=>by cases Reps.Da.mp r;cases h;rfl
 |t::l,vs,k,h,r=>by
  obtain⟨v,ws,rfl,p,q⟩:=Reps.me.mp r;unfold pZ at h
  cases e1:Hq t with
  |none=>rw[e1]at h;cases h
  |some a=>
   cases e2:pZ l with
   |none=>rw[e1,e2]at h;cases h
   |some b=>
    rw[e1,e2]at h;cases h;rw[pY e2 q,NO]
    congr 1
    cases t with
    |int i=>cases e1;exact Rep.AC.mp p
    |str x=>cases e1;exact Rep.GM.mp p
    |_=>cases e1
variable{v:V}
def jb{K:NK}{O:Ow}{y:T}(h:keyOf y=ZA k)(r:Rep K O H y v):∃b,v=.ref b/\H b=ZA (.tup (k.map kV)):=by
 cases y with
 |tup l=>
  obtain⟨a,vs,e1,_,e3,e4⟩:=Rep.Fk.mp r;rw[pY h e4]at e3
  exact⟨a,e1,e3⟩
 |_=>cases h
theorem qv{K:NK}{O:Ow}{H:Hp}{k:List Key}:∀{ks ts:List T}{kvs:List (List Key×V)},ks.map keyOf=kvs.map (λp=>ZA p.1)->Reps K O H ts (kvs.map (·.2))->match n8 ks ts k with
  |some t=>∃v,iY kvs k=ZA v/\Rep K O H t v
  |none=>iY kvs k=ZB
 |[],ts,kvs,h,r=>by
  cases kvs with
  |nil=>unfold n8;exact BH
  |cons _ _=>cases h
 |k'::ks,ts,kvs,h,r=>by
  cases kvs with
  |nil=>cases h
  |cons p kvs=>
   rw[NO,NO]at h;injection h with h1 h2
   rw[NO]at r
   cases ts with
   |nil=>have:=Reps.Da.mp r;cases this
   |cons t ts=>
    obtain⟨v,ws,e,q1,q2⟩:=Reps.me.mp r;injection e with e1 e2
    subst e1 e2;unfold n8
    by_cases hk:keyOf k'=ZA k
    ·rw[if_pos hk]
     rw[h1]at hk;injection hk with hk
     exact⟨_,gJ hk,q1⟩
    ·rw[if_neg hk]
     have hk2:¬ p.1=k:=λz=>hk (by rw[h1,z])
     rw[gK hk2];exact qv h2 q2
variable{κ:Type}
def tO [DecidableEq κ]{k:κ}{p:κ×V}{r:List (κ×V)}(h:¬ p.1=k):dG (p::r) k v=p::dG r k v:=by
 unfold dG;rw[Qa,decide_eq_false h,Sz]
 by_cases q:(r.any λkv=>decide (kv.1=k))=ZC
 ·rw[if_pos q,if_pos q,NO,if_neg h]
 ·rw[if_neg q,if_neg q];rfl
def tQ [DecidableEq κ]{k:κ}{p:κ×V}{r:List (κ×V)}(h:p.1=k)(hn:∀q∈r,q.1≠k):dG (p::r) k v=(p.1,v)::r:=by
 unfold dG;rw[Qa,decide_eq_true h,UH,if_pos rfl,NO,if_pos h]
 congr 1
 conv=>rhs;rw[<-Tz r]
 exact OV λq hq=>if_neg (hn q hq)
theorem mC{K:NK}{O:Ow}{H:Hp}{kT vT:T}{k:List Key}{v:V}(hk:keyOf kT=ZA k)(hv:Rep K O H vT v):∀{ks ts:List T}{kvs:List (List Key×V)},ks.map keyOf=kvs.map (λp=>ZA p.1)->Reps K O H ts (kvs.map (·.2))->(kvs.map (·.1)).Nodup →
  (hI kT vT ks ts).1.map keyOf=(dG kvs k v).map (λp=>ZA p.1)/\Reps K O H (hI kT vT ks ts).2 ((dG kvs k v).map (·.2))
 |[],ts,kvs,h,r,_=>by
  cases kvs with
  |nil=>
   unfold hI;refine⟨?_,Reps.FS hv Reps.GE⟩
   simp[dG,hk]
  |cons _ _=>cases h
 |k'::ks,ts,kvs,h,r,hn=>by
  cases kvs with
  |nil=>cases h
  |cons p kvs=>
   rw[NO,NO]at h;injection h with h1 h2
   rw[NO]at r;rw[NO]at hn;obtain⟨n1,n2⟩:=Og.mp hn
   cases ts with
   |nil=>have:=Reps.Da.mp r;cases this
   |cons t ts=>
    obtain⟨v',ws,e,q1,q2⟩:=Reps.me.mp r;injection e with e1 e2
    subst e1 e2;unfold hI
    by_cases hz:keyOf k'=keyOf kT
    ·rw[if_pos hz]
     have hp:p.1=k:=by rw[hz,hk]at h1;injection h1 with h1;exact h1.symm
     rw[tQ hp λq hq z=>n1 (by rw[hp,<-z];exact List.mem_map_of_mem hq)]
     exact⟨by rw[NO,NO,h1,h2],Reps.FS hv q2⟩
    ·rw[if_neg hz]
     have hp:¬ p.1=k:=λz=>hz (by rw[h1,z,hk])
     obtain⟨a1,a2⟩:=mC hk hv h2 q2 n2;rw[tO hp];exact⟨by rw[NO,NO,h1,a1],Reps.FS q1 a2⟩
def G7{xs:List (List Key×ZE×NM)}(rel:KT H kvs xs):kvs.map (·.1)=xs.map (·.1):=by
 induction rel with
 |nil=>rfl
 |cons h t ih=>rw[NO,NO,ih,h.1]
variable{X:Cx}
def xi{ol:V2}{σ:L2.St}{s:NQ}(I:Inv X ol σ H s)(e:H a=ZA (.dT kvs)):(kvs.map (·.1)).Nodup/\kvs.length<=ZI:=by
 obtain⟨z,_,xs,rel,_,_,_,_,_,_,_,_,hn⟩:=Ef I.hok e;rw[G7 rel];exact⟨hn,z⟩
section
variable {a b:ZG}{fa fb:V5}{pos:Pos}
def Lq(hu:X.A.units+1<cLine)(ha:cz X a fa)(hb:cz X b fb)(hs:Bk b:=by intro _ _;rfl):cz X (.Subscript a b pos) (o2 bJ fa fb):=by
 refine PE.imp (zp hu ha hb hs) λσ H Q ⟨Z,O,E,hq⟩=>?_
 obtain⟨Z1,O1,E1,h1⟩:=a8 E hq;refine⟨Z1,O1,E1,Post.mono h1 λt H1 s1 q v r=>?_⟩
 obtain⟨t',r',s',E',q'⟩:=q v r;obtain⟨Z2,O2,E2,h2⟩:=a8 (f:=fb) E' q';refine⟨Z2,O2,E2,Post.mono h2 λt2 H2 s2 q2 v2 r2=>?_⟩
 obtain⟨t2',r2',s2',E2',q2'⟩:=q2 v2 r2
 have r'':=r'.same s2';unfold bJ at q2'
 split at q2'
 ·rename_i ks vs k hk
  split at q2'
  ·rename_i x hx
   obtain⟨a,kvs,e1,e2,e3,e4,e5⟩:=Rep.IR.mp r'';obtain⟨b,f1,f2⟩:=jb hk r2'
   have g:=qv (k:=k) e4 e5;rw[hx]at g;obtain⟨w,g1,g2⟩:=g;exact⟨a,w,e1,by rw[f1,<-g1];exact DGet.Nz e3 f2,q2' H2 (Same.refl H2) w g2⟩
  ·exact q2'.elim
 ·exact q2'.elim
end
end Tr
namespace Tr
open PySem PySem.Spec PyProof.Rows L2
open PySem.SeqAt
def C4{A:Ou}{s:NQ}{x:T}{ux:NM}(rx:ReV s x ux)(hu:A.units+60<cLine){l:List T}{us:List NM}(hd:x.dep<=60\/deps l<=60)(r:ReVs s l us):
  ∃e:NM->Bool,(∀y∈us,EqAt A s y ux (e y))/\us.map e=l.map λt=>bo t x:=by
 classical
 have ex:∀y∈us,∃t∈l,ReV s t y:=λy hy=>by
  obtain⟨i,hi,rfl⟩:=Qw hy
  have hl:=r.length
  have e1:l[i]?=ZA l[i]:=by simp
  obtain⟨u,q1,q2⟩:=r.get e1
  have:us[i]?=ZA us[i]:=by simp
  rw[this]at q1;cases q1;exact⟨l[i],Px _,q2⟩
 let e:NM->Bool:=λy=>decide (∃t∈l,ReV s t y/\bo t x=ZC)
 have dep:∀t∈l,t.dep<=60\/x.dep<=60:=λt ht=>by
  rcases hd with h|h
  ·exact .inr h
  ·obtain⟨i,hi,rfl⟩:=Qw ht
   exact .inl (OJ (ke (i:=i) (by simp)) h)
 have uniq:∀y t t',ReV s t y->ReV s t' y->bo t x=bo t' x:=λy t t' z z'=>by
  rw[<-mG t,<-mG t',ReV.nf z z']
 have agree:∀y t,t∈l->ReV s t y->e y=bo t x:=λy t h z=>by
  show decide (∃t∈l,ReV s t y/\bo t x=ZC)=bo t x
  cases q:bo t x with
  |true=>exact decide_eq_true ⟨t,h,z,q⟩
  |false=>
   refine decide_eq_false ?_
   rintro ⟨t',h',z',q'⟩
   rw[<-uniq y t t' z z',q]at q';cases q'
 refine⟨e,λy hy=>?_,?_⟩
 ·obtain⟨t,h,z⟩:=ex y hy
  rw[agree y t h z];exact(GC 60 A s t x y ux (dep t h) hu z rx).1
 ·have go:∀(l':List T)(us':List NM),(∀t∈l',t∈l)->ReVs s l' us'->us'.map e=l'.map λy=>bo y x:=by
   intro l'
   induction l' with
   |nil=>intro us' _ r';rw[ReVs.Da.mp r'];rfl
   |cons t l' ih=>
    intro us' sub r';obtain⟨u,ws,rfl,p,q⟩:=ReVs.me.mp r';rw[NO,NO,ih ws (λt ht=>sub t (NL _ ht)) q,agree u t (sub t NP) p]
  exact go l us (λ_ h=>h) r
theorem ql{x:T}:∀{l:List T}{n k:Nat},kL x l n=ZA k->n<=k/\(l.map λt=>bo t x)[k - n]?=ZA ZC/\∀m,m<k - n->(l.map λt=>bo t x)[m]?=ZA ZD
 |[],n,k,h=>by cases h
 |t::l,n,k,h=>by
  unfold kL at h
  cases q:bo t x with
  |true=>
   rw[q,if_pos rfl]at h;cases h;refine⟨N4 _,?_,λm hm=>by omega⟩
   rw[SV,NO,q];rfl
  |false=>
   rw[q,if_neg (by decide)]at h
   obtain⟨h1,h2,h3⟩:=ql h
   have e:k - n=(k - (n+1))+1:=by omega
   refine⟨by omega,?_,λm hm=>?_⟩
   ·rw[e,NO,Pv];exact h2
   ·cases m with
    |zero=>rw[NO,q];rfl
    |succ m=>rw[NO,Pv];exact h3 m (by omega)
section
variable {X:Cx}{a b:ZG}{fa fb:V5}{pos apos cpos:Pos}
def Cn(hu:X.A.units+61<cLine)(ha:cz X a fa)(hb:cz X b fb)(hn:br b=ZC:=by rfl)
  (hbase:Os a "index" X.env (eval a X.env)=eval a X.env:=by rfl) (hline:(apos.endLine == cpos.line)=ZC:=by rfl):cz X (.Call (.Attribute a "index" apos) [b] [] cpos) (oL hZ fa fb):=by
 have hs:NY [b] X.env=(ZD,eval b X.env)::NY [] X.env:=bp hn;intro ol s σ H Q I ⟨Z,O,E,hq⟩;refine SM hbase (by rw[hs];rfl) hline rfl (bS (ha ol s σ H _ I (a8 E hq)) λv s1 hh_=>?_)
 obtain⟨x,H1,I1,r1,t,rt,s',E',q1⟩:=hh_
 cases t with
 |lst l=>
  obtain⟨c,vs,e1,e2,e3,e4⟩:=Rep.Do.mp rt;subst e1;obtain rfl:v=N3 c:=r1;obtain⟨h1,h2⟩:=xI I1 (show RelV (.ref c) (.ref c)from rfl) (.inl ⟨rfl,vs,SqL.of e3⟩)
  refine⟨_,_,Pg,Su,Sv,h1,h2,?_⟩
  rw[hs];refine Qz rfl (Q1 (Rj (bS (hb ol s1 σ H1 _ I1 (a8 (f:=fb) E' q1)) λu s2 ⟨y,H2,I2,r2,t2,rt2,s'',E'',q2⟩=>Rt ?_)))
  unfold hZ at q2
  split at q2
  ·rename_i l' heq
   cases heq
   split at q2
   ·rename_i hd3
    obtain⟨hd,hnx,hny⟩:=hd3
    split at q2
    ·rename_i k hk
     have rv:=Rep.val I2 (show(T.lst l).nd=ZC by unfold T.nd;exact hny) (rt.same s'') (show RelV (.ref c) (.ref c)from rfl)
     unfold ReV at rv;obtain⟨c',us,ec,hl,rs⟩:=rv;cases ec;obtain⟨⟨cls,dd,data,sl⟩,ho,hc,n,hdd⟩:=id hl;simp only at hc hdd;subst hc hdd;obtain⟨e,he,ha⟩:=C4 (A:=X.A.in1) (Rep.val I2 hnx rt2 r2) (by show X.A.units+1+60<cLine;omega) hd rs
     obtain⟨_,k1,k2⟩:=ql hk;rw[SW]at k1 k2;rw[<-ha]at k1 k2
     have hkl:k<us.length:=by have:=(NW.mp k1).1;rwa [NR]at this
     have hz:us.length<=ZI:=by
      have z:=(I2.M0 (s'' _ _ e3)).1
      have h3:=rs.length
      have h4:=e4.length;omega
     refine Q0 Uq ⟨_,ho,rfl⟩ TX (Tx _ _) (list_indexAt c us.toArray n dd sl u e k (by simpa using hkl) (by rw[QK]at hz;omega) ?_ ?_) ⟨ho,λy hy=>he y (by simpa using hy),?_⟩
     ·have:=(NW.mp k1).2
      rw[SF]at this
      simpa using this
     ·intro m hm hmk
      have:=(NW.mp (k2 m hmk)).2
      rw[SF]at this
      simpa using this
     ·exact⟨.int _,H2,I2.tok _,⟨_,rfl⟩,q2 H2 (Same.refl H2) _ (Rep.Gc _)⟩
    ·exact q2.elim
   ·exact q2.elim
  ·rename_i hno
   exact(hno l rfl).elim
 |_=>exact q1.elim
def IS(hu:X.A.units+1<cLine)(ha:cz X a fa)(hb:cz X b fb)(hn:br b=ZC:=by rfl)
  (hbase:Os a "get" X.env (eval a X.env)=eval a X.env:=by rfl) (hline:(apos.endLine == cpos.line)=ZC:=by rfl):cz X (.Call (.Attribute a "get" apos) [b] [] cpos) (oD jw fa fb):=by
 have hs:NY [b] X.env=(ZD,eval b X.env)::NY [] X.env:=bp hn;refine PE.imp (CH hu ha hb ⟨hbase,by rw[hs];rfl,hline,by rw[hs];rfl⟩) λσ H Q ⟨Z,O,E,hq⟩=>?_
 obtain⟨Z1,O1,E1,h1⟩:=a8 E hq;refine⟨Z1,O1,E1,Post.mono h1 λt H1 s1 q v r=>?_⟩
 obtain⟨t',r',s',E',q'⟩:=q v r
 cases t' with
 |dct ks vs=>
  obtain⟨c,kvs,e1,e2,e3,e4,e5⟩:=Rep.IR.mp r';refine⟨c,e1,.inr ⟨kvs,e3⟩,?_⟩
  obtain⟨Z2,O2,E2,h2⟩:=a8 (f:=fb) E' q';refine⟨Z2,O2,E2,Post.mono h2 λt2 H2 s2 q2 v2 r2=>?_⟩
  obtain⟨t2',r2',s2',E2',q2'⟩:=q2 v2 r2;unfold jw at q2'
  split at q2'
  ·rename_i ks' vs' k heq hk
   cases heq;obtain⟨b,f1,f2⟩:=jb hk r2'
   have g:=qv (k:=k) e4 (e5.same s2');refine⟨iY kvs k,by rw[f1];exact DGet.Nz (Rd.Nm (P:=k8) (SameO.of s2') (λz=>z) e3) f2,?_⟩
   cases hx:n8 ks vs k with
   |some z=>
    rw[hx]at g q2';obtain⟨w,g1,g2⟩:=g;rw[g1]
    exact q2' H2 (Same.refl H2) w g2
   |none=>
    rw[hx]at g q2';rw[g];exact q2' H2 (Same.refl H2) .non Rep.Nh
  ·exact q2'.elim
 |_=>exact q'.elim
end
end Tr
namespace Tr
open PySem PySem.Spec PyProof.Rows L2
section
variable {X:Cx}{a b c:ZG}{fa fb fc:V5}{pos p2 p3 p4:Pos}{x:Str}
def IB(i:Nat)(hu:X.A.units+1<cLine)(hb:cz X b fb)(hc:cz X c fc)(hN:X.N[i]?=ZA x:=by rfl)(hv:lM X.env.scope x:=by first|exact OB rfl|exact Oq (OB rfl)|exact Oq (Oq rfl))
  (hd:eO x:=by decide) (hcd:(x == ("__classdict__" : Str))=ZD:=by decide)
  (hs:OW c (ZA (.Subscript (.Name x p2) b p3)) pos.line X.env=pure ZD:=by rfl):oJ X (.Assign [.Subscript (.Name x p2) b p3] c pos) (Aw i fb fc):=by
 intro ol s σ H D I ⟨Z,B,M,E,h⟩;refine zj hu (eF hN hv hd hcd) hb hc hs ol s σ H D I ?_
 unfold Aw at h
 split at h
 ·rename_i ks vs hl
  obtain⟨v0,e1,d,kvs,rfl,hM,e3,e4,e5⟩:=E.env.own i _ hl;obtain⟨nd,nz⟩:=xi I e3;refine⟨Z,OO B M,E.o,?_⟩
  cases q:fc Z with
  |bad=>rw[q]at h;exact h.elim
  |err c=>rw[q]at h;exact PostF.xa h
  |ok vT=>
   rw[q,ay]at h;intro H1 s1 v r;refine⟨.ref d,e1,Z,OO B M,(E.same s1).o,?_⟩
   have h1:=h.later (SameO.of s1) (P1:=M.u) λa z=>.inl z
   cases q2:fb Z with
   |bad=>rw[q2]at h1;exact h1.elim
   |err c=>rw[q2]at h1;exact PostF.xa h1
   |ok kT=>
    rw[q2,ay]at h1;intro H2 s2 y ry
    cases q3:keyOf kT with
    |none=>rw[q3]at h1;exact h1.elim
    |some k=>
     rw[q3]at h1
     have h2:=h1.later (SameO.of s2) (P1:=M.u) λa z=>.inl z
     have hlen:ks.length=kvs.length:=by have:=congrArg O7 e4;simpa using this
     by_cases hz:ks.length<1000
     ·simp only[if_pos hz]at h2
      obtain⟨kb,f1,f2⟩:=jb q3 ry
      have e3':=s2 _ _ (s1 _ _ e3);obtain⟨g1,g2⟩:=mC q3 (r.same s2) e4 ((e5.same s1).same s2) nd;refine⟨d,upd H2 d (.dT (dG kvs k v)),rfl,by rw[f1];exact DPut.t e3' f2 (by rw[QK];omega),?_⟩
      have sm:SameO (M i) H2 (upd H2 d (.dT (dG kvs k v))):=λc u e nb=>by rw[aB (λz=>nb ((hM c).mpr z))];exact e
      obtain⟨g3,g4⟩:=((E.same s1).same s2).put (o':=.dct (hI kT vT ks vs).1 (hI kT vT ks vs).2) hl e1 sm ⟨d,_,rfl,hM,aG,g1,g2.move (P:=M i) (λa z=>.inl (.inr ⟨i,z⟩)) (λa z=>.inl z) sm⟩
      exact h2 σ _ M g4 g3 λc z=>.inl z
     ·simp only[if_neg hz]at h2
      exact h2.elim
 ·exact h.elim
theorem vm{k:List Key}:∀{kvs:List (List Key×V)}{as:List ZE}{v:V},kvs.map (·.2)=as.map V.ref->iY kvs k=ZA v->∃b∈as,v=.ref b
 |[],as,v,_,h=>by cases h
 |p::kvs,as,v,e,h=>by
  cases as with
  |nil=>cases e
  |cons b0 bs=>
   rw[NO,NO]at e;injection e with e1 e2
   by_cases hk:p.1=k
   ·rw[gJ hk]at h
    cases h;exact⟨b0,NP,e1⟩
   ·rw[gK hk]at h
    obtain⟨b,hb,e⟩:=vm e2 h;exact⟨b,NL _ hb,e⟩
theorem vQ{K:NK}{O:Ow}{H:Hp}{k:List Key}{r:List T×List T}:∀{ks:List T}{rows:List (List T×List T)}{kvs:List (List Key×V)}{as:List ZE},ks.map keyOf=kvs.map (λp=>ZA p.1)->kvs.map (·.2)=as.map V.ref->RowsR K O H rows as->qM ks rows k=ZA r →
  ∃b kv,iY kvs k=ZA (.ref b)/\b∈as/\H b=ZA (.dT kv)/\r.1.map keyOf=kv.map (λp=>ZA p.1)/\Reps K O H r.2 (kv.map (·.2))
 |[],rows,kvs,as,h1,h2,h3,h=>by unfold qM at h;cases h
 |k'::ks,rows,kvs,as,h1,h2,h3,h=>by
  cases rows with
  |nil=>unfold qM at h;cases h
  |cons r0 rows=>
   cases kvs with
   |nil=>cases h1
   |cons p kvs=>
    rw[NO,NO]at h1;injection h1 with h1 h1'
    obtain⟨b0,bs,kv0,rfl,e2,e3,e4,e5⟩:=h3;rw[NO,NO]at h2;injection h2 with h2 h2'
    unfold qM at h
    by_cases hk:keyOf k'=ZA k
    ·rw[if_pos hk]at h
     cases h;rw[h1]at hk;injection hk with hk
     exact⟨b0,kv0,by rw[gJ hk,h2],NP,e2,e3,e4⟩
    ·rw[if_neg hk]at h
     have hk2:¬ p.1=k:=λz=>hk (by rw[h1,z])
     obtain⟨b,kv,g1,g2,g3⟩:=vQ h1' h2' e5 h;exact⟨b,kv,by rw[gK hk2];exact g1,NL _ g2,g3⟩
theorem vM{K:NK}{O:Ow}{H H':Hp}{k:List Key}{xr:List T×List T}{b:ZE}{kv':List (List Key×V)}(hO:O b)(hS:SameO (λc=>c=b) H H')(hb:H' b=ZA (.dT kv'))(hx1:xr.1.map keyOf=kv'.map (λp=>ZA p.1))(hx2:Reps K O H' xr.2 (kv'.map (·.2))):
  ∀{ks:List T}{rows:List (List T×List T)}{kvs:List (List Key×V)}{as:List ZE},ks.map keyOf=kvs.map (λp=>ZA p.1)->kvs.map (·.2)=as.map V.ref->RowsR K O H rows as->as.Nodup->iY kvs k=ZA (.ref b)->RowsR K O H' (qL k xr ks rows) as
 |[],rows,kvs,as,h1,h2,h3,hn,h=>by
  cases kvs with
  |nil=>cases h
  |cons _ _=>cases h1
 |k'::ks,rows,kvs,as,h1,h2,h3,hn,h=>by
  have inO:∀a,a=b->O a\/Nw K H a:=λa z=>.inl (z▸hO)
  cases kvs with
  |nil=>cases h1
  |cons p kvs=>
   rw[NO,NO]at h1;injection h1 with h1 h1'
   cases rows with
   |nil=>unfold RowsR at h3;subst h3;cases h2
   |cons r0 rows=>
    obtain⟨b0,bs,kv0,rfl,e2,e3,e4,e5⟩:=h3;rw[NO,NO]at h2;injection h2 with h2 h2'
    obtain⟨n1,n2⟩:=Og.mp hn;unfold qL
    by_cases hk:keyOf k'=ZA k
    ·rw[if_pos hk]
     rw[h1]at hk;injection hk with hk
     rw[gJ hk,h2]at h;cases h;exact⟨b,bs,kv',rfl,hb,hx1,hx2,e5.move (P:=λc=>c=b) inO (λa z=>.inl z) hS λc hc z=>n1 (z▸hc)⟩
    ·rw[if_neg hk]
     have hk2:¬ p.1=k:=λz=>hk (by rw[h1,z])
     rw[gK hk2]at h;obtain⟨b',hb',e'⟩:=vm h2' h;cases e'
     have hne:b0≠b:=λz=>n1 (z▸hb')
     exact⟨b0,bs,kv0,rfl,hS _ _ e2 hne,e3,e4.move (P:=λc=>c=b) inO (λa z=>.inl z) hS,vM hO hS hb hx1 hx2 h1' h2' e5 n2 h⟩
def Fv(i:Nat)(hu:X.A.units+1<cLine)(ha:cz X a fa)(hb:cz X b fb)(hc:cz X c fc)(hsl:Bk a:=by intro _ _;rfl)(hN:X.N[i]?=ZA x:=by rfl)(hv:lM X.env.scope x:=by first|exact OB rfl|exact Oq (OB rfl)|exact Oq (Oq rfl))
  (hd:eO x:=by decide) (hcd:(x == ("__classdict__" : Str))=ZD:=by decide)
  (hs:OW c (ZA (.Subscript (.Subscript (.Name x p2) a p3) b p4)) pos.line X.env=pure ZD:=by rfl):oJ X (.Assign [.Subscript (.Subscript (.Name x p2) a p3) b p4] c pos) (jr i fa fb fc):=by
 intro ol s σ H D I ⟨Z,B,M,E,h⟩;refine zj hu (zp hu (eF hN hv hd hcd) ha hsl) hb hc hs ol s σ H D I ?_
 unfold jr at h
 split at h
 ·rename_i ks rows hl
  obtain⟨v0,e1,d,kvs,as,rfl,hM,na,nas,e5,e6,e7,e8⟩:=E.env.own i _ hl;refine⟨Z,OO B M,E.o,?_⟩
  cases q:fc Z with
  |bad=>rw[q]at h;exact h.elim
  |err c=>rw[q]at h;exact PostF.xa h
  |ok vT=>
   rw[q,ay]at h;intro H1 s1 v r;refine⟨.ref d,e1,Z,OO B M,(E.same s1).o,?_⟩
   have h1:=h.later (SameO.of s1) (P1:=M.u) λa z=>.inl z
   cases q2:fa Z with
   |bad=>rw[q2]at h1;exact h1.elim
   |err c=>rw[q2]at h1;exact PostF.xa h1
   |ok aT=>
    rw[q2,ay]at h1;intro H2 s2 y ry
    have h2:=h1.later (SameO.of s2) (P1:=M.u) λa z=>.inl z
    have E2:=(E.same s1).same s2
    have s12:=s1.trans s2
    split at h2
    ·rename_i ka rr hk
     obtain⟨ka',q3,hk⟩:=Option.bind_eq_some_iff.mp hk;obtain⟨r',q4,hk⟩:=QC.mp hk;cases hk;obtain⟨rb,kv,g1,g2,g3,g4,g5⟩:=vQ e6 e7 e8 q4;obtain⟨ndr,nzr⟩:=xi I g3;obtain⟨ab,f1,f2⟩:=jb q3 ry;refine⟨d,.ref rb,rfl,by rw[f1,<-g1];exact DGet.t (s12 _ _ e5) f2,Z,OO B M,E2.o,?_⟩
     cases q5:fb Z with
     |bad=>rw[q5]at h2;exact h2.elim
     |err c=>rw[q5]at h2;exact PostF.xa h2
     |ok bT=>
      rw[q5,ay]at h2;intro H3 s3 y2 ry2
      have h3:=h2.later (SameO.of s3) (P1:=M.u) λa z=>.inl z
      have s13:=s12.trans s3
      have E3:=E2.same s3
      have hlen:rr.1.length=kv.length:=by have:=congrArg O7 g4;simpa using this
      by_cases hz:(keyOf bT).isSome=ZC/\rr.1.length<1000
      ·rw[if_pos hz]at h3
       obtain⟨kb,q6⟩:=Re.mp hz.1;obtain⟨bb,f3,f4⟩:=jb q6 ry2;obtain⟨u1,u2⟩:=mC q6 ((r.same s2).same s3) g4 (g5.same s13) ndr;refine⟨rb,upd H3 rb (.dT (dG kv kb v)),rfl,by rw[f3];exact DPut.t (s13 _ _ g3) f4 (by rw[QK];omega),?_⟩
       have mrb:M i rb:=(hM rb).mpr (.inr g2)
       have hOb:OO B M rb:=.inr ⟨i,mrb⟩
       have sm1:SameO (λc=>c=rb) H3 (upd H3 rb (.dT (dG kv kb v))):=λc u e nb=>by rw[aB nb];exact e
       have sm:SameO (M i) H3 (upd H3 rb (.dT (dG kv kb v))):=λc u e nb=>sm1 c u e λz=>nb (z▸mrb)
       have inO:∀a,a=rb->OO B M a\/Nw X.K H3 a:=λa z=>.inl (z▸hOb)
       have dne:d≠rb:=λz=>na (z▸g2)
       obtain⟨g6,g7⟩:=E3.put (o':=.dd ks (qL ka (hI bT vT rr.1 rr.2) ks rows)) hl e1 sm ⟨d,kvs,as,rfl,hM,na,nas,sm1 _ _ (s13 _ _ e5) dne,e6,e7,vM hOb sm1 aG u1 (u2.move (P:=λc=>c=rb) inO (λa z=>.inl z) sm1) e6 e7 (e8.same s13) nas g1⟩
       exact h3 σ _ M g7 g6 λc z=>.inl z
      ·rw[if_neg hz]at h3
       exact h3.elim
    ·exact h2.elim
 ·exact h.elim
end
end Tr
namespace PySem
open Sem (wp)
namespace F
def lk_list_keys:Rv (.type "list") "keys" =pure ZB:=by rw[Rn,Qg];kernel_rfl
def lk_list_getattr:Rv (.type "list") "__getattr__" =pure ZB:=by rw[Rn,Qg];kernel_rfl
end F
variable{tk:Tok}
section
variable {prog:Oa}{w:O0}{A:Ou}{E:V1}{h:ZH}{g:Array T5}{d:Drawn}{t:Nat}{os:Uu}{a:ZE}{its:Array NM}{n:Nat}
def nX{Q:Fin->NQ->Prop}(hx:h.get? a=ZA {cls:=.type "list",data:=.seq its n})(hh:A.handled=ZB)
  (hq:∀h' tk' e,U9 h h' e (.ref a) "keys"->E (.ref e) ⟨h',g,d,tk',os⟩):
  ZJ (ZK prog w) A (Builtin.«object.__getattribute__» ⟨[.ref a,.str "keys" tk],[]⟩) Q E ⟨h,g,d,t,os⟩:=by
 have hT:(⟨h,g,d,t,os⟩:NQ).TypeIs (.ref a) "list":=⟨_,hx,rfl⟩
 have f4:=F.lk_list_keys
 repeat (any_goals (first|assumption|wp_step))
 exact wpAny_raiseAttrError hh (λh' tk e hx=>hq h' tk e hx) (attrMsg_fits (by decide+kernel) (by rw[QK];decide))
def pV{R:To->NQ->Prop}(hx:h.get? a=ZA {cls:=.type "list",data:=.seq its n})(hh:A.handled=ZB)
  (hq:∀h' tk' e,U9 h h' e (.ref a) "keys"->R (.error (.ref e)) ⟨h',g,d,tk',os⟩):
  ZL (ZK prog w) A (.call (.builtin "list.__getattribute__") ⟨[.ref a,.str "keys" tk],[]⟩) R ⟨h,g,d,t,os⟩:=
 RN Qt.plain F.entry_list_ga (Qt.check _ _ _ _ _ _ _ _ (show(⟨h,g,d,t,os⟩:NQ).TypeIs (.ref a) "list" from⟨_,hx,rfl⟩) (F.args_list_getattribute_2 _ _) (nX hx hh hq))
def pW{Q:Option NM->NQ->Prop}(hx:h.get? a=ZA {cls:=.type "list",data:=.seq its n})(hh:A.handled=ZB)
  (hq:∀h' tk',(∀b o,h.get? b=ZA o->h'.get? b=ZA o)->Q ZB ⟨h',g,d,tk',os⟩):ZJ (ZK prog w) A (getAttr? (.ref a) "keys") Q E ⟨h,g,d,t,os⟩:=by
 have hT:∀tk,(⟨h,g,d,tk,os⟩:NQ).TypeIs (.ref a) "list":=λ_=>⟨_,hx,rfl⟩
 have f1:=sub_AttributeError
 have f2:=Qt.lookup
 have f3:=Qt.bind (.ref a)
 have f5:=F.lk_list_getattr;unfold getAttr? getAttrBy? getAttrBy
 repeat (any_goals (first|assumption|exact hT _|wp_step))
 refine pV hx hh λh' tk' e hx'=>?_
 obtain⟨t',u',he⟩:=hx'.there
 repeat (any_goals (first|assumption|exact hT _|wp_step))
 exact hq _ _ hx'.keeps
end
end PySem
namespace PySem.F
def entry_dict_update_loop:entryFor table "dict.update.loop" =ZA Builtin.«dict.update.loop»:=entryFor_of_tree (by kernel_rfl)
def plain_dict_update_loop:plainId "dict.update.loop" =ZC:=by decide+kernel
end PySem.F
namespace Tr
open PySem PySem.Spec PyProof.Rows L2
def fD(kvs:List (List Key×V)):List (List Key×V)->List (List Key×V)
 |[] =>kvs
 |p::ps=>fD (dG kvs p.1 p.2) ps
def PairsAt(H:Hp):List V->List (List Key×V)->Prop
 |[],ps=>ps=[]
 |x::xs,ps=>∃b kb p r,ps=p::r/\x=.ref b/\H b=ZA (.tup [.ref kb,p.2])/\H kb=ZA (.tup (p.1.map kV))/\PairsAt H xs r
theorem PairsAt.upd{H:Hp}{d:ZE}{kvs:List (List Key×V)}{o:HO}(hd:H d=ZA (.dT kvs)):∀{xs:List V}{ps:List (List Key×V)},PairsAt H xs ps->PairsAt (L2.upd H d o) xs ps
 |[],_,h=>h
 |x::xs,_,⟨b,kb,p,r,e1,e2,e3,e4,e5⟩=>⟨b,kb,p,r,e1,e2,by rw[aB (jR e3 hd (λz=>nomatch z))];exact e3,by rw[aB (jR e4 hd (λz=>nomatch z))];exact e4,e5.upd hd⟩
variable{H:Hp}
def sV{d:ZE}{a b:HO}:upd (upd H d a) d b=upd H d b:=by
 funext c
 by_cases h:c=d
 ·rw[h,aG,aG]
 ·rw[aB h,aB h,aB h]
variable{A:Ou}{X:Cx}{ol:V2}{xs:List V}{σ:L2.St}
section
variable {res:NM}{R:To->NQ->Prop}{d l it:ZE}
def A6(hh:A.handled=ZB)(hu:A.units+3<cLine):∀(k i:Nat)(s:NQ)(H:Hp)(kvs ps:List (List Key×V)),xs.length - i=k->i<=xs.length->H l=ZA (.lst xs)->H d=ZA (.dT kvs)->kvs.length+(xs.length - i)<=1000->Inv X ol σ H s->s.heap.IsListIter it l i->qD X ol H it->PairsAt H (xs.drop i) ps →
  (∀s',Inv X ol σ (upd H d (.dT (fD kvs ps))) s'->R (.ok (.ret res)) s')->ZL (ZK X.prog X.w) A (.builtin "dict.update.loop" ⟨[.ref d,.ref it,rawInt i,res],[]⟩) R s:=by
 intro k
 induction k with
 |zero=>
  intro i s H kvs ps hk hi hl hd hz I hit hf hp hR;refine S8 F.entry_dict_update_loop ?_
  rw[Te F.plain_dict_update_loop _];obtain⟨z,its,n,r,hlen,e⟩:=I.M0 hl
  have hL:s.heap.IsList l its.toArray:=⟨_,e,rfl,n,rfl⟩
  show ZJ _ A.in1 (pyNext (.ref it) >>= _) _ _ s
  refine NS (S4 hh hit hL (by simp;omega) λh' hm=>?_)
  show ZJ _ _ (Builtin.Dict.addKeywords d [] >>= _) _ _ _
  refine NS (N5 (N5 ?_))
  have hnil:xs.drop i=[]:=Rq (by omega)
  rw[hnil]at hp;unfold PairsAt at hp;subst hp
  have e2:upd H d (.dT (fD kvs []))=H:=by
   funext b
   by_cases hb:b=d
   ·rw[hb,aG,hd];rfl
   ·rw[aB hb]
  rw[e2]at hR
  exact hR _ (I.M9 (fp:=[it]) (t':=s.toks) (λb hb=>by rw[N1.mp hb];exact hf) λb o hb eb=>hm b o (λz=>hb (by rw[z];exact N1.mpr rfl)) eb)
 |succ k ih=>
  intro i s H kvs ps hk hi hl hd hz I hit hf hp hR;refine S8 F.entry_dict_update_loop ?_
  rw[Te F.plain_dict_update_loop _];obtain⟨z,its,n,r,hlen,e⟩:=I.M0 hl
  have hL:s.heap.IsList l its.toArray:=⟨_,e,rfl,n,rfl⟩
  have hlt:i<xs.length:=by omega
  have hlt':i<its.length:=by omega
  show ZJ _ A.in1 (pyNext (.ref it) >>= _) _ _ s
  refine NS (SK hit hL (x:=its[i]) (by simp[hlt']) λh' hit' hm=>?_)
  have I1:Inv X ol σ H {s with heap:=h'}:=I.M9 (fp:=[it]) (t':=s.toks) (λb hb=>by rw[N1.mp hb];exact hf) λb o hb eb=>(hm.2 b (λz=>hb (by rw[z];exact N1.mpr rfl))).trans eb
  have hdrop:xs.drop i=xs[i] ::xs.drop (i+1):=Q3 hlt;rw[hdrop]at hp;obtain⟨b,kb,p,r',rfl,ex,hb,hkb,hp'⟩:=hp
  have rx:RelV xs[i] its[i]:=by
   obtain⟨u,q1,q2⟩:=r.get (N9 hlt)
   rw[N9 hlt']at q1
   cases q1;exact q2
  rw[ex]at rx
  have eu:its[i]=N3 b:=rx;rw[eu];obtain⟨z2,its2,r2,ob,hob1,hob2,nb,hob3⟩:=(show ObjOk X.prog X.w H h' b (.tup [.ref kb,p.2])from I1.hok b _ hb)
  obtain⟨u1,us1,q1,rfl⟩:∃u1 us1,RelV (V.ref kb) u1/\its2=u1::us1:=by cases r2 with|cons a b=>exact⟨_,_,a,rfl⟩
  cases r2 with
  |cons ra rb=>
   obtain⟨u2,q2,rfl⟩:∃u2,RelV p.2 u2/\us1=[u2]:=by cases rb with|cons a b=>cases b;exact⟨_,a,rfl⟩
   obtain rfl:u1=N3 kb:=q1
   show ZJ _ A.in1 (holding [N3 b] _ >>= _) _ _ _
   refine NS (SC ?_)
   refine NS (wpAny_tryCatch ?_)
   unfold Builtin.Dict.pairItems;refine NS (R8 (s:={s with heap:=h'}) (T:="tuple") ⟨ob,hob1,hob2⟩ ?_)
   rw[if_pos (by decide)]
   refine NS (Tq (s:={s with heap:=h'}) hob1 hob3 (N5 ?_))
   show ZJ _ _ (holding [N3 kb,u2] (dictSet d (.ref kb) u2)) _ _ _
   refine SC ?_
   obtain⟨zz,hds,xs2,rel,dd⟩:=Ef I1.hok hd
   have hzl:xs2.length<=ZI:=by rw[<-Sy rel];exact zz
   have hkl:kvs.length<ZI:=by rw[QK];omega
   have hl2:(dG kvs p.1 p.2).length<=ZI:=by have:=ie kvs p.1 p.2;omega
   refine wpAny_dictSet_heap (hsz:=hzl) (Ro (by show A.units+1<cLine;omega)) (pX I1.hok hkb) dd λh2 dd2 hs2=>?_
   obtain⟨q,es,ep,hq,h22,h3,h4,_,h5⟩:=dd2
   have I2:Inv X ol σ (upd H d (.dT (dG kvs p.1 p.2))) {s with heap:=h2,toks:=s.toks+(Sq (cU X.prog X.w)).draws p.1}:=
    uW (s:={s with heap:=h'}) I1 (by rw[hd];exact Qq) hs2 ⟨q,hq⟩ ⟨hl2,hds,_,(rel.put p.1 hkb q2).keeps λc ys ec=>by rw[aB (jR ec hd (λz=>nomatch z))];exact ec,q,es,ep,hq,h22,h3,h4,h5⟩
   have hld:l≠d:=jR hl hd (λz=>nomatch z)
   have hitd:it≠d:=λz=>by have:=hf.1;rw[z,hd]at this;cases this
   have hcast:(i:Int)+1=((i+1:Nat):Int):=by omega
   refine N5 ⟨plainId_quiet F.plain_dict_update_loop _,?_⟩
   rw[hcast];refine ih (i+1) _ (upd H d (.dT (dG kvs p.1 p.2))) (dG kvs p.1 p.2) r' (by omega) (by omega) (by rw[aB hld];exact hl) aG (by have:=ie kvs p.1 p.2;omega) I2 ?_ ⟨by rw[aB hitd];exact hf.1,hf.2⟩ (hp'.upd hd) λs' I'=>?_
   ·obtain⟨oi,ho1,ho2,ho3⟩:=hit'
    exact⟨oi,(hs2.2 it hitd).trans ho1,ho2,ho3⟩
   ·rw[sV]at I'
    exact hR s' I'
end
theorem PairsAt.same{H H':Hp}(s:Same H H'):∀{xs:List V}{ps:List (List Key×V)},PairsAt H xs ps->PairsAt H' xs ps
 |[],_,h=>h
 |x::xs,_,⟨b,kb,p,r,e1,e2,e3,e4,e5⟩=>⟨b,kb,p,r,e1,e2,s _ _ e3,s _ _ e4,e5.same s⟩
section
variable {E:V1}{s:NQ}{l:ZE}{ps:List (List Key×V)}
def xh{Q:V1}(hh:A.handled=ZB)(hu:A.units+8<cLine)(I:Inv X ol σ H s)(hl:H l=ZA (.lst xs))(hz:xs.length<=1000)(hp:PairsAt H xs ps)
  (h:∀p s',Nw X.K H p->Inv X ol σ (upd H p (.dT (fD [] ps))) s'->Q (.ref p) s'):ZJ (ZK X.prog X.w) A (call (.type "dict") [.ref l]) Q E s:=by
 have hk:X.K.lookup s.heap.objs.size=ZB:=by
  cases q:X.K.lookup s.heap.objs.size with
  |none=>rfl
  |some o=>exact absurd (NZ (I.kIn _ o q)) (Ot _)
 have hn:H s.heap.objs.size=ZB:=I.hok.fresh (N4 _)
 have hlp:l≠s.heap.objs.size:=λz=>by rw[z,hn]at hl;cases hl
 refine callType_codes (Q₁:=λobj s₁=>obj=.ref s.heap.objs.size/\s₁= {s with heap:=s.heap.push {cls:=.type "dict",data:=.dict #[]}}) F.kt_called_dict (F.kt_typeCall_dict_1 _) F.entry_dict_init (kt_code_dict_new _ ⟨rfl,rfl⟩) ?_
 rintro obj s₁ ⟨rfl,rfl⟩
 have I1:Inv X ol σ (upd H s.heap.objs.size (.dT [])) {s with heap:=s.heap.push {cls:=.type "dict",data:=.dict #[]}}:=I.laid (a:=s.heap.objs.size) (o:=.dT []) (t':=s.toks) (λ_ _ q=>NX _ q) (N4 _) (Eh s.heap I.big)
 have hT:({s with heap:=s.heap.push {cls:=.type "dict",data:=.dict #[]}}:NQ).TypeIs (.ref s.heap.objs.size) "dict":=⟨_,Oc _ rfl,rfl⟩
 have hl1:upd H s.heap.objs.size (.dT []) l=ZA (.lst xs):=by rw[aB hlp];exact hl
 obtain⟨z,its,n,r,hlen,e⟩:=I1.M0 hl1;refine⟨hT,F.args_dict_init_2 _ _,?_⟩
 unfold Builtin.«dict.__init__»;refine NS ?_
 unfold Builtin.Dict.selfAndRest;refine NS (wpAny_notOrdered_dict hT ?_)
 show ZJ _ _ (pure (s.heap.objs.size,[N3 l])) _ _ _
 refine N5 ?_
 show ZJ _ _ (Sw "dict.__init__" s.heap.objs.size (.ref l) [] .none) _ _ _
 unfold Sw;refine NS (R8 (T:="list") ⟨_,e,rfl⟩ ?_)
 rw[if_pos (by decide)]
 refine NS (pW e hh λh' tk' kp=>?_)
 have I2:Inv X ol σ (upd H s.heap.objs.size (.dT [])) {s with heap:=h',toks:=tk'}:=I1.kept (t':=tk') kp
 rw[if_pos (by rfl)]
 refine NS (Ux ?_)
 have eL:({s with heap:=h',toks:=tk'}:NQ).heap.IsList l its.toArray:=⟨_,kp _ _ e,rfl,n,rfl⟩
 refine NS (Sr eL ?_)
 have I3:Inv X ol σ (upd H s.heap.objs.size (.dT [])) {s with heap:=h'.push {cls:=.type "list_iterator",data:=.fields #[.ref l,.int 0 0]},toks:=tk'}:=I2.kept (t':=tk') λb u q=>NX _ q
 have hpl:s.heap.objs.size<h'.objs.size:=NZ (kp _ _ (Oc _ rfl))
 have hni:upd H s.heap.objs.size (.dT []) h'.objs.size=ZB:=by
  rw[aB (R5 hpl)];exact I.hok.fresh (Rc hpl)
 have hp1:PairsAt (upd H s.heap.objs.size (.dT [])) xs ps:=hp.same (bj hn _);refine N5 ⟨plainId_quiet F.plain_dict_update_loop _,?_⟩
 refine A6 (A:=A.in1) (X:=X) (ol:=ol) (σ:=σ) (l:=l) (xs:=xs) (it:=h'.objs.size) hh (by show A.units+1+3<cLine;omega) xs.length 0 _ (upd H s.heap.objs.size (.dT [])) [] ps (by omega) (Qk _) hl1 aG (by simp;omega) I3 ⟨_,Oc _ rfl,rfl,rfl⟩ (I2.Nj (N4 _) hni) hp1 λs' I'=>?_
 rw[sV]at I';exact⟨rfl,h _ _ ⟨hn,hk⟩ I'⟩
end
def hu8{k:Nat}(h:Room k A):A.units+8<cLine:=by have:=h.un;omega
def yf{kvs:List (List Key×V)}{k:List Key}{v:V}(h:(kvs.map (·.1)).Nodup):((dG kvs k v).map (·.1)).Nodup:=by
 unfold dG
 by_cases a:(kvs.any λkv=>decide (kv.1=k))=ZC
 ·rw[if_pos a,PY]
  have:((λx=>x.1)∘λkv:List Key×V=>if kv.1=k then(kv.1,v)else kv)=λx=>x.1:=by
   funext x
   show(if x.1=k then(x.1,v)else x).1=x.1
   by_cases e:x.1=k
   ·rw[if_pos e]
   ·rw[if_neg e]
  rw[this];exact h
 ·rw[if_neg a,O8,OQ]
  refine⟨h,by simp,λx hx y hy=>?_⟩
  simp only[NO,SR,N1]at hy;subst hy;intro z;subst z;obtain⟨p,hp,e⟩:=Om.mp hx;exact a (RJ.mpr ⟨p,hp,decide_eq_true e⟩)
def MQ(K:NK)(O:Ow)(H:Hp):List (T×T)->List (List Key×V)->Prop
 |[],ps=>ps=[]
 |a::l,ps=>∃p r,ps=p::r/\keyOf a.1=ZA p.1/\Rep K O H a.2 p.2/\MQ K O H l r
theorem sy{K:NK}{O:Ow}{H:Hp}:∀{l:List (T×T)}{ps:List (List Key×V)}{ks ts:List T}{kvs:List (List Key×V)},MQ K O H l ps->ks.map keyOf=kvs.map (λp=>ZA p.1)->Reps K O H ts (kvs.map (·.2))->(kvs.map (·.1)).Nodup →
  (kc l (ks,ts)).1.map keyOf=(fD kvs ps).map (λp=>ZA p.1)/\Reps K O H (kc l (ks,ts)).2 ((fD kvs ps).map (·.2))
 |[],ps,ks,ts,kvs,h,h1,h2,hn=>by unfold MQ at h;subst h;exact⟨h1,h2⟩
 | (a,b)::l,ps,ks,ts,kvs,h,h1,h2,hn=>by
  obtain⟨p,r,rfl,e1,e2,e3⟩:=h;obtain⟨g1,g2⟩:=mC (vT:=b) e1 e2 h1 h2 hn
  show(kc l (hI a b ks ts)).1.map keyOf=(fD (dG kvs p.1 p.2) r).map (λp=>ZA p.1)/\Reps K O H (kc l (hI a b ks ts)).2 ((fD (dG kvs p.1 p.2) r).map (·.2))
  exact sy (l:=l) e3 g1 g2 (yf hn)
theorem zk{K:NK}{O:Ow}{H:Hp}:∀{l:List T}{tps:List (T×T)}{xs:List V},Kv l=ZA tps->Reps K O H l xs->∃ps,PairsAt H xs ps/\MQ K O H tps ps
 |[],tps,xs,h,r=>by cases Reps.Da.mp r;cases h;exact⟨[],rfl,rfl⟩
 |t::l,tps,xs,h,r=>by
  obtain⟨v,ws,rfl,p,q⟩:=Reps.me.mp r;unfold Kv at h
  split at h
  ·rename_i heq;cases heq
  ·rename_i k v' l' heq
   cases heq
   split at h
   ·rename_i kk rr hk hr
    cases h;obtain⟨ps,g1,g2⟩:=zk hr q;obtain⟨b,vs,e1,e2,e3,e4⟩:=Rep.Fk.mp p;obtain⟨u1,us1,rfl,f1,f2⟩:=Reps.me.mp e4;obtain⟨u2,us2,rfl,f3,f4⟩:=Reps.me.mp f2;cases Reps.Da.mp f4;obtain⟨kb,f5,f6⟩:=jb hk f1;subst f5;exact⟨(kk,u2)::ps,⟨b,kb,(kk,u2),ps,rfl,e1,e3,f6,g1⟩,⟨(kk,u2),ps,rfl,hk,f3,g2⟩⟩
   ·cases h
  ·cases h
section
variable {e:ZG}{f:V5}{x y:Str}{p pos p2 p3:Pos}
def Ii(X:Cx)(f:V5):TE:=λσ H Q=>tP X f σ H λv H'=>∃a xs ps,v=.ref a/\H' a=ZA (.lst xs)/\xs.length<=1000/\PairsAt H' xs ps/\∀q,Nw X.K H' q->Q (.ref q) (upd H' q (.dT (fD [] ps)))
def CG(hu:X.A.units+8<cLine)(hc:X.calm=ZC)(hm:X.mg "dict" =ZB)(ha:cz X e f)(hg:Gl X "dict")(hs:br e=ZC):PE X (.Call (.Name "dict" p) [e] [] pos) (Ii X f):=by
 have h1:NY [e] X.env=(ZD,eval e X.env)::NY [] X.env:=bp hs;intro ol s σ H Q I hq;refine OG (gU I hg hm (show OK "dict" =ZA (.type "dict")by decide+kernel) ?_ (by decide) (by decide))
 refine Pb (bS (bq (te:=tP X f) ha dH h1 pos ol s σ H (λxs H'=>∃v,xs=[v]/\∃a xs ps,v=.ref a/\H' a=ZA (.lst xs)/\xs.length<=1000/\PairsAt H' xs ps/\∀q,Nw X.K H' q->Q (.ref q) (upd H' q (.dT (fD [] ps)))) I ?_) λus s1 hh=>?_) h1 rfl
 ·obtain⟨Z,O,E,h⟩:=hq
  exact⟨Z,O,E,Post.mono h λt H' _ g v r=>⟨v,rfl,g v r⟩⟩
 ·obtain⟨vs,H1,I1,r1,v,rfl,a,xs,ps,ev,e1,e2,e3,e4⟩:=hh
  subst ev;obtain⟨u,rfl,ru⟩:=r1.one;obtain rfl:u=N3 a:=ru;exact xh (I1.ok.hd hc) hu I1 e1 e2 e3 λq s' nw I'=>⟨.ref q,_,I',rfl,e4 q nw⟩
def Fy(i:Nat)(hu:X.A.units+8<cLine)(hc:X.calm=ZC)(hm:X.mg "dict" =ZB)(hN:X.N.Nodup)(ha:cz X e f)(hst:br e=ZC:=by rfl)(hg:Gl X "dict":=by rfl)(hi:X.N[i]?=ZA x:=by rfl)(hx:Loc X.env.scope x:=by first|exact OB rfl|exact Oq rfl)(hs:OW (.Call (.Name "dict" p) [e] [] p2) (ZA (.Name x p3)) pos.line X.env=pure ZD:=by rfl)
  (hf:X.fn x=ZC\/X.env.scope.names.lookup x=ZA .local:=by first|exact .inl rfl|exact .inr rfl|assumption):oJ X (.Assign [.Name x p3] (.Call (.Name "dict" p) [e] [] p2) pos) (rJ i f):=PS.imp (mO hN hi hx (CG hu hc hm ha hg hst) hs hf) λD σ H hh_=>by
 obtain⟨Z,B,M,E,h⟩:=hh_;refine⟨Z,OO B M,E.o,?_⟩
 unfold rJ at h
 cases q:f Z with
 |bad=>rw[q]at h;exact h.elim
 |err c=>rw[q]at h;exact PostF.xa h
 |ok t=>
  rw[q,ay]at h;intro H1 s1 v r
  have h1:=h.later (SameO.of s1) (P1:=M.u) λa z=>.inl z
  cases t with
  |lst l=>
   obtain⟨a,xs,rfl,e2,e3,e4⟩:=Rep.Do.mp r;unfold z8 at h1
   split at h1
   ·rename_i l' heq
    cases heq
    split at h1
    ·rename_i tps hps
     by_cases hz:l.length<=1000
     ·rw[if_pos hz,ay]at h1
      obtain⟨ps,g1,g2⟩:=zk hps e4;refine⟨a,xs,ps,rfl,e3,by rw[<-e4.length];exact hz,g1,λnd nw=>?_⟩
      by_cases hl:i<Z.length
      ·simp only[if_pos hl]at h1
       have hm:∀a,a=nd->Nw X.K H1 a:=λa z=>z▸nw
       obtain⟨k1,k2⟩:=sy (ks:=[]) (ts:=[]) (kvs:=[]) g2 rfl Reps.GE Ql;obtain⟨E2,sub⟩:=(E.same s1).new (m:=λa=>a=nd) (o:=.dct (kc tps ([],[])).1 (kc tps ([],[])).2) (v:=.ref nd) (H':=upd H1 nd (.dT (fD [] ps))) hl hm (bj nw.1 _) ⟨nd,_,rfl,λb=>Rk,aG,k1,(k2.more (Ev.subO hm)).same (bj nw.1 _)⟩
       exact h1 _ _ _ (SameO.of (bj nw.1 _)) E2 sub
      ·simp only[if_neg hl]at h1;exact h1.elim
     ·rw[if_neg hz]at h1;exact h1.elim
    ·exact h1.elim
   ·rename_i hno
    exact(hno l rfl).elim
  |_=>exact h1.elim
end
theorem lA{K:NK}{O:Ow}{H:Hp}:∀{l:List T}{ns:List Int}{xs:List V}{us:List NM},rQ l=ZA ns->Reps K O H l xs->Vals xs us->RL us ns
 |[],ns,xs,us,h,r,v=>by cases Reps.Da.mp r;cases v;cases h;exact .nil
 |t::l,ns,xs,us,h,r,v=>by
  obtain⟨w,ws,rfl,p,q⟩:=Reps.me.mp r
  cases v with
  |cons v1 v2=>
   cases t with
   |int i=>
    unfold rQ at h;obtain⟨m,h1,rfl⟩:=QC.mp h;cases Rep.AC.mp p;obtain⟨k,rfl⟩:=v1
    exact .cons _ _ (lA h1 q v2)
   |_=>cases h
theorem r6:∀(l:List Int)(i:Int),yo i l∈i::l/\∀a∈i::l,yo i l<=a
 |[],i=>⟨NP,λa h=>by cases N1.mp h;exact PR _⟩
 |j::l,i=>by
  obtain⟨h1,h2⟩:=r6 l (if j<i then j else i)
  unfold yo
  have h3:=h2 _ NP;refine⟨?_,λa ha=>?_⟩
  ·rcases NT.mp h1 with e|e
   ·rw[e]
    by_cases h:j<i
    ·rw[if_pos h];simp
    ·rw[if_neg h];simp
   ·exact NL _ (NL _ e)
  ·rcases NT.mp ha with rfl|ha
   ·by_cases h:j<a
    ·rw[if_pos h]at h3 ⊢;omega
    ·rw[if_neg h]at h3 ⊢;omega
   ·rcases NT.mp ha with rfl|ha
    ·by_cases h:a<i
     ·rw[if_pos h]at h3 ⊢;omega
     ·rw[if_neg h]at h3 ⊢;omega
    ·exact h2 a (NL _ ha)
theorem r8:∀(l:List Int)(i:Int),yp i l∈i::l/\∀a∈i::l,a<=yp i l
 |[],i=>⟨NP,λa h=>by cases N1.mp h;exact PR _⟩
 |j::l,i=>by
  obtain⟨h1,h2⟩:=r8 l (if i<j then j else i)
  unfold yp
  have h3:=h2 _ NP;refine⟨?_,λa ha=>?_⟩
  ·rcases NT.mp h1 with e|e
   ·rw[e]
    by_cases h:i<j
    ·rw[if_pos h];simp
    ·rw[if_neg h];simp
   ·exact NL _ (NL _ e)
  ·rcases NT.mp ha with rfl|ha
   ·by_cases h:a<j
    ·rw[if_pos h]at h3 ⊢;omega
    ·rw[if_neg h]at h3 ⊢;omega
   ·rcases NT.mp ha with rfl|ha
    ·by_cases h:i<a
     ·rw[if_pos h]at h3 ⊢;omega
     ·rw[if_neg h]at h3 ⊢;omega
    ·exact h2 a (NL _ ha)
def Kk(hc:X.calm=ZC):CallT X (.builtin "min") C3:=by
 intro ol s σ H O ts vs us Q I hf rs rv hp;unfold C3 at hp
 split at hp
 ·rename_i l
  obtain⟨v,rfl,r⟩:=rs.one
  split at hp
  ·rename_i i ns hk
   obtain⟨a,ws,rfl,n,q,z⟩:=Rep.Do.mp r;obtain⟨u,rfl,ru⟩:=kQ rv;cases ru;obtain⟨its,r',pl,hz⟩:=I.list (SqL.of q)
   have hi:=lA hk z r';obtain⟨xs,e⟩:=hi.allInts.items
   have hns:i::ns=xs.toList.map (·.1):=by rw[<-hi.numsOf,<-nums_intItems,<-e]
   have hl:s.heap.IsList a (intItems xs):=by rw[<-e];exact pl.isList
   have hsz:0<xs.size:=by
    have h3:=congrArg O7 hns;rw[NU,NR]at h3;rw[<-Pd];omega
   refine min_intList (I.ok.hd hc) hl hsz λv h' tk hv hk'=>?_
   obtain⟨t,rfl⟩:=intItems_at hv;obtain⟨h1,h2⟩:=argBest_lt (numAt xs) (xs.size - 1);refine⟨.int _,H,I.kept (t':=tk) hk',⟨_,rfl⟩,?_⟩
   have eM:numAt xs (argBest (λi j=>decide (numAt xs i<numAt xs j)) (xs.size - 1))=yo i ns:=by
    obtain⟨g1,g2⟩:=r6 ns i
    have m1:numAt xs (argBest (λi j=>decide (numAt xs i<numAt xs j)) (xs.size - 1))∈i::ns:=by
     rw[hns,numAt_eq];exact PySem.getD_mem (by rw[NR,Pd];omega)
    have k1:=g2 _ m1;rw[hns]at g1;obtain⟨j,hj,ej⟩:=mem_getD g1;rw[NR,Pd]at hj;rw[<-numAt_eq]at ej
    have k2:=h2 j (by omega)
    rw[ej]at k2;exact Va k2 k1
   rw[eM];exact hp H (Same.refl H) _ (Rep.Gc _)
  ·exact hp.elim
 ·rename_i i j
  obtain⟨v,ws,rfl,p,q⟩:=Reps.me.mp rs;obtain⟨v2,rfl,p2⟩:=q.one;cases Rep.AC.mp p;cases Rep.AC.mp p2;refine Bd hc ol s σ H _ us Q I rv ⟨i,j,rfl,?_⟩
  exact hp H (Same.refl H) _ (Rep.Gc _)
 ·exact hp.elim
def Ej(hc:X.calm=ZC):CallT X (.builtin "max") rh:=by
 intro ol s σ H O ts vs us Q I hf rs rv hp;unfold rh at hp
 split at hp
 ·rename_i l
  obtain⟨v,rfl,r⟩:=rs.one
  split at hp
  ·rename_i i ns hk
   obtain⟨a,ws,rfl,n,q,z⟩:=Rep.Do.mp r;obtain⟨u,rfl,ru⟩:=kQ rv;cases ru;obtain⟨its,r',pl,hz⟩:=I.list (SqL.of q)
   have hi:=lA hk z r';obtain⟨xs,e⟩:=hi.allInts.items
   have hns:i::ns=xs.toList.map (·.1):=by rw[<-hi.numsOf,<-nums_intItems,<-e]
   have hl:s.heap.IsList a (intItems xs):=by rw[<-e];exact pl.isList
   have hsz:0<xs.size:=by
    have h3:=congrArg O7 hns;rw[NU,NR]at h3;rw[<-Pd];omega
   refine max_intList (I.ok.hd hc) hl hsz λv h' tk hv hk'=>?_
   obtain⟨t,rfl⟩:=intItems_at hv;obtain⟨h1,h2⟩:=argBest_gt (numAt xs) (xs.size - 1);refine⟨.int _,H,I.kept (t':=tk) hk',⟨_,rfl⟩,?_⟩
   have eM:numAt xs (argBest (λi j=>decide (numAt xs i > numAt xs j)) (xs.size - 1))=yp i ns:=by
    obtain⟨g1,g2⟩:=r8 ns i
    have m1:numAt xs (argBest (λi j=>decide (numAt xs i > numAt xs j)) (xs.size - 1))∈i::ns:=by
     rw[hns,numAt_eq];exact PySem.getD_mem (by rw[NR,Pd];omega)
    have k1:=g2 _ m1;rw[hns]at g1;obtain⟨j,hj,ej⟩:=mem_getD g1;rw[NR,Pd]at hj;rw[<-numAt_eq]at ej
    have k2:=h2 j (by omega)
    rw[ej]at k2;exact Va k1 k2
   rw[eM];exact hp H (Same.refl H) _ (Rep.Gc _)
  ·exact hp.elim
 ·rename_i i j
  obtain⟨v,ws,rfl,p,q⟩:=Reps.me.mp rs;obtain⟨v2,rfl,p2⟩:=q.one;cases Rep.AC.mp p;cases Rep.AC.mp p2;refine Be hc ol s σ H _ us Q I rv ⟨i,j,rfl,?_⟩
  exact hp H (Same.refl H) _ (Rep.Gc _)
 ·exact hp.elim
end Tr
namespace Tr
noncomputable def gw:List T->Option (List (List Int))
 |[] =>ZA []
 |.tup l::r=>match rQ l,gw r with
  |some ns,ZA k=>if ns=[]then ZB else ZA (ns::k)
  |_,_=>ZB
 |_=>ZB
theorem wK:∀l,gS l l=ZD
 |[] =>rfl
 |a::l=>by unfold gS;rw[if_pos rfl];exact wK l
theorem uN:∀a b c,gS a b=ZC->gS b c=ZC->gS a c=ZC
 |[],[],_,h,_=>absurd h (by simp[gS])
 |_::_,[],_,h,_=>absurd h (by simp[gS])
 |[],_::_,[],_,h=>absurd h (by simp[gS])
 |[],_::_,_::_,_,_=>rfl
 |_::_,_::_,[],_,h=>absurd h (by simp[gS])
 |x::a,y::b,z::c,h,g=>by
  unfold gS at h g ⊢
  by_cases e:x=y
  ·subst e
   rw[if_pos rfl]at h
   by_cases e2:x=z
   ·rw[if_pos e2]at g ⊢;exact uN a b c h g
   ·rw[if_neg e2]at g ⊢;exact g
  ·rw[if_neg e]at h
   by_cases e2:y=z
   ·subst e2;rw[if_neg e];exact h
   ·rw[if_neg e2]at g
    have h1:=of_decide_eq_true h
    have h2:=of_decide_eq_true g;rw[if_neg (by omega)]
    exact decide_eq_true (by omega)
theorem pU:∀a b,gS a b=ZD->gS b a=ZD->a=b
 |[],[],_,_=>rfl
 |[],_::_,h,_=>absurd h (by simp[gS])
 |_::_,[],_,h=>absurd h (by simp[gS])
 |x::a,y::b,h,g=>by
  unfold gS at h g
  by_cases e:x=y
  ·subst e
   rw[if_pos rfl]at h g;rw[pU a b h g]
  ·rw[if_neg e]at h
   rw[if_neg (λz=>e z.symm)]at g
   have h1:=of_decide_eq_false h
   have h2:=of_decide_eq_false g;omega
def C8(a b c:List Int)(h:gS a c=ZC):gS a b=ZC\/gS b c=ZC:=by
 cases h1:gS a b with
 |true=>exact .inl rfl
 |false=>
  cases h2:gS b a with
  |true=>exact .inr (uN _ _ _ h2 h)
  |false=>rw[<-pU _ _ h1 h2];exact .inr h
end Tr
namespace Tr
open PySem PySem.Spec PyProof.Rows L2
variable (R:RK)
variable {R:RK}
def RK.kind(R:RK)(h:ZH):PyProof.Rows.KeyKind:={α:=List Int,blt:=gS,irrefl:=wK,trans:=uN,negTrans:=C8,total:=pU,keyOf:=R.key h,dflt:=[]}
def RK.row(R:RK)(h:ZH)(v:NM):List Int:=(R.key h v).getD []
end Tr
namespace L2
open PySem PySem.Spec PyProof.Rows
def wZ{n b:Nat}:b∈ [n+4,n,n+1,n+2,n+3] ↔n<=b/\b<n+5:=by
 simp only[NT,Po,or_false];omega
end L2
namespace Tr
open PySem PySem.Spec PyProof.Rows L2
def Wk(K:NK)(O:Ow)(H1:Hp)(l:List T)(v:V):Prop:=∃(aa:ZE)(tt:Bool)(ws:List V),v=.ref aa/\¬ O aa/\Reps K O H1 l ws/\EL K H1 aa tt ws/\(∀P Hc,SameO P H1 Hc->¬ P aa->EL K Hc aa tt ws)/\¬ Nw K H1 aa
end Tr
namespace Tr
open PySem
def c0(g:List T->Rs T)(_:En):Rs T:=match g []with
 |.ok t=>.ok t
 |_=>.bad
end Tr
namespace PySem
open Sem (wp)
open L2 (itAt)
structure PW (prog:Oa)(w:O0)(A:Ou)(I:ZE)(T:String)(fp wr:List ZE)(n:Nat)(R:Nat->NM->NM->Prop)(St:Nat->Option ZE->ZH->Prop):Prop where
 sub:∀b∈wr,b∈fp
 ty:∀i o (s:NQ),St i o s.heap->s.TypeIs (.ref I) T
 frame:∀i o h h',St i o h->(∀b∈fp,∀ob,h.get? b=ZA ob->h'.get? b=ZA ob)->St i o h'
 item:∀i o (s:NQ) (Q:Option NM->NQ->Prop) (E:V1),i<n->St i o s.heap->(∀t,o=ZA t->∃ob,s.heap.get? t=ZA ob) →
  (∀p h' tk x y,R i x y->s.heap.objs.size<=p->IsPair h' p x y->St (i+1) (ZA (o.getD p)) h'->(∀b ob,b∉wr->s.heap.get? b=ZA ob->h'.get? b=ZA ob)->Q (ZA (.ref p)) {s with heap:=h',toks:=tk})->ZJ (ZK prog w) A (pyNext (.ref I)) Q E s
 done:∀o (s:NQ) (Q:Option NM->NQ->Prop) (E:V1),St n o s.heap->(∀t,o=ZA t->∃ob,s.heap.get? t=ZA ob)->(∀h' tk,(∀b ob,b∉wr->s.heap.get? b=ZA ob->h'.get? b=ZA ob)->Q ZB {s with heap:=h',toks:=tk})->ZJ (ZK prog w) A (pyNext (.ref I)) Q E s
 self:∀i o (s:NQ) (Q:V1) (E:V1),St i o s.heap->Q (.ref I) s->ZJ (ZK prog w) A (pyIter (.ref I)) Q E s
end PySem
namespace Tr
open PySem
inductive Fx where
 |nx (Z:En)|rt (t:T) (Z:En)
noncomputable def mB{α:Type}(f:Str):List Str->List α->Option α
 |n::ns,l::ls=>if n=f then ZA l else mB f ns ls
 |_,_=>ZB
noncomputable def lG(f:Str)(l':List T):List Str->List (List T)->List (List T)
 |n::ns,l::ls=>if n=f then l'::ls else l::lG f l' ns ls
 |_,ls=>ls
noncomputable def yI(c f:Str):T->Rs T
 |.ob c' ns ts=>if c'=c then(match mB f ns ts with|some t=>.ok t|none=>.bad)else .bad
 |_=>.bad
noncomputable def wC(c m:Str)(g:List T->Rs T)(fo:V5)(fs:V3)(Z:En):Rs T:=do
 let o <-fo Z
 match o with
 |.ob c' ns ts=>if c'=c/\ns.contains m=ZD then fs Z >>= λl=>g (.ob c' ns ts::l)else .bad
 |_=>.bad
def xP(f:V5)(Z:En):Rs (T×En):=f Z >>= λt=>.ok (t,Z)
noncomputable def Ao(i:Nat)(c f:Str)(fa:V5)(Z:En):Rs (T×En):=match Z[i]? with
 |some (.ow (.ob c' ns ls))=>if c'=c then(match mB f ns ls with
  |some l=>fa Z >>= λt=>if l.length<ZI then .ok (.non,Z.set i (.ow (.ob c' ns (lG f (l++[t]) ns ls))))else .bad
  |none=>.bad)else .bad
 |_=>.bad
noncomputable def An(i:Nat)(c f:Str)(Z:En):Rs (T×En):=match Z[i]? with
 |some (.ow (.ob c' ns ls))=>if c'=c then(match mB f ns ls with
  |some l=>(match l.getLast? with
   |some t=>.ok (t,Z.set i (.ow (.ob c' ns (lG f l.dropLast ns ls))))
   |none=>.bad)
  |none=>.bad)else .bad
 |_=>.bad
noncomputable def BG(i:Nat)(Z:En):Rs (T×OT)->Rs (T×En)
 |.ok p=>.ok (p.1,Z.set i (.ow p.2))
 |.err c=>.err c
 |.bad=>.bad
noncomputable def c8(i:Nat)(c m:Str)(g:List Sl->Rs (T×OT))(fs:V3)(Z:En):Rs (T×En):=match Z[i]? with
 |some (.ow (.ob c' ns ls))=>if c'=c/\ns.contains m=ZD then fs Z >>= λts=>BG i Z (g (.ow (.ob c' ns ls)::ts.map Sl.va))else .bad
 |_=>.bad
def xE(i:Nat)(g:List Sl->Rs (T×OT))(fs:V3)(Z:En):Rs (T×En):=match Z[i]? with
 |some (.ow o)=>fs Z >>= λts=>BG i Z (g (.ow o::ts.map Sl.va))
 |_=>.bad
def fH(n:Nat)(sls:List Sl):En:=sls++Ob (n - sls.length) Sl.em
noncomputable def qO(j:Nat):Fx->Rs (T×OT)
 |.nx Z=>match Z[j]? with
  |some (.ow o)=>.ok (.non,o)
  |_=>.bad
 |.rt t Z=>match Z[j]? with
  |some (.ow o)=>.ok (t,o)
  |_=>.bad
def iJ(n j m:Nat)(F:En->Rs Fx)(sls:List Sl):Rs (T×OT):=if sls.length=n then F (fH m sls) >>= qO j else .bad
def EK{α:Type}:Rs α->Rs α
 |.err _=>.bad
 |r=>r
def mN(Z:En):Rs Fx:=.ok (.nx Z)
def nW(F G:En->Rs Fx)(Z:En):Rs Fx:=match F Z with
 |.ok (.nx Z')=>EK (G Z')
 |r=>r
def xA(x:En->Rs (T×En))(Z:En):Rs Fx:=x Z >>= λp=>.ok (.nx p.2)
def lE(x:En->Rs (T×En))(Z:En):Rs Fx:=x Z >>= λp=>.ok (.rt p.1 p.2)
def Jy(f:V6)(F G:En->Rs Fx)(Z:En):Rs Fx:=f Z >>= λk=>if k then F Z else G Z
def Gg(c:Str)(_:En):Rs Fx:=.err c
noncomputable def AN(i:Nat)(c f:Str)(fs:V3)(Z:En):Rs Fx:=match Z[i]? with
 |some (.ow (.ob c' ns ls))=>fs Z >>= λl=>if c'=c/\l.length<=ZI/\ns.length<1000 then
   .ok (.nx (Z.set i (.ow (if ns.contains f then .ob c' ns (lG f l ns ls)else .ob c' (ns++[f]) (ls++[l])))))else .bad
 |_=>.bad
def wJ(F:En->Rs Fx)(h:Str->Rs T)(Z:En):Rs Fx:=match F Z with
 |.err c=>(match h c with
  |.ok t=>.ok (.rt t Z)
  |_=>.bad)
 |r=>r
noncomputable def HV(x:En->Rs (T×En))(Z:En):Rs (Bool×En):=x Z >>= λp=>match p.1 with
 |.bl b=>.ok (b,p.2)
 |_=>.bad
noncomputable def EZ(g:T->T->Rs T)(x:En->Rs (T×En))(f:V5)(Z:En):Rs (T×En):=x Z >>= λp=>EK (f p.2 >>= g p.1) >>= λt=>.ok (t,p.2)
def EX(f:V6)(Z:En):Rs (Bool×En):=f Z >>= λb=>.ok (b,Z)
noncomputable def sS(x y:En->Rs (Bool×En))(Z:En):Rs (Bool×En):=x Z >>= λp=>if p.1 then .ok (ZC,p.2)else EK (y p.2)
def E5(f:V6)(x y:En->Rs (T×En))(Z:En):Rs (T×En):=f Z >>= λk=>if k then x Z else y Z
def xV(x:En->Rs (Bool×En))(F G:V4)(Z:En):Rs Fl:=x Z >>= λp=>if p.1 then F p.2 else G p.2
noncomputable def iw(g:List T->Rs (T ⊕ OT))(ts:List T):Rs T:=match g ts with
 |.ok (.inl t)=>.ok t
 |.ok (.inr _)=>.bad
 |.err c=>.err c
 |.bad=>.bad
def xG(n m:Nat)(F:En->Rs (T ⊕ OT))(ts:List T):Rs (T ⊕ OT):=if ts.length=n then F (aQ m ts)else .bad
noncomputable def la(c:Str)(g:List Sl->Rs (T×OT))(fs:V3)(Z:En):Rs (T ⊕ OT):=fs Z >>= λts=>g (.ow (.ob c [] [])::ts.map Sl.va) >>= λp=>match p.1 with
 |.non=>.ok (.inr p.2)
 |_=>.bad
noncomputable def wB(F:En->Rs (T ⊕ OT))(h:Str->Rs T)(Z:En):Rs (T ⊕ OT):=match F Z with
 |.err c=>(match h c with
  |.ok t=>.ok (.inl t)
  |_=>.bad)
 |r=>r
noncomputable def jK(i:Nat)(g:List T->Rs (T ⊕ OT))(fs:V3)(Z:En):Rs Fl:=fs Z >>= λts=>g ts >>= λp=>if i<Z.length then(match p with
 |.inl t=>.ok (.nx (Z.set i (.va t)))
 |.inr o=>.ok (.nx (Z.set i (.ow o))))else .bad
def MK:Rs Fx->Rs Fx
 |.ok (.nx _)=>.bad
 |r=>r
noncomputable def pP(f:V6)(F G:En->Rs Fx)(Z:En):Rs Fx:=f Z >>= λk=>if k then MK (F Z)else G Z
end Tr
namespace Tr
open PySem PySem.Spec PyProof.Rows L2
abbrev one(j:Nat)(m:Ow):Mn:=noM.set j m
abbrev BM(B m:Ow):Ow:=λa=>B a\/m a
variable{a:ZE}{j:Nat}{m:Ow}
def one_u:(one j m).u a↔m a:=⟨λz=>(Mn.KF z).elim id λ⟨_,w⟩=>w.elim,λz=>⟨j,by unfold one;rw[Mn.MZ];exact z⟩⟩
variable{B:Ow}
def one_oo:OO B (one j m) a↔BM B m a:=or_congr Rk one_u
variable{H:Hp}{K:NK}{M:Mn}{Z:En}{i:Nat}{o':OT}{v:V}{σ:L2.St}
section
variable {H':Hp}{o:OT}
def Ev.old(E:Ev K B M H Z σ)(w:Nw K H a):¬ OO B M a:=λz=>by
 obtain⟨o,e⟩:=(E.env.trk a z).some;rw[w.1]at e;cases e
def Ev.back(E:Ev K B M H Z σ)(hi:Z[i]?=ZA (.ow o))(hs:σ[i]?=ZA (ZA v))(s:SameO (M i) H H')(r:ORep K (OO B (M.set i m)) m H' o' v)(hm:∀a,m a->M i a\/Nw K H a):
  Ev K B (M.set i m) H' (Z.set i (.ow o')) σ/\SameO M.u H H'/\∀a,(M.set i m).u a->M.u a\/Nw K H a:=by
 have hl:i<Z.length:=(NW.mp hi).1
 have sub:∀a,(M.set i m).u a->M.u a\/Nw K H a:=λa z=>(Mn.KF z).elim (λw=>(hm a w).imp_left λy=>⟨i,y⟩) .inl
 have subO:∀a,OO B (M.set i m) a->OO B M a\/Nw K H a:=λa z=>z.elim (λw=>.inl (.inl w)) λw=>(sub a w).elim (λy=>.inl (.inr y)) .inr
 have inO:∀a,M i a->OO B M a\/Nw K H a:=λa z=>.inl (.inr ⟨i,z⟩)
 refine⟨⟨⟨by rw[Pe];exact E.env.len,λj t e=>?_,λj o2 e=>?_,λj a z=>.inr ⟨j,z⟩,λj k a z1 z2=>?_,λa z=>?_⟩,λa z hb=>?_⟩,λb u e n=>s b u e λz=>n ⟨i,z⟩,sub⟩
 ·by_cases hj:i=j
  ·subst hj;rw[Oh hl]at e;cases e
  ·rw[Oj hj]at e
   obtain⟨w,e1,e2⟩:=E.env.val j t e;exact⟨w,e1,e2.move inO subO s⟩
 ·by_cases hj:i=j
  ·subst hj
   rw[Oh hl]at e
   cases e;exact⟨v,hs,by rw[Mn.MZ];exact r⟩
  ·rw[Oj hj]at e
   obtain⟨w,e1,e2⟩:=E.env.own j o2 e;refine⟨w,e1,?_⟩
   rw[Mn.Na (λz=>hj z.symm)]
   exact e2.move inO subO s λa z y=>hj (E.env.dis i j a y z)
 ·unfold Mn.set at z1 z2
  by_cases hj:j=i
  ·by_cases hk:k=i
   ·exact hj.trans hk.symm
   ·rw[if_pos hj]at z1;rw[if_neg hk]at z2
    exact(hm a z1).elim (λw=>(hk (E.env.dis k i a z2 w)).elim) λw=>(E.old w (.inr ⟨k,z2⟩)).elim
  ·by_cases hk:k=i
   ·rw[if_neg hj]at z1;rw[if_pos hk]at z2
    exact(hm a z2).elim (λw=>(hj (E.env.dis j i a z1 w)).elim) λw=>(E.old w (.inr ⟨j,z1⟩)).elim
   ·rw[if_neg hj]at z1;rw[if_neg hk]at z2
    exact E.env.dis j k a z1 z2
 ·rcases z with z|⟨j,z⟩
  ·exact(E.env.trk a (.inl z)).at λo e=>s _ _ e λw=>E.mine a ⟨i,w⟩ z
  ·unfold Mn.set at z
   by_cases hj:j=i
   ·rw[if_pos hj]at z;exact r.mtb a z
   ·rw[if_neg hj]at z
    exact(E.env.trk a (.inr ⟨j,z⟩)).at λo e=>s _ _ e λw=>hj (E.env.dis j i a z w)
 ·rcases Mn.KF z with w|w
  ·exact(hm a w).elim (λy=>E.mine a ⟨i,y⟩ hb) λy=>E.old y (.inl hb)
  ·exact E.mine a w hb
end
variable{X:Cx}{apos cpos p3 pos:Pos}{c x:Str}{e:ZG}{es:List ZG}{fa:V5}
section
variable {a:ZG}{fs:V3}{p2:Pos}{f:Str}
def PostX(X:Cx)(B P:Ow)(σ:L2.St)(H:Hp)(r:Rs (T×En))(Q:VK):Prop:=match r with
 |.ok p=>∀v H' M',SameO P H H'->Ev X.K B M' H' p.2 σ->(∀a,M'.u a->P a\/Nw X.K H a)->Rep X.K (OO B M') H' p.1 v->Q v H'
 |.err c=>XA X k8 H c
 |.bad=>False
def tX(X:Cx)(f:En->Rs (T×En)):TE:=λσ H Q=>∃Z B M,Ev X.K B M H Z σ/\PostX X B M.u σ H (f Z) Q
abbrev Bi(X:Cx)(e:ZG)(f:En->Rs (T×En)):Prop:=PE X e (tX X f)
def HW(h:cz X a fa):Bi X a (xP fa):=PE.imp h λσ H Q hh_=>by
 obtain⟨Z,B,M,E,q⟩:=hh_;refine⟨Z,OO B M,E.o,?_⟩
 unfold xP at q
 cases z:fa Z with
 |bad=>rw[z]at q;exact q
 |err c=>rw[z]at q;exact q
 |ok t=>
  rw[z,ay]at q;exact λH' s v r=>q v H' M (SameO.of s) (E.same s) (λ_ w=>.inl w) r
theorem DI{K:NK}{O:Ow}{H:Hp}:∀{fs:List (Str×V)}{ts:List T}{t:T},mB f (fs.map (·.1)) ts=ZA t->Reps K O H ts (fs.map (·.2))->∃v,fs.lookup f=ZA v/\Rep K O H t v
 |[],ts,t,h,_=>by cases h
 | (n,w)::fs,[],t,h,_=>by cases h
 | (n,w)::fs,u::ts,t,h,r=>by
  obtain⟨w',ws,e,p,q⟩:=Reps.me.mp r;cases e
  have h':(if n=f then ZA u else mB f (fs.map (·.1)) ts)=ZA t:=h
  rw[OP]
  by_cases z:n=f
  ·subst z
   rw[if_pos rfl]at h';cases h';exact⟨w,by rw[beq_self_eq_true],p⟩
  ·rw[if_neg z]at h'
   rw[beq_eq_false_iff_ne.mpr (O6 z)];exact DI h' q
def Lp(hc:Cls X.K (bN X.K c))(hn:NoAttr X.K (bN X.K c) f)(ha:cz X a fa)(hb:Os a f X.env (eval a X.env)=eval a X.env:=by rfl):cz X (.Attribute a f pos) (o1 (yI c f) fa):=PE.imp (x9 ha hb) λσ H Q hh_=>by
 obtain⟨Z,O,E,h⟩:=hh_;refine zd (a8 (k:=yI c f) E h) λv H' ⟨t,r,s,E',q⟩=>?_
 cases t with
 |ob c' ns ts=>
  unfold yI at q
  dsimp only at q
  split at q
  ·rename_i hcc
   subst hcc;obtain⟨b,dx,fs,e1,e2,e3,e4,e5⟩:=Rep.M8.mp r;subst e4
   split at q
   ·rename_i t ht
    obtain⟨w,l1,l2⟩:=DI ht e5;exact⟨b,_,dx,fs,w,e1,e3,hc,hn,l1,q H' (Same.refl _) w l2⟩
   ·exact q.elim
  ·exact q.elim
 |_=>exact q.elim
theorem yH{K:NK}{O:Ow}{H:Hp}:∀{ns:List Str}{as:List ZE}{ls:List (List T)}{l:List T},mB f ns ls=ZA l->LsR K O H ls as->ns.length=as.length->as.Nodup →
  ∃b vs,(ns.zip (as.map V.ref)).lookup f=ZA (.ref b)/\b∈as/\H b=ZA (.lst vs)/\Reps K O H l vs/\∀(l':List T)(vs':List V),O b->Reps K O H l' vs'->LsR K O (upd H b (.lst vs')) (lG f l' ns ls) as
 |[],as,ls,l,h,_,_,_=>by cases ls <;> cases h
 |n::ns,[],ls,l,h,_,hl,_=>by cases hl
 |n::ns,b::as,[],l,h,_,_,_=>by cases h
 |n::ns,b::as,u::ls,l,h,r,hl,nd=>by
  obtain⟨b',bs,vs,e1,e2,e3,e4⟩:=r;cases e1
  have nb:b∉as:=(Og.mp nd).1
  have h':(if n=f then ZA u else mB f ns ls)=ZA l:=h
  show ∃c ws,((n,V.ref b)::ns.zip (as.map V.ref)).lookup f=_/\_
  rw[OP]
  have keep:∀(c:ZE)(vs':List V),O c->∀{t:List T}{ws:List V},Reps K O H t ws->Reps K O (upd H c (.lst vs')) t ws:=λc vs' hc t ws q=>Reps.keep (P:=λa=>a=c) (λd o e n=>by rw[aB n];exact e) (λa z=>z▸hc) q
  by_cases z:n=f
  ·subst z
   rw[if_pos rfl]at h';cases h';refine⟨b,vs,by rw[beq_self_eq_true],NP,e2,e3,λl' vs' ob rl=>?_⟩
   show LsR K O _ (if n=n then l'::ls else _) _
   rw[if_pos rfl];refine⟨b,as,vs',rfl,aG,keep _ _ ob rl,?_⟩
   clear h hl nd e3 e2
   induction ls generalizing as with
   |nil=>exact e4
   |cons w ls ih=>
    obtain⟨c,cs,ws,f1,f2,f3,f4⟩:=e4;subst f1;exact⟨c,cs,ws,rfl,by rw[aB (λy=>nb (by rw[<-y];exact NP))];exact f2,keep _ _ ob f3,ih cs f4 λy=>nb (NL _ y)⟩
  ·rw[if_neg z]at h'
   rw[beq_eq_false_iff_ne.mpr (O6 z)];obtain⟨d,ws,g1,g2,g3,g4,g5⟩:=yH h' e4 (by simpa using hl) (Og.mp nd).2
   refine⟨d,ws,g1,NL _ g2,g3,g4,λl' vs' od rl=>?_⟩
   show LsR K O _ (if n=f then l'::ls else u::lG f l' ns ls) _
   rw[if_neg z];exact⟨b,as,vs,rfl,by rw[aB (λy=>nb (by rw[y];exact g2))];exact e2,keep _ _ od e3,g5 l' vs' od rl⟩
def Ev.putF{ns:List Str}{ls:List (List T)}{l:List T}(E:Ev K B M H Z σ)(hi:Z[i]?=ZA (.ow (.ob c ns ls)))(hf:mB f ns ls=ZA l):
  ∃p dx fs b vs,σ[i]?=ZA (ZA (.ref p))/\H p=ZA (.ins (bN K c) dx fs)/\fs.lookup f=ZA (.ref b)/\H b=ZA (.lst vs)/\Reps K (OO B M) H l vs/\∀(l':List T)(vs':List V),Reps K (OO B M) H l' vs' →
   Ev K B M (upd H b (.lst vs')) (Z.set i (.ow (.ob c ns (lG f l' ns ls)))) σ/\SameO M.u H (upd H b (.lst vs')):=by
 obtain⟨v0,s0,p,dx,as,e1,e2,⟨n1,n2,n3,n4⟩,e4,e5,e6,e7,e8⟩:=E.env.own i _ hi;subst e1;obtain⟨b,vs,g1,g2,g3,g4,g5⟩:=yH hf e8 e6 n4
 have Mb:M i b:=(e2 b).mpr (.inr (.inr g2));refine⟨p,dx,_,b,vs,s0,e4,g1,g3,g4,λl' vs' rl=>?_⟩
 have sm:SameO (M i) H (upd H b (.lst vs')):=λd u e nb=>by rw[aB (λz=>nb (by rw[z];exact Mb))];exact e
 refine E.put hi s0 sm ⟨p,dx,as,rfl,e2,⟨n1,n2,n3,n4⟩,?_,?_,e6,e7,g5 l' vs' (.inr ⟨i,Mb⟩) rl⟩
 ·rw[aB (jR e4 g3 (λz=>nomatch z))];exact e4
 ·rw[aB (jR e5 g3 (λz=>nomatch z))];exact e5
def KJ(i:Nat)(hc:Cls X.K (bN X.K c))(hn:NoAttr X.K (bN X.K c) f)(ha:cz X a fa)(hN:X.N[i]?=ZA x:=by rfl)(hv:lM X.env.scope x:=by first|exact OB rfl|exact Oq (OB rfl)|exact Oq (Oq rfl))(hs:br a=ZC:=by rfl)
  (hb1:Os (.Name x p2) f X.env (eval (.Name x p2) X.env)=eval (.Name x p2) X.env:=by rfl)
  (hbase:Os (.Attribute (.Name x p2) f p3) "append" X.env (eval (.Attribute (.Name x p2) f p3) X.env)=eval (.Attribute (.Name x p2) f p3) X.env:=by rfl) (hline:(apos.endLine == cpos.line)=ZC:=by rfl)
  (hd:eO x:=by decide) (hcd:(x == ("__classdict__" : Str))=ZD:=by decide):Bi X (.Call (.Attribute (.Attribute (.Name x p2) f p3) "append" apos) [a] [] cpos) (Ao i c f fa):=by
 have h1:NY [a] X.env=(ZD,eval a X.env)::NY [] X.env:=bp hs;refine PE.imp (vZ Pg Sh Si mX (x9 (eF hN hv hd hcd) hb1) (bq ha dH h1) hbase (by rw[h1];rfl) hline h1 rfl) λσ H Q ⟨Z,B,M,E,h⟩=>?_
 unfold Ao at h
 split at h
 ·rename_i c' ns ls hl
  split at h
  ·rename_i hcc
   subst hcc
   split at h
   ·rename_i l hf
    obtain⟨p,dx,fs,b,vs,s0,e1,e2,e3,e4,k⟩:=E.putF hl hf;refine⟨.ref p,s0,p,_,dx,fs,.ref b,rfl,e1,hc,hn,e2,.inl ⟨rfl,vs,SqL.of e3⟩,Z,OO B M,E.o,?_⟩
    cases q:fa Z with
    |bad=>rw[q]at h;exact h.elim
    |err c=>rw[q]at h;exact h
    |ok t=>
     rw[q,ay]at h
     split at h
     ·rename_i hz
      intro H1 s1 v r;obtain⟨p',dx',fs',b',vs',s0',e1',e2',e3',e4',k'⟩:=(E.same s1).putF hl hf;cases s0.symm.trans s0'
      have z1:=(s1 _ _ e1).symm.trans e1';cases z1;cases e2.symm.trans e2'
      have z3:=(s1 _ _ e3).symm.trans e3';cases z3;obtain⟨g1,g2⟩:=k' (l++[t]) (vs++[v]) (e4'.append (Reps.FS r Reps.GE));exact⟨b,vs,v,rfl,rfl,e3',by rw[<-e4.length];exact hz,h .non _ M (λc o e nb=>g2 c o (s1 _ _ e) nb) g1 (λc z=>.inl z) Rep.Nh⟩
     ·exact h.elim
   ·exact h.elim
  ·exact h.elim
 ·exact h.elim
def KG(i:Nat)(hc:Cls X.K (bN X.K c))(hn:NoAttr X.K (bN X.K c) f)(hN:X.N[i]?=ZA x:=by rfl)(hv:lM X.env.scope x:=by first|exact OB rfl|exact Oq (OB rfl)|exact Oq (Oq rfl))
  (hb1:Os (.Name x p2) f X.env (eval (.Name x p2) X.env)=eval (.Name x p2) X.env:=by rfl)
  (hbase:Os (.Attribute (.Name x p2) f p3) "pop" X.env (eval (.Attribute (.Name x p2) f p3) X.env)=eval (.Attribute (.Name x p2) f p3) X.env:=by rfl) (hline:(apos.endLine == cpos.line)=ZC:=by rfl)
  (hd:eO x:=by decide) (hcd:(x == ("__classdict__" : Str))=ZD:=by decide):Bi X (.Call (.Attribute (.Attribute (.Name x p2) f p3) "pop" apos) [] [] cpos) (An i c f):=by
 refine PE.imp (Je Pg PySem.F.slot_list_pop PySem.F.type_list_pop Jw (x9 (eF hN hv hd hcd) hb1) hbase hline) λσ H Q ⟨Z,B,M,E,h⟩=>?_
 unfold An at h
 split at h
 ·rename_i c' ns ls hl
  split at h
  ·rename_i hcc
   subst hcc
   split at h
   ·rename_i l hf
    split at h
    ·rename_i t ht
     obtain⟨p,dx,fs,b,vs,s0,e1,e2,e3,e4,k⟩:=E.putF hl hf
     have hlen:=e4.length
     have hne:l≠ []:=λz=>by rw[z]at ht;cases ht
     rw[List.getLast?_eq_getElem?]at ht
     obtain⟨w,w1,w2⟩:=e4.get ht;rw[hlen]at w1;obtain⟨g1,g2⟩:=k l.dropLast vs.dropLast (by rw[SX,SX,hlen];exact e4.take _)
     refine⟨.ref p,s0,p,_,dx,fs,.ref b,rfl,e1,hc,hn,e2,.inl ⟨rfl,vs,SqL.of e3⟩,b,vs,w,rfl,rfl,e3,w1,?_⟩
     refine h w _ M g2 g1 (λc z=>.inl z) (w2.keep (P:=λa=>a=b) (λd o e n=>by rw[aB n];exact e) λa z=>?_)
     obtain⟨v0,s1,p',dx',as,f1,f2,f3,f4,f5,f6,f7,f8⟩:=E.env.own i _ hl;rw[f1]at s1;cases s0.symm.trans s1;cases e1.symm.trans f4;obtain⟨b2,vs2,y1,y2,_⟩:=yH hf f8 f6 f3.2.2.2;rw[e2]at y1;cases y1;exact .inr ⟨i,(f2 a).mpr (.inr (.inr (z▸y2)))⟩
    ·exact h.elim
   ·exact h.elim
  ·exact h.elim
 ·exact h.elim
end
theorem ou{m:Str}:∀{fs:List (Str×V)},(fs.map (·.1)).contains m=ZD->fs.lookup m=ZB
 |[],_=>rfl
 | (n,v)::fs,h=>by
  rw[NO,O4,Tf]at h;rw[OP,h.1];exact ou h.2
variable{f:ZE}{fd:Ox}{k n:Nat}{ps:List Str}
section
variable {o:ZG}{fo:V5}{fs:V3}{p2:Pos}{m:Str}
def FL{pl:Sem Bool}{g:List T->Rs T}(hc:Cls X.K (bN X.K c))(hm:xq X.K (bN X.K c) m f)(F:EF X.prog X.w X.K X.mg X.base k f fd ps 1 g)(hr:Room k X.A)(hb:Binds X.K fd ps [])(hps:ps.length=1)(ho:cz X o fo)
  (ht:eval (.Call (.Attribute o m apos) [] [] pos) X.env=(do
   let ov <-eval o X.env
   standAt apos.atName
   let (f,first) <-holding [ov] (RW ov m pl)
   Ug pos f first (backTo pos (NY [] X.env)) (R9 pos (QP [] X.env))):=by rfl):cz X (.Call (.Attribute o m apos) [] [] pos) (wC c m g fo ai):=by
 intro ol s σ H Q I ⟨Z,O,E,hq⟩;refine RA (pl:=pl) (bS (ho ol s σ H _ I (a8 E hq)) λu s1 ⟨v,H1,I1,rx,t,r,sm,E1,q⟩=>?_) ht
 cases t with
 |ob c' ns ts=>
  dsimp only at q
  split at q
  ·rename_i hcc
   obtain⟨h1,h2⟩:=hcc;subst h1;obtain⟨p,dx,fs',rfl,n,e3,e4,e5⟩:=Rep.M8.mp r;obtain rfl:u=.ref p:=rx;subst e4;refine lF I1 e3 hc hm (ou h2) ?_
   exact Tu (first:=[.ref p]) I1.kIn hm.kp (K3 (us:=[.ref p]) (vs:=[.ref p]) F hr hb hps I1 (.cons rfl .nil) (Reps.FS r Reps.GE) E1.mtb rfl q)
  ·exact q.elim
 |_=>exact q.elim
end
def spE(K:NK)(n j:Nat)(g:List Sl->Rs (T×OT)):Sp:=λvs H Q _=>∃sls B m v,Ev K B (one j m) H sls (vs.map ZA)/\sls.length=n/\vs[j]?=ZA v ∧
 match g sls with
 |.ok p=>∀u H' m',SameO m H H'->ORep K (BM B m') m' H' p.2 v->(∀a,m' a->m a\/Nw K H a)->Rep K (BM B m') H' p.1 u->Q u H'
 |_=>False
def FnXE(P:Oa)(w:O0)(K:NK)(mg:V0)(base:ZH)(k:Nat)(f:ZE)(fd:Ox)(ps:List Str)(n j:Nat)(g:List Sl->Rs (T×OT)):Prop:=
 ∀(A:Ou)(outer:List Env)(s:NQ)(H:Hp)(args:Args)(us:List NM)(vs:List V)(B m:Ow)(sls:List Sl)(c:Str)(R:To->NQ->Prop),Room k A->Env0 P w K mg base A outer s H->Sb s fd args (ps.zip us)->Vals vs us →
  Ev K B (one j m) H sls (vs.map ZA)->sls.length=n->g sls=.err c->(∀ev s',MM P w mg outer H s c ev s'->R (.error ev) s')->ZL (ZK P w) A (.call (.ref f) args) R s
structure EN (P:Oa)(w:O0)(K:NK)(mg:V0)(base:ZH)(k:Nat)(f:ZE)(fd:Ox)(ps:List Str)(n j:Nat)(g:List Sl->Rs (T×OT)):Prop where
 h:FnOk P w K mg base CX0 k f fd ps (spE K n j g)
 x:FnXE P w K mg base k f fd ps n j g
variable{sls:List Sl}{ts:List T}{v0:V}{vs:List V}
section
variable {H':Hp}{o:OT}
abbrev BC(B:Ow)(M:Mn)(i:Nat):Ow:=λa=>OO B M a/\¬ M i a
def yR:OO (BC B M i) (one j (M i)) a->OO B M a:=λz=>(one_oo.mp z).elim (λw=>w.1) λw=>.inr ⟨i,w⟩
def Ev.args{ws:List V}(E:Ev K B M H Z σ)(hi:Z[i]?=ZA (.ow o))(hs:σ[i]?=ZA (ZA v0))(hl:sls.length=ws.length)(hj:sls[j]?=ZA (.ow o))(hw:ws[j]?=ZA v0)
  (ho:∀(k:Nat)(o':OT),sls[k]?=ZA (Sl.ow o')->k=j) (hv:∀(k:Nat)(t:T),sls[k]?=ZA (Sl.va t)->∃w,ws[k]?=ZA w/\Rep K (OO B M) H t w):Ev K (BC B M i) (one j (M i)) H sls (ws.map ZA):=by
 obtain⟨v',s',r⟩:=E.env.own i o hi;rw[hs]at s';cases s';refine⟨⟨by rw[NR];exact hl,λk t e=>?_,λk o' e=>?_,λk a z=>.inr ⟨k,z⟩,λk k' a z1 z2=>?_,λa z=>E.env.trk a (yR z)⟩,λa z y=>y.2 (one_u.mp z)⟩
 ·obtain⟨w,e1,e2⟩:=hv k t e
  exact⟨w,by rw[Oe,e1];rfl,e2.less λa z=>yR z⟩
 ·have hk:=ho k o' e
  subst hk;rw[hj]at e;cases e;refine⟨v0,by rw[Oe,hw];rfl,?_⟩
  rw[show one k (M i) k=M i from Mn.MZ]
  exact r.move (P:=k8) (λ_ z=>z.elim) (λa z=>.inl (yR z)) (λb u q _=>q) λ_ _ z=>z
 ·unfold one Mn.set at z1 z2
  by_cases h1:k=j
  ·by_cases h2:k'=j
   ·exact h1.trans h2.symm
   ·rw[if_neg h2]at z2;exact z2.elim
  ·rw[if_neg h1]at z1;exact z1.elim
def Ev.ret{t:T}{u:V}(E:Ev K B M H Z σ)(hi:Z[i]?=ZA (.ow o))(hs:σ[i]?=ZA (ZA v0))(s:SameO (M i) H H')(r:ORep K (BM (BC B M i) m) m H' o' v0)(hm:∀a,m a->M i a\/Nw K H a)(rt:Rep K (BM (BC B M i) m) H' t u):
  Ev K B (M.set i m) H' (Z.set i (.ow o')) σ/\SameO M.u H H'/\(∀a,(M.set i m).u a->M.u a\/Nw K H a)/\Rep K (OO B (M.set i m)) H' t u:=by
 have sub:∀a,OO B (M.set i m) a->BM (BC B M i) m a:=λa z=>by
  rcases z with z|⟨k,z⟩
  ·exact .inl ⟨.inl z,λw=>E.mine a ⟨i,w⟩ z⟩
  ·unfold Mn.set at z
   by_cases hk:k=i
   ·rw[if_pos hk]at z;exact .inr z
   ·rw[if_neg hk]at z;exact .inl ⟨.inr ⟨k,z⟩,λw=>hk (E.env.dis k i a z w)⟩
 obtain⟨g1,g2,g3⟩:=E.back hi hs s (r.move (P:=k8) (λ_ z=>z.elim) (λa z=>.inl (sub a z)) (λb u q _=>q) λ_ _ z=>z) hm
 exact⟨g1,g2,g3,rt.less sub⟩
end
variable{Q:VK}{g:List Sl->Rs (T×OT)}{ol:V2}{s:NQ}{us:List NM}
def HE(X:Cx)(B m:Ow)(v:V)(H:Hp)(r:Rs (T×OT))(Q:VK):Prop:=match r with
 |.ok p=>∀u H' m',SameO m H H'->ORep X.K (BM B m') m' H' p.2 v->(∀a,m' a->m a\/Nw X.K H a)->Rep X.K (BM B m') H' p.1 u->Q u H'
 |.err c=>XA X k8 H c
 |.bad=>False
def B9(F:EN X.prog X.w X.K X.mg X.base k f fd ps n j g)(hr:Room k X.A)(hb:Binds X.K fd ps [])(hps:ps.length=n)(I:Inv X ol σ H s)(r:Vals vs us)(Ea:Ev X.K B (one j m) H sls (vs.map ZA))(hl:sls.length=n)(hv:vs[j]?=ZA v)
  (hq:HE X B m v H (g sls) Q):ZJ (ZK X.prog X.w) X.A (call (.ref f) us) (EP X ol σ Q) X.xe s:=by
 cases q2:g sls with
 |bad=>rw[q2]at hq;exact hq.elim
 |ok p=>
  rw[q2]at hq;refine tJ (E:=E0) (dvs:=[]) (ds:=[]) F.h hr hb .nil v3 I r ⟨sls,B,m,v,by simpa using Ea,hl,by simpa using hv,?_⟩
  rw[q2]
  exact hq
 |err c=>
  rw[q2]at hq
  have hlen:us.length=ps.length:=by rw[<-r.length,hps,<-hl,Ea.env.len,NR]
  have hb':=hb s us I.kIn (by rw[Ol];exact hlen)
  rw[Ol]at hb';refine Ru (Qe (F.x X.A X.stack s H ⟨us,[]⟩ us vs B m sls c (λr s'=>match r with|.error ev=>X.xe ev s'|_=>False) hr I.Nc hb' r Ea hl q2 λev s' w=>?_) λr s' hq=>?_)
  ·obtain⟨ea,T,C,H',rfl,hmc,ho,hbare,hun,hok,sm2,hea,heo,fl,hT,hTo⟩:=w
   have I2:Inv X ol σ H' s':=I.M7 ho hun hok hbare (λb z=>absurd z (by simp))
   exact hq ol _ _ ⟨ea,ZA T,C,σ,H',rfl,hmc,I2,λb o q _=>sm2 b o q,hea,λhex=>eG I hex heo,fl,(λt zt=>by cases zt;exact⟨hT,λhex=>eG I hex hTo⟩),λpp hpp=>⟨λzz=>(by have:=(I.pin pp hpp).1;rw[zz,heo]at this;cases this),λzz=>(by cases zz;have:=(I.pin pp hpp).1;rw[hTo]at this;cases this)⟩⟩
  ·cases r with
   |error ev=>exact hq
   |ok fl=>exact hq.elim
def x5{o:OT}{H0:Hp}{P0:Ow}(E:Ev X.K B M H Z σ)(hi:Z[i]?=ZA (.ow o))(hs:σ[i]?=ZA (ZA v0)){r:Rs (T×OT)}(h:PostX X B M.u σ H (BG i Z r) Q):HE X (BC B M i) (M i) v0 H r Q:=by
 cases r with
 |bad=>exact h
 |err c=>exact h
 |ok p=>
  intro u H' m' s r hm rt;obtain⟨g1,g2,g3,g4⟩:=E.ret hi hs s r hm rt;exact h u H' _ g2 g1 g3 g4
theorem PostX.later{P:Ow}{H1:Hp}{r:Rs (T×En)}(h:PostX X B P σ H r Q)(s:Same H H1):PostX X B P σ H1 r Q:=by
 cases r with
 |bad=>exact h
 |err c=>exact XA.later h (SameO.of s) λ_ z=>z.elim
 |ok p=>exact λv H' M' s' E' o' r'=>h v H' M' (λb o e nb=>s' b o (s _ _ e) nb) E' (λa z=>(o' a z).imp_right (fP s)) r'
def qh{o:OT}(h:(Sl.ow o::ts.map Sl.va)[k]?=ZA (.ow o')):k=0:=by
 cases k with
 |zero=>rfl
 |succ k=>
  rw[Pv,Oe]at h
  cases z:ts[k]? <;> rw[z]at h <;> cases h
def qg{O:Ow}{o:OT}(r:Reps K O H ts vs){t:T}(h:(Sl.ow o::ts.map Sl.va)[k]?=ZA (.va t)):∃w,(v0::vs)[k]?=ZA w/\Rep K O H t w:=by
 cases k with
 |zero=>cases h
 |succ k=>
  rw[Pv,Oe]at h
  cases z:ts[k]? with
  |none=>rw[z]at h;cases h
  |some u=>
   rw[z]at h;cases h;exact r.get z
variable{p:Pos}
section
variable {fs:V3}{p2:Pos}{y m:Str}
def HX{pl:Sem Bool}(i:Nat)(hc:Cls X.K (bN X.K c))(hm:xq X.K (bN X.K c) m f)(F:EN X.prog X.w X.K X.mg X.base k f fd ps n 0 g)(hr:Room k X.A)(hb:Binds X.K fd ps [])(hps:ps.length=n)(hl:∀Z ts,fs Z=.ok ts->ts.length+1=n)(ha:qC X (e::es) fs)
  (hN:X.N[i]?=ZA x:=by rfl) (hv:lM X.env.scope x:=by first|exact OB rfl|exact Oq (OB rfl)|exact Oq (Oq rfl)) (hd:eO x:=by decide) (hcd:(x == ("__classdict__" : Str))=ZD:=by decide)
  (hst:NY (e::es) X.env=(ZD,eval e X.env)::NY es X.env:=by rfl) (hpl:(backTo pos (NY es X.env)).any (·.1)=ZD:=by rfl)
  (ht:eval (.Call (.Attribute (.Name x p2) m apos) (e::es) [] pos) X.env=(do
   let ov <-eval (.Name x p2) X.env
   standAt apos.atName
   let (f,first) <-holding [ov] (RW ov m pl)
   Ug pos f first (backTo pos (NY (e::es) X.env)) (R9 pos (QP [] X.env))):=by rfl):
  Bi X (.Call (.Attribute (.Name x p2) m apos) (e::es) [] pos) (c8 i c m g fs):=by
 intro ol s σ H Q I ⟨Z,B,M,E,h⟩;unfold c8 at h
 split at h
 ·rename_i c' ns ls hi
  split at h
  ·rename_i hcc
   obtain⟨h1,h2⟩:=hcc;subst h1;obtain⟨v0,s0,q,dx,as,e1,e2,e3,e4,e5,e6,e7,e8⟩:=E.env.own i _ hi;subst e1;refine RA (pl:=pl) (bS (eF (pos:=p2) hN hv hd hcd ol s σ H (λv H'=>v=.ref q/\H'=H) I ⟨_,s0,rfl,rfl⟩) λu s1 ⟨v,H1,I1,rx,ev,eH⟩=>?_) ht
   subst ev eH;obtain rfl:u=.ref q:=rx;refine lF I1 e4 hc hm (ou (by rw[og (by rw[NR];exact e6)];exact h2)) ?_
   refine PP (first:=[.ref q]) (h₀:=X.base) I.ok.mod.kin hm.kp (bS (ha pos ol s1 σ H1 (λvs H2=>∃ts,fs Z=.ok ts/\Same H1 H2/\Reps X.K (OO B M) H2 ts vs) I1 ⟨Z,OO B M,E.o,?_⟩) λus s2 ⟨vs,H2,I2,r,ts,q1,sm,rs⟩=>⟨I2.kIn,?_⟩) hst hpl
   ·cases z:fs Z with
    |bad=>rw[z]at h;exact h.elim
    |err c=>rw[z]at h;exact h
    |ok ts=>exact λH' s' vs rs=>⟨ts,rfl,s',rs⟩
   ·rw[q1,ay]at h
    have E2:=E.same sm;refine B9 (us:=.ref q::us) (vs:=.ref q::vs) (v:=.ref q) F hr hb hps I2 (.cons rfl r) (E2.args (o:=.ob c' ns ls) hi s0 (by rw[NU,NU,NR,rs.length]) rfl rfl (λk o' z=>qh z) λk t z=>qg rs z) ?_ rfl (x5 (H0:=H1) (P0:=k8) E2 hi s0 (h.later sm))
    rw[NU,NR];exact hl Z ts q1
  ·exact h.elim
 ·exact h.elim
def EY{pl:Sem Bool}(i:Nat)(hc:Cls X.K (bN X.K c))(hm:xq X.K (bN X.K c) m f)(F:EN X.prog X.w X.K X.mg X.base k f fd ps 1 0 g)(hr:Room k X.A)(hb:Binds X.K fd ps [])(hps:ps.length=1)
  (hN:X.N[i]?=ZA x:=by rfl) (hv:lM X.env.scope x:=by first|exact OB rfl|exact Oq (OB rfl)|exact Oq (Oq rfl)) (hd:eO x:=by decide) (hcd:(x == ("__classdict__" : Str))=ZD:=by decide)
  (ht:eval (.Call (.Attribute (.Name x p2) m apos) [] [] pos) X.env=(do
   let ov <-eval (.Name x p2) X.env
   standAt apos.atName
   let (f,first) <-holding [ov] (RW ov m pl)
   Ug pos f first (backTo pos (NY [] X.env)) (R9 pos (QP [] X.env))):=by rfl):
  Bi X (.Call (.Attribute (.Name x p2) m apos) [] [] pos) (c8 i c m g ai):=by
 intro ol s σ H Q I ⟨Z,B,M,E,h⟩;unfold c8 at h
 split at h
 ·rename_i c' ns ls hi
  split at h
  ·rename_i hcc
   obtain⟨h1,h2⟩:=hcc;subst h1;obtain⟨v0,s0,q,dx,as,e1,e2,e3,e4,e5,e6,e7,e8⟩:=E.env.own i _ hi;subst e1;refine RA (pl:=pl) (bS (eF (pos:=p2) hN hv hd hcd ol s σ H (λv H'=>v=.ref q/\H'=H) I ⟨_,s0,rfl,rfl⟩) λu s1 ⟨v,H1,I1,rx,ev,eH⟩=>?_) ht
   subst ev eH;obtain rfl:u=.ref q:=rx;refine lF I1 e4 hc hm (ou (by rw[og (by rw[NR];exact e6)];exact h2)) ?_
   exact Tu (first:=[.ref q]) I1.kIn hm.kp (B9 (us:=[.ref q]) (vs:=[.ref q]) (v:=.ref q) F hr hb hps I1 (.cons rfl .nil) (E.args (o:=.ob c' ns ls) hi s0 rfl rfl rfl (λk o' z=>qh (ts:=[]) z) λk t z=>qg (ts:=[]) Reps.GE z) rfl rfl (x5 (H0:=H1) (P0:=k8) E hi s0 h))
  ·exact h.elim
 ·exact h.elim
def KI(i:Nat)(F:EN X.prog X.w X.K X.mg X.base k f fd ps n 0 g)(hr:Room k X.A)(hm:X.mg y=ZA (.ref f))(hk:PL X.K (.ref f)=ZC)(hb:Binds X.K fd ps [])(hps:ps.length=n)(hl:∀Z ts,fs Z=.ok ts->ts.length+1=n)(ha:qC X es fs)
  (hN:X.N[i]?=ZA x:=by rfl) (hv:lM X.env.scope x:=by first|exact OB rfl|exact Oq (OB rfl)|exact Oq (Oq rfl)) (hd:eO x:=by decide) (hcd:(x == ("__classdict__" : Str))=ZD:=by decide)
  (hg:Gl X y:=by rfl) (hdb:eO y:=by decide) (he:NY (.Name x p2::es) X.env=(ZD,eval (.Name x p2) X.env)::NY es X.env:=by rfl) (hpl:(backTo pos (NY es X.env)).any (·.1)=ZD:=by rfl):
  Bi X (.Call (.Name y p) (.Name x p2::es) [] pos) (xE i g fs):=by
 intro ol s σ H Q I ⟨Z,B,M,E,h⟩;unfold xE at h
 split at h
 ·rename_i o hi
  obtain⟨v0,s0,r0⟩:=E.env.own i _ hi;refine OG (fS I hg hm ?_ hdb)
  refine PP (h₀:=X.base) I.ok.mod.kin hk (bS (bq (eF (pos:=p2) hN hv hd hcd) ha he pos ol s σ H (λws H2=>∃ts vs,ws=v0::vs/\fs Z=.ok ts/\Same H H2/\Reps X.K (OO B M) H2 ts vs) I ⟨v0,s0,Z,OO B M,E.o,?_⟩) λus s2 ⟨ws,H2,I2,r,ts,vs,e1,q1,sm,rs⟩=>⟨I2.kIn,?_⟩) he hpl
  ·cases z:fs Z with
   |bad=>rw[z]at h;exact h.elim
   |err c=>rw[z]at h;exact h
   |ok ts=>exact λH' s' vs rs=>⟨ts,vs,rfl,rfl,s',rs⟩
  ·subst e1
   rw[q1,ay]at h
   have E2:=E.same sm;refine B9 (v:=v0) F hr hb hps I2 r (E2.args (o:=o) hi s0 (by rw[NU,NU,NR,rs.length]) rfl rfl (λk o' z=>qh z) λk t z=>qg rs z) ?_ rfl (x5 (H0:=H) (P0:=k8) E2 hi s0 (h.later sm))
   rw[NU,NR];exact hl Z ts q1
 ·exact h.elim
end
variable{A:List ZF}{G:V4}{H1:Hp}{P:Ow}{a b:ZG}{fb:V5}{op:Ut}
section
variable {c:ZG}{x y:En->Rs (T×En)}{fs:V3}{p2:Pos}{bU:List ZG}
def KH(E:Ev X.K B M H Z σ)(he:∀c,x Z=.err c->XA X k8 H c)(hb:x Z≠ .bad):
  tX X x σ H λv H1=>∃p M1,x Z=.ok p/\SameO M.u H H1/\Ev X.K B M1 H1 p.2 σ/\(∀a,M1.u a->M.u a\/Nw X.K H a)/\Rep X.K (OO B M1) H1 p.1 v:=by
 refine⟨Z,B,M,E,?_⟩
 cases z:x Z with
 |bad=>exact(hb z).elim
 |err c=>exact he c z
 |ok p=>exact λv H' M' s e o r=>⟨p,M',rfl,s,e,o,r⟩
def PostXB(X:Cx)(B P:Ow)(σ:L2.St)(H:Hp)(r:Rs (Bool×En))(Q:Bool->Hp->Prop):Prop:=match r with
 |.ok p=>∀H' M',SameO P H H'->Ev X.K B M' H' p.2 σ->(∀a,M'.u a->P a\/Nw X.K H a)->Q p.1 H'
 |.err c=>XA X k8 H c
 |.bad=>False
def tXB(X:Cx)(f:En->Rs (Bool×En)):TT:=λσ H Q=>∃Z B M,Ev X.K B M H Z σ/\PostXB X B M.u σ H (f Z) Q
abbrev Kt(X:Cx)(e:ZG)(f:En->Rs (Bool×En)):Prop:=PT X e (tXB X f)
def EW{f:V6}(h:rn X a f):Kt X a (EX f):=PT.imp h λσ H Q hh_=>by
 obtain⟨Z,B,M,E,q⟩:=hh_;refine⟨Z,OO B M,E.o,?_⟩
 unfold EX at q
 cases z:f Z with
 |bad=>rw[z]at q;exact q
 |err c=>rw[z]at q;exact q
 |ok t=>
  rw[z,ay]at q;exact λH' s=>q H' M (SameO.of s) (E.same s) λ_ w=>.inl w
def BF{g:T->T->Rs T}{s1:NQ}{p:T×En}{M1:Mn}{v:NM}{vx:V}(ho:OpT X (OL op) g)(hb:cz X b fb)(I1:Inv X ol σ H1 s1)(r1:RelV vx v)(sm:SameO M.u H H1)(E1:Ev X.K B M1 H1 p.2 σ)
  (gr:∀a,M1.u a->M.u a\/Nw X.K H a) (rt:Rep X.K (OO B M1) H1 p.1 vx) (h:PostX X B M.u σ H (EK (fb p.2 >>= g p.1) >>= λt=>.ok (t,p.2)) Q):
  ZJ (ZK X.prog X.w) X.A (eval b X.env) (λu s2=>ZJ (ZK X.prog X.w) X.A (OL op v u) (EP X ol σ Q) X.xe s2) X.xe s1:=by
 cases z:fb p.2 with
 |bad=>rw[z]at h;exact h.elim
 |err c=>rw[z]at h;exact h.elim
 |ok t2=>
  rw[z,ay]at h;refine bS (hb ol s1 σ H1 (λu H2=>Same H1 H2/\Rep X.K (OO B M1) H2 t2 u) I1 ⟨p.2,OO B M1,E1.o,by rw[z];exact λH' s u r=>⟨s,r⟩⟩) λu s2 hh_=>?_
  obtain⟨y,H2,I2,r2,s',rt2⟩:=hh_;refine ho ol s2 σ H2 (OO B M1) p.1 t2 vx y v u Q I2 (λp=>(E1.same s').o.fresh) (rt.same s') rt2 r1 r2 ?_
  cases z2:g p.1 t2 with
  |bad=>rw[z2]at h;exact h.elim
  |err c=>rw[z2]at h;exact h.elim
  |ok t3=>
   rw[z2]at h;exact λH' s3 v r=>h v H' M1 (λb o e nb=>s3 _ _ (s' _ _ (sm b o e nb))) ((E1.same s').same s3) gr r
def HU{g:T->T->Rs T}(ho:OpT X (OL op) g)(ha:Bi X a x)(hb:cz X b fb)(hm:Qd op b=ZD:=by rfl):Kt X (.Compare a [op] [b] pos) (HV (EZ g x fb)):=by
 intro ol s σ H Q I ⟨Z,B,M,E,h⟩
 have h':PostX X B M.u σ H (EZ g x fb Z) λv H'=>∃k,v=.bl k/\Q k H':=by
  unfold HV at h
  cases z:EZ g x fb Z with
  |bad=>rw[z]at h;exact h
  |err c=>rw[z]at h;exact h
  |ok p=>
   rw[z,ay]at h;obtain⟨t,Z'⟩:=p
   cases t with
   |bl k=>exact λv H' M' s e o r=>⟨k,Rep.FM.mp r,h H' M' s e o⟩
   |_=>exact h.elim
 unfold EZ at h';refine RH (bS (ha ol s σ H _ I (KH E (λc z=>by rw[z]at h';exact h') (λz=>by rw[z]at h';exact h'))) λv s1 ⟨vx,H1,I1,r1,p,M1,hx,sm,E1,gr,rt⟩=>?_) hm
 rw[hx,ay]at h';refine bS (BF ho hb I1 r1 sm E1 gr rt h') λu s2 q2=>bS q2 λd s3 hh_=>?_
 obtain⟨z,H3,I3,r3,k,ez,q3⟩:=hh_;subst ez;cases r3;exact OR ⟨H3,I3,q3⟩
def PostXB.later{P1:Ow}{r:Rs (Bool×En)}{Q:Bool->Hp->Prop}(h:PostXB X B P σ H (EK r) Q)(s:SameO P H H1)(sub:∀a,P1 a->P a\/Nw X.K H a):PostXB X B P1 σ H1 r Q:=by
 cases r with
 |bad=>exact h
 |err c=>exact h.elim
 |ok p=>exact λH' M' s' E' o'=>h H' M' (s.trans s' sub) E' λa z=>(o' a z).elim (sub a) (gz s)
abbrev My(X:Cx)(e:ZG)(f:En->Rs (Bool×En)):Prop:=PW X e (tXB X f)
variable {f g:En->Rs (Bool×En)}
def HS(ha:Kt X a f):My X (.BoolOp .Or [a] pos) f:=xZ ha
def KD(ha:Kt X a f)(hb:My X (.BoolOp .Or (b::bU) pos) g):My X (.BoolOp .Or (a::b::bU) pos) (sS f g):=by
 intro wh ol s σ H Q I ⟨Z,B,M,E,h⟩;refine Cp ha hb wh ol s σ H Q I ⟨Z,B,M,E,?_⟩
 unfold sS at h
 cases z:f Z with
 |bad=>rw[z]at h;exact h
 |err c=>rw[z]at h;exact h
 |ok p=>
  rw[z,ay]at h;obtain⟨k,Z'⟩:=p;intro H' M' s' E' o'
  cases k with
  |true=>rw[if_pos rfl];exact(show PostXB X B M.u σ H (.ok (ZC,Z')) Q by simpa using h) H' M' s' E' o'
  |false=>rw[if_neg N0];exact⟨Z',B,M',E',PostXB.later (by simpa using h) s' o'⟩
def xt_w(h:My X e f):Kt X e f:=h.pt
def IE{C:List ZF}{F:V4}(hc:Kt X c f)(ha:mI X A F)(hb:mI X C G):oJ X (.If c A C pos) (xV f F G):=PS.imp (vU hc ha hb) λD σ H hh_=>by
 obtain⟨Z,B,M,E,h⟩:=hh_;refine⟨Z,B,M,E,?_⟩
 unfold xV at h
 cases z:f Z with
 |bad=>rw[z]at h;exact h.elim
 |err c=>rw[z]at h;exact PostF.xa h
 |ok p=>
  rw[z,ay]at h;obtain⟨k,Z'⟩:=p;intro H' M' s' E' o'
  cases k with
  |true=>refine L2.iteT ?_;exact⟨Z',B,M',E',PostF.later (by simpa using h) s' o'⟩
  |false=>refine L2.iteF ?_;exact⟨Z',B,M',E',PostF.later (by simpa using h) s' o'⟩
end
def PostM(X:Cx)(B P:Ow)(j:Nat)(σ:L2.St)(H:Hp)(r:Rs Fx)(D:nt):Prop:=match r with
 |.ok (.nx Z')=>∀σ' H' M',SameO P H H'->Ev X.K B M' H' Z' σ'->(∀a,M'.u a->P a\/Nw X.K H a)->σ'[j]?=σ[j]?->D.nx σ' H'
 |.ok (.rt t Z')=>∀v σ' H' M',SameO P H H'->Ev X.K B M' H' Z' σ'->(∀a,M'.u a->P a\/Nw X.K H a)->σ'[j]?=σ[j]?->Rep X.K (OO B M') H' t v->D.rt v H'
 |.err c=>XA X k8 H c
 |.bad=>False
def tPM(X:Cx)(j:Nat)(F:En->Rs Fx):TS:=λD σ H=>∃Z B M,Ev X.K B M H Z σ/\PostM X B M.u j σ H (F Z) D
abbrev G6(X:Cx)(j:Nat)(s:ZF)(F:En->Rs Fx):Prop:=PS X s (tPM X j F)
abbrev Bj(X:Cx)(j:Nat)(s:List ZF)(F:En->Rs Fx):Prop:=PSs X s (tPM X j F)
variable{D:nt}{r:Rs Fx}{st:ZF}
section
variable {c:ZG}{x:En->Rs (T×En)}{fs:V3}{p2:Pos}
def PostM.later{P1:Ow}{σ1:L2.St}(h:PostM X B P j σ H (EK r) D)(s:SameO P H H1)(sub:∀a,P1 a->P a\/Nw X.K H a)(hj:σ1[j]?=σ[j]?):PostM X B P1 j σ1 H1 r D:=by
 have back:∀a,P1 a\/Nw X.K H1 a->P a\/Nw X.K H a:=λa z=>z.elim (sub a) (gz s)
 cases r with
 |bad=>exact h
 |err c=>exact h.elim
 |ok f=>
  cases f with
  |nx Z'=>exact λσ' H' M' s' E' o' k=>h σ' H' M' (s.trans s' sub) E' (λa z=>back a (o' a z)) (k.trans hj)
  |rt t Z'=>exact λv σ' H' M' s' E' o' k r=>h v σ' H' M' (s.trans s' sub) E' (λa z=>back a (o' a z)) (k.trans hj) r
def PostM.same(h:PostM X B P j σ H r D)(s:Same H H1):PostM X B P j σ H1 r D:=by
 cases r with
 |err c=>exact XA.later h (SameO.of s) λ_ z=>z.elim
 |bad=>exact h
 |ok f=>exact PostM.later (r:=.ok f) h (SameO.of s) (λa z=>.inl z) rfl
def LQ:Bj X j [] mN:=PSs.imp oj λD σ H ⟨Z,B,M,E,h⟩=>h σ H M (λ_ _ e _=>e) E (λa z=>.inl z) rfl
def LP{F:En->Rs Fx}(h:G6 X j st F):Bj X j [st] F:=fg h
def Jx{bU:List ZF}{F G:En->Rs Fx}(h1:G6 X j st F)(h2:Bj X j bU G):Bj X j (st::bU) (nW F G):=PSs.imp (iP h1 h2) λD σ H hh_=>by
 obtain⟨Z,B,M,E,h⟩:=hh_;refine⟨Z,B,M,E,?_⟩
 unfold nW at h
 cases q:F Z with
 |bad=>rw[q]at h;exact h.elim
 |err c=>rw[q]at h;exact h
 |ok f=>
  rw[q]at h
  cases f with
  |nx Z'=>exact λσ' H' M' s' E' o' k=>⟨Z',B,M',E',PostM.later h s' o' k⟩
  |rt t Z'=>exact h
def m_ex(ha:Bi X a x)(hs:OW a ZB pos.line X.env=pure ZD:=by rfl):G6 X j (.Expr a pos) (xA x):=PS.imp (om ha hs) λD σ H hh_=>by
 obtain⟨Z,B,M,E,h⟩:=hh_;refine⟨Z,B,M,E,?_⟩
 unfold xA at h
 cases z:x Z with
 |bad=>rw[z]at h;exact h.elim
 |err c=>rw[z]at h;exact h
 |ok p=>rw[z,ay]at h;exact λv H' M' s' E' o' r=>h σ H' M' s' E' o' rfl
def LN(ha:Bi X a x):G6 X j (.Return (ZA a) pos) (lE x):=PS.imp (iu ha) λD σ H hh_=>by
 obtain⟨Z,B,M,E,h⟩:=hh_;refine⟨Z,B,M,E,?_⟩
 unfold lE at h
 cases z:x Z with
 |bad=>rw[z]at h;exact h.elim
 |err c=>rw[z]at h;exact h
 |ok p=>rw[z,ay]at h;exact λv H' M' s' E' o' r=>h v σ H' M' s' E' o' rfl r
def m_if{f:V6}{C:List ZF}{F G:En->Rs Fx}(hc:rn X c f)(ha:Bj X j A F)(hb:Bj X j C G):G6 X j (.If c A C pos) (Jy f F G):=PS.imp (vU hc ha hb) λD σ H hh_=>by
 obtain⟨Z,B,M,E,h⟩:=hh_;refine⟨Z,OO B M,E.o,?_⟩
 unfold Jy at h
 cases q:f Z with
 |bad=>rw[q]at h;exact h.elim
 |err c=>rw[q]at h;exact h
 |ok k=>
  rw[q,ay]at h;intro H' s
  have E':Ev X.K B M H' Z σ:=E.same s
  cases k with
  |true=>refine L2.iteT ?_;exact⟨Z,B,M,E',PostM.same (by simpa using h) s⟩
  |false=>refine L2.iteF ?_;exact⟨Z,B,M,E',PostM.same (by simpa using h) s⟩
def Ev.blank(E:Ev K B M H Z σ):Ev K (OO B M) noM H (Ob σ.length .em) σ:=
 ⟨⟨by simp,λi t e=>(by rw[Ph]at e;split at e <;> cases e),λi o e=>(by rw[Ph]at e;split at e <;> cases e),λ_ _ z=>z.elim,λ_ _ _ z=>z.elim,λa z=>E.env.trk a (z.elim id λ⟨_,w⟩=>w.elim)⟩,λa ⟨_,z⟩=>z.elim⟩
def LU{c:Str}(h:oJ X st (xX c)):G6 X j st (Gg c):=PS.imp h λD σ H hh_=>by
 obtain⟨Z,B,M,E,q⟩:=hh_;refine⟨_,_,_,E.blank,?_⟩
 exact XA.later (P:=k8) q (λ_ _ e _=>e) λ_ ⟨_,z⟩=>z.elim
end
theorem rL{f:Str}{b:ZE}:∀{ns:List Str}{as:List ZE},ns.length=as.length->ns.contains f=ZC->∃as1 d as2,as=as1++d::as2/\putF f (.ref b) (ns.zip (as.map V.ref))=ns.zip ((as1++b::as2).map V.ref) ∧
  ∀{O:Ow}{H:Hp}{ls:List (List T)}{l:List T}{vs:List V},H b=ZA (.lst vs)->Reps K O H l vs->LsR K O H ls as->LsR K O H (lG f l ns ls) (as1++b::as2)
 |[],as,_,h=>by cases h
 |n::ns,[],hl,_=>by cases hl
 |n::ns,d::as,hl,h=>by
  by_cases z:n=f
  ·subst z
   refine⟨[],d,as,rfl,?_,λ{O H ls l vs} e1 e2 r=>?_⟩
   ·show(if n=n then(n,V.ref b)::_ else _)=_
    rw[if_pos rfl];rfl
   ·cases ls with
    |nil=>cases (show d::as=[]from r)
    |cons u ls=>
     obtain⟨b',bs,ws,f1,f2,f3,f4⟩:=r;cases f1
     show LsR K O H (if n=n then l::ls else _) _
     rw[if_pos rfl];exact⟨b,as,vs,rfl,e1,e2,f4⟩
  ·have h':ns.contains f=ZC:=by
    rw[O4,RU]at h;rcases h with h|h
    ·exact absurd (eq_of_beq h).symm z
    ·exact h
   obtain⟨as1,d',as2,g1,g2,g3⟩:=rL (f:=f) (b:=b) (by simpa using hl) h'
   refine⟨d::as1,d',as2,by rw[g1];rfl,?_,λ{O H ls l vs} e1 e2 r=>?_⟩
   ·show(if n=f then _ else(n,V.ref d)::putF f (.ref b) (ns.zip (as.map V.ref)))=_
    rw[if_neg z,g2];rfl
   ·cases ls with
    |nil=>cases (show d::as=[]from r)
    |cons u ls=>
     obtain⟨b',bs,ws,f1,f2,f3,f4⟩:=r;cases f1
     show LsR K O H (if n=f then _ else u::lG f l ns ls) _
     rw[if_neg z];exact⟨d,_,ws,rfl,f2,f3,g3 e1 e2 f4⟩
theorem zi{f:Str}{b:ZE}:∀{ns:List Str}{as:List ZE},ns.length=as.length->ns.contains f=ZD->putF f (.ref b) (ns.zip (as.map V.ref))=(ns++[f]).zip ((as++[b]).map V.ref)
 |[],[],_,_=>rfl
 |n::ns,[],hl,_=>by cases hl
 |n::ns,d::as,hl,h=>by
  rw[O4,Tf]at h
  show(if n=f then _ else(n,V.ref d)::putF f (.ref b) (ns.zip (as.map V.ref)))=_
  rw[if_neg (λz=>by rw[z,beq_self_eq_true]at h;exact Bool.noConfusion h.1),zi (by simpa using hl) h.2];rfl
theorem LsR.app{O:Ow}{H:Hp}{b:ZE}{l:List T}{vs:List V}(e1:H b=ZA (.lst vs))(e2:Reps K O H l vs):∀{ls:List (List T)}{as:List ZE},LsR K O H ls as->LsR K O H (ls++[l]) (as++[b])
 |[],as,r=>by cases (show as=[]from r);exact⟨b,[],vs,rfl,e1,e2,rfl⟩
 |u::ls,as,⟨d,ds,ws,f1,f2,f3,f4⟩=>by subst f1;exact⟨d,ds++[b],ws,rfl,f2,f3,LsR.app e1 e2 f4⟩
section
variable {fs:V3}{p2 p4:Pos}
def LS(i:Nat){n f:Str}(hc:Cls X.K (bN X.K c))(hn:NoAttr X.K (bN X.K c) f)(ha:qC X es fs)(hN:X.N[i]?=ZA n:=by rfl)(hv:lM X.env.scope n:=by first|exact OB rfl|exact Oq (OB rfl)|exact Oq (Oq rfl))
  (hd:eO n:=by decide) (hcd:(n == ("__classdict__" : Str))=ZD:=by decide) (hs:OW (.List es p4) (ZA (.Attribute (.Name n p2) f p3)) pos.line X.env=pure ZD:=by rfl):
  G6 X j (.Assign [.Attribute (.Name n p2) f p3] (.List es p4) pos) (AN i c f fs):=PS.imp (IW (eF hN hv hd hcd) (zl ha) hs) λD σ H hh_=>by
 obtain⟨Z,B,M,E,h⟩:=hh_;unfold AN at h
 split at h
 ·rename_i c' ns ls hi
  refine⟨Z,OO B M,E.o,?_⟩
  cases z:fs Z with
  |bad=>rw[z]at h;exact h.elim
  |err c=>rw[z]at h;exact h
  |ok l=>
   rw[z,ay]at h;intro H1 s1 vs rs
   split at h
   ·rename_i hcc
    obtain⟨h1,h2,h3⟩:=hcc;subst h1;refine⟨by rw[<-rs.length];exact h2,λb hb=>?_⟩
    have E1:=E.same s1;obtain⟨v0,s0,p,dx,as,e1,e2,⟨n1,n2,n3,n4⟩,e4,e5,e6,e7,e8⟩:=E1.env.own i _ hi;subst e1
    have nb:∀{d:ZE}{o:HO},H1 d=ZA o->d≠b:=λe z=>by rw[z,hb.1]at e;cases e
    have mb:∀a,M i a->a≠b:=λa w=>nb (E1.env.trk a (.inr ⟨i,w⟩)).some.choose_spec
    have pb:p≠b:=nb e4
    have hbas:b∉as:=λw=>mb b ((e2 b).mpr (.inr (.inr w))) rfl
    have sm1:Same H1 (upd H1 b (.lst vs)):=bj hb.1 _;refine⟨_,s0,p,_,dx,_,rfl,sm1 _ _ e4,hc,hn,by rw[List.length_zip,NR,<-e6];simpa using h3,?_⟩
    have key:∀(ns':List Str)(as':List ZE)(ls':List (List T)),putF f (.ref b) (ns.zip (as.map V.ref))=ns'.zip (as'.map V.ref)->ns'.length=as'.length->ns'.Nodup->as'.Nodup->(∀a,a∈as'->a=b\/a∈as) →
      (∀{O:Ow}{H:Hp},H b=ZA (.lst vs)->Reps X.K O H l vs->LsR X.K O H ls as->LsR X.K O H ls' as')->PostM X B M.u j σ H (.ok (.nx (Z.set i (.ow (.ob c' ns' ls'))))) D->D.nx σ (upd (upd H1 b (.lst vs)) p (.ins (bN X.K c') dx (putF f (.ref b) (ns.zip (as.map V.ref))))):=λns' as' ls' k1 k2 k3 k4 k5 k6 k7=>by
     rw[k1]
     generalize hm:(λa=>a=p\/a=dx\/a∈as':Ow)=m
     have hsub:∀a,m a->M i a\/Nw X.K H1 a:=λa w=>by
      subst hm;rcases w with w|w|w
      ·exact .inl ((e2 a).mpr (.inl w))
      ·exact .inl ((e2 a).mpr (.inr (.inl w)))
      ·exact(k5 a w).elim (λy=>.inr (y▸hb)) λy=>.inl ((e2 a).mpr (.inr (.inr y)))
     have hO:∀a,OO B (M.set i m) a->OO B M a\/Nw X.K H1 a:=λa w=>w.elim (λy=>.inl (.inl y)) λy=>(Mn.KF y).elim (λq=>(hsub a q).imp_left λt=>.inr ⟨i,t⟩) λq=>.inl (.inr q)
     have sm2:SameO (λa=>a=p) (upd H1 b (.lst vs)) (upd (upd H1 b (.lst vs)) p (.ins (bN X.K c') dx (ns'.zip (as'.map V.ref)))):=λd o e ne=>by rw[aB ne];exact e
     have smi:SameO (M i) H1 (upd (upd H1 b (.lst vs)) p (.ins (bN X.K c') dx (ns'.zip (as'.map V.ref)))):=λd o e ne=>sm2 d o (sm1 _ _ e) λw=>ne ((e2 d).mpr (.inl w))
     have nin:∀a∈as',a≠p:=λa ha w=>(k5 a ha).elim (λy=>pb (w▸y)) λy=>n1 (w▸y)
     have rp:∀{t:List T}{ws:List V},Reps X.K (OO B M) H1 t ws->Reps X.K (OO B (M.set i m)) (upd (upd H1 b (.lst vs)) p (.ins (bN X.K c') dx (ns'.zip (as'.map V.ref)))) t ws:=λr=>r.move (P:=M i) (λa w=>.inl (.inr ⟨i,w⟩)) hO smi
     have smp:SameO (λa=>a=p) H1 (upd (upd H1 b (.lst vs)) p (.ins (bN X.K c') dx (ns'.zip (as'.map V.ref)))):=λd o e ne=>sm2 d o (sm1 _ _ e) ne
     have fin:=k6 (O:=OO B (M.set i m)) (H:=upd (upd H1 b (.lst vs)) p (.ins (bN X.K c') dx (ns'.zip (as'.map V.ref)))) (by rw[aB (O6 pb)];exact aG) (rp rs) (e8.move (P:=λa=>a=p) (λa w=>.inl (.inr ⟨i,(e2 a).mpr (.inl w)⟩)) hO smp λd hd w=>n1 (w▸hd))
     have ndx:dx∉as':=λw=>(k5 dx w).elim (nb e5) n2
     obtain⟨g1,g2,g3⟩:=E1.back (m:=m) (o':=.ob c' ns' ls') hi s0 smi ⟨p,dx,as',rfl,λd=>by subst hm;exact Rk,⟨λw=>nin p w rfl,ndx,n3,k4⟩,aG,by rw[aB n3];exact sm1 _ _ e5,k2,k3,fin⟩ hsub
     exact k7 σ _ _ (λd o e ne=>g2 d o (s1 _ _ e) ne) g1 (λa w=>(g3 a w).imp_right (fP s1)) rfl
    cases hf:ns.contains f with
    |true=>
     rw[hf,if_pos rfl]at h;obtain⟨as1,d,as2,q1,q2,q3⟩:=rL (K:=X.K) (f:=f) (b:=b) e6 hf;subst q1;refine key ns (as1++b::as2) (lG f l ns ls) q2 (by rw[e6];simp) e7 ?_ (λa w=>?_) (λa1 a2 a3=>q3 a1 a2 a3) h
     ·rw[OQ]at n4 ⊢
      obtain⟨m1,m2,m3⟩:=n4
      have nb1:b∉as1:=λw=>hbas (On _ w)
      have nb2:b∉as2:=λw=>hbas (Of _ (NL _ w))
      refine⟨m1,Og.mpr ⟨nb2,(Og.mp m2).2⟩,λu hu w hw=>?_⟩
      rcases NT.mp hw with hw|hw
      ·exact λy=>nb1 (by rw[<-hw,<-y];exact hu)
      ·exact m3 u hu w (NL _ hw)
     ·rcases Oi.mp w with w|w
      ·exact .inr (On _ w)
      ·rcases NT.mp w with w|w
       ·exact .inl w
       ·exact .inr (Of _ (NL _ w))
    |false=>
     rw[hf,if_neg N0]at h;refine key (ns++[f]) (as++[b]) (ls++[l]) (zi e6 hf) (by simp[e6]) ?_ ?_ (λa w=>?_) (λa1 a2 a3=>LsR.app a1 a2 a3) h
     ·rw[OQ]
      refine⟨e7,by simp,λu hu w hw y=>?_⟩
      rw[N1.mp hw]at y
      have:ns.contains f=ZC:=by rw[List.contains_iff_mem,<-y];exact hu
      rw[hf]at this;cases this
     ·rw[OQ]
      exact⟨n4,by simp,λu hu w hw y=>hbas (by rw[<-N1.mp hw,<-y];exact hu)⟩
     ·rcases Oi.mp w with w|w
      ·exact .inr w
      ·exact .inl (N1.mp w)
   ·exact h.elim
 ·exact h.elim
end
variable{N:List Str}
def oS(E:Ev K B M H sls (vs.map ZA))(hl:sls.length<=N.length):Ev K B M H (fH N.length sls) (start N vs):=by
 have hlen:sls.length=vs.length:=by rw[E.env.len,NR]
 have low:∀(i:Nat)(z:Sl),(fH N.length sls)[i]?=ZA z->z=.em\/(sls[i]?=ZA z/\(start N vs)[i]?=(vs.map ZA)[i]?):=λi z e=>by
  unfold fH at e;unfold L2.start
  by_cases hi:i<sls.length
  ·rw[O9 hi]at e
   exact .inr ⟨e,O9 (by rw[NR,<-hlen];exact hi)⟩
  ·rw[Py (by omega),Ph]at e
   split at e
   ·cases e;exact .inl rfl
   ·cases e
 refine⟨⟨by unfold fH L2.start;simp;omega,λi t e=>?_,λi o e=>?_,E.env.sub,E.env.dis,E.env.trk⟩,E.mine⟩
 ·rcases low i _ e with z|⟨e1,e2⟩
  ·cases z
  ·rw[e2];exact E.env.val i t e1
 ·rcases low i _ e with z|⟨e1,e2⟩
  ·cases z
  ·rw[e2];exact E.env.own i o e1
def F3{f:Fx}{p:T×OT}(h:qO j f=.ok p):(∃Z,f=.nx Z/\p.1=.non/\Z[j]?=ZA (.ow p.2))\/∃Z,f=.rt p.1 Z/\Z[j]?=ZA (.ow p.2):=by
 cases f with
 |nx Z=>
  unfold qO at h
  dsimp only at h
  split at h
  ·rename_i o e;cases h;exact .inl ⟨Z,rfl,rfl,e⟩
  ·cases h
 |rt t Z=>
  unfold qO at h
  dsimp only at h
  split at h
  ·rename_i o e;cases h;exact .inr ⟨Z,rfl,e⟩
  ·cases h
variable{P:Oa}{mg:V0}{qual:Str}{w:O0}
section
variable {base:ZH}
def Mi{F:En->Rs Fx}(Fn:L2.Fun K x qual st f fd)(S:aA N ps (aj st))(hn:ps.length=n)
  (hbody:∀(cdv:NM)(A:Ou)(outer:List Env)(s:NQ)(H:Hp)(E:XK),Room k (A.deeper (envOfC qual (aj st) s.heap.objs.size f cdv)) →
   Bj (gp CX0 P w K mg base N qual (aj st) f cdv A outer s H E).nox j (bD st) F):FnOk P w K mg base CX0 (k+1) f fd ps (spE K n j (iJ n j N.length F)):=by
 have hpl:ps.length<=N.length:=by have:=congrArg O7 S.pre;rw[OY]at this;omega
 refine Fn.ok S (λvs H Q E h=>?_) (λcdv A outer s H vs Q E hr h=>?_)
 ·obtain⟨sls,B,m,v,Ea,hl,_⟩:=h
  rw[<-NR (as:=vs) (f:=ZA),<-Ea.env.len,hl,hn]
 ·obtain⟨sls,B,m,v,Ea,hl,hv,h⟩:=h
  refine⟨_,hbody cdv A outer s H E hr,fH N.length sls,B,one j m,oS Ea (by omega),?_⟩
  have hjs:(start N vs)[j]?=ZA (ZA v):=by
   unfold L2.start;rw[O9 (by rw[NR];exact(NW.mp hv).1),Oe,hv];rfl
  unfold iJ at h;rw[if_pos hl]at h
  have fin:∀{p:T×OT}{Z':En}{σ':L2.St}{H':Hp}{M':Mn}{u:V},(∀u H' m',SameO m H H'->ORep K (BM B m') m' H' p.2 v->(∀a,m' a->m a\/Nw K H a)->Rep K (BM B m') H' p.1 u->Q u H')->Z'[j]?=ZA (.ow p.2) →
    SameO (one j m).u H H'->Ev K B M' H' Z' σ'->(∀a,M'.u a->(one j m).u a\/Nw K H a)->σ'[j]?=(start N vs)[j]?->Rep K (OO B M') H' p.1 u->Q u H':=λ{p Z' σ' H' M' u} h hj s' E' o' k r=>by
   obtain⟨v',e1,e2⟩:=E'.env.own j _ hj;rw[k,hjs]at e1;cases e1
   have sub:∀a,BM B (M' j) a->OO B M' a:=λa z=>z.imp_right λy=>⟨j,y⟩
   exact h u H' (M' j) (λb o e n=>s' b o e λz=>n (one_u.mp z)) (e2.move (P:=k8) (λ_ z=>z.elim) (λa z=>.inl (sub a z)) (λb u q _=>q) λ_ _ z=>z) (λa z=>(o' a ⟨j,z⟩).imp_left one_u.mp) (r.less sub)
  cases q:F (fH N.length sls)with
  |bad=>rw[q]at h;exact h.elim
  |err c=>rw[q]at h;exact h.elim
  |ok fl=>
   rw[q,ay]at h
   cases q2:qO j fl with
   |bad=>rw[q2]at h;exact h.elim
   |err c=>rw[q2]at h;exact h.elim
   |ok p=>
    rw[q2]at h;rcases F3 q2 with⟨Z',rfl,e1,e2⟩|⟨Z',rfl,e2⟩
    ·exact λσ' H' M' s' E' o' k=>fin h e2 s' E' o' k (by rw[e1];exact Rep.Nh)
    ·exact λu σ' H' M' s' E' o' k r=>fin h e2 s' E' o' k r
def zS(Fn:L2.Fun K x qual st f fd)(S:aA N ps (aj st)){A:Ou}{outer:List Env}{args:Args}{R:To->NQ->Prop}
  (hr:Room (k+1) A) (e0:Env0 P w K mg base A outer s H) (hb:Sb s fd args (ps.zip us)) (r:Vals vs us) (hlen:vs.length=ps.length) (hR:∀ev s',MM P w mg outer H s c ev s'->R (.error ev) s')
  (hbody:∀cdv,Room k (A.deeper (envOfC qual (aj st) s.heap.objs.size f cdv))->∀xe,∃t,PSs ((gp CX0 P w K mg base N qual (aj st) f cdv A outer s H E0).FB xe) (bD st) t ∧
   (XA ((gp CX0 P w K mg base N qual (aj st) f cdv A outer s H E0).FB xe) k8 H c->t {nx:=λ_ _=>False,rt:=λ_ _=>False,bk:=λ_ _=>False,ct:=λ_ _=>False} (start N vs) H)):
  ZL (ZK P w) A (.call (.ref f) args) R s:=by
 obtain⟨oc,od,kV,doc,pm,an,cdv,ct,osl,rfl,lk,hcd⟩:=Fn.ex
 have KX:K.In s.heap:=e0.mod.kin.keeps λb o e=>(e0.bs b o e).1
 have lim:s.heap.NoLimit:=e0.mod.nolimit.keeps λb o e=>(e0.bs b o e).1
 have hkind:∀y∈ps.zip us,(aj st).names.lookup y.1=ZA .local\/((aj st).names.lookup y.1=ZA .cell/\((P4 (s.heap.objs.size+1) (aj st).names []).lookup y.1).isSome=ZC):=λ⟨n,v⟩ hy=>by
  rcases S.par n (QD hy).1 with q|q
  ·exact .inl q
  ·exact .inr ⟨q,P6 _ _ _ (.inl q)⟩
 refine QL hr.depth (KX _ _ lk) rfl S.co S.gen rfl (Rf KX hcd) (hb _ _ _ _ ?_)
 refine P8 S.kind hkind λenv he s1 x=>?_
 subst he;refine⟨lim.keeps x.toInCall.keep,S5 ?_⟩
 let xe:V1:=λev s'=>ZJ (ZK P w) (A.deeper (envOfC qual (aj st) s.heap.objs.size f cdv)) (leaving (envOfC qual (aj st) s.heap.objs.size f cdv) ev) (λ_ s''=>R (.error ev) s'') (λe' s''=>R (.error e') s'') s'
 obtain⟨t,ht,hgo⟩:=hbody cdv (hr.deeper _) xe
 have I:Inv ((gp CX0 P w K mg base N qual (aj st) f cdv A outer s H E0).FB xe) [] (start N vs) H s1:=(kG S hr.hd e0 hlen r x).FB _;refine Pw (ht [] s1 (start N vs) H _ I (hgo ?_)) (λfl s' z=>?_) λe s' hs=>hs
 rotate_left
 ·cases fl with
  |next=>obtain⟨_,_,_,z⟩:=z;exact z.elim
  |cont=>obtain⟨_,_,_,z⟩:=z;exact z.elim
  |brk=>obtain⟨_,_,_,z⟩:=z;exact z.elim
  |ret v=>obtain⟨_,_,_,_,_,z⟩:=z;exact z.elim
 intro ol ev s' w'
 show ZJ _ _ _ _ _ _
 obtain⟨e,T,C,σ',H',rfl,hm,I',sm,he,heo,fl,hT,_⟩:=w'
 have heo:=heo rfl
 have hT:∀t,T=ZA t->H' t=ZB/\s.heap.get? t=ZB:=λt z=>⟨(hT t z).1,(hT t z).2 rfl⟩
 refine Dd (base:=base) (outer:=outer) (L:=s.heap.objs.size) I'.ok.frames I'.stack rfl fl λh' T' g=>hR _ _ ?_
 have hex:((gp CX0 P w K mg base N qual (aj st) f cdv A outer s H E0).FB xe).ex=[]:=rfl
 have Tn:H' T'=ZB/\s.heap.get? T'=ZB:=by
  rcases g.new with z|z
  ·exact hT T' z
  ·exact⟨jM I' z,eG I' hex z⟩
 have out:∀b o,s.heap.get? b=ZA o->b≠s.heap.objs.size:=λb o q z=>by
  have:=NZ q;rw[z]at this;exact absurd this (Ot _)
 have mem:∀b,b∈m9 ((envOfC qual (aj st) s.heap.objs.size f cdv)::outer)->b=s.heap.objs.size\/b∈m9 outer:=λb z=>by
  have z':b∈s.heap.objs.size::m9 outer:=z;exact NT.mp z'
 have ne:∀b o,s.heap.get? b=ZA o->b≠e/\T≠ZA b:=λb o q=>⟨λz=>(by subst z;rw[show s.heap.get? b=ZB from heo]at q;cases q),λz=>(by rw[show s.heap.get? b=ZB from(hT b z).2]at q;cases q)⟩
 have keepH:∀b u,H' b≠ZB->s'.heap.get? b=ZA u->h'.get? b=ZA u:=λb u hb q=>by
  refine g.keep b u (λz=>hb (I'.KM b z)) (λz=>hb (by rw[z];exact he)) (λz=>hb (hT b z).1) q
 refine⟨e,T',C,H',rfl,hm,I'.os,I'.bare,⟨λb o q n hb hx=>?_,λb o q n hb hx=>?_,λb o q n hx=>I'.base.free b o q n hx,λb o q hx=>?_,I'.base.tups,I'.base.frzs,I'.base.tbls⟩,λa o q=>?_,λb o q=>sm b o q λz=>z,he,heo,g.flt,Tn.1,Tn.2⟩
 ·exact g.keep b o (λz=>(mem b z).elim (out b o q) hb) (ne b o q).1 (ne b o q).2 (I'.base.keep b o q n hb hx)
 ·obtain⟨sl,q1⟩:=I'.base.slot b o q n hb hx
  obtain⟨sl',q2⟩:=g.slot b _ (NL _ hb) q1;exact⟨sl',q2⟩
 ·obtain⟨o',q1⟩:=I'.base.there b o q hx
  by_cases z:b∈m9 ((envOfC qual (aj st) s.heap.objs.size f cdv)::outer)
  ·obtain⟨sl,q2⟩:=g.slot b o' z q1
   exact⟨_,q2⟩
  ·exact⟨o',g.keep b o' z (ne b o q).1 (ne b o q).2 q1⟩
 ·refine(I'.hok a o q).M4 (λb u hb z=>keepH b u ?_ z) (λ_ z=>z) λ_ _ z=>z
  rcases hb with rfl|hb
  ·rw[q];simp
  ·rw[hb];simp
def BI{m:Nat}{F:En->Rs Fx}(h:iJ n j m F sls=.err c):F (fH m sls)=.err c:=by
 unfold iJ at h
 split at h
 ·cases z:F (fH m sls)with
  |bad=>rw[z]at h;cases h
  |err c'=>rw[z]at h;cases h;rfl
  |ok f=>
   rw[z,ay]at h;cases f <;> unfold qO at h <;> dsimp only at h <;> split at h <;> cases h
 ·cases h
def DS{F:En->Rs Fx}(Fn:L2.Fun K x qual st f fd)(S:aA N ps (aj st))(hn:ps.length=n)
  (hbody:∀(cdv:NM)(A:Ou)(outer:List Env)(s:NQ)(H:Hp)(E:XK),Room k (A.deeper (envOfC qual (aj st) s.heap.objs.size f cdv)) →
   ∀xe,Bj ((gp CX0 P w K mg base N qual (aj st) f cdv A outer s H E).FB xe) j (bD st) F):EN P w K mg base (k+1) f fd ps n j (iJ n j N.length F):=
 ⟨Mi Fn S hn λcdv A outer s H E hr=>hbody cdv A outer s H E hr _,λA outer s H args us vs B m sls c R hr e0 hb r Ea hl hg hR=>by
  have hpl:ps.length<=N.length:=by have:=congrArg O7 S.pre;rw[OY]at this;omega
  refine zS Fn S hr e0 hb r ?_ hR λcdv hr' xe=>⟨_,hbody cdv A outer s H E0 hr' xe,λxa=>⟨fH N.length sls,B,one j m,oS Ea (by omega),?_⟩⟩
  ·rw[<-NR (as:=vs) (f:=ZA),<-Ea.env.len,hl,hn]
  ·rw[BI hg];exact xa⟩
end
section
variable {O:Ow}
def Ay(M:Mk X.K (bN X.K c) f)(F:EN X.prog X.w X.K X.mg X.base k f fd ps n 0 g)(hr:Room (k+1) X.A)(hb:Binds X.K fd ps [])(hn:ts.length+1=n)(hps:ps.length=n)(I:Inv X ol σ H s)(r:Vals vs us)(rs:Reps X.K O H ts vs)(mt:∀a,O a->Mtb H a){o:OT}
  (hg:g (.ow (.ob c [] [])::ts.map Sl.va)=.ok (.non,o)) (h:∀p H' m,Same H H'->ORep X.K (BM O m) m H' o (.ref p)->(∀a,m a->Nw X.K H a)->Q (.ref p) H'):ZJ (ZK X.prog X.w) X.A (call (.ref (bN X.K c)) us) (EP X ol σ Q) X.xe s:=by
 have nk:∀q,s.heap.objs.size<=q->X.K.lookup q=ZB:=λq hq=>by
  cases z:X.K.lookup q with
  |none=>rfl
  |some o=>exact absurd (NZ (I.kIn _ o z)) (Nat.not_lt.mpr hq)
 generalize hp:s.heap.objs.size+1=p
 have np:Nw X.K H p:=⟨I.hok.fresh (by omega),nk p (by omega)⟩
 generalize hd:s.heap.objs.size=dx at hp
 have nd:Nw X.K H dx:=⟨I.hok.fresh (by omega),nk dx (by omega)⟩
 have ne:dx≠p:=by omega
 have sm0:Same H (upd (upd H dx (.own p)) p (.ins (bN X.K c) dx [])):=λb o e=>by
  rw[aB (λz=>by rw[z,np.1]at e;cases e),aB (λz=>by rw[z,nd.1]at e;cases e)];exact e
 have hm:∀a,(λa=>a=p\/a=dx:Ow) a->Nw X.K H a:=λa z=>z.elim (λy=>y▸np) λy=>y▸nd
 have subO:∀a,OO O (one 0 λa=>a=p\/a=dx) a->O a\/Nw X.K H a:=λa z=>(one_oo.mp z).imp_right (hm a)
 have hlen:=rs.length
 have Ea:Ev X.K O (one 0 λa=>a=p\/a=dx) (upd (upd H dx (.own p)) p (.ins (bN X.K c) dx [])) (.ow (.ob c [] [])::ts.map Sl.va) ((V.ref p::vs).map ZA):=by
  refine⟨⟨by simp[hlen],λi t e=>?_,λi o' e=>?_,λi a z=>.inr ⟨i,z⟩,λi k a z1 z2=>?_,λa z=>?_⟩,λa z y=>?_⟩
  ·obtain⟨w,e1,e2⟩:=qg (v0:=V.ref p) rs e
   exact⟨w,by rw[Oe,e1];rfl,(e2.more subO).same sm0⟩
  ·have hi:=qh e
   subst hi;cases e;refine⟨.ref p,rfl,p,dx,[],rfl,λb=>?_,⟨by simp,by simp,ne,by simp⟩,aG,?_,rfl,by simp,rfl⟩
   ·rw[show one 0 (λa=>a=p\/a=dx) 0=_ from Mn.MZ];simp
   ·rw[aB ne];exact aG
  ·unfold one Mn.set at z1 z2
   by_cases h1:i=0
   ·by_cases h2:k=0
    ·rw[h1,h2]
    ·rw[if_neg h2]at z2;exact z2.elim
   ·rw[if_neg h1]at z1;exact z1.elim
  ·rcases one_oo.mp z with y|y|y
   ·exact(mt a y).same sm0
   ·rw[y];exact .inr (.inr ⟨_,aG,rfl⟩)
   ·rw[y];exact .inr (.inr ⟨_,by rw[aB ne];exact aG,rfl⟩)
  ·obtain⟨o,e⟩:=(mt a y).some
   rw[(hm a (one_u.mp z)).1]at e;cases e
 have hq:spE X.K n 0 g (.ref p::(vs++[])) (upd (upd H dx (.own p)) p (.ins (bN X.K c) dx [])) (λv H2=>v=.non/\Q (.ref p) H2) E0:=by
  refine⟨_,O,_,.ref p,by rw[Ol];exact Ea,by simp[hn],rfl,?_⟩
  rw[hg];intro u H' m' s' ro hm' rt;refine⟨Rep.KB.mp rt,h p H' m' (λb o e=>s' b o (sm0 _ _ e) λz=>?_) ro λa z=>?_⟩
  ·rw[(hm b z).1]at e;cases e
  ·rcases hm' a z with y|y
   ·exact hm a y
   ·exact fP sm0 y
 have I2:=Inv.made (C:=bN X.K c) I;rw[hd,hp]at I2
 have r2:Vals (V.ref p::(vs++[])) (N3 p::(us++[])):=.cons rfl (r.append .nil)
 have hl:(N3 p::us++[]).length=ps.length:=by rw[Ol,NU,<-r.length,<-hlen,hps,hn]
 refine Ru (wI (f:=f) I.kIn M.makes M.init (beq_iff_eq.mp M.fn) ?_)
 rw[hd,hp]
 have hb2:=hb _ (N3 p::us) I2.kIn hl;rw[SG]at hb2;refine Qe (F.h.run _ X.stack _ _ ⟨N3 p::us,[]⟩ (N3 p::(us++[])) _ _ E0 (hr.make (bN X.K c) us []) (I2.Nc.make (bN X.K c) us []) hb2 r2 hq) λr s' hq'=>?_
 cases r with
 |error e=>exact hq'.elim
 |ok fl=>
  cases fl with
  |ret u=>
   obtain⟨v,H',I3,rv,ev,q3⟩:=I2.after hq';subst ev
   exact⟨rv,⟨V.ref p,H',I3,rfl,q3⟩⟩
  |next=>exact P9 hq'
  |brk=>exact P9 hq'
  |cont=>exact P9 hq'
end
variable{body:List ZF}
def LM{suite:List ZF}{b0:ZF}{F:En->Rs Fx}{h:Str->Rs T}{ce n:Str}{CE:ZE}{bmE:List NM}{np hpos:Pos}(hst:X.stack=X.env::X.outer)(hfe:X.env.frame=ZA X.env.locals)(hcl:∀x c,X.env.cells.lookup x≠ZA c)(hex:X.ex=[])
  (hN:X.N.Nodup) (hi:X.N[i]?=ZA n) (hloc:X.env.scope.names.lookup n=ZA .local) (hm:X.mg ce=ZA (.ref CE)) (OE:OX X.K CE bmE)
  (hb:∀pn xe,Bj {X with pn:=pn,xe:=xe} j body F) (hs:mH X i (b0::suite) CE h) (hg:Gl X ce:=by rfl) (hd:eO ce:=by decide):
  G6 X j (.Try body [.ExceptHandler (ZA (.Name ce np)) (ZA n) (b0::suite) hpos] [] [] pos) (wJ F h):=by
 intro ol s σ H D I ⟨Z,B,M,E,hq⟩;refine UY ?_
 unfold wJ at hq
 cases q:F Z with
 |bad=>rw[q]at hq;exact hq.elim
 |ok fl=>
  rw[q]at hq;refine Pw (hb X.pn (λ_ _=>False) ol s σ H D (I.FB _) ⟨Z,B,M,E,by rw[q];cases fl <;> exact hq⟩) (λf s1 r=>?_) (λe s1 z=>z.elim)
  cases f with
  |next=>obtain⟨σ7,H7,I7,q7⟩:=r;exact QJ ⟨σ7,H7,I7.FB _,q7⟩
  |ret u=>obtain⟨x7,σ7,H7,I7,r7,q7⟩:=r;exact⟨x7,σ7,H7,I7.FB _,r7,q7⟩
  |brk=>obtain⟨σ7,H7,I7,q7⟩:=r;exact⟨σ7,H7,I7.FB _,q7⟩
  |cont=>obtain⟨σ7,H7,I7,q7⟩:=r;exact⟨σ7,H7,I7.FB _,q7⟩
 |err c=>
  rw[q]at hq
  cases q2:h c with
  |bad=>simp only[q2]at hq;exact hq.elim
  |err c'=>simp only[q2]at hq;exact hq.elim
  |ok t=>
   simp only[q2]at hq
   have hq':∀v H',Same H H'->Rep X.K (OO B M) H' t v->D.rt v H':=λv H' s' r=>hq v σ H' M (SameO.of s') (E.same s') (λa z=>.inl z) rfl r
   refine Pw (hb (X.pn++ol) _ [] s σ H {nx:=λ_ _=>False,rt:=λ_ _=>False,bk:=λ_ _=>False,ct:=λ_ _=>False} ((Tr.Inv.Np ol I).FB _) ⟨Z,B,M,E,?_⟩) (λfl s' z=>?_) λ_ _ z=>z
   rotate_left
   ·cases fl with
    |next=>obtain⟨_,_,_,z⟩:=z;exact z.elim
    |cont=>obtain⟨_,_,_,z⟩:=z;exact z.elim
    |brk=>obtain⟨_,_,_,z⟩:=z;exact z.elim
    |ret v=>obtain⟨_,_,_,_,_,z⟩:=z;exact z.elim
   rw[q];intro pins1 ev s1 w;obtain⟨e,T,C,σ1,H1,rfl,hmc,I1,smn,he,heo,fl,hT,hpp⟩:=w
   have sm:Same H H1:=λb o z=>smn b o z λy=>y
   have I1:Inv X ol σ1 H1 s1:=Tr.Inv.Nn (X:=X) I1
   have hpp:∀p∈X.pn++ol,p.1≠e/\T≠ZA p.1:=λp hp=>hpp p (On _ hp)
   have heo:=heo hex
   have hT:∀t,T=ZA t->H1 t=ZB/\X.s₀.heap.get? t=ZB:=λt z=>⟨(hT t z).1,(hT t z).2 hex⟩
   show ZJ _ _ _ _ _ _
   have hfr:X.A.frames=ZA (X.env::X.outer):=by rw[<-hst];exact I1.ok.frames
   have hstk:s1.heap.FunFrames X.base (X.env::X.outer):=by rw[<-hst];exact I1.stack
   refine Hl hfr hstk hfe fl λh' T' g=>?_
   have I2:=Inv.gone I1 hst hfe hcl hex g he heo hT hpp
   have Tn:H1 T'=ZB/\X.s₀.heap.get? T'=ZB/\∀p∈X.pn++ol,p.1≠T':=by
    rcases g.new with z|z
    ·exact⟨(hT T' z).1,(hT T' z).2,λp hp y=>(hpp p hp).2 (by rw[z,y])⟩
    ·exact⟨jM I1 z,eG I1 hex z,λp hp y=>by have:=(I1.pin p hp).1;rw[y,z]at this;cases this⟩
   obtain⟨bm,OC,hin,run⟩:=hs c C t hmc q2;obtain⟨hTe,oe,ev,hoe,hoc,hod,h1,oT,ts,hoT,hdT,h3⟩:=g.flt
   have nfr:∀b o vs,h'.get? b=ZA o->o.data=.fields vs->b∉(X.env::X.outer).filterMap (·.frame):=λb o vs hb hd z=>by
    have:=I2.stack;rw[hst]at this;obtain⟨_,o',ho',hnf⟩:=this.mem z;rw[show h'.get? b=ZA o' from ho']at hb
    cases hb;exact hnf vs hd
   have hel:e≠X.env.locals:=λz=>nfr e oe ev hoe hod (by rw[Pc,hfe];exact z▸NP)
   have hef:e∉X.fs:=λz=>nfr e oe ev hoe hod (by rw[Pc,hfe];exact NL _ z)
   have hcell:∀v,oe.data≠ .cell v:=λv z=>by rw[hod]at z;cases z
   have I3:Inv (uX X e oe) ol σ1 H1 {s1 with heap:=h'}:=oA I2 hoe he hel hef hcell
   refine TK (S9 (fS (X:=uX X e oe) I3 hg hm ?_ hd)) (by intro z;cases z)
   obtain⟨nm,qq,N,bs,hdct,sn,sub,ab,col,dd,k0,k1,k2,k3,k5,mN,hC,_⟩:=OC.at_ h' I3.kIn;obtain⟨nm',qq',N',bs',hdct',sn',sub',ab',col',dd',k0',k1',k2',k3',k5',mN',hD,_,_,TD⟩:=OE.at_ h' I3.kIn;refine rZ hC hD hoe hoc (TD.tail.hasType (by decide)) hin (Se ?_)
   refine Ti hoe hod h1 hoT hdT (O5.mp h3).1 ?_
   generalize hU:h'.update T' (RP (·.setIfInBounds 3 Oz))=h2
   have kp:∀b,b≠T'->h2.get? b=h'.get? b:=λb hb=>by rw[<-hU];exact QB _ _ (O6 hb)
   have hT2:h2.get? T'=ZA (RP (·.setIfInBounds 3 Oz) oT):=by rw[<-hU];exact RD _ hoT (RE (Qb hdT _))
   have hoe2:h2.get? e=ZA oe:=(kp e (O6 hTe)).trans hoe
   have g2:EE ((X.env::X.outer).filterMap (·.frame)) C e (ZA T') h' h2 T':=⟨⟨hTe,oe,ev,hoe2,hoc,hod,h1,_,_,hT2,Qb hdT _,by simp[(O5.mp h3).1]⟩,.inl rfl,λb o _ _ n3 q=>(kp b λz=>n3 (by rw[z])).trans q,λb o m q=>⟨o.slots,(kp b λz=>nfr T' oT ts hoT hdT (z▸m)).trans q⟩⟩
   have I4:Inv X ol σ1 H1 {s1 with heap:=h2}:=Inv.gone (s:={s1 with heap:=h'}) I2 hst hfe hcl hex g2 he heo (λt z=>by cases z;exact⟨Tn.1,Tn.2.1⟩) λp hp=>⟨(hpp p hp).1,λz=>Tn.2.2 p hp (Oy z).symm⟩
   have I5:Inv (uX X e oe) ol σ1 H1 {s1 with heap:=h2}:=oA I4 hoe2 he hel hef hcell
   refine lQ (X:=uX X e oe) (v:=.ref e) I5 hN hi (.inl hloc) rfl (λs3 I6=>?_) (.inr hloc)
   have hil:i<σ1.length:=by
    rw[I1.len];exact(NW.mp hi).1
   refine Pw (run e oe ev hoc hod ol s3 _ H1 (OO B M) (λv H'=>Same H1 H'/\Rep X.K (OO B M) H' t v) I6 he (λz=>?_) (by simp[hil]) (λp hp z=>?_) λv H' s' r=>⟨s',r⟩) (λf s4 r=>?_) λ_ _ z=>z.elim
   ·rw[hst]at z
    exact nfr e oe ev hoe hod z
   ·obtain⟨o,ho⟩:=(E.env.trk p z).some
    have:=sm p o ho;rw[hp]at this;cases this
   ·cases f with
    |next=>obtain⟨_,_,_,z⟩:=r;exact z.elim
    |brk=>obtain⟨_,_,_,z⟩:=r;exact z.elim
    |cont=>obtain⟨_,_,_,z⟩:=r;exact z.elim
    |ret u=>
     obtain⟨v,σ',H',I7,rv,s',rt⟩:=r;obtain⟨m,hn,_⟩:=I7.loc;refine wpAny_nameGoes (show X.env.kindOf n=ZA .local from hloc) hn (by rw[I.ok.kind];rfl) λh8 m8 hn8 hs8=>?_
     exact⟨v,_,H',Inv.forget (zQ I.ok I7) hcl hn8 hs8,rv,hq' v H' (λb o y=>s' b o (sm b o y)) rt⟩
structure QE (X:Cx)(e:ZG)(f:V5):Prop where
 h:cz X e f
structure QA (X:Cx)(e:List ZG)(f:V3):Prop where
 h:qC X e f
structure QT (X:Cx)(e:ZG)(f:V6):Prop where
 h:rn X e f
structure QW (X:Cx)(e:ZG)(f:V6):Prop where
 h:HF X e f
structure QS (X:Cx)(e:ZF)(f:V4):Prop where
 h:oJ X e f
structure Bh (X:Cx)(e:List ZF)(f:V4):Prop where
 h:mI X e f
structure QG (X:Cx)(e:ZG)(f:T->En->Rs En):Prop where
 h:EM X e f
structure MP (X:Cx)(e:List ZG)(f:List T->En->Rs En):Prop where
 h:EC X e f
structure QI (X:Cx)(t e:ZG)(f:V3):Prop where
 h:Bs X t e f
structure QO (X:Cx)(e:Option ZG)(f:En->Rs (Option Int)):Prop where
 h:Mz X e f
structure MO (X:Cx)(e:List ZG)(f:V6):Prop where
 h:Bt X e (BN X f)
def af(i:Nat)(hN:(Cx.N X)[i]?=ZA x:=by rfl)(hv:lM (Qy (Cx.env X)) x:=by first|exact OB rfl|exact Oq (OB rfl)|exact Oq (Oq rfl))(hd:eO x:=by decide)(hcd:(x == N7 "__classdict__")=ZD:=by decide):QE X (OF x pos) (vr i):=
 ⟨Lf (i:=i) (hN:=hN) (hv:=hv) (hd:=hd) (hcd:=hcd)⟩
variable{i:Int}
def ao:QE X (SA (Const.int i) j pos) (cn (T.int i)):=
 ⟨Lo ⟩
def nu{i:Bool}:QE X (SA (Const.bool i) j pos) (cn (T.bl i)):=
 ⟨q_bl ⟩
def bM:QE X (SA Const.none j pos) (cn T.non):=
 ⟨Lk ⟩
def iW{i:Str}:QE X (SA (Const.str i) j pos) (cn (T.str i)):=
 ⟨Lh ⟩
def EU{u:NM}(hm:Cx.mg X x=ZA u)(r:L2.RelV (V.int i) u)(hg:Gl X x:=by rfl)(hd:eO x:=by decide):QE X (OF x pos) (cn (T.int i)):=
 ⟨IQ (hm:=hm) (r:=r) (hg:=hg) (hd:=hd)⟩
def ah:QA X [] ai:=
 ⟨IP ⟩
def ag{X:Cx}{e:ZG}{es:List ZG}{f:V5}{g:V3}(he:QE X e f)(hr:QA X es g)(hn:br e=ZC:=by rfl):QA X (e::es) (ae f g):=
 ⟨qa_c (he:=he.h) (hr:=hr.h) (hn:=hn)⟩
def aM{x1:Nat}{f:V3}(h:QA X es f):QE X (Expr.Tuple es x1 pos) (aK f):=
 ⟨Lg (h:=h.h)⟩
def ip{X:Cx}{es:List ZG}{pos:Pos}{f:V3}(h:QA X es f):QE X (Expr.List es pos) (fA f):=
 ⟨Lm (h:=h.h)⟩
variable{g:T->T->Rs T}
def ax{op:Operator}(ho:OpT X (PM op) g)(ha:QE X a fa)(hb:QE X b fb):QE X (Expr.BinOp a op b pos) (o2 g fa fb):=
 ⟨Ls (ho:=ho) (ha:=ha.h) (hb:=hb.h)⟩
def iq(ho:OpT X (OL op) g)(ha:QE X a fa)(hb:QE X b fb)(hm:Qd op b=ZD:=by rfl):QE X (SY a [op] [b] pos) (o2 g fa fb):=
 ⟨Lr (ho:=ho) (ha:=ha.h) (hb:=hb.h) (hm:=hm)⟩
def lu(ha:QE X a fa):QE X (UI UnaryOp.USub a pos) (o1 jQ fa):=
 ⟨Ll (ha:=ha.h)⟩
variable{c:ZG}
def vj{fc:V5}{op':Ut}{g':T->T->Rs T}(ho:OpT X (OL op) g)(ho':OpT X (OL op') g')(ha:QE X a fa)(hb:QE X b fb)(hc:QE X c fc)(hm:Vi [op,op'] [b,c]=ZD:=by with_unfolding_all rfl):QE X (SY a [op,op'] [b,c] pos) (ch g g' fa fb fc):=
 ⟨FN (ho:=ho) (ho':=ho') (ha:=ha.h) (hb:=hb.h) (hc:=hc.h) (hm:=hm)⟩
def df{f:V5}(h:QE X e f)(he:∀(whole:Sem NM),PySem.isTrue e (Cx.env X) whole=(do let v <-whole;standAt (Expr.pos e);holding [v] (truthy v)):=by intro _;rfl):QT X e (tb f):=
 ⟨Iw (h:=h.h) (he:=he)⟩
def bc(ho:OpT X (OL op) g)(ha:QE X a fa)(hb:QE X b fb)(hm:Qd op b=ZD:=by rfl):QT X (SY a [op] [b] pos) (tb (o2 g fa fb)):=
 ⟨Iz (ho:=ho) (ha:=ha.h) (hb:=hb.h) (hm:=hm)⟩
def rA{fc:V5}{op':Ut}{g':T->T->Rs T}(ho:OpT X (OL op) g)(ho':OpT X (OL op') g')(ha:QE X a fa)(hb:QE X b fb)(hc:QE X c fc)(hm:Vi [op,op'] [b,c]=ZD:=by with_unfolding_all rfl):QT X (SY a [op,op'] [b,c] pos) (tb (ch g g' fa fb fc)):=
 ⟨Cf (ho:=ho) (ho':=ho') (ha:=ha.h) (hb:=hb.h) (hc:=hc.h) (hm:=hm)⟩
variable{f:V6}
def oK(ha:QT X a f):QW X (Qm Tb [a] pos) f:=
 ⟨Fu (ha:=ha.h)⟩
def ku(ha:QT X a f):QW X (Qm TY [a] pos) f:=
 ⟨Iu (ha:=ha.h)⟩
def sP{g:V6}{bU:List ZG}(ha:QT X a f)(hb:QW X (Qm Tb (b::bU) pos) g):QW X (Qm Tb (a::b::bU) pos) (lL f g):=
 ⟨Iv (ha:=ha.h) (hb:=hb.h)⟩
def mJ{g:V6}{bU:List ZG}(ha:QT X a f)(hb:QW X (Qm TY (b::bU) pos) g):QW X (Qm TY (a::b::bU) pos) (nS f g):=
 ⟨K9 (ha:=ha.h) (hb:=hb.h)⟩
def lN(h:QW X e f):QT X e f:=
 ⟨qt_w (h:=h.h)⟩
def dC(ha:QT X a f):QT X (UI UnaryOp.Not a pos) (cI f):=
 ⟨Iy (ha:=ha.h)⟩
def fG{op:BoolOp}(h:QE X a fa):QE X (Qm op [a] pos) fa:=
 ⟨Li (h:=h.h)⟩
def eX{bU:List ZG}(ha:QE X a fa)(hb:QE X (Qm Tb (b::bU) pos) fb):QE X (Qm Tb (a::b::bU) pos) (dt fa fb):=
 ⟨Lu (ha:=ha.h) (hb:=hb.h)⟩
def Hb{bU:List ZG}(ha:QE X a fa)(hb:QE X (Qm TY (b::bU) pos) fb):QE X (Qm TY (a::b::bU) pos) (EJ fa fb):=
 ⟨q_or (ha:=ha.h) (hb:=hb.h)⟩
def HN(ha:QE X a fa):QE X (UI UnaryOp.Not a pos) (o1 Ga fa):=
 ⟨Lj (ha:=ha.h)⟩
def vi(hc:QT X c f)(ha:QE X a fa)(hb:QE X b fb):QE X (Expr.IfExp c a b pos) (yE f fa fb):=
 ⟨q_if (hc:=hc.h) (ha:=ha.h) (hb:=hb.h)⟩
def aH(ha:QE X a fa)(hb:QE X b fb)(hs:Ah b:=by intro _ _;rfl):QE X (PZ a b pos) (o2 aV fa fb):=
 ⟨q_ix (ha:=ha.h) (hb:=hb.h) (hs:=hs)⟩
def cG:QO X ZB pN:=
 ⟨FD ⟩
def cF(ha:QE X a fa):QO X (ZA a) (pS fa):=
 ⟨FC (ha:=ha.h)⟩
def cH{lo hi:Option ZG}{p2:Pos}{fl fu:En->Rs (Option Int)}(ha:QE X a fa)(hl:QO X lo fl)(hu:QO X hi fu):QE X (PZ a (Expr.Slice lo hi ZB p2) pos) (sl fa fl fu):=
 ⟨FK (ha:=ha.h) (hl:=hl.h) (hu:=hu.h)⟩
variable{g:List T->Rs T}
def cb{fs:V3}{id:String}(hc:CallT X (QR id) g)(hm:Cx.mg X x=ZB)(hv:OK x=ZA (QR id))(ha:QA X (e::es) fs)(hn:bF (e::es)=ZC:=by rfl)(hg:Gl X x:=by rfl)(h1:x≠N7 "__name__":=by decide)(h2:eO x:=by decide):QE X (Qc (OF x p) (e::es) [] pos) (cl g fs):=
 ⟨q_cB (hc:=hc) (hm:=hm) (hv:=hv) (ha:=ha.h) (hn:=hn) (hg:=hg) (h1:=h1) (h2:=h2)⟩
variable{Ty:String}
def oN{fs:V3}(hc:CallT X (Rr Ty) g)(hm:Cx.mg X x=ZB)(hv:OK x=ZA (Rr Ty))(ha:QA X (e::es) fs)(hn:bF (e::es)=ZC:=by rfl)(hg:Gl X x:=by rfl)(h1:x≠N7 "__name__":=by decide)(h2:eO x:=by decide):QE X (Qc (OF x p) (e::es) [] pos) (cl g fs):=
 ⟨q_cT (hc:=hc) (hm:=hm) (hv:=hv) (ha:=ha.h) (hn:=hn) (hg:=hg) (h1:=h1) (h2:=h2)⟩
def zq_c{fs:V3}{f:ZE}(F:EF (Cx.prog X) (Cx.w X) (Cx.K X) (Cx.mg X) (Cx.base X) k f fd ps n g)(hr:Room k (Cx.A X))(hm:Cx.mg X x=ZA (N3 f))(hk:W.keepIn (Cx.K X) (N3 f)=ZC)(hb:L2.Binds (Cx.K X) fd ps [])(hl:∀(Z:En)(ts:List T),fs Z=Rs.ok ts->O7 ts=n)(ha:QA X (e::es) fs)(hps:O7 ps=n:=by rfl)(hn:bF (e::es)=ZC:=by rfl)(hg:Gl X x:=by rfl)(h2:eO x:=by decide):QE X (Qc (OF x p) (e::es) [] pos) (cl g fs):=
 ⟨q_c (F:=F) (hr:=hr) (hm:=hm) (hk:=hk) (hb:=hb) (hl:=hl) (ha:=ha.h) (hps:=hps) (hn:=hn) (hg:=hg) (h2:=h2)⟩
def By{p2:Pos}{tn:Str}(hm:Cx.mg X (N7 "isinstance")=ZB)(hmt:Cx.mg X tn=ZB)(hv:OK tn=ZA (Rr Ty))(ha:QE X a fa)(hn:br a=ZC:=by rfl)(hg:Gl X (N7 "isinstance"):=by rfl)(hgt:Gl X tn:=by rfl)(h1:tn≠N7 "__name__":=by decide)(h2:eO tn:=by decide):QE X (Qc (OF (N7 "isinstance") p) [a,OF tn p2] [] pos) (o1 (Gz Ty) fa):=
 ⟨q_is (hm:=hm) (hmt:=hmt) (hv:=hv) (ha:=ha.h) (hn:=hn) (hg:=hg) (hgt:=hgt) (h1:=h1) (h2:=h2)⟩
def ar(i:Nat)(hN:Pm (Cx.N X))(hi:(Cx.N X)[i]?=ZA x:=by rfl)(hx:L2.Loc (Qy (Cx.env X)) x:=by first|exact OB rfl|exact Oq rfl)(hf:Cx.fn X x=ZC\/PC x (TB (Qy (Cx.env X)))=ZA NameKind.local:=by first|exact .inl rfl|exact .inr rfl|assumption):QG X (OF x pos) (gN i):=
 ⟨FI (i:=i) (hN:=hN) (hi:=hi) (hx:=hx) (hf:=hf)⟩
def cV:MP X [] nK:=
 ⟨FH ⟩
variable{g:T->En->Rs En}{gs:List T->En->Rs En}
def aO(h1:QG X e g)(h2:MP X es gs)(hs:List.map (λx=>Prod.snd x) (PH (e::es) (Cx.env X))=assign e (Cx.env X)::List.map (λx=>Prod.snd x) (PH es (Cx.env X)):=by rfl):MP X (e::es) (eU g gs):=
 ⟨Cm (h1:=h1.h) (h2:=h2.h) (hs:=hs)⟩
def dX(hc:Cx.calm X=ZC)(h:MP X es gs)(hn:O7 (PH es (Cx.env X))=n:=by rfl)(hst:List.findIdx? (λx=>Prod.fst x) (PH es (Cx.env X))=ZB:=by rfl):QG X (Expr.Tuple es k pos) (gT n gs):=
 ⟨IM (hc:=hc) (h:=h.h) (hn:=hn) (hst:=hst)⟩
variable{tg:ZG}
def dF{fs:V3}(hm:Cx.mg X (N7 "range")=ZB)(ha:QA X [a] fs)(hg:Gl X (N7 "range"):=by rfl)(hs:NY [a] (Cx.env X)=[(ZD,eval a (Cx.env X))]:=by rfl):QI X tg (Qc (OF (N7 "range") p) [a] [] pos) (iR fs):=
 ⟨AA (hm:=hm) (ha:=ha.h) (hg:=hg) (hs:=hs)⟩
def xC{fs:V3}(hm:Cx.mg X (N7 "range")=ZB)(ha:QA X [a,b] fs)(hg:Gl X (N7 "range"):=by rfl)(hs:NY [a,b] (Cx.env X)=[(ZD,eval a (Cx.env X)),(ZD,eval b (Cx.env X))]:=by rfl)(hs2:NY [b] (Cx.env X)=[(ZD,eval b (Cx.env X))]:=by rfl):QI X tg (Qc (OF (N7 "range") p) [a,b] [] pos) (iR fs):=
 ⟨Az (hm:=hm) (ha:=ha.h) (hg:=hg) (hs:=hs) (hs2:=hs2)⟩
def dE:MO X [] bT:=
 ⟨FF ⟩
def vg(h:QT X c f):MO X [c] f:=
 ⟨FE (h:=h.h)⟩
variable{N':List Str}{fc:V6}{fe:V5}{fi:V3}{ifs:List ZG}{iter:ZG}{scope:Q8}{tgt:T->En->Rs En}
def jn{elt:ZG}{src:List (Option Nat)}(hc:Cx.calm X=ZC)(S:LcScope X scope N' src)(hi:QI X tg iter fi)(block:∀(cl:List (Str×ZE))(C:ZE)(s₀:NQ)(H₀:Hp)(fp:List ZE),QG (cm X scope cl N' C s₀ H₀ fp) tg tgt/\MO (cm X scope cl N' C s₀ H₀ fp) ifs fc/\QE (cm X scope cl N' C s₀ H₀ fp) elt fe)(hs:∀(x:NM),OS iter (Cx.env X) x=pure x:=by intro _;rfl):QE X (TZ elt [{target:=tg,iter:=iter,ifs:=ifs,is_async:=0}] scope pos) (ig fi src tgt fc fe):=
 ⟨q_lc (hc:=hc) (S:=S) (hi:=hi.h) (block:=λa1 a2 a3 a4 a5=>⟨(block a1 a2 a3 a4 a5).1.h,(block a1 a2 a3 a4 a5).2.1.h,(block a1 a2 a3 a4 a5).2.2.h⟩) (hs:=hs)⟩
def bL:Bh X [] sN:=
 ⟨ID ⟩
def au{bU:List ZF}{F:V4}(h1:QS X st F)(h2:Bh X bU G):Bh X (st::bU) (aD F G):=
 ⟨FA (h1:=h1.h) (h2:=h2.h)⟩
def aw{F:V4}(h:QS X st F):Bh X [st] F:=
 ⟨IC (h:=h.h)⟩
def aI(ha:QE X a fa):QS X (Stmt.Return (ZA a) pos) (aR fa):=
 ⟨IA (ha:=ha.h)⟩
def ck{B:List ZF}{F:V4}(hc:QT X c f)(ha:Bh X A F)(hb:Bh X B G):QS X (Stmt.If c A B pos) (e9 f F G):=
 ⟨Lc (hc:=hc.h) (ha:=ha.h) (hb:=hb.h)⟩
def HL{elt:ZG}{spos py:Pos}{src:List (Option Nat)}(i:Nat){y:Str}(hc:Cx.calm X=ZC)(S:LcScope X scope N' src)(hi:QI X tg iter fi)(block:∀(cl:List (Str×ZE))(C:ZE)(s₀:NQ)(H₀:Hp)(fp:List ZE),QG (cm X scope cl N' C s₀ H₀ fp) tg tgt/\MO (cm X scope cl N' C s₀ H₀ fp) ifs fc/\QE (cm X scope cl N' C s₀ H₀ fp) elt fe)(hN:Pm (Cx.N X))(hiy:(Cx.N X)[i]?=ZA y:=by rfl)(hy:L2.Loc (Qy (Cx.env X)) y:=by first|exact OB rfl|exact Oq rfl)(hsw:OW (TZ elt [{target:=tg,iter:=iter,ifs:=ifs,is_async:=0}] scope pos) (ZA (OF y py)) (Q6 spos) (Cx.env X)=pure ZC:=by rfl)(hf:Cx.fn X y=ZC\/PC y (TB (Qy (Cx.env X)))=ZA NameKind.local:=by first|exact .inl rfl|exact .inr rfl|assumption)(hs:∀(x:NM),OS iter (Cx.env X) x=pure x:=by intro _;rfl):QS X (RV [OF y py] (TZ elt [{target:=tg,iter:=iter,ifs:=ifs,is_async:=0}] scope pos) spos) (cg (ig fi src tgt fc fe) (gN i)):=
 ⟨Lb (i:=i) (hc:=hc) (S:=S) (hi:=hi.h) (block:=λa1 a2 a3 a4 a5=>⟨(block a1 a2 a3 a4 a5).1.h,(block a1 a2 a3 a4 a5).2.1.h,(block a1 a2 a3 a4 a5).2.2.h⟩) (hN:=hN) (hiy:=hiy) (hy:=hy) (hsw:=hsw) (hf:=hf) (hs:=hs)⟩
def aJ(ha:QE X a fa)(hg:QG X tg g)(hs:T6 [tg] a (Q6 pos) (Cx.env X)=pure ZD:=by rfl)(hw:T7 [tg] a (Cx.env X)=pure ZB:=by rfl)(h1:List.map (λx=>Prod.snd x) (PH [tg] (Cx.env X))=[assign tg (Cx.env X)]:=by rfl):QS X (RV [tg] a pos) (cg fa g):=
 ⟨II (ha:=ha.h) (hg:=hg.h) (hs:=hs) (hw:=hw) (h1:=h1)⟩
def fV(ha:QE X a fa)(hs:OW a ZB (Q6 pos) (Cx.env X)=pure ZD:=by rfl):QS X (Stmt.Expr a pos) (xW fa):=
 ⟨Fz (ha:=ha.h) (hs:=hs)⟩
def cE{F:V4}(hc:Cx.calm X=ZC)(hi:QI X tg iter fi)(hg:QG (Cx.nox X) tg g)(hb:Bh (Cx.nox X) body F)(hs:∀(x:NM),OS iter (Cx.env X) x=pure x:=by intro _;rfl):QS X (Stmt.For tg iter body [] pos) (fI fi g F):=
 ⟨IF (hc:=hc) (hi:=hi.h) (hg:=hg.h) (hb:=hb.h) (hs:=hs)⟩
def Aj{F:V4}(n:Nat)(hc:QT (Cx.nox X) c fc)(hb:Bh (Cx.nox X) body F):QS X (Stmt.While c body [] pos) (bZ fc F n):=
 ⟨Cg (n:=n) (hc:=hc.h) (hb:=hb.h)⟩
def cA(ha:QE X a fa):QI X tg a (iS fa):=
 ⟨IL (ha:=ha.h)⟩
def jB{fs:V3}{elts:List ZG}{kk:Nat}{tpos:Pos}(hm:Cx.mg X (N7 "enumerate")=ZB)(ha:QA X [a] fs)(hg:Gl X (N7 "enumerate"):=by rfl)(hs:NY [a] (Cx.env X)=[(ZD,eval a (Cx.env X))]:=by rfl):QI X (Expr.Tuple elts kk tpos) (Qc (OF (N7 "enumerate") p) [a] [] pos) (iE fs):=
 ⟨FG (hm:=hm) (ha:=ha.h) (hg:=hg) (hs:=hs)⟩
def jA{p2:Pos}(i:Nat){f:V3}(hN:Pm (Cx.N X))(ha:QA X es f)(hi:(Cx.N X)[i]?=ZA x:=by rfl)(hx:L2.Loc (Qy (Cx.env X)) x:=by first|exact OB rfl|exact Oq rfl)(hs:OW (Expr.List es p2) (ZA (OF x p3)) (Q6 pos) (Cx.env X)=pure ZD:=by rfl)(hf:Cx.fn X x=ZC\/PC x (TB (Qy (Cx.env X)))=ZA NameKind.local:=by first|exact .inl rfl|exact .inr rfl|assumption):QS X (RV [OF x p3] (Expr.List es p2) pos) (jJ i f):=
 ⟨Fw (i:=i) (hN:=hN) (ha:=ha.h) (hi:=hi) (hx:=hx) (hs:=hs) (hf:=hf)⟩
def iV{p2:Pos}(i:Nat)(ha:QE X a fa)(hN:(Cx.N X)[i]?=ZA x:=by rfl)(hv:lM (Qy (Cx.env X)) x:=by first|exact OB rfl|exact Oq (OB rfl)|exact Oq (Oq rfl))(hn:br a=ZC:=by rfl)(hbase:Os (OF x p2) (N7 "append") (Cx.env X) (eval (OF x p2) (Cx.env X))=eval (OF x p2) (Cx.env X):=by rfl)(hline:(TC apos == Q6 cpos)=ZC:=by rfl)(hd:eO x:=by decide)(hcd:(x == N7 "__classdict__")=ZD:=by decide)(hsw:OW (Qc (Q4 (OF x p2) (N7 "append") apos) [a] [] cpos) ZB (Q6 pos) (Cx.env X)=pure ZD:=by rfl):QS X (Stmt.Expr (Qc (Q4 (OF x p2) (N7 "append") apos) [a] [] cpos) pos) (jx i fa):=
 ⟨IJ (i:=i) (ha:=ha.h) (hN:=hN) (hv:=hv) (hn:=hn) (hbase:=hbase) (hline:=hline) (hd:=hd) (hcd:=hcd) (hsw:=hsw)⟩
def sQ{p2:Pos}(i:Nat)(ha:QE X a fa)(hN:(Cx.N X)[i]?=ZA x:=by rfl)(hv:lM (Qy (Cx.env X)) x:=by first|exact OB rfl|exact Oq (OB rfl)|exact Oq (Oq rfl))(hn:br a=ZC:=by rfl)(hbase:Os (OF x p2) (N7 "extend") (Cx.env X) (eval (OF x p2) (Cx.env X))=eval (OF x p2) (Cx.env X):=by rfl)(hline:(TC apos == Q6 cpos)=ZC:=by rfl)(hd:eO x:=by decide)(hcd:(x == N7 "__classdict__")=ZD:=by decide)(hsw:OW (Qc (Q4 (OF x p2) (N7 "extend") apos) [a] [] cpos) ZB (Q6 pos) (Cx.env X)=pure ZD:=by rfl):QS X (Stmt.Expr (Qc (Q4 (OF x p2) (N7 "extend") apos) [a] [] cpos) pos) (o9 i fa):=
 ⟨IG (i:=i) (ha:=ha.h) (hN:=hN) (hv:=hv) (hn:=hn) (hbase:=hbase) (hline:=hline) (hd:=hd) (hcd:=hcd) (hsw:=hsw)⟩
def iU(i:Nat){F:V4}(h:QS X st F):QS X st (nQ i F):=
 ⟨IH (i:=i) (h:=h.h)⟩
def eV(i:Nat){f:V5}(h:QE X e f):QE X e (ln i f):=
 ⟨q_ln (i:=i) (h:=h.h)⟩
def HK(i:Nat)(h:QT X e f):QT X e (JA i f):=
 ⟨La (i:=i) (h:=h.h)⟩
def HM:QS X (Stmt.Continue pos) Hj:=
 ⟨Ld ⟩
def iI{c:Str}{msg:Str}{C:ZE}{bm:List NM}{np p1:Pos}(O:OX X.K C bm)(hm:X.mg c=ZA (.ref C))(hc:X.calm=ZC:=by rfl)(hg:Gl X c:=by rfl)(hd:eO c:=by decide):
  QS X (.Raise (ZA (.Call (.Name c np) [.Constant (.str msg) j p1] [] cpos)) ZB pos) (xX c):=⟨Ci O.own hc hm hg hd⟩
def sR{base:ZH}{f:ZE}{F:V4}(Fn:L2.Fun K x qual st f fd)(S:aA N ps (aj st))(hn:ps.length=n)
  (hbody:∀(cdv:NM)(A:Ou)(outer:List Env)(s:NQ)(H:Hp)(E:XK),Room k (A.deeper (envOfC qual (aj st) s.heap.objs.size f cdv)) →
   ∀xe,Bh ((gp CX0 P w K mg base N qual (aj st) f cdv A outer s H E).FB xe) (bD st) F):EF P w K mg base (k+1) f fd ps n (val n N.length F):=J2 Fn S hn λcdv A outer s H E hr xe=>(hbody cdv A outer s H E hr xe).h
def dg(hu:RG (Cx.A X)+1<cLine)(ha:QE X a fa)(hb:QE X b fb)(hs:Bk b:=by intro _ _;rfl):QE X (PZ a b pos) (o2 bJ fa fb):=
 ⟨Lq (hu:=hu) (ha:=ha.h) (hb:=hb.h) (hs:=hs)⟩
def yY(hu:RG (Cx.A X)+1<cLine)(ha:QE X a fa)(hb:QE X b fb)(hn:br b=ZC:=by rfl)(hbase:Os a (N7 "get") (Cx.env X) (eval a (Cx.env X))=eval a (Cx.env X):=by rfl)(hline:(TC apos == Q6 cpos)=ZC:=by rfl):QE X (Qc (Q4 a (N7 "get") apos) [b] [] cpos) (oD jw fa fb):=
 ⟨IS (hu:=hu) (ha:=ha.h) (hb:=hb.h) (hn:=hn) (hbase:=hbase) (hline:=hline)⟩
def Am(hu:RG (Cx.A X)+61<cLine)(ha:QE X a fa)(hb:QE X b fb)(hn:br b=ZC:=by rfl)(hbase:Os a (N7 "index") (Cx.env X) (eval a (Cx.env X))=eval a (Cx.env X):=by rfl)(hline:(TC apos == Q6 cpos)=ZC:=by rfl):QE X (Qc (Q4 a (N7 "index") apos) [b] [] cpos) (oL hZ fa fb):=
 ⟨Cn (hu:=hu) (ha:=ha.h) (hb:=hb.h) (hn:=hn) (hbase:=hbase) (hline:=hline)⟩
def Bx{f:V5}{p2:Pos}(i:Nat)(hu:RG (Cx.A X)+8<cLine)(hc:Cx.calm X=ZC)(hm:Cx.mg X (N7 "dict")=ZB)(hN:Pm (Cx.N X))(ha:QE X e f)(hst:br e=ZC:=by rfl)(hg:Gl X (N7 "dict"):=by rfl)(hi:(Cx.N X)[i]?=ZA x:=by rfl)(hx:L2.Loc (Qy (Cx.env X)) x:=by first|exact OB rfl|exact Oq rfl)(hs:OW (Qc (OF (N7 "dict") p) [e] [] p2) (ZA (OF x p3)) (Q6 pos) (Cx.env X)=pure ZD:=by rfl)(hf:Cx.fn X x=ZC\/PC x (TB (Qy (Cx.env X)))=ZA NameKind.local:=by first|exact .inl rfl|exact .inr rfl|assumption):QS X (RV [OF x p3] (Qc (OF (N7 "dict") p) [e] [] p2) pos) (rJ i f):=
 ⟨Fy (i:=i) (hu:=hu) (hc:=hc) (hm:=hm) (hN:=hN) (ha:=ha.h) (hst:=hst) (hg:=hg) (hi:=hi) (hx:=hx) (hs:=hs) (hf:=hf)⟩
def ES{fc:V5}{p2:Pos}(i:Nat)(hu:RG (Cx.A X)+1<cLine)(hb:QE X b fb)(hc:QE X c fc)(hN:(Cx.N X)[i]?=ZA x:=by rfl)(hv:lM (Qy (Cx.env X)) x:=by first|exact OB rfl|exact Oq (OB rfl)|exact Oq (Oq rfl))(hd:eO x:=by decide)(hcd:(x == N7 "__classdict__")=ZD:=by decide)(hs:OW c (ZA (PZ (OF x p2) b p3)) (Q6 pos) (Cx.env X)=pure ZD:=by rfl):QS X (RV [PZ (OF x p2) b p3] c pos) (Aw i fb fc):=
 ⟨IB (i:=i) (hu:=hu) (hb:=hb.h) (hc:=hc.h) (hN:=hN) (hv:=hv) (hd:=hd) (hcd:=hcd) (hs:=hs)⟩
def oM{fc:V5}{p2 p4:Pos}(i:Nat)(hu:RG (Cx.A X)+1<cLine)(ha:QE X a fa)(hb:QE X b fb)(hc:QE X c fc)(hsl:Bk a:=by intro _ _;rfl)(hN:(Cx.N X)[i]?=ZA x:=by rfl)(hv:lM (Qy (Cx.env X)) x:=by first|exact OB rfl|exact Oq (OB rfl)|exact Oq (Oq rfl))(hd:eO x:=by decide)(hcd:(x == N7 "__classdict__")=ZD:=by decide)(hs:OW c (ZA (PZ (PZ (OF x p2) a p3) b p4)) (Q6 pos) (Cx.env X)=pure ZD:=by rfl):QS X (RV [PZ (PZ (OF x p2) a p3) b p4] c pos) (jr i fa fb fc):=
 ⟨Fv (i:=i) (hu:=hu) (ha:=ha.h) (hb:=hb.h) (hc:=hc.h) (hsl:=hsl) (hN:=hN) (hv:=hv) (hd:=hd) (hcd:=hcd) (hs:=hs)⟩
end Tr
namespace Tr
open PySem PySem.Spec L2
def LcScope.byN{X:Cx}{scope:Q8}{N N':List Str}{src:List (Option Nat)}(hN:X.N=N)(hk:scope.kind=.function)(h:JC scope.names N scope.names N' src=ZC)
  (hf:(scope.names.all λy=>y.2 != .free||(X.env.scope.names.lookup y.1 == ZA .cell||X.env.scope.names.lookup y.1 == ZA .free))=ZC):LcScope X scope N' src:=by
 have z:=LcScope.by (X:={X with env:={X.env with scope:=scope}}) hN rfl hk h
 refine⟨hk,z.cel,z.loc,z.len,z.from_,λx hx=>?_⟩
 have:=Od.mp hf _ hx;simp only[bne_self_eq_false,Sz,RU]at this
 show X.env.scope.names.lookup x=_\/X.env.scope.names.lookup x=_
 rcases this with z|z
 ·exact .inl (by simpa using z)
 ·exact .inr (by simpa using z)
end Tr
namespace Tr
open PySem PySem.Spec PyProof.Rows L2 PySem.W
def DO(h:ZH):(DP h).In h:=by
 have key:∀(l:List Nat)(a:ZE)(o:Obj),(l.filterMap λa=>(h.get? a).map λo=>(a,o)).lookup a=ZA o->h.get? a=ZA o:=by
  intro l
  induction l with
  |nil=>intro a o e;cases e
  |cons b r ih=>
   intro a o e
   cases hb:h.get? b with
   |none=>rw[List.filterMap_cons_none (by rw[hb];rfl)]at e;exact ih a o e
   |some ob=>
    rw[List.filterMap_cons_some (b:=(b,ob)) (by rw[hb];rfl),OP]at e
    cases q:a == b with
    |true=>rw[q]at e;cases e;rw[eq_of_beq q];exact hb
    |false=>rw[q]at e;exact ih a o e
 exact λa o e=>key _ a o e
variable{K:Frag}{n:Str}{st:ZF}
def Hz(e:obF K n=exF n st):∃f fd,nsIn K OA n=ZA (ZA (.ref f))/\L2.Fun K n n st f fd:=by
 unfold obF at e
 split at e
 ·rename_i f hf
  split at e
  ·rename_i oc od d sl hl
   cases d;unfold exF at e;simp only[Sj,Sx]at e;obtain⟨h1,h2,h3,h4,h5,h6,h7,h8,h9,h10,h11⟩:=e;subst h1 h2 h3 h4 h5 h6 h7 h8 h9;exact⟨f,_,hf,DM hl h10 h11⟩
  ·cases e
 ·cases e
def pF{N:ZE}(e:LF K N n=ZC):nsIn K N n=ZA ZB:=by
 unfold LF at e
 split at e
 ·assumption
 ·cases e
variable{i:Int}
def Jp(e:MJ K n=ZA i):∃t,nsIn K OA n=ZA (ZA (.int i t)):=by
 unfold MJ at e
 split at e
 ·rename_i i' t h;cases e;exact⟨t,h⟩
 ·cases e
def oP:∀{l:List NM},zc l=ZC->l=oa:=by
 intro l e;unfold zc at e
 split at e
 ·simp only[NN,beq_iff_eq]at e
  obtain⟨⟨⟨h1,h2⟩,h3⟩,h4⟩:=e;subst h1 h2 h3 h4;rfl
 ·cases e
variable{C:ZE}
def ix{D:Option ZE}(e:F8 K D n=ZA C):nsIn K OA n=ZA (ZA (.ref C)) ∧
  ∃nm q N bs bm hd sn su ab co dd k0 k1 k2 k3 k5,under D bm=ZC/\K.lookup C=ZA (Pj nm q C N bs bm hd sn su ab co dd k0 k1 k2 k3 k5 "ValueError.__new__")/\∀h:ZH,K.In h->∃mN,h.Ns N mN/\∀n∈calmNames,mN n=ZB:=by
 unfold F8 at e
 split at e
 ·rename_i C' hC
  split at e
  ·rename_i t dd c k0 k1 k2 k3 b k5 hl
   split at e
   ·rename_i E m ob oe es ep oz hm hN
    split at e
    ·rename_i hq
     cases e;simp only[NN,beq_iff_eq,Ur]at hq;obtain⟨⟨⟨⟨⟨⟨h1,h2⟩,h3⟩,h4⟩,h5⟩,h6⟩,h7⟩:=hq
     have z:=Od.mp h5;refine⟨hC,c.name,c.qualname,c.ns,c.bases,m,c.hasDict,c.slotNames,c.subclasses,c.abstract,c.collection,dd,k0,k1,k2,k3,k5,h7,?_,LH hN h4 (pF (z _ (.head _))) (pF (z _ (.tail _ (.head _)))) (pF (z _ (.tail _ (.tail _ (.head _))))) (pF (z _ (.tail _ (.tail _ (.tail _ (.head _))))))⟩
     rw[hl];cases c;simp only at hm h3;subst h1 h2 hm h3 h6
     rfl
    ·cases e
   ·cases e
  ·cases e
 ·cases e
def ox0(e:F8 K ZB n=ZA C):OX K C oa:=by
 obtain⟨_,_,_,_,_,_,_,_,_,_,_,_,_,_,_,_,_,hu,hl,hn⟩:=ix e;cases oP hu;exact F2 hl hn
variable{m:Str}
def Kw{D:ZE}(e:F8 K (ZA D) n=ZA C)(d:F8 K ZB m=ZA D):OX K C (.ref D::oa):=by
 obtain⟨_,_,_,_,_,bm,_,_,_,_,_,_,_,_,_,_,_,hu,hl,hn⟩:=ix e;obtain⟨_,_,_,_,_,_,_,_,_,_,_,_,_,_,_,_,_,hu',hl',hn'⟩:=ix d;cases oP hu';unfold under at hu;simp only at hu
 split at hu
 ·rw[NN]at hu
  cases eq_of_beq hu.1;cases oP hu.2;exact CL hl hn hl' hn'
 ·cases hu
variable{α:Type}
def gI{o:Option α}{r:List (Option α)}{l:List α}(e:yS (o::r)=ZA l):∃a l',o=ZA a/\l=a::l'/\yS r=ZA l':=by
 cases o with
 |none=>cases e
 |some a=>
  unfold yS at e
  split at e
  ·rename_i l' h;cases e;exact⟨a,l',rfl,rfl,h⟩
  ·cases e
def Ey{l:List α}(e:yS ([]:List (Option α))=ZA l):l=[]:=by cases e;rfl
theorem rR:∀{l:List ZE},uu l=ZC->l.Nodup
 |[],_=>.nil
 |a::r,h=>by
  unfold uu at h;rw[NN]at h;refine Og.mpr ⟨λhm=>?_,rR h.2⟩
  have:=Od.mp h.1 a hm
  simp at this
def Jo{es:List Str}(e:MI K (m::es)=ZC):∃D l,F8 K ZB m=ZA D/\yS (es.map (F8 K (ZA D)))=ZA l/\(l++[D]).Nodup:=by
 rw[MI]at e
 split at e
 ·rename_i D hD
  split at e
  ·rename_i l hl;exact⟨D,l,hD,hl,rR e⟩
  ·cases e
 ·cases e
variable{h:ZH}{mg:V0}{ps:List Str}{x:Str}
section
variable {S:EH}{top:Nat->ZF}
theorem mY{α β:Type}{f g:α->β}:∀{l:List α}(j:Nat){a:α},l.map f=l.map g->l[j]?=ZA a->f a=g a
 |[],_,_,_,q=>by cases q
 |b::l,0,a,e,q=>by cases q;exact(List.cons.inj e).1
 |b::l,j+1,a,e,q=>mY (l:=l) j (List.cons.inj e).2 q
def cN(j:Nat){i:Nat}(X:K.In h)(G:h.Ns OA mg)(e:ye S K=xH S top)(q:S.tab[j]?=ZA (n,i))
  (hb:∀(kV doc pm:NM)(an:Option ZE)(cdv ct:NM)(us:List NM),us.length=ps.length->U0 (fnOf n n (gE (top i)) (bD (top i)) (aj (top i)) .none kV doc pm an cdv ct) ⟨us,[]⟩=pure (ps.zip us)):
  ∃f fd,Fn K mg n (top i) ps f fd:=by
 obtain⟨f,fd,h1,h2⟩:=Hz (mY j (congrArg (·.1) e) q)
 exact⟨f,fd,h2,h2.binds hb,mg_of X G h1⟩
def L5(j:Nat){i:Nat}{fa:ZE}(X:K.In h)(G:h.Ns OA mg)(e:ye S K=xH S top)(q:S.tab[j]?=ZA (n,i))(hfa:mg n=ZA (.ref fa))
  (hb:∀(kV doc pm:NM)(an:Option ZE)(cdv ct u:NM),U0 (fnOf n n (gE (top i)) (bD (top i)) (aj (top i)) .none kV doc pm an cdv ct) ⟨[u],[]⟩=pure [(x,u)]):
  ∃fd,Fn K mg n (top i) [x] fa fd/\∀(s:NQ)(u:NM),Sb s fd ⟨[u],[]⟩ [(x,u)]:=by
 obtain⟨f,fd,h1,h2⟩:=Hz (mY j (congrArg (·.1) e) q)
 have z:=hfa.symm.trans (mg_of X G h1);cases z
 have hh:=h2;obtain⟨oc,od,kV,doc,pm,an,cdv,ct,osl,rfl,lk,hcd⟩:=hh.ex;exact⟨_,⟨h2,.all λus hl=>match us,hl with|[u],_=>hb kV doc pm an cdv ct u,mg_of X G h1⟩,λs u=>.of_eq (hb kV doc pm an cdv ct u)⟩
def gn(j:Nat)(X:K.In h)(G:h.Ns OA mg)(e:ye S K=xH S top)(q:S.zs[j]?=ZA n):mg n=ZB:=
 mg_none_of X G (pF (Od.mp (congrArg (·.2.1) e:S.zs.all (LF K OA)=ZC) n (Qo q)))
def se(j:Nat)(X:K.In h)(G:h.Ns OA mg)(e:ye S K=xH S top)(q:S.cs[j]?=ZA (n,i)):∃t,mg n=ZA (.int i t):=by
 obtain⟨t,ht⟩:=Jp (mY (f:=λc=>MJ K c.1) (g:=λc=>ZA c.2) j (congrArg (·.2.2.1) e) q)
 exact⟨t,mg_of X G ht⟩
def Mc(e:ye S K=xH S top):MI K S.es=ZC:=congrArg (·.2.2.2) e
end
variable{loose:List Str}
def left_of{p q:Oa}{Xt:NQ->Bool}{Yf:NQ->α}{Ya:O0->α}{N:Nat}{g0:Bool}
  (e:opening p=plainProg p.main.scope.names) (hN:Nat.ble 600 N=ZC) (f:∀s,fenceModules? p s=ZA s)
  (h:∀(w:O0)(os:Uu),(topFrom treeTable p w N ⟨boot_heap w.params,⟨[]⟩,boot_drawn,boot_toks,os⟩).map (λs=>(openSeen q loose (Ve p.main.body) Xt g0 s,Yf s))=ZA (openGood q loose,Ya w)):
  LeftO p q loose Xt Yf Ya N g0:=λw=>by
 obtain⟨⟨h0,gs,d,k,os⟩,e1,e2⟩:=QC.mp (boot_open e hN f w);simp only[Sx]at e2;obtain⟨rfl,rfl,rfl,rfl⟩:=e2;unfold openEnds;rw[e1];exact h w os
structure Cl (P:Oa)(w:O0)(K:Frag)(mg:V0)(base:ZH)(k:Nat)(x:Str)(n:Nat)(m:List T->Rs T):Prop where
 ex:∃f fd ps,mg x=ZA (.ref f)/\keepIn K (.ref f)=ZC/\Binds K fd ps []/\ps.length=n/\EF P w K mg base k f fd ps n m
abbrev g9(K:Frag)(mg:V0)(x:Str)(st:ZF)(ps:List Str):Prop:=∃f fd,Fn K mg x st ps f fd
variable{P:Oa}{k n:Nat}{w:O0}
section
variable {base:ZH}{N:List Str}{F:V4}
def bK(H:g9 K mg x st ps)(S:aA N ps (aj st))(hn:ps.length=n)
  (hbody:∀(f:ZE)(cdv:NM)(A:Ou)(outer:List Env)(s:NQ)(H:Hp)(E:XK),Room k (A.deeper (envOfC x (aj st) s.heap.objs.size f cdv)) →
   ∀xe,Bh ((gp CX0 P w K mg base N x (aj st) f cdv A outer s H E).FB xe) (bD st) F):Cl P w K mg base (k+1) x n (val n N.length F):=by
 obtain⟨f,fd,h⟩:=H;exact⟨f,fd,ps,h.mg,h.fn.kp,h.bd,hn,sR h.fn S hn (hbody f)⟩
end
variable{X:Cx}{es:List ZG}{g:List T->Rs T}
section
variable {e:ZG}{fs:V3}{pos p:Pos}{k':Nat}
def a6(c:Cl X.prog X.w X.K X.mg X.base k x n g)(hr:Room k' X.A)(ha:QA X (e::es) fs)(hk:k<=k':=by decide)(hl:∀(Z:En)(ts:List T),fs Z=.ok ts->ts.length=n:=by repeat first|exact xp|refine xo ?_)
  (hn:bF (e::es)=ZC:=by rfl) (hg:Gl X x:=by rfl) (h2:eO x:=by decide):QE X (.Call (.Name x p) (e::es) [] pos) (cl g fs):=by
 obtain⟨f,fd,ps,h1,h3,h4,h5,h6⟩:=c.ex;exact zq_c h6 (hr.mono hk) h1 h3 h4 hl ha h5 hn hg h2
def vh(h:∃t,X.mg x=ZA (.int i t))(hg:Gl X x:=by rfl)(hd:eO x:=by decide):QE X (.Name x pos) (cn (.int i)):=by
 obtain⟨t,h⟩:=h;exact EU h ⟨_,rfl⟩ hg hd
end
variable{q:Str}
def Gd(e:LG K C m q=Mp m q st):∃f fd,xq K C m f/\L2.Fun K m q st f fd:=by
 unfold LG at e
 split at e
 ·rename_i f hf
  split at e
  ·rename_i oc od d sl hl
   cases d;unfold Mp at e;simp only[Sj,Sx]at e;obtain⟨h1,h2,h3,h4,h5,h6,h7,h8,h9,h10,h11,h12⟩:=e;subst h1 h2 h3 h4 h5 h6 h7 h8 h9;exact⟨f,_,⟨hf,h12,h11⟩,DM hl h10 h11⟩
  ·cases e
 ·cases e
def Gb{f:Str}(e:Js K C f=ZC):NoAttr K C f:=by
 unfold Js at e
 split at e
 ·assumption
 ·cases e
def Fj(e:Ik K C=ZC):findIn K (.ref C) "__setattr__" =ZA (ZA (.builtin "object.__setattr__")):=by
 unfold Ik at e
 split at e
 ·rename_i b h;rw[h,eq_of_beq e]
 ·cases e
structure rz (K:Frag)(mg:V0)(c:Str):Prop where
 cl:Cls K (bN K c)
 mg:mg c=ZA (.ref (bN K c))
 mks:makesIn K (bN K c)=ZC
 kp:keepIn K (.ref (bN K c))=ZC
abbrev qE(K:Frag)(c m q:Str)(st:ZF)(ps:List Str):Prop:=∃f fd,xq K (bN K c) m f/\L2.Fun K m q st f fd/\Binds K fd ps []
section
variable {top:Nat->ZF}{A:Ha}
def Md(X:K.In h)(G:h.Ns OA mg)(e:obK K A=exK top A):rz K mg A.c/\(∀f∈A.as,NoAttr K (bN K A.c) f)/\A.ms.map (λ(m:Str×Str×Nat)=>LG K (bN K A.c) m.1 m.2.1)=A.ms.map (λ(m:Str×Str×Nat)=>Mp m.1 m.2.1 (dm (top A.i) m.2.2)):=by
 unfold obK at e
 split at e
 ·rename_i C hC
  unfold exK at e;simp only[Sj,Sx]at e;obtain⟨e1,e2⟩:=e
  have hc:bN K A.c=C:=by unfold bN;rw[hC]
  unfold HB at e1;simp only[NN]at e1;obtain⟨⟨⟨⟨⟨⟨h1,h2⟩,h3⟩,h4⟩,h5⟩,h6⟩,h7⟩:=e1;rw[hc];exact⟨⟨by rw[hc];exact⟨h1,h2,h3,Fj h4⟩,by rw[hc];exact mg_of X G hC,by rw[hc];exact h5,by rw[hc];exact h6⟩,λf hf=>Gb (Od.mp h7 f hf),e2⟩
 ·cases e
def jX(j:Nat){i:Nat}(e:A.ms.map (λ(m:Str×Str×Nat)=>LG K (bN K A.c) m.1 m.2.1)=A.ms.map (λ(m:Str×Str×Nat)=>Mp m.1 m.2.1 (dm (top A.i) m.2.2)))(z:A.ms[j]?=ZA (m,q,i))
  (hb:∀(kV doc pm:NM)(an:Option ZE)(cdv ct:NM)(us:List NM),us.length=ps.length->U0 (fnOf m q (gE (dm (top A.i) i)) (bD (dm (top A.i) i)) (aj (dm (top A.i) i)) .none kV doc pm an cdv ct) ⟨us,[]⟩=pure (ps.zip us)):
  qE K A.c m q (dm (top A.i) i) ps:=by
 obtain⟨f,fd,h1,h2⟩:=Gd (mY j e z);exact⟨f,fd,h1,h2,h2.binds hb⟩
end
noncomputable def hookC(S:xy)(top:Nat->ZF):Hook:=
 ⟨_,λs=>CT S (DP s.heap),λ_=>BJ S top,λ_ h=>∃K:Frag,K.In h/\CT S K=BJ S top,λ_ s e=>⟨_,DO s.heap,e⟩,λ_ _ _ ⟨K,a,b⟩ k=>⟨K,a.keeps k,b⟩⟩
def walk_c{l:OpenLaw}{q:Oa}{XP:(V0)->ZH->Prop}{d:DefRec}{S:xy}{top:Nat->ZF}{CX:Bu}{sp:Frag->Sp}
  (hn:l.most=ZA n) (hn2:n<=ZI) (hdf:d.params.defaults=[]) (hr:Room k callerA)
  (F:∀(w:O0)(K:Frag)(mg:V0)(fa:ZE)(h:ZH),K.In h->CT S K=BJ S top->h.Ns OA mg->mg d.name=ZA (.ref fa) →
   ∃fd:Ox,(∀(s:NQ)(u:NM),Sb s fd ⟨[u],[]⟩ [(x,u)])/\∀base:ZH,K.In base->base.Ns OA mg->FnOk l.prog w K mg base CX k fa fd [x] (sp K))
  (hsp:∀(K:Frag)(H:Hp)(a:ZE)(ns:List Int),ns.length<=n->Ku H->SqL K H a (ns.map V.int)->sp K [.ref a] H (λv _=>v=.bl ZC) λ_ _ _=>False)
  (hCX:∀(H:Hp)(s:NQ)(e:NM)(s':NQ),CX [] H s (λ_ _ _=>False) e s'->False):
  WalkO q loose XP (hookC S top).says l.row.toRowW d [] (λf vs=>PySem.call f vs):=by
 refine Att.attach_call hn hdf λw s₀ s₁ mg mb fa o pm cd doc a vs ns G Y ho hd hcd hmg hobj hints hlen hg=>?_
 obtain⟨K,KX,e⟩:=Y;obtain⟨fd,hb,hF⟩:=F w K mg fa _ KX e G.T.g hmg;exact Dg KX G.T.g G.T.b G.T.builtins G.T.nolimit hg hobj hints (OJ hlen hn2) hr hF hb (λH hO hS=>hsp K H a ns hlen hO hS) λH e s'=>hCX H s₁ e s'
structure Ml (P:Oa)(w:O0)(K:Frag)(mg:V0)(base:ZH)(k:Nat)(c m:Str)(g:List T->Rs T):Prop where
 ex:∃f fd ps,xq K (bN K c) m f/\Binds K fd ps []/\ps.length=1/\EF P w K mg base k f fd ps 1 g
structure Mm (P:Oa)(w:O0)(K:Frag)(mg:V0)(base:ZH)(k:Nat)(c m:Str)(n:Nat)(g:List Sl->Rs (T×OT)):Prop where
 ex:∃f fd ps,xq K (bN K c) m f/\Binds K fd ps []/\ps.length=n/\EN P w K mg base k f fd ps n 0 g
structure Ce (P:Oa)(w:O0)(K:Frag)(mg:V0)(base:ZH)(k:Nat)(x:Str)(n j:Nat)(g:List Sl->Rs (T×OT)):Prop where
 ex:∃f fd ps,mg x=ZA (.ref f)/\keepIn K (.ref f)=ZC/\Binds K fd ps []/\ps.length=n/\EN P w K mg base k f fd ps n j g
structure QX (X:Cx)(e:ZG)(f:En->Rs (T×En)):Prop where
 h:Bi X e f
structure Kz (X:Cx)(e:ZG)(f:En->Rs (Bool×En)):Prop where
 h:Kt X e f
structure MN (X:Cx)(e:ZG)(f:En->Rs (Bool×En)):Prop where
 h:My X e f
structure QM (X:Cx)(j:Nat)(e:ZF)(f:En->Rs Fx):Prop where
 h:G6 X j e f
structure Br (X:Cx)(j:Nat)(e:List ZF)(f:En->Rs Fx):Prop where
 h:Bj X j e f
section
variable {base:ZH}{c:Str}{N:List Str}{j:Nat}
def Hn{F:V4}(H:qE K c m q st ps)(S:aA N ps (aj st))(hn:ps.length=1)
  (hbody:∀(f:ZE)(cdv:NM)(A:Ou)(outer:List Env)(s:NQ)(H:Hp)(E:XK),Room k (A.deeper (envOfC q (aj st) s.heap.objs.size f cdv)) →
   ∀xe,Bh ((gp CX0 P w K mg base N q (aj st) f cdv A outer s H E).FB xe) (bD st) F):Ml P w K mg base (k+1) c m (val 1 N.length F):=by
 obtain⟨f,fd,h1,h2,h3⟩:=H;exact⟨f,fd,ps,h1,h3,hn,sR h2 S hn (hbody f)⟩
def rY{F:En->Rs Fx}(H:qE K c m q st ps)(S:aA N ps (aj st))(hn:ps.length=n)
  (hbody:∀(f:ZE)(cdv:NM)(A:Ou)(outer:List Env)(s:NQ)(H:Hp)(E:XK),Room k (A.deeper (envOfC q (aj st) s.heap.objs.size f cdv)) →
   ∀xe,Br ((gp CX0 P w K mg base N q (aj st) f cdv A outer s H E).FB xe) 0 (bD st) F):Mm P w K mg base (k+1) c m n (iJ n 0 N.length F):=by
 obtain⟨f,fd,h1,h2,h3⟩:=H;exact⟨f,fd,ps,h1,h3,hn,DS h2 S hn λcdv A outer s H E hr xe=>(hbody f cdv A outer s H E hr xe).h⟩
def Mw{F:En->Rs Fx}(H:g9 K mg x st ps)(S:aA N ps (aj st))(hn:ps.length=n)
  (hbody:∀(f:ZE)(cdv:NM)(A:Ou)(outer:List Env)(s:NQ)(H:Hp)(E:XK),Room k (A.deeper (envOfC x (aj st) s.heap.objs.size f cdv)) →
   ∀xe,Br ((gp CX0 P w K mg base N x (aj st) f cdv A outer s H E).FB xe) j (bD st) F):Ce P w K mg base (k+1) x n j (iJ n j N.length F):=by
 obtain⟨f,fd,h⟩:=H;exact⟨f,fd,ps,h.mg,h.fn.kp,h.bd,hn,DS h.fn S hn λcdv A outer s H E hr xe=>(hbody f cdv A outer s H E hr xe).h⟩
end
variable{s:ZF}
section
variable {a b e c o:ZG}{bU:List ZG}{fa fb fo:V5}{fs:V3}{pos p p2 p3 p4 apos cpos spos:Pos}{y n cn' f:Str}{k' l j:Nat}{ge:List Sl->Rs (T×OT)}{ex ey:En->Rs (T×En)}{tx ty:En->Rs (Bool×En)}
def sO(h:QE X a fa):QX X a (xP fa):=⟨HW h.h⟩
def Bz(C:rz X.K X.mg m)(hn:NoAttr X.K (bN X.K m) f)(ha:QE X a fa)(hb:Os a f X.env (eval a X.env)=eval a X.env:=by rfl):QE X (.Attribute a f pos) (o1 (yI m f) fa):=⟨Lp C.cl hn ha.h hb⟩
def gx{pl:Sem Bool}(C:rz X.K X.mg n)(M:Ml X.prog X.w X.K X.mg X.base k n m g)(hr:Room k' X.A)(ho:QE X o fo)(hk:k<=k':=by decide)
  (ht:eval (.Call (.Attribute o m apos) [] [] pos) X.env=(do
   let ov <-eval o X.env
   standAt apos.atName
   let (f,first) <-holding [ov] (RW ov m pl)
   Ug pos f first (backTo pos (NY [] X.env)) (R9 pos (QP [] X.env))):=by rfl):QE X (.Call (.Attribute o m apos) [] [] pos) (wC n m g fo ai):=by
 obtain⟨f,fd,ps,h1,h2,h3,h4⟩:=M.ex;exact⟨FL (pl:=pl) C.cl h1 h4 (hr.mono hk) h2 h3 ho.h ht⟩
def HJ(i:Nat)(C:rz X.K X.mg m)(hn:NoAttr X.K (bN X.K m) f)(ha:QE X a fa)(hN:X.N[i]?=ZA x:=by rfl)(hv:lM X.env.scope x:=by first|exact OB rfl|exact Oq (OB rfl)|exact Oq (Oq rfl))(hs:br a=ZC:=by rfl)
  (hb1:Os (.Name x p2) f X.env (eval (.Name x p2) X.env)=eval (.Name x p2) X.env:=by rfl)
  (hbase:Os (.Attribute (.Name x p2) f p3) "append" X.env (eval (.Attribute (.Name x p2) f p3) X.env)=eval (.Attribute (.Name x p2) f p3) X.env:=by rfl) (hline:(apos.endLine == cpos.line)=ZC:=by rfl)
  (hd:eO x:=by decide) (hcd:(x == ("__classdict__" : Str))=ZD:=by decide):QX X (.Call (.Attribute (.Attribute (.Name x p2) f p3) "append" apos) [a] [] cpos) (Ao i m f fa):=⟨KJ i C.cl hn ha.h hN hv hs hb1 hbase hline hd hcd⟩
def HH(i:Nat)(C:rz X.K X.mg m)(hn:NoAttr X.K (bN X.K m) f)(hN:X.N[i]?=ZA x:=by rfl)(hv:lM X.env.scope x:=by first|exact OB rfl|exact Oq (OB rfl)|exact Oq (Oq rfl))
  (hb1:Os (.Name x p2) f X.env (eval (.Name x p2) X.env)=eval (.Name x p2) X.env:=by rfl)
  (hbase:Os (.Attribute (.Name x p2) f p3) "pop" X.env (eval (.Attribute (.Name x p2) f p3) X.env)=eval (.Attribute (.Name x p2) f p3) X.env:=by rfl) (hline:(apos.endLine == cpos.line)=ZC:=by rfl)
  (hd:eO x:=by decide) (hcd:(x == ("__classdict__" : Str))=ZD:=by decide):QX X (.Call (.Attribute (.Attribute (.Name x p2) f p3) "pop" apos) [] [] cpos) (An i m f):=⟨KG i C.cl hn hN hv hb1 hbase hline hd hcd⟩
def JB{fs:V3}(h:∀(Z:En)(ts:List T),fs Z=.ok ts->ts.length=l)(Z:En)(ts:List T)(z:fs Z=.ok ts):ts.length+1=l+1:=congrArg (· +1) (h Z ts z)
def kr{pl:Sem Bool}(i:Nat)(C:rz X.K X.mg n)(M:Mm X.prog X.w X.K X.mg X.base k n m (l+1) ge)(hr:Room k' X.A)(ha:QA X (e::es) fs)(hk:k<=k':=by decide)(hl:∀(Z:En)(ts:List T),fs Z=.ok ts->ts.length=l:=by repeat first|exact xp|refine xo ?_)
  (hN:X.N[i]?=ZA x:=by rfl) (hv:lM X.env.scope x:=by first|exact OB rfl|exact Oq (OB rfl)|exact Oq (Oq rfl)) (hd:eO x:=by decide) (hcd:(x == ("__classdict__" : Str))=ZD:=by decide)
  (hns:bF (e::es)=ZC:=by rfl)
  (ht:eval (.Call (.Attribute (.Name x p2) m apos) (e::es) [] pos) X.env=(do
   let ov <-eval (.Name x p2) X.env
   standAt apos.atName
   let (f,first) <-holding [ov] (RW ov m pl)
   Ug pos f first (backTo pos (NY (e::es) X.env)) (R9 pos (QP [] X.env))):=by rfl):QX X (.Call (.Attribute (.Name x p2) m apos) (e::es) [] pos) (c8 i n m ge fs):=by
 obtain⟨f,fd,ps,h1,h2,h3,h4⟩:=M.ex
 have hn2:br e=ZC/\bF es=ZC:=Pa.mp hns;exact⟨HX (pl:=pl) i C.cl h1 h4 (hr.mono hk) h2 h3 (JB hl) ha.h hN hv hd hcd (bp hn2.1) (eY hn2.2) ht⟩
def Bw{pl:Sem Bool}(i:Nat)(C:rz X.K X.mg n)(M:Mm X.prog X.w X.K X.mg X.base k n m 1 ge)(hr:Room k' X.A)(hk:k<=k':=by decide)
  (hN:X.N[i]?=ZA x:=by rfl) (hv:lM X.env.scope x:=by first|exact OB rfl|exact Oq (OB rfl)|exact Oq (Oq rfl)) (hd:eO x:=by decide) (hcd:(x == ("__classdict__" : Str))=ZD:=by decide)
  (ht:eval (.Call (.Attribute (.Name x p2) m apos) [] [] pos) X.env=(do
   let ov <-eval (.Name x p2) X.env
   standAt apos.atName
   let (f,first) <-holding [ov] (RW ov m pl)
   Ug pos f first (backTo pos (NY [] X.env)) (R9 pos (QP [] X.env))):=by rfl):QX X (.Call (.Attribute (.Name x p2) m apos) [] [] pos) (c8 i n m ge ai):=by
 obtain⟨f,fd,ps,h1,h2,h3,h4⟩:=M.ex;exact⟨EY (pl:=pl) i C.cl h1 h4 (hr.mono hk) h2 h3 hN hv hd hcd ht⟩
def HI(i:Nat)(M:Ce X.prog X.w X.K X.mg X.base k y (l+1) 0 ge)(hr:Room k' X.A)(ha:QA X es fs)(hk:k<=k':=by decide)(hl:∀(Z:En)(ts:List T),fs Z=.ok ts->ts.length=l:=by repeat first|exact xp|refine xo ?_)
  (hN:X.N[i]?=ZA x:=by rfl) (hv:lM X.env.scope x:=by first|exact OB rfl|exact Oq (OB rfl)|exact Oq (Oq rfl)) (hd:eO x:=by decide) (hcd:(x == ("__classdict__" : Str))=ZD:=by decide)
  (hg:Gl X y:=by rfl) (hdb:eO y:=by decide) (hns:bF es=ZC:=by rfl):QX X (.Call (.Name y p) (.Name x p2::es) [] pos) (xE i ge fs):=by
 obtain⟨f,fd,ps,h1,h0,h2,h3,h4⟩:=M.ex;exact⟨KI i h4 (hr.mono hk) h1 h0 h2 h3 (JB hl) ha.h hN hv hd hcd hg hdb rfl (eY hns)⟩
def vf{t:V6}(h:QT X a t):Kz X a (EX t):=⟨EW h.h⟩
def ER{op:Ut}{r:T->T->Rs T}(ho:OpT X (OL op) r)(ha:QX X a ex)(hb:QE X b fb)(hm:Qd op b=ZD:=by rfl):Kz X (.Compare a [op] [b] pos) (HV (EZ r ex fb)):=⟨HU ho ha.h hb.h hm⟩
def EO(ha:Kz X a tx):MN X (.BoolOp .Or [a] pos) tx:=⟨HS ha.h⟩
def Bv(ha:Kz X a tx)(hb:MN X (.BoolOp .Or (b::bU) pos) ty):MN X (.BoolOp .Or (a::b::bU) pos) (sS tx ty):=⟨KD ha.h hb.h⟩
def KA(h:MN X e tx):Kz X e tx:=⟨xt_w h.h⟩
def ET{A C:List ZF}{F G:V4}(hc:Kz X c tx)(ha:Bh X A F)(hb:Bh X C G):QS X (.If c A C pos) (xV tx F G):=⟨IE hc.h ha.h hb.h⟩
def BB:Br X j [] mN:=⟨LQ⟩
def gi{F:En->Rs Fx}(h:QM X j s F):Br X j [s] F:=⟨LP h.h⟩
def lO{ss:List ZF}{F G:En->Rs Fx}(h1:QM X j s F)(h2:Br X j ss G):Br X j (s::ss) (nW F G):=⟨Jx h1.h h2.h⟩
def rB(ha:QX X a ex)(hs:OW a ZB pos.line X.env=pure ZD:=by rfl):QM X j (.Expr a pos) (xA ex):=⟨m_ex ha.h hs⟩
def oO(ha:QX X a ex):QM X j (.Return (ZA a) pos) (lE ex):=⟨LN ha.h⟩
def Hd{t:V6}{A C:List ZF}{F G:En->Rs Fx}(hc:QT X c t)(ha:Br X j A F)(hb:Br X j C G):QM X j (.If c A C pos) (Jy t F G):=⟨m_if hc.h ha.h hb.h⟩
def BE{d:Str}(h:QS X s (xX d)):QM X j s (Gg d):=⟨LU h.h⟩
def HR(i:Nat)(C:rz X.K X.mg m)(hn:NoAttr X.K (bN X.K m) f)(ha:QA X es fs)(hN:X.N[i]?=ZA n:=by rfl)(hv:lM X.env.scope n:=by first|exact OB rfl|exact Oq (OB rfl)|exact Oq (Oq rfl))
  (hd:eO n:=by decide) (hcd:(n == ("__classdict__" : Str))=ZD:=by decide) (hs:OW (.List es p4) (ZA (.Attribute (.Name n p2) f p3)) pos.line X.env=pure ZD:=by rfl):
  QM X j (.Assign [.Attribute (.Name n p2) f p3] (.List es p4) pos) (AN i m f fs):=⟨LS i C.cl hn ha.h hN hv hd hcd hs⟩
def HQ{body suite:List ZF}{b0:ZF}{F:En->Rs Fx}{h:Str->Rs T}{ce:Str}{CE:ZE}{bmE:List NM}(i:Nat){np hpos:Pos}(hN:X.N.Nodup)(hm:X.mg ce=ZA (.ref CE))(OE:OX X.K CE bmE)
  (hb:∀pn xe,Br {X with pn:=pn,xe:=xe} j body F) (hs:mH X i (b0::suite) CE h) (hst:X.stack=X.env::X.outer:=by rfl) (hfe:X.env.frame=ZA X.env.locals:=by rfl) (hcl:∀x c,X.env.cells.lookup x≠ZA c) (hex:X.ex=[]:=by rfl)
  (hi:X.N[i]?=ZA n:=by rfl) (hloc:X.env.scope.names.lookup n=ZA .local:=by rfl) (hg:Gl X ce:=by rfl) (hd:eO ce:=by decide):
  QM X j (.Try body [.ExceptHandler (ZA (.Name ce np)) (ZA n) (b0::suite) hpos] [] [] pos) (wJ F h):=⟨LM hst hfe hcl hex hN hi hloc hm OE (λpn xe=>(hb pn xe).h) hs hg hd⟩
end
end Tr
namespace Tr
open PySem PySem.Spec PyProof.Rows L2
variable{X:Cx}{c:ZG}{f:V6}{pos:Pos}
section
variable {a:ZG}
def x_if{b:ZG}{x y:En->Rs (T×En)}(hc:rn X c f)(ha:Bi X a x)(hb:Bi X b y):Bi X (.IfExp c a b pos) (E5 f x y):=PE.imp (vX hc ha hb) λσ H Q hh_=>by
 obtain⟨Z,B,M,E,h⟩:=hh_;refine⟨Z,OO B M,E.o,?_⟩
 unfold E5 at h
 cases q:f Z with
 |bad=>rw[q]at h;exact h
 |err c=>rw[q]at h;exact h
 |ok k=>
  rw[q,ay]at h;intro H' s
  have E':Ev X.K B M H' Z σ:=E.same s
  cases k with
  |true=>refine L2.iteT ?_;exact⟨Z,B,M,E',PostX.later (by simpa using h) s⟩
  |false=>refine L2.iteF ?_;exact⟨Z,B,M,E',PostX.later (by simpa using h) s⟩
def KC{b:ZG}{x y:En->Rs (T×En)}(hc:QT X c f)(ha:QX X a x)(hb:QX X b y):QX X (.IfExp c a b pos) (E5 f x y):=⟨x_if hc.h ha.h hb.h⟩
end
def Ag(X:Cx)(B P:Ow)(H:Hp)(r:Rs (T ⊕ OT))(D:nt):Prop:=match r with
 |.ok (.inl t)=>∀v H',SameO P H H'->Rep X.K B H' t v->D.rt v H'
 |.ok (.inr o)=>∀v H' m,SameO P H H'->ORep X.K (BM B m) m H' o v->(∀a,m a->P a\/Nw X.K H a)->D.rt v H'
 |.err c=>XA X k8 H c
 |.bad=>False
def tPN(X:Cx)(F:En->Rs (T ⊕ OT)):TS:=λD σ H=>∃Z B M,Ev X.K B M H Z σ/\Ag X B M.u H (F Z) D
abbrev MR(X:Cx)(s:ZF)(F:En->Rs (T ⊕ OT)):Prop:=PS X s (tPN X F)
abbrev MS(X:Cx)(s:List ZF)(F:En->Rs (T ⊕ OT)):Prop:=PSs X s (tPN X F)
variable{H:Hp}{O:Ow}{Q:VK}{b0 st:ZF}{bmE:List NM}{body suite:List ZF}{ce:Str}{e:ZG}{es:List ZG}{f:ZE}{fd:Ox}{h:Str->Rs T}{hpos p spos:Pos}{k n:Nat}{ps:List Str}{σ:L2.St}
section
variable {ol:V2}{s:NQ}{us:List NM}{vs:List V}{ts:List T}{B:Ow}{g:List Sl->Rs (T×OT)}{c:Str}
def Ax(M:Mk X.K (bN X.K c) f)(F:EN X.prog X.w X.K X.mg X.base k f fd ps n 0 g)(hr:Room (k+1) X.A)(hb:Binds X.K fd ps [])(hn:ts.length+1=n)(hps:ps.length=n)(I:Inv X ol σ H s)(r:Vals vs us)(rs:Reps X.K O H ts vs)(mt:∀a,O a->Mtb H a){d:Str}
  (hg:g (.ow (.ob c [] [])::ts.map Sl.va)=.err d) (h:XA X k8 H d):ZJ (ZK X.prog X.w) X.A (call (.ref (bN X.K c)) us) (EP X ol σ Q) X.xe s:=by
 have nk:∀q,s.heap.objs.size<=q->X.K.lookup q=ZB:=λq hq=>by
  cases z:X.K.lookup q with
  |none=>rfl
  |some o=>exact absurd (NZ (I.kIn _ o z)) (Nat.not_lt.mpr hq)
 generalize hp:s.heap.objs.size+1=p
 have np:Nw X.K H p:=⟨I.hok.fresh (by omega),nk p (by omega)⟩
 generalize hd:s.heap.objs.size=dx at hp
 have nd:Nw X.K H dx:=⟨I.hok.fresh (by omega),nk dx (by omega)⟩
 have ne:dx≠p:=by omega
 have sm0:Same H (upd (upd H dx (.own p)) p (.ins (bN X.K c) dx [])):=λb o e=>by
  rw[aB (λz=>by rw[z,np.1]at e;cases e),aB (λz=>by rw[z,nd.1]at e;cases e)];exact e
 have hm:∀a,(λa=>a=p\/a=dx:Ow) a->Nw X.K H a:=λa z=>z.elim (λy=>y▸np) λy=>y▸nd
 have subO:∀a,OO O (one 0 λa=>a=p\/a=dx) a->O a\/Nw X.K H a:=λa z=>(one_oo.mp z).imp_right (hm a)
 have hlen:=rs.length
 have Ea:Ev X.K O (one 0 λa=>a=p\/a=dx) (upd (upd H dx (.own p)) p (.ins (bN X.K c) dx [])) (.ow (.ob c [] [])::ts.map Sl.va) ((V.ref p::vs).map ZA):=by
  refine⟨⟨by simp[hlen],λi t e=>?_,λi o' e=>?_,λi a z=>.inr ⟨i,z⟩,λi k a z1 z2=>?_,λa z=>?_⟩,λa z y=>?_⟩
  ·obtain⟨w,e1,e2⟩:=qg (v0:=V.ref p) rs e
   exact⟨w,by rw[Oe,e1];rfl,(e2.more subO).same sm0⟩
  ·have hi:=qh e
   subst hi;cases e;refine⟨.ref p,rfl,p,dx,[],rfl,λb=>?_,⟨by simp,by simp,ne,by simp⟩,aG,?_,rfl,by simp,rfl⟩
   ·rw[show one 0 (λa=>a=p\/a=dx) 0=_ from Mn.MZ];simp
   ·rw[aB ne];exact aG
  ·unfold one Mn.set at z1 z2
   by_cases h1:i=0
   ·by_cases h2:k=0
    ·rw[h1,h2]
    ·rw[if_neg h2]at z2;exact z2.elim
   ·rw[if_neg h1]at z1;exact z1.elim
  ·rcases one_oo.mp z with y|y|y
   ·exact(mt a y).same sm0
   ·rw[y];exact .inr (.inr ⟨_,aG,rfl⟩)
   ·rw[y];exact .inr (.inr ⟨_,by rw[aB ne];exact aG,rfl⟩)
  ·obtain⟨o,e⟩:=(mt a y).some
   rw[(hm a (one_u.mp z)).1]at e;cases e
 have I2:=Inv.made (C:=bN X.K c) I;rw[hd,hp]at I2
 have r2:Vals (V.ref p::(vs++[])) (N3 p::(us++[])):=.cons rfl (r.append .nil)
 have hl:(N3 p::us++[]).length=ps.length:=by rw[Ol,NU,<-r.length,<-hlen,hps,hn]
 refine Ru (wI (f:=f) I.kIn M.makes M.init (beq_iff_eq.mp M.fn) ?_)
 rw[hd,hp]
 have hb2:=hb _ (N3 p::us) I2.kIn hl;rw[SG]at hb2
 have Ea':Ev X.K O (one 0 λa=>a=p\/a=dx) (upd (upd H dx (.own p)) p (.ins (bN X.K c) dx [])) (.ow (.ob c [] [])::ts.map Sl.va) ((V.ref p::(vs++[])).map ZA):=by rw[Ol];exact Ea
 refine Qe (F.x _ X.stack _ _ ⟨N3 p::us,[]⟩ (N3 p::(us++[])) _ O _ _ d (λr s'=>match r with|.error ev=>X.xe ev s'|_=>False) (hr.make (bN X.K c) us []) (I2.Nc.make (bN X.K c) us []) hb2 r2 Ea' (by simp[hn]) hg λev s' w=>?_) λr s' hq'=>?_
 ·obtain⟨ea,T,C,H',rfl,hmc,ho,hbare,hun,hok,sm2,hea,heo,fl,hT,hTo⟩:=w
  have I3:Inv X ol σ H' s':=I2.M7 ho hun hok hbare (λb z=>absurd z (by simp))
  exact h ol _ _ ⟨ea,ZA T,C,σ,H',rfl,hmc,I3,λb o q _=>sm2 b o (sm0 _ _ q),hea,λhex=>eG I2 hex heo,fl,(λt zt=>by cases zt;exact⟨hT,λhex=>eG I2 hex hTo⟩),λpp hpp=>⟨λzz=>(by have:=(I2.pin pp hpp).1;rw[zz,heo]at this;cases this),λzz=>(by cases zz;have:=(I2.pin pp hpp).1;rw[hTo]at this;cases this)⟩⟩
 ·cases r with
  |error e=>exact hq'
  |ok fl=>exact hq'.elim
def Jv{fs:V3}(M:Mk X.K (bN X.K c) f)(F:EN X.prog X.w X.K X.mg X.base k f fd ps n 0 g)(hr:Room (k+1) X.A)(hm:X.mg c=ZA (.ref (bN X.K c)))(hb:Binds X.K fd ps [])(hps:ps.length=n)
  (hl:∀Z ts,fs Z=.ok ts->ts.length+1=n) (ha:qC X (e::es) fs) (hg:Gl X c:=by rfl) (hdb:eO c:=by decide) (he:NY (e::es) X.env=(ZD,eval e X.env)::NY es X.env:=by rfl) (hpl:(backTo pos (NY es X.env)).any (·.1)=ZD:=by rfl):
  MR X (.Return (ZA (.Call (.Name c p) (e::es) [] pos)) spos) (la c g fs):=by
 let te:TE:=λσ H Q=>∃Z B M',Ev X.K B M' H Z σ/\Ag X B M'.u H (la c g fs Z) {nx:=λ_ _=>False,rt:=Q}
 have pe:PE X (.Call (.Name c p) (e::es) [] pos) te:=by
  intro ol s σ H Q I ⟨Z,B,M',E,h⟩;unfold la at h;refine OG (fS I hg hm ?_ hdb)
  refine PP (h₀:=X.base) I.ok.mod.kin M.kp (bS (ha pos ol s σ H (λvs H2=>∃ts,fs Z=.ok ts/\Same H H2/\Reps X.K (OO B M') H2 ts vs) I ⟨Z,OO B M',E.o,?_⟩) λus s1 ⟨vs,H1,I1,r,ts,q1,sm,rs⟩=>⟨I1.kIn,?_⟩) he hpl
  ·cases z:fs Z with
   |bad=>rw[z]at h;exact h.elim
   |err c=>rw[z]at h;exact h
   |ok ts=>exact λH' s' vs rs=>⟨ts,rfl,s',rs⟩
  ·rw[q1,ay]at h
   cases z:g (.ow (.ob c [] [])::ts.map Sl.va)with
   |bad=>rw[z]at h;exact h.elim
   |err d=>rw[z]at h;exact Ax M F hr hb (hl Z ts q1) hps I1 r rs (E.same sm).env.trk z (XA.later h (SameO.of sm) λ_ z=>z.elim)
   |ok q=>
    rw[z,ay]at h;obtain⟨t,o⟩:=q
    cases t with
    |non=>
     have h':∀v H' m,SameO M'.u H H'->ORep X.K (BM B m) m H' o v->(∀a,m a->M'.u a\/Nw X.K H a)->Q v H':=h;refine Ay M F hr hb (hl Z ts q1) hps I1 r rs (E.same sm).env.trk z λq H' m s' ro hm'=>h' _ H' m (SameO.of (sm.trans s')) ?_ λa w=>.inr (fP sm (hm' a w))
     exact ro.move (P:=k8) (λ_ z=>z.elim) (λa z=>.inl (z.imp_left .inl)) (λb u q _=>q) λ_ _ z=>z
    |_=>exact h.elim
 exact PS.imp (iu pe) λD σ H ⟨Z,B,M',E,h⟩=>⟨Z,B,M',E,by
  cases z:la c g fs Z with
  |bad=>rw[z]at h;exact h
  |err c=>rw[z]at h;exact h
  |ok q=>rw[z]at h;cases q <;> exact h⟩
def LJ{F:En->Rs (T ⊕ OT)}(h:MR X st F):MS X [st] F:=fg h
def LI{F:En->Rs (T ⊕ OT)}{n:Str}{CE:ZE}{i:Nat}{np:Pos}(hst:X.stack=X.env::X.outer)(hfe:X.env.frame=ZA X.env.locals)(hcl:∀x c,X.env.cells.lookup x≠ZA c)(hex:X.ex=[])
  (hN:X.N.Nodup) (hi:X.N[i]?=ZA n) (hloc:X.env.scope.names.lookup n=ZA .local) (hm:X.mg ce=ZA (.ref CE)) (OE:OX X.K CE bmE)
  (hb:∀pn xe,MS {X with pn:=pn,xe:=xe} body F) (hs:mH X i (b0::suite) CE h) (hg:Gl X ce:=by rfl) (hd:eO ce:=by decide):
  MR X (.Try body [.ExceptHandler (ZA (.Name ce np)) (ZA n) (b0::suite) hpos] [] [] pos) (wB F h):=by
 intro ol s σ H D I ⟨Z,B,M,E,hq⟩;refine UY ?_
 unfold wB at hq
 cases q:F Z with
 |bad=>rw[q]at hq;exact hq.elim
 |ok fl=>
  rw[q]at hq;refine Pw (hb X.pn (λ_ _=>False) ol s σ H D (I.FB _) ⟨Z,B,M,E,by rw[q];cases fl <;> exact hq⟩) (λf s1 r=>?_) (λe s1 z=>z.elim)
  cases f with
  |next=>obtain⟨σ7,H7,I7,q7⟩:=r;exact QJ ⟨σ7,H7,I7.FB _,q7⟩
  |ret u=>obtain⟨x7,σ7,H7,I7,r7,q7⟩:=r;exact⟨x7,σ7,H7,I7.FB _,r7,q7⟩
  |brk=>obtain⟨σ7,H7,I7,q7⟩:=r;exact⟨σ7,H7,I7.FB _,q7⟩
  |cont=>obtain⟨σ7,H7,I7,q7⟩:=r;exact⟨σ7,H7,I7.FB _,q7⟩
 |err c=>
  rw[q]at hq
  cases q2:h c with
  |bad=>simp only[q2]at hq;exact hq.elim
  |err c'=>simp only[q2]at hq;exact hq.elim
  |ok t=>
   simp only[q2]at hq
   have hq':∀v H',Same H H'->Rep X.K B H' t v->D.rt v H':=λv H' s' r=>hq v H' (SameO.of s') r
   refine Pw (hb (X.pn++ol) _ [] s σ H {nx:=λ_ _=>False,rt:=λ_ _=>False,bk:=λ_ _=>False,ct:=λ_ _=>False} ((Tr.Inv.Np ol I).FB _) ⟨Z,B,M,E,?_⟩) (λfl s' z=>?_) λ_ _ z=>z
   rotate_left
   ·cases fl with
    |next=>obtain⟨_,_,_,z⟩:=z;exact z.elim
    |cont=>obtain⟨_,_,_,z⟩:=z;exact z.elim
    |brk=>obtain⟨_,_,_,z⟩:=z;exact z.elim
    |ret v=>obtain⟨_,_,_,_,_,z⟩:=z;exact z.elim
   rw[q];intro pins1 ev s1 w;obtain⟨e,T,C,σ1,H1,rfl,hmc,I1,smn,he,heo,fl,hT,hpp⟩:=w
   have sm:Same H H1:=λb o z=>smn b o z λy=>y
   have I1:Inv X ol σ1 H1 s1:=Tr.Inv.Nn (X:=X) I1
   have hpp:∀p∈X.pn++ol,p.1≠e/\T≠ZA p.1:=λp hp=>hpp p (On _ hp)
   have heo:=heo hex
   have hT:∀t,T=ZA t->H1 t=ZB/\X.s₀.heap.get? t=ZB:=λt z=>⟨(hT t z).1,(hT t z).2 hex⟩
   show ZJ _ _ _ _ _ _
   have hfr:X.A.frames=ZA (X.env::X.outer):=by rw[<-hst];exact I1.ok.frames
   have hstk:s1.heap.FunFrames X.base (X.env::X.outer):=by rw[<-hst];exact I1.stack
   refine Hl hfr hstk hfe fl λh' T' g=>?_
   have I2:=Inv.gone I1 hst hfe hcl hex g he heo hT hpp
   have Tn:H1 T'=ZB/\X.s₀.heap.get? T'=ZB/\∀p∈X.pn++ol,p.1≠T':=by
    rcases g.new with z|z
    ·exact⟨(hT T' z).1,(hT T' z).2,λp hp y=>(hpp p hp).2 (by rw[z,y])⟩
    ·exact⟨jM I1 z,eG I1 hex z,λp hp y=>by have:=(I1.pin p hp).1;rw[y,z]at this;cases this⟩
   obtain⟨bm,OC,hin,run⟩:=hs c C t hmc q2;obtain⟨hTe,oe,ev,hoe,hoc,hod,h1,oT,ts,hoT,hdT,h3⟩:=g.flt
   have nfr:∀b o vs,h'.get? b=ZA o->o.data=.fields vs->b∉(X.env::X.outer).filterMap (·.frame):=λb o vs hb hd z=>by
    have:=I2.stack;rw[hst]at this;obtain⟨_,o',ho',hnf⟩:=this.mem z;rw[show h'.get? b=ZA o' from ho']at hb
    cases hb;exact hnf vs hd
   have hel:e≠X.env.locals:=λz=>nfr e oe ev hoe hod (by rw[Pc,hfe];exact z▸NP)
   have hef:e∉X.fs:=λz=>nfr e oe ev hoe hod (by rw[Pc,hfe];exact NL _ z)
   have hcell:∀v,oe.data≠ .cell v:=λv z=>by rw[hod]at z;cases z
   have I3:Inv (uX X e oe) ol σ1 H1 {s1 with heap:=h'}:=oA I2 hoe he hel hef hcell
   refine TK (S9 (fS (X:=uX X e oe) I3 hg hm ?_ hd)) (by intro z;cases z)
   obtain⟨nm,qq,N,bs,hdct,sn,sub,ab,col,dd,k0,k1,k2,k3,k5,mN,hC,_⟩:=OC.at_ h' I3.kIn;obtain⟨nm',qq',N',bs',hdct',sn',sub',ab',col',dd',k0',k1',k2',k3',k5',mN',hD,_,_,TD⟩:=OE.at_ h' I3.kIn;refine rZ hC hD hoe hoc (TD.tail.hasType (by decide)) hin (Se ?_)
   refine Ti hoe hod h1 hoT hdT (O5.mp h3).1 ?_
   generalize hU:h'.update T' (RP (·.setIfInBounds 3 Oz))=h2
   have kp:∀b,b≠T'->h2.get? b=h'.get? b:=λb hb=>by rw[<-hU];exact QB _ _ (O6 hb)
   have hT2:h2.get? T'=ZA (RP (·.setIfInBounds 3 Oz) oT):=by rw[<-hU];exact RD _ hoT (RE (Qb hdT _))
   have hoe2:h2.get? e=ZA oe:=(kp e (O6 hTe)).trans hoe
   have g2:EE ((X.env::X.outer).filterMap (·.frame)) C e (ZA T') h' h2 T':=⟨⟨hTe,oe,ev,hoe2,hoc,hod,h1,_,_,hT2,Qb hdT _,by simp[(O5.mp h3).1]⟩,.inl rfl,λb o _ _ n3 q=>(kp b λz=>n3 (by rw[z])).trans q,λb o m q=>⟨o.slots,(kp b λz=>nfr T' oT ts hoT hdT (z▸m)).trans q⟩⟩
   have I4:Inv X ol σ1 H1 {s1 with heap:=h2}:=Inv.gone (s:={s1 with heap:=h'}) I2 hst hfe hcl hex g2 he heo (λt z=>by cases z;exact⟨Tn.1,Tn.2.1⟩) λp hp=>⟨(hpp p hp).1,λz=>Tn.2.2 p hp (Oy z).symm⟩
   have I5:Inv (uX X e oe) ol σ1 H1 {s1 with heap:=h2}:=oA I4 hoe2 he hel hef hcell
   refine lQ (X:=uX X e oe) (v:=.ref e) I5 hN hi (.inl hloc) rfl (λs3 I6=>?_) (.inr hloc)
   have hil:i<σ1.length:=by
    rw[I1.len];exact(NW.mp hi).1
   refine Pw (run e oe ev hoc hod ol s3 _ H1 B (λv H'=>Same H1 H'/\Rep X.K B H' t v) I6 he (λz=>?_) (by simp[hil]) (λp hp z=>?_) λv H' s' r=>⟨s',r⟩) (λf s4 r=>?_) λ_ _ z=>z.elim
   ·rw[hst]at z
    exact nfr e oe ev hoe hod z
   ·obtain⟨o,ho⟩:=(E.env.trk p (.inl z)).some
    have:=sm p o ho;rw[hp]at this;cases this
   ·cases f with
    |next=>obtain⟨_,_,_,z⟩:=r;exact z.elim
    |brk=>obtain⟨_,_,_,z⟩:=r;exact z.elim
    |cont=>obtain⟨_,_,_,z⟩:=r;exact z.elim
    |ret u=>
     obtain⟨v,σ',H',I7,rv,s',rt⟩:=r;obtain⟨m,hn,_⟩:=I7.loc;refine wpAny_nameGoes (show X.env.kindOf n=ZA .local from hloc) hn (by rw[I.ok.kind];rfl) λh8 m8 hn8 hs8=>?_
     exact⟨v,_,H',Inv.forget (zQ I.ok I7) hcl hn8 hs8,rv,hq' v H' (λb o y=>s' b o (sm b o y)) rt⟩
end
def spS(K:NK)(n:Nat)(g:List T->Rs (T ⊕ OT)):Sp:=λvs H Q _=>∃ts O,Reps K O H ts vs/\(∀a,O a->Mtb H a)/\ts.length=n ∧
 match g ts with
 |.ok (.inl t)=>∀v H',Same H H'->Rep K O H' t v->Q v H'
 |.ok (.inr o)=>∀v H' m,Same H H'->ORep K (BM O m) m H' o v->(∀a,m a->Nw K H a)->Q v H'
 |_=>False
def FnXS(P:Oa)(w:O0)(K:NK)(mg:V0)(base:ZH)(k:Nat)(f:ZE)(fd:Ox)(ps:List Str)(n:Nat)(g:List T->Rs (T ⊕ OT)):Prop:=
 ∀(A:Ou)(outer:List Env)(s:NQ)(H:Hp)(args:Args)(us:List NM)(vs:List V)(O:Ow)(ts:List T)(c:Str)(R:To->NQ->Prop),Room k A->Env0 P w K mg base A outer s H->Sb s fd args (ps.zip us)->Vals vs us →
  Reps K O H ts vs->(∀a,O a->Mtb H a)->ts.length=n->g ts=.err c->(∀ev s',MM P w mg outer H s c ev s'->R (.error ev) s')->ZL (ZK P w) A (.call (.ref f) args) R s
structure FnS (P:Oa)(w:O0)(K:NK)(mg:V0)(base:ZH)(k:Nat)(f:ZE)(fd:Ox)(ps:List Str)(n:Nat)(g:List T->Rs (T ⊕ OT)):Prop where
 h:FnOk P w K mg base CX0 k f fd ps (spS K n g)
 x:FnXS P w K mg base k f fd ps n g
variable{K:NK}{N:List Str}{P:Oa}{g:List T->Rs (T ⊕ OT)}{mg:V0}{w:O0}{x:Str}
section
variable {base:ZH}
def FnS.plain(F:FnS P w K mg base k f fd ps n g):EF P w K mg base k f fd ps n (iw g):=by
 refine⟨F.h.imp λvs H Q E ⟨ts,O,h1,h2,h3,h4⟩=>⟨ts,O,h1,h2,h3,?_⟩,λA outer s H args us vs O ts c R hr e0 hb r rs mt hl hg hR=>F.x A outer s H args us vs O ts c R hr e0 hb r rs mt hl ?_ hR⟩
 ·unfold iw at h4
  cases z:g ts with
  |bad=>rw[z]at h4;exact h4
  |err c=>rw[z]at h4;exact h4
  |ok q=>rw[z]at h4;cases q <;> first|exact h4|exact h4.elim
 ·unfold iw at hg
  cases z:g ts with
  |bad=>rw[z]at hg;cases hg
  |err c'=>rw[z]at hg;cases hg;rfl
  |ok q=>rw[z]at hg;cases q <;> cases hg
def J0{qual:Str}{F:En->Rs (T ⊕ OT)}(Fn:L2.Fun K x qual st f fd)(S:aA N ps (aj st))(hn:ps.length=n)
  (hbody:∀(cdv:NM)(A:Ou)(outer:List Env)(s:NQ)(H:Hp)(E:XK),Room k (A.deeper (envOfC qual (aj st) s.heap.objs.size f cdv)) →
   ∀xe,MS ((gp CX0 P w K mg base N qual (aj st) f cdv A outer s H E).FB xe) (bD st) F):FnS P w K mg base (k+1) f fd ps n (xG n N.length F):=by
 have hpl:ps.length<=N.length:=by have:=congrArg O7 S.pre;rw[OY]at this;omega
 have no:∀a,¬noM.u a:=λa ⟨_,z⟩=>z
 refine⟨Fn.ok S (λvs H Q E h=>?_) (λcdv A outer s H vs Q E hr h=>?_),λA outer s H args us vs O ts c R hr e0 hb r rs mt hl hg hR=>?_⟩
 ·obtain⟨ts,O,r,_,hl,_⟩:=h
  rw[<-r.length,hl,hn]
 ·obtain⟨ts,O,r,trk,hl,h⟩:=h
  refine⟨_,hbody cdv A outer s H E hr _,aQ N.length ts,O,noM,kx r (by omega) trk,?_⟩
  unfold xG at h;rw[if_pos hl]at h
  cases q:F (aQ N.length ts)with
  |bad=>rw[q]at h;exact h.elim
  |err c=>rw[q]at h;exact h.elim
  |ok z=>
   rw[q]at h
   cases z with
   |inl t=>exact λv H' s' r'=>h v H' (λb o e=>s' b o e (no b)) r'
   |inr o=>exact λv H' m s' ro hm=>h v H' m (λb o e=>s' b o e (no b)) ro λa z=>(hm a z).elim (λw=>(no a w).elim) id
 ·refine zS Fn S hr e0 hb r (by rw[<-rs.length,hl,hn]) hR λcdv hr' xe=>⟨_,hbody cdv A outer s H E0 hr' xe,λxa=>⟨aQ N.length ts,O,noM,kx rs (by omega) mt,?_⟩⟩
  unfold xG at hg;rw[if_pos hl]at hg;rw[hg];exact xa
end
variable{p3:Pos}
section
variable {fs:V3}{n0:Str}
def Ck(i:Nat)(F:FnS X.prog X.w X.K X.mg X.base k f fd ps n g)(hr:Room k X.A)(hm:X.mg x=ZA (.ref f))(hk:PL X.K (.ref f)=ZC)(hb:Binds X.K fd ps [])(hps:ps.length=n)(hl:∀Z ts,fs Z=.ok ts->ts.length=n)(hN:X.N.Nodup)(ha:qC X (e::es) fs)
  (hi:X.N[i]?=ZA n0:=by rfl) (hx:Loc X.env.scope n0:=by first|exact OB rfl|exact Oq rfl) (hs:OW (.Call (.Name x p) (e::es) [] pos) (ZA (.Name n0 p3)) spos.line X.env=pure ZD:=by rfl) (hf:X.fn n0=ZC\/X.env.scope.names.lookup n0=ZA .local:=by first|exact .inl rfl|exact .inr rfl|assumption)
  (hg:Gl X x:=by rfl) (hdb:eO x:=by decide) (he:NY (e::es) X.env=(ZD,eval e X.env)::NY es X.env:=by rfl) (hpl:(backTo pos (NY es X.env)).any (·.1)=ZD:=by rfl):
  oJ X (.Assign [.Name n0 p3] (.Call (.Name x p) (e::es) [] pos) spos) (jK i g fs):=by
 let te:TE:=λσ H Q=>∃Z B M,Ev X.K B M H Z σ/\Ag X (OO B M) k8 H (fs Z >>= g) {nx:=λ_ _=>False,rt:=Q}
 have pe:PE X (.Call (.Name x p) (e::es) [] pos) te:=by
  intro ol s σ H Q I ⟨Z,B,M,E,h⟩;refine OG (fS I hg hm ?_ hdb)
  refine PP (h₀:=X.base) I.ok.mod.kin hk (bS (ha pos ol s σ H (λvs H2=>∃ts,fs Z=.ok ts/\Same H H2/\Reps X.K (OO B M) H2 ts vs) I ⟨Z,OO B M,E.o,?_⟩) λus s1 ⟨vs,H1,I1,r,ts,q1,sm,rs⟩=>⟨I1.kIn,?_⟩) he hpl
  ·cases z:fs Z with
   |bad=>rw[z]at h;exact h.elim
   |err c=>rw[z]at h;exact h
   |ok ts=>exact λH' s' vs rs=>⟨ts,rfl,s',rs⟩
  ·rw[q1,ay]at h
   have mt:=(E.same sm).env.trk
   cases z:g ts with
   |bad=>rw[z]at h;exact h.elim
   |err c=>
    rw[z]at h
    have hlen:us.length=ps.length:=by rw[<-r.length,<-rs.length,hl Z ts q1,hps]
    have hb':=hb s1 us I1.kIn (by rw[Ol];exact hlen)
    rw[Ol]at hb';refine Ru (Qe (F.x X.A X.stack s1 H1 ⟨us,[]⟩ us vs (OO B M) ts c (λr s'=>match r with|.error ev=>X.xe ev s'|_=>False) hr I1.Nc hb' r rs mt (hl Z ts q1) z λev s' w=>?_) λr s' hq=>?_)
    ·obtain⟨ea,T,C,H',rfl,hmc,ho,hbare,hun,hok,sm2,hea,heo,fl,hT,hTo⟩:=w
     have I2:Inv X ol σ H' s':=I1.M7 ho hun hok hbare (λb z=>absurd z (by simp))
     exact h ol _ _ ⟨ea,ZA T,C,σ,H',rfl,hmc,I2,λb o q _=>sm2 b o (sm b o q),hea,λhex=>eG I1 hex heo,fl,(λt zt=>by cases zt;exact⟨hT,λhex=>eG I1 hex hTo⟩),λpp hpp=>⟨λzz=>(by have:=(I1.pin pp hpp).1;rw[zz,heo]at this;cases this),λzz=>(by cases zz;have:=(I1.pin pp hpp).1;rw[hTo]at this;cases this)⟩⟩
    ·cases r with
     |error ev=>exact hq
     |ok fl=>exact hq.elim
   |ok q=>
    rw[z]at h;refine tJ (E:=E0) (dvs:=[]) (ds:=[]) F.h hr hb .nil v3 I1 r ⟨ts,OO B M,by simpa using rs,mt,hl Z ts q1,?_⟩
    rw[z]
    cases q with
    |inl t=>exact λv H' s' r'=>h v H' (SameO.of (sm.trans s')) r'
    |inr o=>exact λv H' m s' ro hm'=>h v H' m (SameO.of (sm.trans s')) ro λa w=>.inr (fP sm (hm' a w))
 refine PS.imp (mO hN hi hx pe hs hf) λD σ H ⟨Z,B,M,E,h⟩=>⟨Z,B,M,E,?_⟩
 unfold jK at h
 cases z:fs Z with
 |bad=>rw[z]at h;exact h
 |err c=>rw[z]at h;exact PostF.xa h
 |ok ts=>
  rw[z,ay]at h
  show Ag X (OO B M) k8 H (g ts) _
  cases z2:g ts with
  |bad=>rw[z2]at h;exact h
  |err c=>rw[z2]at h;exact PostF.xa h
  |ok q=>
   rw[z2,ay]at h
   by_cases hl:i<Z.length
   ·rw[if_pos hl]at h
    cases q with
    |inl t=>
     intro v H' s' r
     have s':Same H H':=λb o e=>s' b o e λz=>z
     exact h _ H' M (SameO.of s') ⟨(E.env.same s').set hl r,E.mine⟩ λa z=>.inl z
    |inr o=>
     intro v H' m s' ro hm'
     have s':Same H H':=λb o e=>s' b o e λz=>z
     obtain⟨E2,sub⟩:=E.new (m:=m) (o:=o) (v:=v) hl (λa w=>(hm' a w).elim (λy=>y.elim) id) s' (ro.move (P:=k8) (λ_ z=>z.elim) (λa z=>.inl (z.elim (λw=>.inl (.inl w)) λw=>(Mn.KF w).elim .inr λy=>.inl (.inr y))) (λb u q _=>q) λ_ _ z=>z)
     exact h _ _ _ (SameO.of s') E2 sub
   ·rw[if_neg hl]at h;exact h.elim
end
variable{f:V6}
section
variable {j:Nat}
def LR{A bU:List ZF}{F G:En->Rs Fx}(hc:rn X c f)(ha:Bj X j A F)(hr:Bj X j bU G):Bj X j (.If c A [] pos::bU) (pP f F G):=PSs.imp (iP (vU hc ha oj) hr) λD σ H hh_=>by
 obtain⟨Z,B,M,E,h⟩:=hh_;refine⟨Z,OO B M,E.o,?_⟩
 unfold pP at h
 cases q:f Z with
 |bad=>rw[q]at h;exact h.elim
 |err c=>rw[q]at h;exact h
 |ok k=>
  rw[q,ay]at h;intro H' s
  have E':Ev X.K B M H' Z σ:=E.same s
  cases k with
  |true=>
   refine L2.iteT ⟨Z,B,M,E',?_⟩
   replace h:PostM X B M.u j σ H (MK (F Z)) D:=by simpa using h
   have h:=PostM.same h s
   cases z:F Z with
   |bad=>rw[z]at h;exact h
   |err c=>rw[z]at h;exact h
   |ok fl=>
    rw[z]at h
    cases fl with
    |nx Z'=>exact h.elim
    |rt t Z'=>exact h
  |false=>
   refine L2.iteF ?_
   exact⟨Z,B,M,E',PostM.same (by simpa using h) s⟩
def BD{A bU:List ZF}{F G:En->Rs Fx}(hc:QT X c f)(ha:Br X j A F)(hr:Br X j bU G):Br X j (.If c A [] pos::bU) (pP f F G):=⟨LR hc.h ha.h hr.h⟩
end
structure QN (X:Cx)(e:ZF)(f:En->Rs (T ⊕ OT)):Prop where
 h:MR X e f
structure QNs (X:Cx)(e:List ZF)(f:En->Rs (T ⊕ OT)):Prop where
 h:MS X e f
structure Cs_ (P:Oa)(w:O0)(K:NK)(mg:V0)(base:ZH)(k:Nat)(x:Str)(n:Nat)(g:List T->Rs (T ⊕ OT)):Prop where
 ex:∃f fd ps,mg x=ZA (.ref f)/\PL K (.ref f)=ZC/\Binds K fd ps []/\ps.length=n/\FnS P w K mg base k f fd ps n g
def Cs_.cl{base:ZH}(c:Cs_ P w K mg base k x n g):Cl P w K mg base k x n (iw g):=by
 obtain⟨f,fd,ps,h1,h2,h3,h4,h5⟩:=c.ex;exact⟨f,fd,ps,h1,h2,h3,h4,h5.plain⟩
def Mv{base:ZH}{F:En->Rs (T ⊕ OT)}(H:g9 K mg x st ps)(S:aA N ps (aj st))(hn:ps.length=n)
  (hbody:∀(f:ZE)(cdv:NM)(A:Ou)(outer:List Env)(s:NQ)(H:Hp)(E:XK),Room k (A.deeper (envOfC x (aj st) s.heap.objs.size f cdv)) →
   ∀xe,QNs ((gp CX0 P w K mg base N x (aj st) f cdv A outer s H E).FB xe) (bD st) F):Cs_ P w K mg base (k+1) x n (xG n N.length F):=by
 obtain⟨f,fd,h⟩:=H;exact⟨f,fd,ps,h.mg,h.fn.kp,h.bd,hn,J0 h.fn S hn λcdv A outer s H E hr xe=>(hbody f cdv A outer s H E hr xe).h⟩
section
variable {fs:V3}{n m:Str}{k' l:Nat}{ge:List Sl->Rs (T×OT)}
def BA{s:ZF}{F:En->Rs (T ⊕ OT)}(h:QN X s F):QNs X [s] F:=⟨LJ h.h⟩
def EV(C:rz X.K X.mg m)(M:Mm X.prog X.w X.K X.mg X.base k m "__init__" (l+1) ge)(hr:Room k' X.A)(ha:QA X (e::es) fs)(hk:k+1<=k':=by decide)(hl:∀(Z:En)(ts:List T),fs Z=.ok ts->ts.length=l:=by repeat first|exact xp|refine xo ?_)
  (hg:Gl X m:=by rfl) (hdb:eO m:=by decide) (hns:bF (e::es)=ZC:=by rfl):QN X (.Return (ZA (.Call (.Name m p) (e::es) [] pos)) spos) (la m ge fs):=by
 obtain⟨f,fd,ps,h1,h2,h3,h4⟩:=M.ex
 have hn2:br e=ZC/\bF es=ZC:=Pa.mp hns;exact⟨Jv ⟨C.mks,h1.at_,h1.fn,C.kp⟩ h4 (hr.mono hk) C.mg h2 h3 (JB hl) ha.h hg hdb (bp hn2.1) (eY hn2.2)⟩
def HP{F:En->Rs (T ⊕ OT)}{CE:ZE}(i:Nat){np:Pos}(hN:X.N.Nodup)(hm:X.mg ce=ZA (.ref CE))(OE:OX X.K CE bmE)
  (hb:∀pn xe,QNs {X with pn:=pn,xe:=xe} body F) (hs:mH X i (b0::suite) CE h) (hst:X.stack=X.env::X.outer:=by rfl) (hfe:X.env.frame=ZA X.env.locals:=by rfl) (hcl:∀x c,X.env.cells.lookup x≠ZA c) (hex:X.ex=[]:=by rfl)
  (hi:X.N[i]?=ZA n:=by rfl) (hloc:X.env.scope.names.lookup n=ZA .local:=by rfl) (hg:Gl X ce:=by rfl) (hd:eO ce:=by decide):
  QN X (.Try body [.ExceptHandler (ZA (.Name ce np)) (ZA n) (b0::suite) hpos] [] [] pos) (wB F h):=⟨LI hst hfe hcl hex hN hi hloc hm OE (λpn xe=>(hb pn xe).h) hs hg hd⟩
def Al(i:Nat)(hN:X.N.Nodup)(c:Cs_ X.prog X.w X.K X.mg X.base k x l g)(hr:Room k' X.A)(ha:QA X (e::es) fs)(hk:k<=k':=by decide)(hl:∀(Z:En)(ts:List T),fs Z=.ok ts->ts.length=l:=by repeat first|exact xp|refine xo ?_)
  (hi:X.N[i]?=ZA n:=by rfl) (hx:Loc X.env.scope n:=by first|exact OB rfl|exact Oq rfl) (hs:OW (.Call (.Name x p) (e::es) [] pos) (ZA (.Name n p3)) spos.line X.env=pure ZD:=by rfl) (hf:X.fn n=ZC\/X.env.scope.names.lookup n=ZA .local:=by first|exact .inl rfl|exact .inr rfl|assumption)
  (hg:Gl X x:=by rfl) (hdb:eO x:=by decide) (hns:bF (e::es)=ZC:=by rfl):QS X (.Assign [.Name n p3] (.Call (.Name x p) (e::es) [] pos) spos) (jK i g fs):=by
 obtain⟨f,fd,ps,h1,h2,h3,h4,h5⟩:=c.ex
 have hn2:br e=ZC/\bF es=ZC:=Pa.mp hns;exact⟨Ck i (FnS.mk (h5.h.mono hk) λA outer s H args us vs O ts c R hr=>h5.x A outer s H args us vs O ts c R (hr.mono hk)) hr h1 h2 h3 h4 hl hN ha.h hi hx hs hf hg hdb (bp hn2.1) (eY hn2.2)⟩
end
theorem PairsAt.snoc{H:Hp}{b kb:ZE}{p:List Key×V}(h1:H b=ZA (.tup [.ref kb,p.2]))(h2:H kb=ZA (.tup (p.1.map kV))):∀{xs:List V}{ps:List (List Key×V)},PairsAt H xs ps->PairsAt H (xs++[.ref b]) (ps++[p])
 |[],_,h=>by
  unfold PairsAt at h;subst h
  exact⟨b,kb,p,[],rfl,rfl,h1,h2,rfl⟩
 |x::xs,_,⟨b',kb',p',r,e1,e2,e3,e4,e5⟩=>by
  subst e1;exact⟨b',kb',p',r++[p],rfl,e2,e3,e4,e5.snoc h1 h2⟩
theorem PairsAt.move{H H':Hp}{D:ZE}{zs:List V}(hD:H D=ZA (.lst zs))(s:SameO (λa=>a=D) H H'):∀{xs:List V}{ps:List (List Key×V)},PairsAt H xs ps->PairsAt H' xs ps
 |[],_,h=>h
 |x::xs,_,⟨b,kb,p,r,e1,e2,e3,e4,e5⟩=>⟨b,kb,p,r,e1,e2,s _ _ e3 (jR e3 hD (λz=>nomatch z)),s _ _ e4 (jR e4 hD (λz=>nomatch z)),e5.move hD s⟩
theorem PairsAt.len{H:Hp}:∀{xs:List V}{ps:List (List Key×V)},PairsAt H xs ps->xs.length=ps.length
 |[],_,h=>by unfold PairsAt at h;subst h;rfl
 |x::xs,_,⟨b,kb,p,r,e1,e2,e3,e4,e5⟩=>by subst e1;rw[NU,NU,e5.len]
variable{Z:En}{kk:List (List Key)}{l:List T}
def wL{src:List (Option Nat)}{wi:TI}{te:TE}(E:EnvO X.K O H Z σ)(hwi:∀R,(∀H1,Same H H1->∀J,MW X.K O H1 l J->R J H1)->wi σ H R)(hz:l.length<=1000)(hk:l.map keyOf=kk.map ZA)(hs:0<src.length)
  (Acc:Hp->ZE->List V->Prop) (a0:∀H1 D,Same H H1->Nw X.K H1 D->Acc (upd H1 D (.lst [])) D [])
  (am:∀H1 H2 D vs ys,Acc H1 D vs->H1 D=ZA (.lst ys)->SameO (λa=>a=D) H1 H2->Acc H2 D vs)
  (hte:∀t∈l,∀σ' H' O' D vs ys (Q':VK),EnvM X.K O' noM H' ((b8 src Z).set 0 (.va t)) σ'->Acc H' D vs->H' D=ZA (.lst ys)->(∀v H'',Same H' H''->Acc H'' D (vs++[v])->Q' v H'')->te σ' H' Q')
  (hq:∀H1 D ys ps H',Same H H1->Nw X.K H1 D->Same H1 H'->H' D=ZA (.lst ys)->PairsAt H' ys ps->ps.map (·.1)=kk->Acc H' D (ps.map (·.2))->Q (.ref D) H'):
  Ih X.K wi src (BO X (gN 0)) vz (Fb (hV (oR 0) (hV te vB))) σ H Q:=by
 refine hwi _ λH1 s1 J hJ D hD hK=>?_
 have nD:Nw X.K H1 D:=⟨hD,hK⟩
 have E1:=E.same s1
 have lk:l.length=kk.length:=by have:=congrArg O7 hk;rwa [NR,NR]at this
 have hlen:0<(b8 src Z).length:=by unfold b8;rw[NR];exact hs
 let O':Ow:=λa=>O a\/a=D
 have subO:∀a,O' a->O a\/Nw X.K H1 a:=λa z=>z.elim .inl λw=>.inr (w▸nD)
 refine⟨λi m σ' ys H'=>m=l.length - i/\i<=l.length/\ys.length=i/\H' D=ZA (.lst ys)/\SameO (λa=>a=D) (upd H1 D (.lst [])) H' ∧
  ∃s0 ps,EnvM X.K O' noM H' ((b8 src Z).set 0 s0) σ'/\PairsAt H' ys ps/\ps.map (·.1)=kk.take i/\Acc H' D (ps.map (·.2)),⟨l.length,?_⟩,?_⟩
 ·have sN:Same H1 (upd H1 D (.lst [])):=bj hD _
  refine⟨by omega,Qk _,rfl,aG,λb o e _=>e,(b8 src Z)[0],[],?_,rfl,rfl,a0 H1 D s1 nD⟩
  rw[SU]
  exact(wM E1 src).move (P:=λa=>a=D) (λa z=>.inr (z▸nD)) subO (λb o e _=>sN b o e) λa z=>by
   rcases z with z|z
   ·exact(E1.mtb a z).same sN
   ·rw[z];exact .inl ⟨_,aG⟩
 ·rintro i m σ' ys H' ⟨rfl,hi',hyl,hDl,hsm,s0,ps,E',hp,hkk,hacc⟩
  refine⟨hDl,?_⟩
  have sm1:SameO (λa=>a=D) H1 H':=λb o e nb=>hsm b o (by rw[aB nb];exact e) nb
  have it:=hJ (λa=>a=D) O' (λa z=>.inr (z▸nD)) subO i H' sm1 (λa z=>(E'.trk a z).some)
  by_cases hlt:i<l.length
  ·refine .inr ?_
   obtain⟨go,yl⟩:=it.2 l[i] (by simp)
   refine⟨go,by rw[hyl,QK];omega,λxx Hc y=>?_⟩
   obtain⟨sc,rx⟩:=yl xx Hc y
   have Ec:=E'.same sc
   have eg:gN 0 l[i] ((b8 src Z).set 0 s0)=.ok ((b8 src Z).set 0 (.va l[i])):=by unfold gN;rw[if_pos (by rw[Pe];exact hlen),UJ]
   refine⟨(b8 src Z).set 0 s0,O',noM,l[i],Ec,rx,?_⟩
   rw[eg];intro σ1 Eg;unfold vz
   dsimp only
   rw[if_pos rfl];obtain⟨kv,ekv,rkv⟩:=Eg.val 0 l[i] (by rw[Oh hlen])
   refine⟨kv,ekv,?_⟩
   have aC:Acc Hc D (ps.map (·.2)):=am H' Hc D _ ys hacc hDl λb o e _=>sc b o e
   have DC:Hc D=ZA (.lst ys):=sc _ _ hDl;refine hte l[i] (Px hlt) σ1 Hc O' D _ ys _ Eg aC DC λv H4 s4 acc4=>⟨by show 2<=ZI;rw[QK];omega,λp hpn=>?_⟩
   have D4:H4 D=ZA (.lst ys):=s4 _ _ DC
   have pD:p≠D:=λz=>by rw[z,D4]at hpn;cases hpn
   have E4:=Eg.same s4
   have ki:kk[i]'(by omega)=kk[i]'(by omega):=rfl
   have hki:keyOf l[i]=ZA (kk[i]'(by omega)):=by
    have:=congrArg (λz=>z[i]?) hk
    simp only[Oe,N9 hlt,N9 (show i<kk.length by omega),Vb]at this
    exact Oy this
   obtain⟨kb,rfl,hkb⟩:=jb hki (rkv.same s4)
   have s46:SameO (λa=>a=D) H4 (upd (upd H4 p (.tup [.ref kb,v])) D (.lst (ys++[.ref p]))):=λb o e nb=>by
    rw[aB nb,aB (λz=>by rw[z,hpn]at e;cases e)];exact e
   refine⟨by rw[aB (O6 pD)];exact D4,l.length - (i+1),by omega,rfl,hlt,?_,aG,λb o e nb=>s46 b o (s4 _ _ (sc _ _ (hsm b o e nb))) nb,.va l[i],ps++[(kk[i]'(by omega),v)],?_,?_,?_,?_⟩
   ·rw[NV,hyl];rfl
   ·exact E4.move (λa z=>.inl (.inr z)) (λa z=>.inl z) s46 λaa z=>by
     by_cases hz:aa=D
     ·rw[hz];exact .inl ⟨_,aG⟩
     ·exact(E4.trk aa z).at λo e=>s46 _ _ e hz
   ·refine((hp.same (sc.trans s4)).move D4 s46).snoc (kb:=kb) (p:=(kk[i]'(by omega),v)) ?_ ?_
    ·rw[aB pD,aG]
    ·exact s46 _ _ hkb (jR hkb D4 (λz=>nomatch z))
   ·rw[O8,hkk]
    show kk.take i++[kk[i]'(by omega)]=kk.take (i+1)
    rw[List.take_append_getElem]
   ·rw[O8]
    exact am H4 _ D _ ys acc4 D4 s46
  ·refine .inl ⟨it.1 (by omega),?_⟩
   have sF:Same H1 H':=λb o e=>sm1 b o e λz=>by rw[z,hD]at e;cases e
   exact hq H1 D ys ps H' s1 nD sF hDl hp (by rw[hkk,SJ (by omega)]) hacc
def sX(K:NK)(t:TE):TE:=λσ H Q=>t σ H λv H'=>∃a xs ps,v=.ref a/\H' a=ZA (.lst xs)/\xs.length<=1000/\PairsAt H' xs ps/\∀q,Nw K H' q->Q (.ref q) (upd H' q (.dT (fD [] ps)))
def vY{t:TE}(hu:X.A.units+8<cLine)(hc:X.calm=ZC)(hm:X.mg "dict" =ZB)(ha:PE X e t)(hg:Gl X "dict")(hs:br e=ZC):PE X (.Call (.Name "dict" p) [e] [] pos) (sX X.K t):=by
 have h1:NY [e] X.env=(ZD,eval e X.env)::NY [] X.env:=bp hs;intro ol s σ H Q I hq;refine OG (gU I hg hm (show OK "dict" =ZA (.type "dict")by decide+kernel) ?_ (by decide) (by decide))
 refine Pb (bS (bq (te:=t) ha dH h1 pos ol s σ H (λzs H'=>match zs with|[v] =>∃a xs ps,v=.ref a/\H' a=ZA (.lst xs)/\xs.length<=1000/\PairsAt H' xs ps/\∀q,Nw X.K H' q->Q (.ref q) (upd H' q (.dT (fD [] ps)))|_=>False) I ?_) λus s1 hh=>?_) h1 rfl
 ·exact hq
 ·obtain⟨vs,H1,I1,r1,hv⟩:=hh
  match vs,hv,r1 with
  |[v],hv,r1=>
  obtain⟨a,xs,ps,ev,e1,e2,e3,e4⟩:=hv;subst ev;obtain⟨u,rfl,ru⟩:=r1.one;obtain rfl:u=N3 a:=ru;exact xh (I1.ok.hd hc) hu I1 e1 e2 e3 λq s' nw I'=>⟨.ref q,_,I',rfl,e4 q nw⟩
theorem mM:∀(ps kvs:List (List Key×V)),((kvs++ps).map (·.1)).Nodup->fD kvs ps=kvs++ps
 |[],kvs,_=>by rw[fD,Ol]
 |p::ps,kvs,h=>by
  have e:dG kvs p.1 p.2=kvs++[p]:=by
   unfold dG;rw[if_neg];intro z;obtain⟨q,hq,e⟩:=RJ.mp z
   have e:=of_decide_eq_true e;rw[O8,OQ]at h;exact h.2.2 q.1 (Om.mpr ⟨q,hq,rfl⟩) p.1 (by simp) e
  rw[fD,e,mM ps (kvs++[p]) (by rw[Oo];exact h),Oo]
  rfl
def gR(kk:List (List Key)):List (List Key×V):=kk.map λk=>(k,V.non)
def Im:∀{ps:List (List Key×V)},ps.map (·.1)=kk->(∀v∈ps.map (·.2),v=V.non)->ps=gR kk:=by
 intro ps h1 h2;subst h1;unfold gR;rw[PY]
 conv=>lhs;rw[<-Tz ps]
 exact OV λp hp=>Prod.ext rfl (h2 p.2 (Om.mpr ⟨p,hp,rfl⟩))
variable{N':List Str}{sc:Q8}
def tPI0(K:NK)(f:V3):TI:=λσ H R=>∃Z O,EnvO K O H Z σ/\match f Z with
 |.ok ts=>∀H',Same H H'->∀J,MW K O H' ts J->R J H'
 |_=>False
def tPI0.up{f:V3}{R:It->Hp->Prop}(h:tPI0 X.K f σ H R):MF X f σ H R:=by
 obtain⟨Z,O,E,h⟩:=h;refine⟨Z,O,E,?_⟩
 cases q:f Z with
 |ok t=>rw[q]at h;exact h
 |err c=>rw[q]at h;exact h.elim
 |bad=>rw[q]at h;exact h.elim
def xN(X:Cx)(src:List (Option Nat)):TE:=sX X.K (Ih X.K (tPI0 X.K (iS (vr 1))) src (BO X (gN 0)) vz (Fb (hV (oR 0) (hV (tC .non) vB))))
def Ja{eb tb ib:ZG}{q1 pc lp:Pos}{jj:Nat}{src:List (Option Nat)}{x1}(hu:X.A.units+8<cLine)(hc:X.calm=ZC)(hm:X.mg "dict" =ZB)(hg:Gl X "dict")(S:LcScope X sc N' src)(hi:Bs X tb ib (iS (vr 1)))
  (blk:∀cl C s₀ H₀ fp,EM (cm X sc cl N' C s₀ H₀ fp) tb (gN 0)/\PE (cm X sc cl N' C s₀ H₀ fp) eb (oR 0)/\br eb=ZC) (hs:∀x,OS ib X.env x=pure x):
  PE X (.Call (.Name "dict" p) [.ListComp (.Tuple [eb,.Constant .none jj pc] x1 q1) [⟨tb,ib,[],0⟩] sc lp] [] pos) (xN X src):=
 PE.imp (vY hu hc hm (vW hc S hi (λcl C s₀ H₀ fp=>⟨(blk cl C s₀ H₀ fp).1,tS,tT (bq (blk cl C s₀ H₀ fp).2.1 (bq CD dH (bp rfl)) (bp (blk cl C s₀ H₀ fp).2.2))⟩) hs) hg rfl) λσ H Q h=>tPI0.up h
def Cb{src:List (Option Nat)}(E:EnvO X.K O H Z σ)(hf:iS (vr 1) Z=.ok l)(hz:l.length<=1000)(hk:l.map keyOf=kk.map ZA)(hn:kk.Nodup)(hs:0<src.length)
  (hq:∀d H',Same H H'->Nw X.K H d->H' d=ZA (.dT (gR kk))->Q (.ref d) H'):xN X src σ H Q:=by
 have lk:l.length=kk.length:=by have:=congrArg O7 hk;rwa [NR,NR]at this
 unfold xN sX;refine wL (X:=X) (te:=tC .non) E (λR h=>⟨Z,O,E,by rw[hf];exact h⟩) hz hk hs (λ_ _ vs=>∀v∈vs,v=V.non) (λ_ _ _ _ v h=>nomatch h) (λ_ _ _ _ _ h _ _=>h) (λt ht σ' H' O' D vs ys Q' _ acc _ k=>k _ H' (Same.refl H') λv hv=>?_) λH1 D ys ps H' s1 nD s2 hD hp h1 h2=>?_
 ·rcases Oi.mp hv with z|z
  ·exact acc v z
  ·exact N1.mp z
 ·have e:ps=gR kk:=Im h1 h2
  refine⟨D,ys,ps,rfl,hD,by rw[hp.len,e];unfold gR;rw[NR];omega,hp,λq nq=>?_⟩
  have e2:fD [] ps=gR kk:=by rw[mM ps [] (by rw[Pt,h1];exact hn),Pt,e]
  rw[e2];exact hq q _ ((s1.trans s2).trans (bj nq.1 _)) (fP (s1.trans s2) nq) aG
theorem vR{K:NK}{O:Ow}{H:Hp}:∀(l:List T)(kk:List (List Key)),l.length=kk.length->Reps K O H (l.map λ_=>T.non) ((gR kk).map (·.2))
 |[],[],_=>Reps.GE
 |_::l,_::kk,h=>Reps.FS Rep.Nh (vR l kk (by simpa using h))
 |[],_::_,h=>by simp at h
 |_::_,[],h=>by simp at h
theorem vO{K:NK}{O:Ow}{H:Hp}{l:List T}{kk:List (List Key)}(hk:l.map keyOf=kk.map ZA):∀{m:List T}{ds:List ZE},m.length=ds.length->(∀d∈ds,H d=ZA (.dT (gR kk)))->RowsR K O H (m.map λ_=>(l,l.map λ_=>T.non)) ds
 |[],[],_,_=>rfl
 |_::m,d::ds,h,hd=>⟨d,ds,gR kk,rfl,hd d NP,by unfold gR;rw[PY];exact hk,vR l kk (by have:=congrArg O7 hk;rwa [NR,NR]at this),vO hk (by simpa using h) λe he=>hd e (NL _ he)⟩
 |[],_::_,h,_=>by simp at h
 |_::_,[],h,_=>by simp at h
theorem zI:∀{l:List T},nJ l=ZC->∃kk:List (List Key),l.map keyOf=kk.map ZA
 |[],_=>⟨[],rfl⟩
 |t::l,h=>by
  unfold nJ at h;rw[NN]at h;obtain⟨kk,e⟩:=zI h.2;obtain⟨k,ek⟩:=Re.mp h.1;exact⟨k::kk,by rw[NO,NO,ek,e]⟩
def Cj(i j:Nat){ea r ta ia:ZG}{q1 lp p2:Pos}{x1}{src:List (Option Nat)}(hu:X.A.units+8<cLine)(hc:X.calm=ZC)(hm:X.mg "dict" =ZB)(hN:X.N.Nodup)
  (S:LcScope X sc N' [ZB,ZA j]) (hi:Bs X ta ia (iS (vr j))) (hsr:0<src.length)
  (blk:∀cl C s₀ H₀ fp,EM (cm X sc cl N' C s₀ H₀ fp) ta (gN 0)/\PE (cm X sc cl N' C s₀ H₀ fp) ea (oR 0)/\PE (cm X sc cl N' C s₀ H₀ fp) r (xN X src)) (h1:br ea=ZC:=by rfl) (h2:br r=ZC:=by rfl)
  (hs:∀x,OS ia X.env x=pure x:=by intro _;rfl) (hg:Gl X "dict":=by rfl) (hix:X.N[i]?=ZA x:=by rfl) (hx:Loc X.env.scope x:=by first|exact OB rfl|exact Oq rfl)
  (hsw:OW (.Call (.Name "dict" p) [.ListComp (.Tuple [ea,r] x1 q1) [⟨ta,ia,[],0⟩] sc lp] [] p2) (ZA (.Name x p3)) pos.line X.env=pure ZD:=by rfl)
  (hf:X.fn x=ZC\/X.env.scope.names.lookup x=ZA .local:=by first|exact .inl rfl|exact .inr rfl|assumption):
  oJ X (.Assign [.Name x p3] (.Call (.Name "dict" p) [.ListComp (.Tuple [ea,r] x1 q1) [⟨ta,ia,[],0⟩] sc lp] [] p2) pos) (o8 i j):=
 PS.imp (mO hN hix hx (vY hu hc hm (vW (g:=BO X (gN 0)) (tc:=vz) (te:=Fb (hV (oR 0) (hV (xN X src) vB))) hc S hi (λcl C s₀ H₀ fp=>⟨(blk cl C s₀ H₀ fp).1,tS,tT (bq (blk cl C s₀ H₀ fp).2.1 (bq (blk cl C s₀ H₀ fp).2.2 dH (bp h2)) (bp h1))⟩) hs) hg rfl) hsw hf) λD σ H hh_=>by
  obtain⟨Z,B,M,E,h⟩:=hh_;unfold o8 at h
  cases qj:Z[j]? with
  |none=>rw[qj]at h;exact h.elim
  |some z=>
   rw[qj]at h
   match z,h,qj with
   |.va (.lst l),h,qj=>
    dsimp only at h
    by_cases hh:i<Z.length/\nJ l=ZC/\(l.map keyOf).Nodup/\l.length<=1000
    ·rw[if_pos hh]at h
     obtain⟨hl,hky,hnd,hz⟩:=hh;obtain⟨kk,hk⟩:=zI hky
     have lk:l.length=kk.length:=by have:=congrArg O7 hk;rwa [NR,NR]at this
     have hn:kk.Nodup:=by
      rw[hk]at hnd;exact(Us.mp hnd).imp λh z=>h (by rw[z])
     have fj:iS (vr j) Z=.ok l:=by unfold iS vr;rw[qj];rfl
     have hlc:b8 [ZB,ZA j] Z=[.em,.va (.lst l)]:=by unfold b8;simp[qj]
     unfold BP sX
     refine wL (X:=X) (te:=xN X src) E.o (λR h=>⟨Z,OO B M,E.o,by rw[fj];exact h⟩) hz hk (by simp)
      (λH' D vs=>H D=ZB/\Same H H'/\∃ds:List ZE,vs=ds.map V.ref/\ds.Nodup/\∀d∈ds,Nw X.K H d/\H' d=ZA (.dT (gR kk)))
      (λH1 D s1 nD=>⟨(fP s1 nD).1,s1.trans (bj nD.1 _),[],rfl,Ql,λd h=>nomatch h⟩)
      (λH1 H2 D vs ys ⟨c1,c2,ds,c3,c4,c5⟩ hD s=>⟨c1,(λb o e=>s b o (c2 b o e) (λz=>by rw[z,c1]at e;cases e)),ds,c3,c4,λd hd=>⟨(c5 d hd).1,s _ _ (c5 d hd).2 (jR (c5 d hd).2 hD (λz=>nomatch z))⟩⟩)
      (λt ht σ' H' O' D vs ys Q' E' ⟨c1,c2,ds,c3,c4,c5⟩ hD k=>Cb (l:=l) (kk:=kk) ⟨noM,E'⟩ (by rw[hlc];rfl) hz hk hn hsr λd H'' s' nd hd=>?_) λH1 D ys ps H' s1 nD s2 hD hp e1 ⟨c1,c2,ds,c3,c4,c5⟩=>?_
     ·refine k _ H'' s' ⟨c1,c2.trans s',ds++[d],by rw[c3,O8];rfl,?_,λe he=>?_⟩
      ·refine OQ.mpr ⟨c4,by simp,λu hu w hw=>?_⟩
       rw[N1.mp hw];intro z
       have:=(c5 u hu).2;rw[z,nd.1]at this;cases this
      ·rcases Oi.mp he with z|z
       ·exact⟨(c5 e z).1,s' _ _ (c5 e z).2⟩
       ·rw[N1.mp z]
        exact⟨fP c2 nd,hd⟩
     ·have hpl:ps.length=kk.length:=by rw[<-e1,NR]
      refine⟨D,ys,ps,rfl,hD,by rw[hp.len];omega,hp,λq nq=>?_⟩
      have e2:fD [] ps=ps:=by rw[mM ps [] (by rw[Pt,e1];exact hn),Pt]
      rw[e2]
      have qd:q∉ds:=λz=>by have:=(c5 q z).2;rw[nq.1]at this;cases this
      have dl:ds.length=ps.length:=by have:=congrArg O7 c3;rw[NR,NR]at this;exact this.symm
      have hm':∀b,b=q\/b∈ds->Nw X.K H b:=λb z=>z.elim (λw=>w▸fP c2 nq) λw=>(c5 b w).1
      have sF:Same H (upd H' q (.dT ps)):=c2.trans (bj nq.1 _);obtain⟨E2,sub⟩:=E.new (m:=λb=>b=q\/b∈ds) (o:=.dd l (l.map λ_=>(l,l.map λ_=>.non))) (v:=.ref q) (H':=upd H' q (.dT ps)) hl hm' sF ⟨q,ps,ds,rfl,λb=>Rk,qd,c4,aG,by rw[hk,<-e1,PY];rfl,c3,vO hk (by omega) λd hd=>by rw[aB (show d≠q from λz=>qd (z▸hd))];exact(c5 d hd).2⟩
      exact h _ _ _ (SameO.of sF) E2 sub
    ·rw[if_neg hh]at h;exact h.elim
   |.em,h,_=>exact h.elim
   |.ow _,h,_=>exact h.elim
   |.va .non,h,_=>exact h.elim
   |.va (.bl _),h,_=>exact h.elim
   |.va (.int _),h,_=>exact h.elim
   |.va (.str _),h,_=>exact h.elim
   |.va (.tup _),h,_=>exact h.elim
   |.va (.scr _),h,_=>exact h.elim
   |.va (.dct _ _),h,_=>exact h.elim
def Ak(i j:Nat){ea r ta ia:ZG}{q1 lp p2:Pos}{x1}{src:List (Option Nat)}(hu:X.A.units+8<cLine)(hc:X.calm=ZC)(hm:X.mg "dict" =ZB)(hN:X.N.Nodup)
  (S:LcScope X sc N' [ZB,ZA j]) (hi:QI X ta ia (iS (vr j))) (hsr:0<src.length)
  (blk:∀cl C s₀ H₀ fp,QG (cm X sc cl N' C s₀ H₀ fp) ta (gN 0)/\PE (cm X sc cl N' C s₀ H₀ fp) ea (oR 0)/\PE (cm X sc cl N' C s₀ H₀ fp) r (xN X src)) (h1:br ea=ZC:=by rfl) (h2:br r=ZC:=by rfl)
  (hs:∀x,OS ia X.env x=pure x:=by intro _;rfl) (hg:Gl X "dict":=by rfl) (hix:X.N[i]?=ZA x:=by rfl) (hx:Loc X.env.scope x:=by first|exact OB rfl|exact Oq rfl)
  (hsw:OW (.Call (.Name "dict" p) [.ListComp (.Tuple [ea,r] x1 q1) [⟨ta,ia,[],0⟩] sc lp] [] p2) (ZA (.Name x p3)) pos.line X.env=pure ZD:=by rfl)
  (hf:X.fn x=ZC\/X.env.scope.names.lookup x=ZA .local:=by first|exact .inl rfl|exact .inr rfl|assumption):
  QS X (.Assign [.Name x p3] (.Call (.Name "dict" p) [.ListComp (.Tuple [ea,r] x1 q1) [⟨ta,ia,[],0⟩] sc lp] [] p2) pos) (o8 i j):=
 ⟨Cj i j hu hc hm hN S hi.h hsr (λcl C s₀ H₀ fp=>⟨(blk cl C s₀ H₀ fp).1.h,(blk cl C s₀ H₀ fp).2⟩) h1 h2 hs hg hix hx hsw hf⟩
def gh{P:List Str}(h1:sc.kind=.function:=by rfl)(h2:sc.isCoroutine=ZD:=by rfl)(h3:sc.isGenerator=ZD:=by rfl)(h4:N.Nodup:=by decide+kernel)(h5:N.take P.length=P:=by rfl)
  (h6:∀x∈P,sc.names.lookup x=ZA .local\/sc.names.lookup x=ZA .cell:=by decide+kernel) (h7:∀y∈sc.names,y.2≠ .free:=by decide+kernel):aA N P sc:=⟨h1,h2,h3,h4,h5,h6,h7⟩
end Tr
namespace G
open PySem PySem.Spec PyProof.Rows L2 Tr
structure Bl (mg:V0):Prop where
 b_ValueError:mg "ValueError" =ZB
 b_all:mg "all" =ZB
 b_bool:mg "bool" =ZB
 b_dict:mg "dict" =ZB
 b_enumerate:mg "enumerate" =ZB
 b_int:mg "int" =ZB
 b_isinstance:mg "isinstance" =ZB
 b_len:mg "len" =ZB
 b_max:mg "max" =ZB
 b_min:mg "min" =ZB
 b_range:mg "range" =ZB
 b_tuple:mg "tuple" =ZB
structure Cs (mg:V0):Prop where
 MOST_CLOCKS:∃t,mg "MOST_CLOCKS" =ZA (.int 4 t)
 MOST_LETTERS:∃t,mg "MOST_LETTERS" =ZA (.int 8 t)
 MOST_READINGS:∃t,mg "MOST_READINGS" =ZA (.int 4 t)
 LAST_READING:∃t,mg "LAST_READING" =ZA (.int 99 t)
 SLOWEST:∃t,mg "SLOWEST" =ZA (.int 9 t)
 LONGEST:∃t,mg "LONGEST" =ZA (.int 999 t)
structure eE (K:NK)(mg:V0):Prop where
 k:rz K mg "Desk"
 a_kept:NoAttr K (bN K "Desk") "kept"
def u6:OK "bool" =ZA (.type "bool"):=by decide+kernel
def kh:OK "int" =ZA (.type "int"):=by decide+kernel
def dB:OK "tuple" =ZA (.type "tuple"):=by decide+kernel
structure Xs (K:NK)(mg:V0)(ac al bi bn bv ca ci:ZE):Prop where
 m_NoRecord:mg "NoRecord" =ZA (.ref ac)
 m_NoEvent:mg "NoEvent" =ZA (.ref al)
 m_NoNumber:mg "NoNumber" =ZA (.ref bi)
 m_NoWorld:mg "NoWorld" =ZA (.ref bn)
 m_Barred:mg "Barred" =ZA (.ref bv)
 m_Nothing:mg "Nothing" =ZA (.ref ca)
 m_ClockError:mg "ClockError" =ZA (.ref ci)
 o_NoRecord:OX K ac (.ref ci::oa)
 o_NoEvent:OX K al (.ref ci::oa)
 o_NoNumber:OX K bi (.ref ci::oa)
 o_NoWorld:OX K bn (.ref ci::oa)
 o_Barred:OX K bv (.ref ci::oa)
 o_Nothing:OX K ca (.ref ci::oa)
 o_ClockError:OX K ci oa
 d:[ac,al,bi,bn,bv,ca,ci].Nodup
abbrev bP:ZF:=top 61
def aaK:aA ["_law_e","_law_flags"] ["_law_e"] (aj bP):=⟨rfl,rfl,rfl,by decide+kernel,rfl,by decide+kernel,by decide+kernel⟩
def dv(j:Nat):T:=.tup [.str "refused",.int (j:Nat)]
noncomputable def jc(c:Str):Rs T:=if c= "NoRecord" then .ok (dv 0)else if c= "NoEvent" then .ok (dv 1)else if c= "NoNumber" then .ok (dv 2)else if c= "NoWorld" then .ok (dv 3)else if c= "Barred" then .ok (dv 4)else if c= "Nothing" then .ok (dv 5)else .bad
variable{C bv ci al bi ac bn ca f:ZE}{K:NK}{ev:Array NM}{j:Nat}{oe:Obj}
section
variable {P:Oa}{w:O0}{mg:V0}{base:ZH}
def Xs.ne{D:ZE}(h:C≠D):(N3 C::oa).contains (.ref D)=ZD:=by
 rw[O4]
 have:(N3 D == N3 C)=ZD:=by rw[beq_eq_false_iff_ne];exact λz=>h (TL z).symm
 rw[this];rfl
def Cd{e:ZE}{A:Ou}{outer:List Env}{s:NQ}{H:Hp}{Q:VK}(S:Xs K mg ac al bi bn bv ca ci)(OC:OX K C (.ref ci::oa))
  (hc:oe.cls=.ref C) (hd:oe.data=.fields ev) (hi:mg "isinstance" =ZB) (hv:mg "ValueError" =ZB) (cr:ci≠ac) (db:ci≠al) (gt:ci≠bi) (ii:ci≠bn) (im:ci≠bv) (io:ci≠ca)
  {b0 b1 b2 b3 b4 b5:Bool} (h0:decide (C=ac)=b0) (h1:decide (C=al)=b1) (h2:decide (C=bi)=b2) (h3:decide (C=bn)=b3) (h4:decide (C=bv)=b4) (h5:decide (C=ca)=b5)
  (cnt:[b0,b1,b2,b3,b4,b5].countP id=1) (hj:[b0,b1,b2,b3,b4,b5][j]?=ZA ZC) (hno:∀m,m<j->[b0,b1,b2,b3,b4,b5][m]?=ZA ZD)
  (q:∀p H',Same H H'->H p=ZB->H' p=ZA (.tup [.str "refused",.int (j:Nat)])->Q (.ref p) H') (cdv:NM):
  ∃t,PSs (ML P w K mg base ["_law_e","_law_flags"] "_law_refused" (aj bP) f cdv A outer s H e oe) (bD bP) t/\t {nx:=λ_ _=>False,rt:=Q} (start ["_law_e","_law_flags"] [.ref e]) H:=by
 have nd:=aaK.nd
 have hp:(e,oe)∈(ML P w K mg base ["_law_e","_law_flags"] "_law_refused" (aj bP) f cdv A outer s H e oe).pn:=NP
 refine⟨_,iP (mO (i:=1) nd rfl (OB rfl) (x8 (bq (mP rfl (OB rfl) hp hc hd OC S.o_NoRecord b0 h0 (λ_=>Xs.ne cr) hi S.m_NoRecord) (bq (mP rfl (OB rfl) hp hc hd OC S.o_NoEvent b1 h1 (λ_=>Xs.ne db) hi S.m_NoEvent) (bq (mP rfl (OB rfl) hp hc hd OC S.o_NoNumber b2 h2 (λ_=>Xs.ne gt) hi S.m_NoNumber) dH)))))
  (iP (mO (i:=1) nd rfl (OB rfl) (Ly CO (pv 1) (x8 (bq (mP rfl (OB rfl) hp hc hd OC S.o_NoWorld b3 h3 (λ_=>Xs.ne ii) hi S.m_NoWorld) (bq (mP rfl (OB rfl) hp hc hd OC S.o_Barred b4 h4 (λ_=>Xs.ne im) hi S.m_Barred) (bq (mP rfl (OB rfl) hp hc hd OC S.o_Nothing b5 h5 (λ_=>Xs.ne io) hi S.m_Nothing) dH))))))
  (iP (vU (PW.pt (Cp (FR Lz (vZ Pg PySem.F.slot_list_count PySem.F.type_list_count AM (pv 1) (bq CI dH)) CF (Jr _)) (xZ (Cu (Ct (Jd rfl (OB rfl) hp hc OC hi hv)))))) (fg Cw) oj)
  (fg (iu (tT (bq CB (bq (vZ Pg Su Sv AK (pv 1) (bq CI dH)) dH))))))),?_⟩
 refine⟨rfl,rfl,rfl,(by show 3<=ZI;decide),λl1 n1=>?_⟩
 refine⟨.ref l1,rfl,rfl,rfl,rfl,(by show 3<=ZI;decide),λl2 n2=>?_⟩
 have ne21:l1≠l2:=λz=>by subst z;rw[aG]at n2;cases n2
 refine⟨l1,l2,[.bl b0,.bl b1,.bl b2],[.bl b3,.bl b4,.bl b5],rfl,rfl,by rw[aB ne21,aG],aG,(by show 3+3<=ZI;decide),λl3 n3=>?_⟩
 refine⟨.ref l3,rfl,.inl ⟨rfl,_,SqL.of aG⟩,⟨l3,[b0,b1,b2,b3,b4,b5],rfl,rfl,aG,?_⟩⟩
 have hz:(!decide (V.int (([b0,b1,b2,b3,b4,b5].countP id:Nat):Int)=V.int 1))=ZD:=by rw[cnt];simp
 refine⟨rfl,ZD,congrArg V.bl hz,iteF ⟨rfl,ZC,rfl,iteF ?_⟩⟩
 have hj6:j<6:=by have:=(NW.mp hj).1;simpa using this
 refine⟨.ref l3,rfl,.inl ⟨rfl,_,SqL.of aG⟩,⟨l3,[b0,b1,b2,b3,b4,b5],j,rfl,rfl,aG,hj,hno,by omega,(by show 2<=ZI;decide),λp np=>q p _ ?_ ?_ aG⟩⟩
 rotate_left
 ·have m3:p≠l3:=λz=>by subst z;rw[aG]at np;cases np
  have m2:p≠l2:=λz=>by subst z;rw[aB m3,aG]at np;cases np
  have m1:p≠l1:=λz=>by subst z;rw[aB m3,aB m2,aG]at np;cases np
  rw[aB m3,aB m2,aB m1]at np;exact np
 intro b o hb
 have m1:b≠l1:=λz=>by subst z;rw[n1]at hb;cases hb
 have m2:b≠l2:=λz=>by subst z;rw[aB m1,hb]at n2;cases n2
 have m3:b≠l3:=λz=>by subst z;rw[aB m2,aB m1,hb]at n3;cases n3
 have m4:b≠p:=λz=>by subst z;rw[aB m3,aB m2,aB m1,hb]at np;cases np
 rw[aB m4,aB m3,aB m2,aB m1];exact hb
end
variable{fd:Ox}{i:Nat}
section
variable {X:Cx}
def tRC(X:Cx)(i:Nat)(e:ZE)(j:Nat):TE:=λσ H Q=>σ[i]?=ZA (ZA (.ref e))/\H e=ZB/\e∉m9 X.stack/\∀p H',Same H H'->H p=ZB->H' p=ZA (.tup [.str "refused",.int (j:Nat)])->Q (.ref p) H'
def fK{en:Str}{p p1 pos:Pos}{e:ZE}(hN:X.N[i]?=ZA en)(hv:lM X.env.scope en)
  (Fn_:Fn X.K X.mg "_law_refused" bP ["_law_e"] f fd) (S:Xs X.K X.mg ac al bi bn bv ca ci) (OC:OX X.K C (.ref ci::oa))
  (hc:oe.cls=.ref C) (hd:oe.data=.fields ev) (hi:X.mg "isinstance" =ZB) (hvv:X.mg "ValueError" =ZB) (cr:ci≠ac) (db:ci≠al) (gt:ci≠bi) (ii:ci≠bn) (im:ci≠bv) (io:ci≠ca)
  {b0 b1 b2 b3 b4 b5:Bool} (h0:decide (C=ac)=b0) (h1:decide (C=al)=b1) (h2:decide (C=bi)=b2) (h3:decide (C=bn)=b3) (h4:decide (C=bv)=b4) (h5:decide (C=ca)=b5)
  (cnt:[b0,b1,b2,b3,b4,b5].countP id=1) (hj:[b0,b1,b2,b3,b4,b5][j]?=ZA ZC) (hno:∀m,m<j->[b0,b1,b2,b3,b4,b5][m]?=ZA ZD) (hr:X.A.depth+3<Q5)
  (hg:Gl (uX X e oe) "_law_refused":=by rfl) (hde:eO en:=by decide) (hce:(en == ("__classdict__" : Str))=ZD:=by decide)
  (he:NY [.Name en p1] X.env=(ZD,eval (.Name en p1) X.env)::NY [] X.env:=by rfl) (hpl:(backTo pos (NY [] X.env)).any (·.1)=ZD:=by rfl):
  PE (uX X e oe) (.Call (.Name "_law_refused" p) [.Name en p1] [] pos) (tRC X i e j):=by
 intro ol s σ H Q I ⟨hσ,hH,hf,q⟩;refine OG (fS (X:=uX X e oe) I hg Fn_.mg ?_ (by decide))
 have hA:PA (uX X e oe) [.Name en p1] (hV (oR i) vB):=bq (eF (X:=uX X e oe) hN hv hde hce) dH he;refine PP (h₀:=X.base) I.ok.mod.kin Fn_.fn.kp (bS (hA pos ol s σ H (λvs H'=>vs=[.ref e]/\H'=H) I ⟨.ref e,hσ,rfl,rfl⟩) λus s1 ⟨vs,H1,I1,r,e1,e2⟩=>⟨I1.kIn,?_⟩) he hpl
 subst e1;subst e2;obtain⟨u,rfl,ru⟩:=kQ r;cases ru
 have hoe:s1.heap.get? e=ZA oe:=(I1.pin (e,oe) (On _ NP)).1
 have hb:=Fn_.bd s1 [.ref e] I1.kIn rfl;refine Ru (Qe (J1 (Q:=Q) Fn_.fn aaK (vs:=[.ref e]) rfl hr I1.Nc hb r hoe hH hf (λv z=>by rw[hd]at z;cases z) λcdv=>Cd S OC hc hd hi hvv cr db gt ii im io h0 h1 h2 h3 h4 h5 cnt hj hno q cdv) λr s' hq=>?_)
 cases r with
 |error ev=>exact hq.elim
 |ok fl=>
  cases fl with
  |ret u=>exact I1.after hq
  |next=>exact hq.elim
  |brk=>exact hq.elim
  |cont=>exact hq.elim
def kA{O:Ow}{H H':Hp}{p:ZE}(hO:∀p,H p=ZB->¬ O p)(hp:H p=ZB)(h:H' p=ZA (.tup [.str "refused",.int (j:Nat)])):Rep K O H' (dv j) (.ref p):=
 Rep.Fk.mpr ⟨p,_,rfl,hO p hp,h,Reps.FS (Rep.Nq _) (Reps.FS (Rep.Gc _) Reps.GE)⟩
def vC{en:Str}{p p1 pos rp:Pos}(hN:X.N[i]?=ZA en)(hv:lM X.env.scope en)
  (Fn_:Fn X.K X.mg "_law_refused" bP ["_law_e"] f fd) (S:Xs X.K X.mg ac al bi bn bv ca ci) (hi:X.mg "isinstance" =ZB) (hvv:X.mg "ValueError" =ZB) (hr:X.A.depth+3<Q5)
  (hg:∀e oe,Gl (uX X e oe) "_law_refused":=by intro _ _;rfl) (hde:eO en:=by decide) (hce:(en == ("__classdict__" : Str))=ZD:=by decide)
  (he:NY [.Name en p1] X.env=(ZD,eval (.Name en p1) X.env)::NY [] X.env:=by rfl) (hpl:(backTo pos (NY [] X.env)).any (·.1)=ZD:=by rfl):
  mH X i [.Return (ZA (.Call (.Name "_law_refused" p) [.Name en p1] [] pos)) rp] ci jc:=by
 have dd:=S.d
 have ap:∀{a b:ZE}(i j:Nat),i<j->[ac,al,bi,bn,bv,ca,ci][i]?=ZA a->[ac,al,bi,bn,bv,ca,ci][j]?=ZA b->a≠b:=λ{a b} i j hij ha hb z=>by
  have:=(List.getElem?_inj (NW.mp ha).1 dd).mp (ha.trans (z▸hb.symm))
  omega
 have hin:∀C:ZE,(N3 C:: .ref ci::oa).contains (.ref ci)=ZC:=λC=>by rw[O4,O4,beq_self_eq_true,UH,UG]
 have cr:ci≠ac:=(O6 (ap 0 6 (by decide) rfl rfl))
 have db:ci≠al:=(O6 (ap 1 6 (by decide) rfl rfl))
 have gt:ci≠bi:=(O6 (ap 2 6 (by decide) rfl rfl))
 have ii:ci≠bn:=(O6 (ap 3 6 (by decide) rfl rfl))
 have im:ci≠bv:=(O6 (ap 4 6 (by decide) rfl rfl))
 have io:ci≠ca:=(O6 (ap 5 6 (by decide) rfl rfl))
 intro c C t hm ht;unfold jc at ht
 by_cases z0:c= "NoRecord"
 ·rw[if_pos z0]at ht
  cases ht;rw[z0,S.m_NoRecord]at hm;cases hm;refine⟨_,S.o_NoRecord,hin _,λe oe ev hc hd ol s σ H O Q I hH hf hσ hO q=>?_⟩
  exact fg (iu (fK hN hv Fn_ S S.o_NoRecord hc hd hi hvv cr db gt ii im io (b0:=ZC) (b1:=ZD) (b2:=ZD) (b3:=ZD) (b4:=ZD) (b5:=ZD) (by simp) (by rw[decide_eq_false (ap 0 1 (by decide) rfl rfl)]) (by rw[decide_eq_false (ap 0 2 (by decide) rfl rfl)]) (by rw[decide_eq_false (ap 0 3 (by decide) rfl rfl)]) (by rw[decide_eq_false (ap 0 4 (by decide) rfl rfl)]) (by rw[decide_eq_false (ap 0 5 (by decide) rfl rfl)]) (by decide) (j:=0) rfl (λm hm=>by omega) hr (hg e oe) hde hce he hpl)) ol s σ H _ I ⟨hσ,hH,hf,λp H' sm hp h=>q _ _ sm (kA hO hp h)⟩
 rw[if_neg z0]at ht
 by_cases z1:c= "NoEvent"
 ·rw[if_pos z1]at ht
  cases ht;rw[z1,S.m_NoEvent]at hm;cases hm;refine⟨_,S.o_NoEvent,hin _,λe oe ev hc hd ol s σ H O Q I hH hf hσ hO q=>?_⟩
  exact fg (iu (fK hN hv Fn_ S S.o_NoEvent hc hd hi hvv cr db gt ii im io (b0:=ZD) (b1:=ZC) (b2:=ZD) (b3:=ZD) (b4:=ZD) (b5:=ZD) (by rw[decide_eq_false (O6 (ap 0 1 (by decide) rfl rfl))]) (by simp) (by rw[decide_eq_false (ap 1 2 (by decide) rfl rfl)]) (by rw[decide_eq_false (ap 1 3 (by decide) rfl rfl)]) (by rw[decide_eq_false (ap 1 4 (by decide) rfl rfl)]) (by rw[decide_eq_false (ap 1 5 (by decide) rfl rfl)]) (by decide) (j:=1) rfl (λm hm=>by match m,hm with|0,_=>rfl) hr (hg e oe) hde hce he hpl)) ol s σ H _ I ⟨hσ,hH,hf,λp H' sm hp h=>q _ _ sm (kA hO hp h)⟩
 rw[if_neg z1]at ht
 by_cases z2:c= "NoNumber"
 ·rw[if_pos z2]at ht
  cases ht;rw[z2,S.m_NoNumber]at hm;cases hm;refine⟨_,S.o_NoNumber,hin _,λe oe ev hc hd ol s σ H O Q I hH hf hσ hO q=>?_⟩
  exact fg (iu (fK hN hv Fn_ S S.o_NoNumber hc hd hi hvv cr db gt ii im io (b0:=ZD) (b1:=ZD) (b2:=ZC) (b3:=ZD) (b4:=ZD) (b5:=ZD) (by rw[decide_eq_false (O6 (ap 0 2 (by decide) rfl rfl))]) (by rw[decide_eq_false (O6 (ap 1 2 (by decide) rfl rfl))]) (by simp) (by rw[decide_eq_false (ap 2 3 (by decide) rfl rfl)]) (by rw[decide_eq_false (ap 2 4 (by decide) rfl rfl)]) (by rw[decide_eq_false (ap 2 5 (by decide) rfl rfl)]) (by decide) (j:=2) rfl (λm hm=>by match m,hm with|0,_=>rfl|1,_=>rfl) hr (hg e oe) hde hce he hpl)) ol s σ H _ I ⟨hσ,hH,hf,λp H' sm hp h=>q _ _ sm (kA hO hp h)⟩
 rw[if_neg z2]at ht
 by_cases z3:c= "NoWorld"
 ·rw[if_pos z3]at ht
  cases ht;rw[z3,S.m_NoWorld]at hm;cases hm;refine⟨_,S.o_NoWorld,hin _,λe oe ev hc hd ol s σ H O Q I hH hf hσ hO q=>?_⟩
  exact fg (iu (fK hN hv Fn_ S S.o_NoWorld hc hd hi hvv cr db gt ii im io (b0:=ZD) (b1:=ZD) (b2:=ZD) (b3:=ZC) (b4:=ZD) (b5:=ZD) (by rw[decide_eq_false (O6 (ap 0 3 (by decide) rfl rfl))]) (by rw[decide_eq_false (O6 (ap 1 3 (by decide) rfl rfl))]) (by rw[decide_eq_false (O6 (ap 2 3 (by decide) rfl rfl))]) (by simp) (by rw[decide_eq_false (ap 3 4 (by decide) rfl rfl)]) (by rw[decide_eq_false (ap 3 5 (by decide) rfl rfl)]) (by decide) (j:=3) rfl (λm hm=>by match m,hm with|0,_=>rfl|1,_=>rfl|2,_=>rfl) hr (hg e oe) hde hce he hpl)) ol s σ H _ I ⟨hσ,hH,hf,λp H' sm hp h=>q _ _ sm (kA hO hp h)⟩
 rw[if_neg z3]at ht
 by_cases z4:c= "Barred"
 ·rw[if_pos z4]at ht
  cases ht;rw[z4,S.m_Barred]at hm;cases hm;refine⟨_,S.o_Barred,hin _,λe oe ev hc hd ol s σ H O Q I hH hf hσ hO q=>?_⟩
  exact fg (iu (fK hN hv Fn_ S S.o_Barred hc hd hi hvv cr db gt ii im io (b0:=ZD) (b1:=ZD) (b2:=ZD) (b3:=ZD) (b4:=ZC) (b5:=ZD) (by rw[decide_eq_false (O6 (ap 0 4 (by decide) rfl rfl))]) (by rw[decide_eq_false (O6 (ap 1 4 (by decide) rfl rfl))]) (by rw[decide_eq_false (O6 (ap 2 4 (by decide) rfl rfl))]) (by rw[decide_eq_false (O6 (ap 3 4 (by decide) rfl rfl))]) (by simp) (by rw[decide_eq_false (ap 4 5 (by decide) rfl rfl)]) (by decide) (j:=4) rfl (λm hm=>by match m,hm with|0,_=>rfl|1,_=>rfl|2,_=>rfl|3,_=>rfl) hr (hg e oe) hde hce he hpl)) ol s σ H _ I ⟨hσ,hH,hf,λp H' sm hp h=>q _ _ sm (kA hO hp h)⟩
 rw[if_neg z4]at ht
 by_cases z5:c= "Nothing"
 ·rw[if_pos z5]at ht
  cases ht;rw[z5,S.m_Nothing]at hm;cases hm;refine⟨_,S.o_Nothing,hin _,λe oe ev hc hd ol s σ H O Q I hH hf hσ hO q=>?_⟩
  exact fg (iu (fK hN hv Fn_ S S.o_Nothing hc hd hi hvv cr db gt ii im io (b0:=ZD) (b1:=ZD) (b2:=ZD) (b3:=ZD) (b4:=ZD) (b5:=ZC) (by rw[decide_eq_false (O6 (ap 0 5 (by decide) rfl rfl))]) (by rw[decide_eq_false (O6 (ap 1 5 (by decide) rfl rfl))]) (by rw[decide_eq_false (O6 (ap 2 5 (by decide) rfl rfl))]) (by rw[decide_eq_false (O6 (ap 3 5 (by decide) rfl rfl))]) (by rw[decide_eq_false (O6 (ap 4 5 (by decide) rfl rfl))]) (by simp) (by decide) (j:=5) rfl (λm hm=>by match m,hm with|0,_=>rfl|1,_=>rfl|2,_=>rfl|3,_=>rfl|4,_=>rfl) hr (hg e oe) hde hce he hpl)) ol s σ H _ I ⟨hσ,hH,hf,λp H' sm hp h=>q _ _ sm (kA hO hp h)⟩
 rw[if_neg z5]at ht;cases ht
end
end G
namespace G
open PySem Tr
abbrev evF:V4:=cg (o2 aP (vr 1) (ig (iR (ae (cl bO (ae (o2 aV (vr 3) (cn (.int 2))) ai)) ai)) [ZB,ZA 2] (gN 0) bT (aK (ae (vr 1) (ae (vr 0) ai))))) (gN 1)
def lr:V4:=
 (aD (cg (fA ai) (gN 1)) (aD (fI (iE (ae (vr 0) ai)) (gT 2 (eU (gN 2) (eU (gN 3) nK))) evF) (aR (vr 1))))
def bY:List T->Rs T:=val 1 4 lr
def jk:V4:=
 (aD (cg (cl iZ (ae (ig (iS (sl (o2 aV (vr 0) (cn (.int 0))) pN (pS (cn (.int 2))))) [ZB] (gN 0) bT (o2 aP (sl (vr 0) pN (pS (cn (.int 2)))) (aK (ae (sl (o2 aV (vr 0) (cn (.int 2))) pN (pS (cn (.int 2)))) ai)))) ai)) (gN 1)) (aD (cg (cl bY (ae (vr 1) ai)) (gN 2)) (aR (aK (ae (vr 1) (ae (cl iZ (ae (ig (iS (o2 aV (vr 0) (cn (.int 1)))) [ZB,ZA 2] (gN 0) (lL (tb (o2 AZ (o2 aV (vr 0) (cn (.int 0))) (vr 1))) (tb (o2 AZ (o2 aV (vr 0) (cn (.int 1))) (vr 1)))) (vr 0)) ai)) ai))))))
def gC:List T->Rs T:=val 1 3 jk
def sL:V4:=
 (aR (dt (o1 (Gz "tuple") (vr 0)) (ch Bq Bq (vr 1) (cl bO (ae (vr 0) ai)) (vr 2))))
def aS:List T->Rs T:=val 3 3 sL
def yW:V4:=
 (aR (dt (o1 (Gz "int") (vr 0)) (o1 Ga (o1 (Gz "bool") (vr 0)))))
def i9:List T->Rs T:=val 1 1 yW
def kl:V4:=
 (aR (dt (cl i9 (ae (vr 0) ai)) (ch Bq Bq (vr 1) (vr 0) (vr 2))))
def a7:List T->Rs T:=val 3 3 kl
def nr:V4:=
 (aR (dt (cl a7 (ae (vr 0) (ae (cn (.int 1)) (ae (cn (.int 9)) ai)))) (cl a7 (ae (vr 1) (ae (vr 0) (ae (cn (.int 9)) ai))))))
def gF:List T->Rs T:=val 2 2 nr
def Ai:V4:=
 (aR (cl rk (ae (ig (iR (ae (o2 cZ (cl bO (ae (vr 0) ai)) (cn (.int 1))) ai)) [ZB,ZA 0] (gN 0) bT (o2 pQ (o2 aV (vr 1) (vr 0)) (o2 aV (vr 1) (o2 aP (vr 0) (cn (.int 1)))))) ai)))
def kE:List T->Rs T:=val 1 1 Ai
def fy:V4:=
 (aD (e9 (cI (tb (cl aS (ae (vr 0) (ae (cn (.int 1)) (ae (cn (.int 4)) ai)))))) (aR (cn (.bl ZD))) sN) (aR (dt (cl rk (ae (ig (iS (vr 0)) [ZB] (gN 0) bT (cl a7 (ae (vr 0) (ae (cn (.int 0)) (ae (cn (.int 99)) ai))))) ai)) (cl kE (ae (vr 0) ai)))))
def b7:List T->Rs T:=val 1 1 fy
def jg:V4:=
 (aR (dt (cl aS (ae (vr 0) (ae (cn (.int 3)) (ae (cn (.int 3)) ai)))) (dt (cl gF (ae (o2 aV (vr 0) (cn (.int 0))) (ae (o2 aV (vr 0) (cn (.int 1))) ai))) (cl b7 (ae (o2 aV (vr 0) (cn (.int 2))) ai)))))
def dJ:List T->Rs T:=val 1 1 jg
def jh:V4:=
 (aR (dt (cl aS (ae (vr 0) (ae (cn (.int 1)) (ae (cn (.int 4)) ai)))) (cl rk (ae (ig (iS (vr 0)) [ZB] (gN 0) bT (cl dJ (ae (vr 0) ai))) ai))))
def dZ:List T->Rs T:=val 1 1 jh
def je:V4:=
 (aD (e9 (nS (cI (tb (cl aS (ae (vr 1) (ae (cn (.int 2)) (ae (cn (.int 2)) ai)))))) (cI (tb (cl a7 (ae (o2 aV (vr 1) (cn (.int 0))) (ae (cn (.int 0)) (ae (o2 cZ (cl bO (ae (vr 0) ai)) (cn (.int 1))) ai))))))) (aR (cn (.bl ZD))) sN) (aR (cl a7 (ae (o2 aV (vr 1) (cn (.int 1))) (ae (cn (.int 0)) (ae (o2 cZ (cl bO (ae (o2 aV (o2 aV (vr 0) (o2 aV (vr 1) (cn (.int 0)))) (cn (.int 2))) ai)) (cn (.int 1))) ai))))))
def dI:List T->Rs T:=val 2 2 je
def jf:V4:=
 (aR (dt (cl a7 (ae (vr 0) (ae (cn (.int 0)) (ae (cn (.int 999)) ai)))) (EJ (o2 jZ (vr 1) (cn .non)) (cl a7 (ae (vr 1) (ae (vr 0) (ae (cn (.int 999)) ai)))))))
def eI:List T->Rs T:=val 2 2 jf
def eR:V4:=
 (aD (e9 (nS (cI (tb (cl aS (ae (vr 1) (ae (cn (.int 4)) (ae (cn (.int 4)) ai)))))) (cI (tb (cl eI (ae (o2 aV (vr 1) (cn (.int 2))) (ae (o2 aV (vr 1) (cn (.int 3))) ai)))))) (aR (cn (.bl ZD))) sN) (aR (dt (cl dI (ae (vr 0) (ae (o2 aV (vr 1) (cn (.int 0))) ai))) (dt (cl dI (ae (vr 0) (ae (o2 aV (vr 1) (cn (.int 1))) ai))) (o2 pO (o2 aV (vr 1) (cn (.int 0))) (o2 aV (vr 1) (cn (.int 1))))))))
def cp:List T->Rs T:=val 2 2 eR
def iF:V4:=
 (aR (dt (cl aS (ae (vr 1) (ae (cn (.int 0)) (ae (cn (.int 8)) ai)))) (cl rk (ae (ig (iS (vr 1)) [ZB,ZA 0] (gN 0) bT (cl cp (ae (vr 1) (ae (vr 0) ai)))) ai))))
def dA:List T->Rs T:=val 2 2 iF
def il:V4:=
 (aR (dt (cl aS (ae (vr 0) (ae (cn (.int 2)) (ae (cn (.int 2)) ai)))) (dt (cl dZ (ae (o2 aV (vr 0) (cn (.int 0))) ai)) (cl dA (ae (o2 aV (vr 0) (cn (.int 0))) (ae (o2 aV (vr 0) (cn (.int 1))) ai))))))
def bH:List T->Rs T:=val 1 1 il
def ee:V4:=
 (e9 (cI (tb (cl bH (ae (vr 0) ai)))) (xX "NoRecord") sN)
def aY:List T->Rs T:=val 1 1 ee
abbrev peF:V4:=o9 1 (ig (iR (ae (cl bO (ae (o2 aV (vr 3) (cn (.int 2))) ai)) ai)) [ZB,ZA 2] (gN 0) bT (aK (ae (vr 1) (ae (vr 0) ai))))
def qF:V4:=
 (aD (xW (cl aY (ae (vr 0) ai))) (aD (jJ 1 ai) (aD (fI (iE (ae (o2 aV (vr 0) (cn (.int 0))) ai)) (gT 2 (eU (gN 2) (eU (gN 3) nK))) peF) (nQ 1 (aR (vr 1))))))
def jT:List T->Rs T:=val 1 4 qF
def km:V4:=
 (aD (cg (oD jw (vr 0) (o2 aV (vr 1) (cn (.int 1)))) (gN 3)) (aR (EJ (o2 jZ (vr 3) (cn .non)) (o2 pQ (o2 aP (o2 aV (vr 2) (cn (.int 0))) (o2 aV (vr 1) (cn (.int 2)))) (o2 aV (vr 3) (cn (.int 0)))))))
def dM:List T->Rs T:=val 3 4 km
abbrev EI:V4:=(aD (cg (ln 2 (oD jw (vr 2) (o2 aV (vr 5) (cn (.int 0))))) (gN 6)) (aD (e9 (nS (tb (o2 jZ (vr 6) (cn .non))) (cI (JA 2 (tb (cl dM (ae (vr 2) (ae (vr 5) (ae (vr 6) ai)))))))) Hj sN) (aD (cg (o2 aP (o2 aV (vr 6) (cn (.int 1))) (fA (ae (vr 4) ai))) (gN 7)) (aD (cg (ig (iS (vr 7)) [ZB,ZA 0] (gN 0) bT (o2 aV (o2 aV (vr 1) (vr 0)) (cn (.int 0)))) (gN 8)) (aD (e9 (tb (o2 AZ (o2 aV (vr 5) (cn (.int 1))) (vr 8))) (aR (aK (ae (cn .non) (ae (sl (vr 7) (pS (oL hZ (vr 8) (o2 aV (vr 5) (cn (.int 1))))) pN) ai)))) sN) (aD (Aw 2 (o2 aV (vr 5) (cn (.int 1))) (aK (ae (o2 aP (o2 aV (vr 6) (cn (.int 0))) (o2 aV (vr 5) (cn (.int 2)))) (ae (vr 7) ai)))) (cg (cn (.bl ZC)) (gN 3))))))))
def kj:V4:=
 (aD (rJ 2 (ig (iS (vr 1)) [ZB] (gN 0) bT (aK (ae (vr 0) (ae (aK (ae (cn (.int 0)) (ae (fA ai) ai))) ai))))) (aD (cg (cn (.bl ZC)) (gN 3)) (aD (bZ (tb (vr 3)) (aD (cg (cn (.bl ZD)) (gN 3)) (fI (iE (ae (vr 0) ai)) (gT 2 (eU (gN 4) (eU (gN 5) nK))) EI)) FU) (nQ 2 (aR (aK (ae (vr 2) (ae (cn .non) ai))))))))
def jS:List T->Rs T:=val 2 9 kj
def fM:V4:=
 (aD (cg (cl jT (ae (vr 0) ai)) (gN 2)) (aD (cg (o2 aV (cl jS (ae (vr 1) (ae (vr 2) ai))) (cn (.int 0))) (gN 3)) (aD (e9 (tb (o2 jZ (vr 3) (cn .non))) (aR (cn .non)) sN) (aR (cl iZ (ae (ig (iS (vr 2)) [ZB,ZA 3] (gN 0) bT (o2 aV (o2 bJ (vr 1) (vr 0)) (cn (.int 0)))) ai))))))
def dY:List T->Rs T:=val 2 4 fM
abbrev bcF:V4:=(aD (cg (aK (ae (vr 0) (ae (vr 4) ai))) (gN 5)) (aD (cg (aK (ae (vr 0) (ae (o2 aP (vr 4) (cn (.int 1))) ai))) (gN 6)) (aD (cg (o2 cZ (o2 aV (vr 2) (o2 aP (vr 4) (cn (.int 1)))) (o2 aV (vr 2) (vr 4))) (gN 7)) (aD (jx 3 (aK (ae (vr 5) (ae (vr 6) (ae (o2 b6 (vr 7) (o2 aV (vr 1) (cn (.int 1)))) ai))))) (jx 3 (aK (ae (vr 6) (ae (vr 5) (ae (o2 b6 (o1 jQ (vr 7)) (o2 aV (vr 1) (cn (.int 0)))) ai)))))))))
def fx:V4:=
 (aD (cg (o2 aV (vr 1) (cn (.int 2))) (gN 2)) (aD (jJ 3 ai) (aD (fI (iR (ae (o2 cZ (cl bO (ae (vr 2) ai)) (cn (.int 1))) ai)) (gN 4) bcF) (nQ 3 (aR (vr 3))))))
def cK:List T->Rs T:=val 2 8 fx
def eJ:V4:=
 (aD (jJ 1 (ae (aK (ae (o2 aV (vr 0) (cn (.int 1))) (ae (o2 aV (vr 0) (cn (.int 0))) (ae (o1 jQ (o2 aV (vr 0) (cn (.int 2)))) ai)))) ai)) (aD (e9 (tb (o2 dw (o2 aV (vr 0) (cn (.int 3))) (cn .non))) (jx 1 (aK (ae (o2 aV (vr 0) (cn (.int 0))) (ae (o2 aV (vr 0) (cn (.int 1))) (ae (o2 aV (vr 0) (cn (.int 3))) ai))))) sN) (nQ 1 (aR (vr 1)))))
def cx:List T->Rs T:=val 1 2 eJ
abbrev bdF:V4:=o9 1 (cl cK (ae (vr 2) (ae (vr 3) ai)))
def qG:V4:=
 (aD (xW (cl aY (ae (vr 0) ai))) (aD (jJ 1 ai) (aD (fI (iE (ae (o2 aV (vr 0) (cn (.int 0))) ai)) (gT 2 (eU (gN 2) (eU (gN 3) nK))) bdF) (aD (fI (iS (o2 aV (vr 0) (cn (.int 1)))) (gN 4) (o9 1 (cl cx (ae (vr 4) ai)))) (nQ 1 (aR (vr 1)))))))
def iQ:List T->Rs T:=val 1 5 qG
def G8:V4:=
 (aR (cl dY (ae (vr 0) (ae (cl iQ (ae (vr 0) ai)) ai))))
def i8:List T->Rs T:=val 1 1 G8
def xt:V4:=
 (aR (o2 dw (cl i8 (ae (vr 0) ai)) (cn .non)))
def cq:List T->Rs T:=val 1 1 xt
def fw:V4:=
 (e9 (cI (tb (cl cq (ae (vr 0) ai)))) (xX "NoWorld") sN)
def cJ:List T->Rs T:=val 1 1 fw
def gu:En->Rs Fx:=
 (nW (xA (xP (cl cJ (ae (vr 1) ai)))) (AN 0 "Desk" "kept" (ae (vr 1) ai)))
def dy:List Sl->Rs (T×OT):=iJ 2 0 2 gu
def ve:En->Rs (T ⊕ OT):=
 (wB (la "Desk" dy (ae (vr 0) ai)) jc)
def bB:List T->Rs (T ⊕ OT):=xG 1 2 ve
abbrev KN:V4:=(e9 (lL (tb (o2 dw (ln 2 (o2 bJ (o2 bJ (vr 2) (vr 3)) (vr 6))) (cn .non))) (tb (o2 dw (ln 2 (o2 bJ (o2 bJ (vr 2) (vr 6)) (vr 4))) (cn .non)))) (aD (cg (o2 aP (ln 2 (o2 bJ (o2 bJ (vr 2) (vr 3)) (vr 6))) (ln 2 (o2 bJ (o2 bJ (vr 2) (vr 6)) (vr 4)))) (gN 7)) (e9 (nS (tb (o2 jZ (ln 2 (o2 bJ (o2 bJ (vr 2) (vr 3)) (vr 4))) (cn .non))) (tb (o2 pQ (vr 7) (ln 2 (o2 bJ (o2 bJ (vr 2) (vr 3)) (vr 4)))))) (jr 2 (vr 3) (vr 4) (vr 7)) sN)) sN)
def ji:V4:=
 (aD (o8 2 0) (aD (fI (iS (vr 0)) (gN 3) (jr 2 (vr 3) (vr 3) (cn (.int 0)))) (aD (fI (iS (vr 1)) (gT 3 (eU (gN 3) (eU (gN 4) (eU (gN 5) nK)))) (e9 (nS (tb (o2 jZ (ln 2 (o2 bJ (o2 bJ (vr 2) (vr 3)) (vr 4))) (cn .non))) (tb (o2 pQ (vr 5) (ln 2 (o2 bJ (o2 bJ (vr 2) (vr 3)) (vr 4)))))) (jr 2 (vr 3) (vr 4) (vr 5)) sN)) (aD (fI (iS (vr 0)) (gN 6) (fI (iS (vr 0)) (gN 3) (fI (iS (vr 0)) (gN 4) KN))) (nQ 2 (aR (yE (tb (o2 kP (ig (iS (vr 0)) [ZB,ZA 2] (gN 0) (tb (o2 pQ (o2 bJ (o2 bJ (vr 1) (vr 0)) (vr 0)) (cn (.int 0)))) (vr 0)) (fA ai))) (vr 2) (cn .non))))))))
def gB:List T->Rs T:=val 2 8 ji
abbrev lkF:V4:=(aD (cg (o2 cZ (o2 aV (vr 5) (vr 6)) (o2 aV (vr 5) (o2 cZ (vr 6) (cn (.int 1))))) (gN 7)) (aD (jx 1 (aK (ae (aK (ae (vr 2) (ae (o2 cZ (vr 6) (cn (.int 1))) ai))) (ae (aK (ae (vr 2) (ae (vr 6) ai))) (ae (o2 b6 (vr 4) (vr 7)) ai))))) (jx 1 (aK (ae (aK (ae (vr 2) (ae (vr 6) ai))) (ae (aK (ae (vr 2) (ae (o2 cZ (vr 6) (cn (.int 1))) ai))) (ae (o2 cZ (cn (.int 0)) (o2 b6 (vr 3) (vr 7))) ai)))))))
abbrev llF:V4:=(aD (jx 1 (aK (ae (vr 9) (ae (vr 8) (ae (o2 cZ (cn (.int 0)) (vr 10)) ai))))) (e9 (tb (o2 dw (vr 11) (cn .non))) (jx 1 (aK (ae (vr 8) (ae (vr 9) (ae (vr 11) ai))))) sN))
def iH:V4:=
 (aD (jJ 1 ai) (aD (fI (iE (ae (o2 aV (vr 0) (cn (.int 0))) ai)) (gT 2 (eU (gN 2) (eU (gT 3 (eU (gN 3) (eU (gN 4) (eU (gN 5) nK)))) nK))) (fI (iR (ae (cn (.int 1)) (ae (cl bO (ae (vr 5) ai)) ai))) (gN 6) lkF)) (aD (fI (iS (o2 aV (vr 0) (cn (.int 1)))) (gT 4 (eU (gN 8) (eU (gN 9) (eU (gN 10) (eU (gN 11) nK))))) llF) (nQ 1 (aR (vr 1))))))
def fR:List T->Rs T:=val 1 12 iH
def yX:V4:=
 (aR (o2 dw (cl gB (ae (cl bY (ae (o2 aV (vr 0) (cn (.int 0))) ai)) (ae (cl fR (ae (vr 0) ai)) ai))) (cn .non)))
def di:List T->Rs T:=val 1 1 yX
def rq:V4:=
 (aR (o2 aV (o1 (yI "Desk" "kept") (vr 0)) (o1 jQ (cn (.int 1)))))
def aZ:List T->Rs T:=val 1 1 rq
def ko:V4:=
 (aD (e9 (tb (o2 kP (vr 0) (fA ai))) (aR (o2 b6 (cn (.int 7)) (vr 1))) sN) (aR (o2 aP (o2 aV (vr 0) (o2 mn (vr 1) (cl bO (ae (vr 0) ai)))) (o2 b6 (cn (.int 6553)) (o2 mz (vr 1) (cl bO (ae (vr 0) ai)))))))
def fX:List T->Rs T:=val 2 2 ko
def jl:V4:=
 (aD (cg (o2 mn (o2 aP (o2 b6 (o2 mn (cl fX (ae (vr 0) (ae (vr 1) ai))) (cn (.int 2147483563))) (cn (.int 69069))) (o2 b6 (cn (.int 104723)) (o2 aP (vr 1) (cn (.int 1))))) (cn (.int 2147483563))) (gN 3)) (aD (cg (o2 mn (o2 aP (o2 b6 (vr 3) (vr 3)) (o2 mz (vr 3) (cn (.int 3)))) (cn (.int 2147483399))) (gN 3)) (aR (o2 mn (o2 mz (o2 mn (o2 aP (o2 b6 (vr 3) (vr 3)) (o2 mz (vr 3) (cn (.int 7)))) (cn (.int 2147483647))) (cn (.int 11))) (vr 2)))))
def aF:List T->Rs T:=val 3 4 jl
def eh:V4:=
 (aD (cg (cl bY (ae (vr 2) ai)) (gN 3)) (aD (e9 (tb (o2 pQ (cl bO (ae (vr 3) ai)) (cn (.int 2)))) (aR (cn .non)) sN) (aD (cg (cl aF (ae (vr 0) (ae (vr 1) (ae (cl bO (ae (vr 3) ai)) ai)))) (gN 4)) (aD (cg (o2 mn (o2 aP (o2 aP (vr 4) (cn (.int 1))) (cl aF (ae (vr 0) (ae (o2 aP (vr 1) (cn (.int 1))) (ae (o2 cZ (cl bO (ae (vr 3) ai)) (cn (.int 1))) ai))))) (cl bO (ae (vr 3) ai))) (gN 5)) (aD (cg (cl aF (ae (vr 0) (ae (o2 aP (vr 1) (cn (.int 2))) (ae (cn (.int 8)) ai)))) (gN 6)) (aD (cg (yE (tb (o2 kP (cl aF (ae (vr 0) (ae (o2 aP (vr 1) (cn (.int 3))) (ae (cn (.int 3)) ai)))) (cn (.int 0)))) (cn .non) (o2 aP (vr 6) (cl aF (ae (vr 0) (ae (o2 aP (vr 1) (cn (.int 4))) (ae (cn (.int 9)) ai)))))) (gN 7)) (aR (aK (ae (o2 aV (vr 3) (vr 4)) (ae (o2 aV (vr 3) (vr 5)) (ae (vr 6) (ae (vr 7) ai))))))))))))
def bX:List T->Rs T:=val 3 8 eh
abbrev clF:V4:=cg (o2 aP (vr 3) (aK (ae (o2 aP (o2 aP (o2 aV (vr 3) (o1 jQ (cn (.int 1)))) (cn (.int 1))) (cl aF (ae (vr 0) (ae (o2 aP (o2 aP (vr 1) (cn (.int 3))) (vr 4)) (ae (cn (.int 5)) ai))))) ai))) (gN 3)
def jm:V4:=
 (aD (cg (o2 aP (cn (.int 1)) (cl aF (ae (vr 0) (ae (vr 1) (ae (cn (.int 3)) ai))))) (gN 2)) (aD (cg (aK (ae (cl aF (ae (vr 0) (ae (o2 aP (vr 1) (cn (.int 2))) (ae (cn (.int 6)) ai)))) ai)) (gN 3)) (aD (fI (iR (ae (cl aF (ae (vr 0) (ae (o2 aP (vr 1) (cn (.int 1))) (ae (cn (.int 3)) ai)))) ai)) (gN 4) clF) (aR (aK (ae (vr 2) (ae (o2 aP (vr 2) (cl aF (ae (vr 0) (ae (o2 aP (vr 1) (cn (.int 6))) (ae (cn (.int 3)) ai))))) (ae (vr 3) ai))))))))
def cL:List T->Rs T:=val 2 5 jm
abbrev leF:V4:=aD (cg (cl bX (ae (vr 0) (ae (o2 aP (o2 aP (vr 1) (cn (.int 31))) (o2 b6 (cn (.int 6)) (vr 5))) (ae (vr 3) ai)))) (gN 6)) (cg (o2 aP (vr 4) (o2 b6 (fA (ae (vr 6) ai)) (cl wV (ae (o2 dw (vr 6) (cn .non)) ai)))) (gN 4))
def iG:V4:=
 (aD (cg (cl iZ (ae (ig (iR (ae (o2 aP (cn (.int 1)) (cl aF (ae (vr 0) (ae (vr 1) (ae (cn (.int 3)) ai))))) ai)) [ZB,ZA 0,ZA 1] (gN 0) bT (cl cL (ae (vr 1) (ae (o2 aP (o2 aP (vr 2) (cn (.int 1))) (o2 b6 (cn (.int 8)) (vr 0))) ai)))) ai)) (gN 3)) (aD (cg (fA ai) (gN 4)) (aD (fI (iR (ae (cl aF (ae (vr 0) (ae (o2 aP (vr 1) (cn (.int 30))) (ae (o2 aP (vr 2) (cn (.int 1))) ai)))) ai)) (gN 5) leF) (aR (aK (ae (vr 3) (ae (cl iZ (ae (vr 4) ai)) ai)))))))
def fQ:List T->Rs T:=val 3 7 iG
abbrev X2:V4:=(e9 (tb (o2 kP (vr 1) (cn (.int 0)))) (aD (cg (aK (ae (vr 3) (ae (o2 aP (vr 4) (aK (ae (vr 5) ai))) ai))) (gN 8)) (aR (yE (tb (cl bH (ae (vr 8) ai))) (aK (ae (vr 8) (ae (cl bO (ae (vr 4) ai)) ai))) (aK (ae (cn .non) (ae (aK (ae (cn (.str "refused")) (ae (cn (.int 0)) ai))) ai)))))) sN)
abbrev X3:V4:=(e9 (tb (o2 kP (vr 1) (cn (.int 2)))) (aD (e9 (cI (tb (ch Bq pQ (cn (.int 0)) (vr 6) (cl bO (ae (vr 4) ai))))) (aR (aK (ae (cn .non) (ae (aK (ae (cn (.str "refused")) (ae (cn (.int 2)) ai))) ai)))) sN) (aR (aK (ae (aK (ae (vr 3) (ae (o2 aP (sl (vr 4) pN (pS (vr 6))) (sl (vr 4) (pS (o2 aP (vr 6) (cn (.int 1)))) pN)) ai))) (ae (cn .non) ai))))) sN)
abbrev X4:V4:=(e9 (cI (tb (ch Bq pQ (cn (.int 0)) (vr 6) (cl bO (ae (vr 3) ai))))) (aR (aK (ae (cn .non) (ae (aK (ae (cn (.str "refused")) (ae (cn (.int 2)) ai))) ai)))) sN)
abbrev X5:V4:=(cg (o2 aV (vr 3) (vr 6)) (gT 3 (eU (gN 9) (eU (gN 10) (eU (gN 11) nK)))))
abbrev X6:V4:=(cg (aK (ae (o2 aP (o2 aP (sl (vr 3) pN (pS (vr 6))) (aK (ae (aK (ae (vr 9) (ae (vr 10) (ae (o2 aP (vr 11) (aK (ae (vr 7) ai))) ai)))) ai))) (sl (vr 3) (pS (o2 aP (vr 6) (cn (.int 1)))) pN)) (ae (vr 4) ai))) (gN 8))
abbrev X7:V4:=(aR (yE (tb (cl bH (ae (vr 8) ai))) (aK (ae (vr 8) (ae (aK (ae (vr 6) (ae (cl bO (ae (vr 11) ai)) ai))) ai))) (aK (ae (cn .non) (ae (aK (ae (cn (.str "refused")) (ae (cn (.int 0)) ai))) ai)))))
def kn:V4:=
 (aD (cg (vr 0) (gT 2 (eU (gN 3) (eU (gN 4) nK)))) (aD (cg (vr 2) (gT 3 (eU (gN 5) (eU (gN 6) (eU (gN 7) nK))))) (aD X2 (aD X3 (aD X4 (aD X5 (aD X6 X7)))))))
def cu:List T->Rs T:=val 3 12 kn
def xv:V4:=
 (aR (o2 cZ (cl bO (ae (o1 (yI "Desk" "kept") (vr 0)) ai)) (cn (.int 1))))
def de:List T->Rs T:=val 1 1 xv
def gg:En->Rs Fx:=
 (nW (Jy (cI (tb (cl cq (ae (vr 1) ai)))) (Gg "Barred") mN) (xA (Ao 0 "Desk" "kept" (vr 1))))
def bQ:List Sl->Rs (T×OT):=iJ 2 0 2 gg
def gc:V4:=
 (aD (xW (cl aY (ae (vr 0) ai))) (aR (vr 0)))
def c9:List T->Rs T:=val 1 1 gc
def iD:V4:=
 (aD (xW (cl aY (ae (vr 0) ai))) (aR (cl c9 (ae (aK (ae (o2 aV (vr 0) (cn (.int 0))) (ae (o2 aP (o2 aV (vr 0) (cn (.int 1))) (aK (ae (vr 1) ai))) ai))) ai))))
def dz:List T->Rs T:=val 2 2 iD
def gf:En->Rs Fx:=
 (nW (xA (c8 0 "Desk" "keep" bQ (ae (cl dz (ae (ln 0 (wC "Desk" "record" aZ (vr 0) ai)) (ae (vr 1) ai))) ai))) (lE (xP (o2 cZ (cl bO (ae (o2 aV (ln 0 (wC "Desk" "record" aZ (vr 0) ai)) (cn (.int 1))) ai)) (cn (.int 1))))))
def eQ:List Sl->Rs (T×OT):=iJ 2 0 2 gf
def ef:V4:=
 (e9 (cI (tb (cl a7 (ae (vr 1) (ae (cn (.int 0)) (ae (o2 cZ (vr 0) (cn (.int 1))) ai)))))) (xX "NoNumber") sN)
def cR:List T->Rs T:=val 2 2 ef
def jd:V4:=
 (aD (cg (o2 aV (vr 0) (cn (.int 0))) (gN 3)) (aR (cl c9 (ae (aK (ae (o2 aP (o2 aP (sl (vr 3) pN (pS (vr 1))) (aK (ae (vr 2) ai))) (sl (vr 3) (pS (o2 aP (vr 1) (cn (.int 1)))) pN)) (ae (o2 aV (vr 0) (cn (.int 1))) ai))) ai))))
def gA:List T->Rs T:=val 3 4 jd
def dW:V4:=
 (aD (xW (cl aY (ae (vr 0) ai))) (aD (xW (cl cR (ae (cl bO (ae (o2 aV (vr 0) (cn (.int 0))) ai)) (ae (vr 1) ai)))) (aD (cg (o2 aV (o2 aV (vr 0) (cn (.int 0))) (vr 1)) (gN 3)) (aR (cl gA (ae (vr 0) (ae (vr 1) (ae (aK (ae (o2 aV (vr 3) (cn (.int 0))) (ae (o2 aV (vr 3) (cn (.int 1))) (ae (o2 aP (o2 aV (vr 3) (cn (.int 2))) (aK (ae (vr 2) ai))) ai)))) ai))))))))
def cX:List T->Rs T:=val 3 4 dW
def kq:En->Rs Fx:=
 (nW (xA (c8 0 "Desk" "keep" bQ (ae (cl cX (ae (ln 0 (wC "Desk" "record" aZ (vr 0) ai)) (ae (vr 1) (ae (vr 2) ai)))) ai))) (lE (xP (aK (ae (vr 1) (ae (o2 cZ (cl bO (ae (o2 aV (o2 aV (o2 aV (ln 0 (wC "Desk" "record" aZ (vr 0) ai)) (cn (.int 0))) (vr 1)) (cn (.int 2))) ai)) (cn (.int 1))) ai))))))
def dN:List Sl->Rs (T×OT):=iJ 3 0 3 kq
def cY:V4:=
 (aD (xW (cl aY (ae (vr 0) ai))) (aD (cg (o2 aV (vr 0) (cn (.int 1))) (gN 2)) (aD (xW (cl cR (ae (cl bO (ae (vr 2) ai)) (ae (vr 1) ai)))) (aR (aK (ae (o2 aV (vr 0) (cn (.int 0))) (ae (o2 aP (sl (vr 2) pN (pS (vr 1))) (sl (vr 2) (pS (o2 aP (vr 1) (cn (.int 1)))) pN)) ai)))))))
def cv:List T->Rs T:=val 2 3 cY
def xw:En->Rs Fx:=
 (xA (c8 0 "Desk" "keep" bQ (ae (cl cv (ae (ln 0 (wC "Desk" "record" aZ (vr 0) ai)) (ae (vr 1) ai))) ai)))
def dO:List Sl->Rs (T×OT):=iJ 2 0 2 xw
def gd:En->Rs Fx:=
 (nW (Jy (tb (o2 kP (ln 0 (wC "Desk" "many" de (vr 0) ai)) (cn (.int 0)))) (Gg "Nothing") mN) (xA (An 0 "Desk" "kept")))
def da:List Sl->Rs (T×OT):=iJ 1 0 1 gd
abbrev tdB:En->Rs Fx:=pP (tb (o2 kP (vr 1) (cn (.int 0)))) (lE (c8 0 "Desk" "take" eQ (ae (o2 aV (vr 2) (cn (.int 0))) ai))) (pP (tb (o2 kP (vr 1) (cn (.int 1)))) (lE (c8 0 "Desk" "read" dN (ae (o2 aV (vr 2) (cn (.int 1))) (ae (o2 aV (vr 2) (cn (.int 2))) ai)))) (lE (E5 (tb (o2 kP (vr 1) (cn (.int 2)))) (c8 0 "Desk" "drop" dO (ae (o2 aV (vr 2) (cn (.int 1))) ai)) (c8 0 "Desk" "undo" da ai))))
def xu:En->Rs Fx:=
 (wJ tdB jc)
def bz:List Sl->Rs (T×OT):=iJ 3 0 4 xu
abbrev B0:V4:=(cg (o2 aP (cn (.int 80)) (o2 b6 (cn (.int 12)) (vr 4))) (gN 5))
abbrev B1:V4:=(cg (o2 aV (vr 3) (o1 jQ (cn (.int 1)))) (gN 6))
abbrev B2:V4:=(cg (o2 aV (fA (ae (cn (.int 0)) (ae (cn (.int 0)) (ae (cn (.int 0)) (ae (cn (.int 1)) (ae (cn (.int 2)) (ae (cn (.int 3)) ai))))))) (cl aF (ae (vr 0) (ae (vr 5) (ae (cn (.int 6)) ai))))) (gN 7))
abbrev B3:V4:=(cg (cl bX (ae (vr 0) (ae (o2 aP (vr 5) (cn (.int 4))) (ae (o2 aV (vr 6) (cn (.int 0))) ai)))) (gN 8))
abbrev B4:V4:=(cg (o2 aV (o2 aV (o2 aV (vr 6) (cn (.int 0))) (cn (.int 0))) (cn (.int 2))) (gN 9))
abbrev B5:V4:=(cg (aK (ae (vr 8) (ae (o2 cZ (cl aF (ae (vr 0) (ae (o2 aP (vr 5) (cn (.int 1))) (ae (cn (.int 4)) ai)))) (cn (.int 1))) (ae (o2 cZ (o2 aP (o2 aV (vr 9) (o1 jQ (cn (.int 1)))) (cl aF (ae (vr 0) (ae (o2 aP (vr 5) (cn (.int 2))) (ae (cn (.int 9)) ai))))) (cn (.int 1))) ai)))) (gN 10))
abbrev B6:V4:=(e9 (tb (o2 kP (vr 7) (cn (.int 3)))) (aD (cg (yE (tb (o2 kP (cl bO (ae (vr 3) ai)) (cn (.int 1)))) (aK (ae (cn (.str "refused")) (ae (cn (.int 5)) ai))) (cn .non)) (gN 11)) (cg (sl (vr 3) pN (pS (cl rh (ae (cn (.int 1)) (ae (o2 cZ (cl bO (ae (vr 3) ai)) (cn (.int 1))) ai))))) (gN 3))) (aD (cg (cl cu (ae (vr 6) (ae (vr 7) (ae (vr 10) ai)))) (gT 2 (eU (gN 12) (eU (gN 11) nK)))) (aD (e9 (lL (tb (o2 dw (vr 12) (cn .non))) (cI (tb (cl di (ae (vr 12) ai))))) (cg (aK (ae (cn .non) (ae (aK (ae (cn (.str "refused")) (ae (cn (.int 4)) ai))) ai))) (gT 2 (eU (gN 12) (eU (gN 11) nK)))) sN) (cg (o2 aP (vr 3) (o2 b6 (fA (ae (vr 12) ai)) (cl wV (ae (o2 dw (vr 12) (cn .non)) ai)))) (gN 3)))))
abbrev B7:V4:=(xV (sS (HV (EZ pO (xE 2 bz (ae (vr 7) (ae (vr 10) ai))) (vr 11))) (sS (EX (tb (o2 pO (ln 2 (wC "Desk" "record" aZ (vr 2) ai)) (o2 aV (vr 3) (o1 jQ (cn (.int 1))))))) (EX (tb (o2 pO (ln 2 (wC "Desk" "many" de (vr 2) ai)) (o2 cZ (cl bO (ae (vr 3) ai)) (cn (.int 1)))))))) (aR (cn (.bl ZD))) sN)
def EG:V4:=
 (aD (cg (cl gC (ae (cl fQ (ae (vr 0) (ae (cn (.int 0)) (ae (cn (.int 2)) ai)))) ai)) (gN 1)) (aD (jK 2 bB (ae (vr 1) ai)) (aD (e9 (cI (tb (cl di (ae (vr 1) ai)))) (aR (ln 2 (o2 kP (vr 2) (aK (ae (cn (.str "refused")) (ae (cn (.int 3)) ai)))))) sN) (aD (e9 (nS (tb (o2 pO (cl (iw bB) (ae (sl (vr 1) pN (pS (cn (.int 1)))) ai)) (aK (ae (cn (.str "refused")) (ae (cn (.int 0)) ai))))) (tb (o2 pO (cl (iw bB) (ae (aK (ae (o2 aV (vr 1) (cn (.int 0))) (ae (cn .non) ai))) ai)) (aK (ae (cn (.str "refused")) (ae (cn (.int 0)) ai)))))) (aR (cn (.bl ZD))) sN) (aD (cg (fA (ae (vr 1) ai)) (gN 3)) (aD (fI (iR (ae (cl rh (ae (cn (.int 1)) (ae (cl C3 (ae (cn (.int 10)) (ae (cl bO (ae (vr 0) ai)) ai))) ai))) ai)) (gN 4) (aD B0 (aD B1 (aD B2 (aD B3 (aD B4 (aD B5 (aD B6 B7)))))))) (aR (cl di (ae (ln 2 (wC "Desk" "record" aZ (vr 2) ai)) ai)))))))))
def m_law:List T->Rs T:=val 1 13 EG
end G
namespace G
open PySem PySem.Spec PyProof.Rows L2 Tr
variable{bv ci al bi ac bn ca f_r:ZE}{K:NK}{fd_r:Ox}{mg:V0}
section
variable (P:Oa)(w:O0)(base:ZH)
abbrev gQ:ZF:=top 56
abbrev jP:List Str:=["_law_clocks","_law_found","_law_number","_law_clock_here"]
theorem aah:aA jP ["_law_clocks"] (aj gQ):=gh
theorem pB(F:g9 K mg "_law_events" gQ ["_law_clocks"])(B:Bl mg):Cl P w K mg base 1 "_law_events" 1 bY:=
 bK F aah rfl λf c A o s H E hr x=>(by(apply au;exact(aJ (ip ah) (ar 1 aah.nd));apply au;exact(cE rfl (jB B.b_enumerate (ag (af 0) ah)) (dX rfl (aO (ar 2 aah.nd) (aO (ar 3 aah.nd) cV))) (aw (aJ (ax aN (af 1) (jn (N':=["_law_place","_law_number"]) (src:=[ZB,ZA 2]) rfl (LcScope.by (N:=jP) (names:=(aj gQ).names) rfl rfl rfl (by decide+kernel)) (dF B.b_range (ag (cb bW B.b_len Pl (ag (aH (af 3) ao) ah)) ah)) (λ_ _ _ _ _=>⟨(ar 0 (show Pm (["_law_place","_law_number"]:List Str)by decide+kernel)),dE,(aM (ag (af 1) (ag (af 0) ah)))⟩))) (ar 1 aah.nd))));exact aw (aI (af 1))))
abbrev fO:ZF:=top 58
abbrev iz:List Str:=["_law_record_here","_law_clocks","_law_row"]
theorem aaw:aA iz ["_law_record_here"] (aj fO):=gh
theorem qT(F:g9 K mg "_law_small" fO ["_law_record_here"])(aa8:Cl P w K mg base 1 "_law_events" 1 bY)(B:Bl mg):Cl P w K mg base 2 "_law_small" 1 gC:=
 bK F aaw rfl λf c A o s H E hr x=>(by(apply au;exact(aJ (oN kg B.b_tuple dB (ag (jn (N':=["_law_clock_here"]) (src:=[ZB]) rfl (LcScope.by (N:=iz) (names:=(aj fO).names) rfl rfl rfl (by decide+kernel)) (cA (cH (aH (af 0) ao) cG (cF ao))) (λ_ _ _ _ _=>⟨(ar 0 (show Pm (["_law_clock_here"]:List Str)by decide+kernel)),dE,(ax aN (cH (af 0) cG (cF ao)) (aM (ag (cH (aH (af 0) ao) cG (cF ao)) ah)))⟩)) ah)) (ar 1 aaw.nd));apply au;exact(aJ (a6 aa8 hr (ag (af 1) ah)) (ar 2 aaw.nd));exact aw (aI (aM (ag (af 1) (ag (oN kg B.b_tuple dB (ag (jn (N':=["_law_letter_here","_law_row"]) (src:=[ZB,ZA 2]) rfl (LcScope.by (N:=iz) (names:=(aj fO).names) rfl rfl rfl (by decide+kernel)) (cA (aH (af 0) ao)) (λ_ _ _ _ _=>⟨(ar 0 (show Pm (["_law_letter_here","_law_row"]:List Str)by decide+kernel)),(vg (lN (sP (bc (CM (GA hr)) (aH (af 0) ao) (af 1)) (oK (bc (CM (GA hr)) (aH (af 0) ao) (af 1)))))),(af 0)⟩)) ah)) ah))))))
abbrev oX:ZF:=top 17
abbrev yh:List Str:=["thing","least","most"]
theorem xU:aA yh ["thing","least","most"] (aj oX):=gh
theorem yd(F:g9 K mg "is_long" oX ["thing","least","most"])(B:Bl mg):Cl P w K mg base 1 "is_long" 3 aS:=
 bK F xU rfl λf c A o s H E hr x=>(aw (aI (eX (By B.b_isinstance B.b_tuple dB (af 0)) (fG (vj rO rO (af 1) (cb bW B.b_len Pl (ag (af 0) ah)) (af 2))))))
abbrev ny:ZF:=top 15
abbrev wm:List Str:=["thing"]
theorem vH:aA wm ["thing"] (aj ny):=gh
theorem v8(F:g9 K mg "is_whole" ny ["thing"])(B:Bl mg):Cl P w K mg base 1 "is_whole" 1 i9:=
 bK F vH rfl λf c A o s H E hr x=>(aw (aI (eX (By B.b_isinstance B.b_int kh (af 0)) (fG (HN (By B.b_isinstance B.b_bool u6 (af 0)))))))
abbrev lR:ZF:=top 16
abbrev uv:List Str:=["thing","least","most"]
theorem ti:aA uv ["thing","least","most"] (aj lR):=gh
theorem t9(F:g9 K mg "is_within" lR ["thing","least","most"])(aaS:Cl P w K mg base 1 "is_whole" 1 i9):Cl P w K mg base 2 "is_within" 3 a7:=
 bK F ti rfl λf c A o s H E hr x=>(aw (aI (eX (a6 aaS hr (ag (af 0) ah)) (fG (vj rO rO (af 1) (af 0) (af 2))))))
abbrev oV:ZF:=top 20
abbrev yg:List Str:=["slow","fast"]
theorem xT:aA yg ["slow","fast"] (aj oV):=gh
theorem yc(F:g9 K mg "is_pace" oV ["slow","fast"])(aa2:Cl P w K mg base 2 "is_within" 3 a7)(C:Cs mg):Cl P w K mg base 3 "is_pace" 2 gF:=
 bK F xT rfl λf c A o s H E hr x=>(aw (aI (eX (a6 aa2 hr (ag (af 0) (ag ao (ag (vh C.SLOWEST) ah)))) (fG (a6 aa2 hr (ag (af 1) (ag (af 0) (ag (vh C.SLOWEST) ah))))))))
abbrev oU:ZF:=top 18
abbrev wj:List Str:=["numbers"]
theorem BY:aA wj ["numbers"] (aj oU):=gh
theorem CS(F:g9 K mg "rises" oU ["numbers"])(B:Bl mg):Cl P w K mg base 1 "rises" 1 kE:=
 bK F BY rfl λf c A o s H E hr x=>(aw (aI (cb (uZ rfl) B.b_all boot_all (ag (jn (N':=["k","numbers"]) (src:=[ZB,ZA 0]) rfl (LcScope.by (N:=wj) (names:=(aj oU).names) rfl rfl rfl (by decide+kernel)) (dF B.b_range (ag (ax cW (cb bW B.b_len Pl (ag (af 0) ah)) ao) ah)) (λ_ _ _ _ _=>⟨(ar 0 (show Pm (["k","numbers"]:List Str)by decide+kernel)),dE,(iq nG (aH (af 1) (af 0)) (aH (af 1) (ax aN (af 0) ao)))⟩)) ah))))
abbrev gj:ZF:=top 19
abbrev ju:List Str:=["thing"]
theorem nP:aA ju ["thing"] (aj gj):=gh
theorem nU(F:g9 K mg "are_readings" gj ["thing"])(aa3:Cl P w K mg base 1 "is_long" 3 aS)(ab3:Cl P w K mg base 1 "rises" 1 kE)(aa2:Cl P w K mg base 2 "is_within" 3 a7)(B:Bl mg)(C:Cs mg):Cl P w K mg base 3 "are_readings" 1 b7:=
 bK F nP rfl λf c A o s H E hr x=>(au (ck (dC (df (a6 aa3 hr (ag (af 0) (ag ao (ag (vh C.MOST_READINGS) ah)))))) (aw (aI nu)) bL) (aw (aI (eX (cb (uZ rfl) B.b_all boot_all (ag (jn (N':=["part"]) (src:=[ZB]) rfl (LcScope.by (N:=ju) (names:=(aj gj).names) rfl rfl rfl (by decide+kernel)) (cA (af 0)) (λ_ _ _ _ _=>⟨(ar 0 (show Pm (["part"]:List Str)by decide+kernel)),dE,(a6 aa2 hr (ag (af 0) (ag ao (ag (vh C.LAST_READING) ah))))⟩)) ah)) (fG (a6 ab3 hr (ag (af 0) ah)))))))
abbrev nC:ZF:=top 21
abbrev wt:List Str:=["thing"]
theorem vK:aA wt ["thing"] (aj nC):=gh
theorem wb(F:g9 K mg "is_clock" nC ["thing"])(aa3:Cl P w K mg base 1 "is_long" 3 aS)(aaX:Cl P w K mg base 3 "is_pace" 2 gF)(aat:Cl P w K mg base 3 "are_readings" 1 b7):Cl P w K mg base 4 "is_clock" 1 dJ:=
 bK F vK rfl λf c A o s H E hr x=>(aw (aI (eX (a6 aa3 hr (ag (af 0) (ag ao (ag ao ah)))) (eX (a6 aaX hr (ag (aH (af 0) ao) (ag (aH (af 0) ao) ah))) (fG (a6 aat hr (ag (aH (af 0) ao) ah)))))))
abbrev ir:ZF:=top 22
abbrev k9:List Str:=["thing"]
theorem qK:aA k9 ["thing"] (aj ir):=gh
theorem qR(F:g9 K mg "are_clocks" ir ["thing"])(aa3:Cl P w K mg base 1 "is_long" 3 aS)(aaT:Cl P w K mg base 4 "is_clock" 1 dJ)(B:Bl mg)(C:Cs mg):Cl P w K mg base 5 "are_clocks" 1 dZ:=
 bK F qK rfl λf c A o s H E hr x=>(aw (aI (eX (a6 aa3 hr (ag (af 0) (ag ao (ag (vh C.MOST_CLOCKS) ah)))) (fG (cb (uZ rfl) B.b_all boot_all (ag (jn (N':=["part"]) (src:=[ZB]) rfl (LcScope.by (N:=k9) (names:=(aj ir).names) rfl rfl rfl (by decide+kernel)) (cA (af 0)) (λ_ _ _ _ _=>⟨(ar 0 (show Pm (["part"]:List Str)by decide+kernel)),dE,(a6 aaT hr (ag (af 0) ah))⟩)) ah))))))
abbrev nA:ZF:=top 23
abbrev wo:List Str:=["clocks","thing"]
theorem vI:aA wo ["clocks","thing"] (aj nA):=gh
theorem v9(F:g9 K mg "is_event" nA ["clocks","thing"])(aa2:Cl P w K mg base 2 "is_within" 3 a7)(aa3:Cl P w K mg base 1 "is_long" 3 aS)(B:Bl mg):Cl P w K mg base 3 "is_event" 2 dI:=
 bK F vI rfl λf c A o s H E hr x=>(au (ck (lN (mJ (dC (df (a6 aa3 hr (ag (af 1) (ag ao (ag ao ah)))))) (ku (dC (df (a6 aa2 hr (ag (aH (af 1) ao) (ag ao (ag (ax cW (cb bW B.b_len Pl (ag (af 0) ah)) ao) ah))))))))) (aw (aI nu)) bL) (aw (aI (a6 aa2 hr (ag (aH (af 1) ao) (ag ao (ag (ax cW (cb bW B.b_len Pl (ag (aH (aH (af 0) (aH (af 1) ao)) ao) ah)) ao) ah)))))))
abbrev nB:ZF:=top 24
abbrev wq:List Str:=["least","most"]
theorem vJ:aA wq ["least","most"] (aj nB):=gh
theorem wa(F:g9 K mg "is_delay" nB ["least","most"])(aa2:Cl P w K mg base 2 "is_within" 3 a7)(C:Cs mg):Cl P w K mg base 3 "is_delay" 2 eI:=
 bK F vJ rfl λf c A o s H E hr x=>(aw (aI (eX (a6 aa2 hr (ag (af 0) (ag ao (ag (vh C.LONGEST) ah)))) (fG (Hb (iq rP (af 1) bM) (fG (a6 aa2 hr (ag (af 1) (ag (af 0) (ag (vh C.LONGEST) ah))))))))))
abbrev lT:ZF:=top 25
abbrev uz:List Str:=["clocks","thing"]
theorem tp:aA uz ["clocks","thing"] (aj lT):=gh
theorem ub(F:g9 K mg "is_letter" lT ["clocks","thing"])(aaD:Cl P w K mg base 3 "is_event" 2 dI)(aa3:Cl P w K mg base 1 "is_long" 3 aS)(aaU:Cl P w K mg base 3 "is_delay" 2 eI):Cl P w K mg base 4 "is_letter" 2 cp:=
 bK F tp rfl λf c A o s H E hr x=>(au (ck (lN (mJ (dC (df (a6 aa3 hr (ag (af 1) (ag ao (ag ao ah)))))) (ku (dC (df (a6 aaU hr (ag (aH (af 1) ao) (ag (aH (af 1) ao) ah)))))))) (aw (aI nu)) bL) (aw (aI (eX (a6 aaD hr (ag (af 0) (ag (aH (af 1) ao) ah))) (eX (a6 aaD hr (ag (af 0) (ag (aH (af 1) ao) ah))) (fG (iq (rN (jz hr)) (aH (af 1) ao) (aH (af 1) ao))))))))
abbrev gO:ZF:=top 26
abbrev jN:List Str:=["clocks","thing"]
theorem o6:aA jN ["clocks","thing"] (aj gO):=gh
theorem pw(F:g9 K mg "are_letters" gO ["clocks","thing"])(aa3:Cl P w K mg base 1 "is_long" 3 aS)(aaN:Cl P w K mg base 4 "is_letter" 2 cp)(B:Bl mg)(C:Cs mg):Cl P w K mg base 5 "are_letters" 2 dA:=
 bK F o6 rfl λf c A o s H E hr x=>(aw (aI (eX (a6 aa3 hr (ag (af 1) (ag ao (ag (vh C.MOST_LETTERS) ah)))) (fG (cb (uZ rfl) B.b_all boot_all (ag (jn (N':=["part","clocks"]) (src:=[ZB,ZA 0]) rfl (LcScope.by (N:=jN) (names:=(aj gO).names) rfl rfl rfl (by decide+kernel)) (cA (af 1)) (λ_ _ _ _ _=>⟨(ar 0 (show Pm (["part","clocks"]:List Str)by decide+kernel)),dE,(a6 aaN hr (ag (af 1) (ag (af 0) ah)))⟩)) ah))))))
abbrev lS:ZF:=top 27
abbrev uw:List Str:=["thing"]
theorem tj:aA uw ["thing"] (aj lS):=gh
theorem ua(F:g9 K mg "is_record" lS ["thing"])(aa3:Cl P w K mg base 1 "is_long" 3 aS)(aaE:Cl P w K mg base 5 "are_clocks" 1 dZ)(aax:Cl P w K mg base 5 "are_letters" 2 dA):Cl P w K mg base 6 "is_record" 1 bH:=
 bK F tj rfl λf c A o s H E hr x=>(aw (aI (eX (a6 aa3 hr (ag (af 0) (ag ao (ag ao ah)))) (eX (a6 aaE hr (ag (aH (af 0) ao) ah)) (fG (a6 aax hr (ag (aH (af 0) ao) (ag (aH (af 0) ao) ah))))))))
abbrev jE:ZF:=top 28
abbrev pI:List Str:=["thing"]
theorem o4:aA pI ["thing"] (aj jE):=gh
theorem pk(F:g9 K mg "need_record" jE ["thing"])(aag:Cl P w K mg base 6 "is_record" 1 bH)(S:Xs K mg ac al bi bn bv ca ci):Cl P w K mg base 7 "need_record" 1 aY:=
 bK F o4 rfl λf c A o s H E hr x=>(aw (ck (dC (df (a6 aag hr (ag (af 0) ah)))) (aw (iI S.o_NoRecord S.m_NoRecord)) bL))
abbrev mK:ZF:=top 30
abbrev rS:List Str:=["record","told","number","clock"]
theorem aaL:aA rS ["record"] (aj mK):=gh
theorem AE(F:g9 K mg "events" mK ["record"])(aa1:Cl P w K mg base 7 "need_record" 1 aY)(B:Bl mg):Cl P w K mg base 8 "events" 1 jT:=
 bK F aaL rfl λf c A o s H E hr x=>(by(apply au;exact(fV (a6 aa1 hr (ag (af 0) ah)));apply au;exact(jA 1 aaL.nd ah);apply au;exact(cE rfl (jB B.b_enumerate (ag (aH (af 0) ao) ah)) (dX rfl (aO (ar 2 aaL.nd) (aO (ar 3 aaL.nd) cV))) (aw (sQ 1 (jn (N':=["k","number"]) (src:=[ZB,ZA 2]) rfl (LcScope.by (N:=rS) (names:=(aj mK).names) rfl rfl rfl (by decide+kernel)) (dF B.b_range (ag (cb bW B.b_len Pl (ag (aH (af 3) ao) ah)) ah)) (λ_ _ _ _ _=>⟨(ar 0 (show Pm (["k","number"]:List Str)by decide+kernel)),dE,(aM (ag (af 1) (ag (af 0) ah)))⟩)))));exact aw (iU 1 (aI (af 1)))))
abbrev lU:ZF:=top 43
abbrev uA:List Str:=["best","bound","ahead","known"]
theorem aaY:aA uA ["best","bound","ahead"] (aj lU):=gh
theorem uc(F:g9 K mg "is_better" lU ["best","bound","ahead"]):Cl P w K mg base 1 "is_better" 3 dM:=
 bK F aaY rfl λf c A o s H E hr x=>(au (aJ (yY (nZ hr) (af 0) (aH (af 1) ao)) (ar 3 aaY.nd)) (aw (aI (Hb (iq rP (af 3) bM) (fG (iq nG (ax aN (aH (af 2) ao) (aH (af 1) ao)) (aH (af 3) ao)))))))
abbrev kz:ZF:=top 42
abbrev mU:List Str:=["limits","starts","best","moved","number","bound","ahead","walk","passed"]
theorem aab:aA mU ["limits","starts"] (aj kz):=gh
theorem AD(F:g9 K mg "settle" kz ["limits","starts"])(aaO:Cl P w K mg base 1 "is_better" 3 dM)(B:Bl mg):Cl P w K mg base 2 "settle" 2 jS:=
 bK F aab rfl λf c A o s H E hr x=>(by(apply au;exact(Bx 2 (hu8 hr) rfl B.b_dict aab.nd (jn (N':=["event"]) (src:=[ZB]) rfl (LcScope.by (N:=mU) (names:=(aj kz).names) rfl rfl rfl (by decide+kernel)) (cA (af 1)) (λ_ _ _ _ _=>⟨(ar 0 (show Pm (["event"]:List Str)by decide+kernel)),dE,(aM (ag (af 0) (ag (aM (ag ao (ag (ip ah) ah))) ah)))⟩)));apply au;exact(aJ nu (ar 3 aab.nd));apply au;exact(Aj FU (df (af 3)) (au (aJ nu (ar 3 aab.nd)) (aw (cE rfl (jB B.b_enumerate (ag (af 0) ah)) (dX rfl (aO (ar 4 aab.nd) (aO (ar 5 aab.nd) cV))) (by(apply au;exact(aJ (eV 2 (yY (nZ hr) (af 2) (aH (af 5) ao))) (ar 6 aab.nd));apply au;exact(ck (lN (mJ (bc rP (af 6) bM) (ku (dC (HK 2 (df (a6 aaO hr (ag (af 2) (ag (af 5) (ag (af 6) ah)))))))))) (aw HM) bL);apply au;exact(aJ (ax aN (aH (af 6) ao) (ip (ag (af 4) ah))) (ar 7 aab.nd));apply au;exact(HL 8 (N':=["step","limits"]) (src:=[ZB,ZA 0]) rfl (LcScope.by (N:=mU) (names:=(aj kz).names) rfl rfl rfl (by decide+kernel)) (cA (af 7)) (λ_ _ _ _ _=>⟨(ar 0 (show Pm (["step","limits"]:List Str)by decide+kernel)),dE,(aH (aH (af 1) (af 0)) ao)⟩) aab.nd);apply au;exact(ck (bc (CM (GA hr)) (aH (af 5) ao) (af 8)) (aw (aI (aM (ag bM (ag (cH (af 7) (cF (Am (GA hr) (af 8) (aH (af 5) ao))) cG) ah))))) bL);apply au;exact(ES 2 (nZ hr) (aH (af 5) ao) (aM (ag (ax aN (aH (af 6) ao) (aH (af 5) ao)) (ag (af 7) ah))));exact aw (aJ nu (ar 3 aab.nd))))))));exact aw (iU 2 (aI (aM (ag (af 2) (ag bM ah)))))))
abbrev eZ:ZF:=top 45
abbrev hY:List Str:=["record","limits","places","best"]
theorem aan:aA hY ["record","limits"] (aj eZ):=gh
theorem mj(F:g9 K mg "greatest_world" eZ ["record","limits"])(ab0:Cl P w K mg base 8 "events" 1 jT)(ab1:Cl P w K mg base 2 "settle" 2 jS)(B:Bl mg):Cl P w K mg base 9 "greatest_world" 2 dY:=
 bK F aan rfl λf c A o s H E hr x=>(by(apply au;exact(aJ (a6 ab0 hr (ag (af 0) ah)) (ar 2 aan.nd));apply au;exact(aJ (aH (a6 ab1 hr (ag (af 1) (ag (af 2) ah))) ao) (ar 3 aan.nd));apply au;exact(ck (bc rP (af 3) bM) (aw (aI bM)) bL);exact aw (aI (oN kg B.b_tuple dB (ag (jn (N':=["event","best"]) (src:=[ZB,ZA 3]) rfl (LcScope.by (N:=hY) (names:=(aj eZ).names) rfl rfl rfl (by decide+kernel)) (cA (af 2)) (λ_ _ _ _ _=>⟨(ar 0 (show Pm (["event","best"]:List Str)by decide+kernel)),dE,(aH (dg (nZ hr) (af 1) (af 0)) ao)⟩)) ah)))))
abbrev gM:ZF:=top 38
abbrev lC:List Str:=["number","clock","readings","told","k","first","second","steps"]
theorem aa5:aA lC ["number","clock"] (aj gM):=gh
theorem lz(F:g9 K mg "bounds_of_clock" gM ["number","clock"])(B:Bl mg):Cl P w K mg base 1 "bounds_of_clock" 2 cK:=
 bK F aa5 rfl λf c A o s H E hr x=>(by(apply au;exact(aJ (aH (af 1) ao) (ar 2 aa5.nd));apply au;exact(jA 3 aa5.nd ah);apply au;exact(cE rfl (dF B.b_range (ag (ax cW (cb bW B.b_len Pl (ag (af 2) ah)) ao) ah)) (ar 4 aa5.nd) (by(apply au;exact(aJ (aM (ag (af 0) (ag (af 4) ah))) (ar 5 aa5.nd));apply au;exact(aJ (aM (ag (af 0) (ag (ax aN (af 4) ao) ah))) (ar 6 aa5.nd));apply au;exact(aJ (ax cW (aH (af 2) (ax aN (af 4) ao)) (aH (af 2) (af 4))) (ar 7 aa5.nd));apply au;exact(iV 3 (aM (ag (af 5) (ag (af 6) (ag (ax dh (af 7) (aH (af 1) ao)) ah)))));exact aw (iV 3 (aM (ag (af 6) (ag (af 5) (ag (ax dh (lu (af 7)) (aH (af 1) ao)) ah))))))));exact aw (iU 3 (aI (af 3)))))
abbrev gv:ZF:=top 39
abbrev kO:List Str:=["letter","told"]
theorem aas:aA kO ["letter"] (aj gv):=gh
theorem kM(F:g9 K mg "bounds_of_letter" gv ["letter"]):Cl P w K mg base 1 "bounds_of_letter" 1 cx:=
 bK F aas rfl λf c A o s H E hr x=>(by(apply au;exact(jA 1 aas.nd (ag (aM (ag (aH (af 0) ao) (ag (aH (af 0) ao) (ag (lu (aH (af 0) ao)) ah)))) ah));apply au;exact(ck (bc fh (aH (af 0) ao) bM) (aw (iV 1 (aM (ag (aH (af 0) ao) (ag (aH (af 0) ao) (ag (aH (af 0) ao) ah)))))) bL);exact aw (iU 1 (aI (af 1)))))
abbrev rG:ZF:=top 40
abbrev AH:List Str:=["record","told","number","clock","letter"]
theorem aav:aA AH ["record"] (aj rG):=gh
theorem AF(F:g9 K mg "bounds" rG ["record"])(aa1:Cl P w K mg base 7 "need_record" 1 aY)(aao:Cl P w K mg base 1 "bounds_of_clock" 2 cK)(aal:Cl P w K mg base 1 "bounds_of_letter" 1 cx)(B:Bl mg):Cl P w K mg base 8 "bounds" 1 iQ:=
 bK F aav rfl λf c A o s H E hr x=>(by(apply au;exact(fV (a6 aa1 hr (ag (af 0) ah)));apply au;exact(jA 1 aav.nd ah);apply au;exact(cE rfl (jB B.b_enumerate (ag (aH (af 0) ao) ah)) (dX rfl (aO (ar 2 aav.nd) (aO (ar 3 aav.nd) cV))) (aw (sQ 1 (a6 aao hr (ag (af 2) (ag (af 3) ah))))));apply au;exact(cE rfl (cA (aH (af 0) ao)) (ar 4 aav.nd) (aw (sQ 1 (a6 aal hr (ag (af 4) ah)))));exact aw (iU 1 (aI (af 1)))))
abbrev vD:ZF:=top 46
abbrev CW:List Str:=["record"]
theorem BX:aA CW ["record"] (aj vD):=gh
theorem CP(F:g9 K mg "world" vD ["record"])(aap:Cl P w K mg base 9 "greatest_world" 2 dY)(ab2:Cl P w K mg base 8 "bounds" 1 iQ):Cl P w K mg base 10 "world" 1 i8:=
 bK F BX rfl λf c A o s H E hr x=>(aw (aI (a6 aap hr (ag (af 0) (ag (a6 ab2 hr (ag (af 0) ah)) ah)))))
abbrev lW:ZF:=top 47
abbrev uC:List Str:=["record"]
theorem tu:aA uC ["record"] (aj lW):=gh
theorem ue(F:g9 K mg "has_world" lW ["record"])(ab4:Cl P w K mg base 10 "world" 1 i8):Cl P w K mg base 11 "has_world" 1 cq:=
 bK F tu rfl λf c A o s H E hr x=>(aw (aI (iq fh (a6 ab4 hr (ag (af 0) ah)) bM)))
abbrev kW:ZF:=top 48
abbrev qY:List Str:=["record"]
theorem qJ:aA qY ["record"] (aj kW):=gh
theorem qQ(F:g9 K mg "need_world" kW ["record"])(aaj:Cl P w K mg base 11 "has_world" 1 cq)(S:Xs K mg ac al bi bn bv ca ci):Cl P w K mg base 12 "need_world" 1 cJ:=
 bK F qJ rfl λf c A o s H E hr x=>(aw (ck (dC (df (a6 aaj hr (ag (af 0) ah)))) (aw (iI S.o_NoWorld S.m_NoWorld)) bL))
abbrev iK:ZF:=dm (top 50) 0
abbrev mV:List Str:=["self","record"]
theorem mL:aA mV ["self","record"] (aj iK):=gh
theorem mQ(F:qE K "Desk" "__init__" "Desk.__init__" iK ["self","record"])(aaF:Cl P w K mg base 12 "need_world" 1 cJ)(jp:eE K mg):Mm P w K mg base 13 "Desk" "__init__" 2 dy:=
 rY F mL rfl λf c A o s H E hr x=>(lO (rB (sO (a6 aaF hr (ag (af 1) ah)))) (gi (HR 0 jp.k jp.a_kept (ag (af 1) ah))))
abbrev kZ:ZF:=top 63
abbrev rg:List Str:=["_law_record_here","_law_e"]
theorem aaV:aA rg ["_law_record_here"] (aj kZ):=gh
theorem qW(F:g9 K mg "_law_begun" kZ ["_law_record_here"])(kt:Mm P w K mg base 13 "Desk" "__init__" 2 dy)(B:Bl mg)(jp:eE K mg)(S:Xs K mg ac al bi bn bv ca ci)(aaa:Fn K mg "_law_refused" bP ["_law_e"] f_r fd_r):Cs_ P w K mg base 15 "_law_begun" 1 bB:=
 Mv F aaV rfl λf c A o s H E hr x=>(BA (HP 1 aaV.nd S.m_ClockError S.o_ClockError (λ_ _=>(BA (EV jp.k kt hr (ag (af 0) ah)))) (vC rfl (OB rfl) aaa S B.b_isinstance B.b_ValueError (Hk hr)) (hcl:=λ_ _ z=>by cases z)))
abbrev fN:ZF:=top 60
abbrev iy:List Str:=["_law_places","_law_row","_law_far","_law_one","_law_other","_law_most","_law_middle","_law_whole"]
theorem aa7:aA iy ["_law_places","_law_row"] (aj fN):=gh
theorem qS(F:g9 K mg "_law_table" fN ["_law_places","_law_row"])(B:Bl mg):Cl P w K mg base 1 "_law_table" 2 gB:=
 bK F aa7 rfl λf c A o s H E hr x=>(by(apply au;exact(Ak 2 0 (N':=["_law_one","_law_places"]) (src:=[ZB]) (hu8 hr) rfl B.b_dict aa7.nd (LcScope.by (N:=iy) (names:=(aj fN).names) rfl rfl rfl (by decide+kernel)) (cA (af 0)) (by decide) (λ_ _ _ _ _=>⟨(ar 0 (show Pm (["_law_one","_law_places"]:List Str)by decide+kernel)),pv 0,Ja (hu8 hr) rfl B.b_dict rfl (LcScope.byN (N:=["_law_one","_law_places"]) (N':=["_law_other"]) rfl rfl (by decide+kernel) rfl) (cA (af 1)).h (λ_ _ _ _ _=>⟨(ar 0 (show Pm (["_law_other"]:List Str)by decide+kernel)).h,pv 0,rfl⟩) (λ_=>rfl)⟩));apply au;exact(cE rfl (cA (af 0)) (ar 3 aa7.nd) (aw (oM 2 (nZ hr) (af 3) (af 3) ao)));apply au;exact(cE rfl (cA (af 1)) (dX rfl (aO (ar 3 aa7.nd) (aO (ar 4 aa7.nd) (aO (ar 5 aa7.nd) cV)))) (aw (ck (lN (mJ (bc rP (eV 2 (dg (nZ hr) (dg (nZ hr) (af 2) (af 3)) (af 4))) bM) (ku (bc nG (af 5) (eV 2 (dg (nZ hr) (dg (nZ hr) (af 2) (af 3)) (af 4))))))) (aw (oM 2 (nZ hr) (af 3) (af 4) (af 5))) bL)));apply au;exact(cE rfl (cA (af 0)) (ar 6 aa7.nd) (aw (cE rfl (cA (af 0)) (ar 3 aa7.nd) (aw (cE rfl (cA (af 0)) (ar 4 aa7.nd) (aw (ck (lN (sP (bc fh (eV 2 (dg (nZ hr) (dg (nZ hr) (af 2) (af 3)) (af 6))) bM) (oK (bc fh (eV 2 (dg (nZ hr) (dg (nZ hr) (af 2) (af 6)) (af 4))) bM)))) (au (aJ (ax aN (eV 2 (dg (nZ hr) (dg (nZ hr) (af 2) (af 3)) (af 6))) (eV 2 (dg (nZ hr) (dg (nZ hr) (af 2) (af 6)) (af 4)))) (ar 7 aa7.nd)) (aw (ck (lN (mJ (bc rP (eV 2 (dg (nZ hr) (dg (nZ hr) (af 2) (af 3)) (af 4))) bM) (ku (bc nG (af 7) (eV 2 (dg (nZ hr) (dg (nZ hr) (af 2) (af 3)) (af 4))))))) (aw (oM 2 (nZ hr) (af 3) (af 4) (af 7))) bL))) bL)))))));exact aw (iU 2 (aI (vi (bc (jt (jz hr)) (jn (N':=["_law_one","_law_far"]) (src:=[ZB,ZA 2]) rfl (LcScope.by (N:=iy) (names:=(aj fN).names) rfl rfl rfl (by decide+kernel)) (cA (af 0)) (λ_ _ _ _ _=>⟨(ar 0 (show Pm (["_law_one","_law_far"]:List Str)by decide+kernel)),(vg (bc nG (dg (nZ hr) (dg (nZ hr) (af 1) (af 0)) (af 0)) ao)),(af 0)⟩)) (ip ah)) (af 2) bM)))))
abbrev jH:ZF:=top 59
abbrev pL:List Str:=["_law_record_here","_law_found","_law_number","_law_slow","_law_fast","_law_readings","_law_k","_law_steps","_law_one","_law_other","_law_least","_law_most"]
theorem aa4:aA pL ["_law_record_here"] (aj jH):=gh
theorem pC(F:g9 K mg "_law_bounds" jH ["_law_record_here"])(B:Bl mg):Cl P w K mg base 1 "_law_bounds" 1 fR:=
 bK F aa4 rfl λf c A o s H E hr x=>(by(apply au;exact(jA 1 aa4.nd ah);apply au;exact(cE rfl (jB B.b_enumerate (ag (aH (af 0) ao) ah)) (dX rfl (aO (ar 2 aa4.nd) (aO (dX rfl (aO (ar 3 aa4.nd) (aO (ar 4 aa4.nd) (aO (ar 5 aa4.nd) cV)))) cV))) (aw (cE rfl (xC B.b_range (ag ao (ag (cb bW B.b_len Pl (ag (af 5) ah)) ah))) (ar 6 aa4.nd) (by(apply au;exact(aJ (ax cW (aH (af 5) (af 6)) (aH (af 5) (ax cW (af 6) ao))) (ar 7 aa4.nd));apply au;exact(iV 1 (aM (ag (aM (ag (af 2) (ag (ax cW (af 6) ao) ah))) (ag (aM (ag (af 2) (ag (af 6) ah))) (ag (ax dh (af 4) (af 7)) ah)))));exact aw (iV 1 (aM (ag (aM (ag (af 2) (ag (af 6) ah))) (ag (aM (ag (af 2) (ag (ax cW (af 6) ao) ah))) (ag (ax cW ao (ax dh (af 3) (af 7))) ah))))))))));apply au;exact(cE rfl (cA (aH (af 0) ao)) (dX rfl (aO (ar 8 aa4.nd) (aO (ar 9 aa4.nd) (aO (ar 10 aa4.nd) (aO (ar 11 aa4.nd) cV))))) (au (iV 1 (aM (ag (af 9) (ag (af 8) (ag (ax cW ao (af 10)) ah))))) (aw (ck (bc fh (af 11) bM) (aw (iV 1 (aM (ag (af 8) (ag (af 9) (ag (af 11) ah)))))) bL))));exact aw (iU 1 (aI (af 1)))))
abbrev nE:ZF:=top 64
abbrev wu:List Str:=["_law_record_here"]
theorem vL:aA wu ["_law_record_here"] (aj nE):=gh
theorem wc(F:g9 K mg "_law_has" nE ["_law_record_here"])(aaG:Cl P w K mg base 1 "_law_table" 2 gB)(aa8:Cl P w K mg base 1 "_law_events" 1 bY)(aay:Cl P w K mg base 1 "_law_bounds" 1 fR):Cl P w K mg base 2 "_law_has" 1 di:=
 bK F vL rfl λf c A o s H E hr x=>(aw (aI (iq fh (a6 aaG hr (ag (a6 aa8 hr (ag (aH (af 0) ao) ah)) (ag (a6 aay hr (ag (af 0) ah)) ah))) bM)))
abbrev jI:ZF:=dm (top 50) 1
abbrev pM:List Str:=["self"]
theorem o7:aA pM ["self"] (aj jI):=gh
theorem pE(F:qE K "Desk" "record" "Desk.record" jI ["self"])(jp:eE K mg):Ml P w K mg base 1 "Desk" "record" aZ:=
 Hn F o7 rfl λf c A o s H E hr x=>(aw (aI (aH (Bz jp.k jp.a_kept (af 0)) (lu ao))))
abbrev lZ:ZF:=top 52
abbrev uF:List Str:=["_law_script","_law_k"]
theorem tw:aA uF ["_law_script","_law_k"] (aj lZ):=gh
theorem uh(F:g9 K mg "_law_cell" lZ ["_law_script","_law_k"])(B:Bl mg):Cl P w K mg base 1 "_law_cell" 2 fX:=
 bK F tw rfl λf c A o s H E hr x=>(au (ck (bc (jt (jz hr)) (af 0) (ip ah)) (aw (aI (ax dh ao (af 1)))) bL) (aw (aI (ax aN (aH (af 0) (ax ly (af 1) (cb bW B.b_len Pl (ag (af 0) ah)))) (ax dh ao (ax oo (af 1) (cb bW B.b_len Pl (ag (af 0) ah))))))))
abbrev kX:ZF:=top 53
abbrev qZ:List Str:=["_law_script","_law_k","_law_many","_law_cell_here"]
theorem aaz:aA qZ ["_law_script","_law_k","_law_many"] (aj kX):=gh
theorem qU(F:g9 K mg "_law_drawn" kX ["_law_script","_law_k","_law_many"])(aaP:Cl P w K mg base 1 "_law_cell" 2 fX):Cl P w K mg base 2 "_law_drawn" 3 aF:=
 bK F aaz rfl λf c A o s H E hr x=>(by(apply au;exact(aJ (ax ly (ax aN (ax dh (ax ly (a6 aaP hr (ag (af 0) (ag (af 1) ah))) ao) ao) (ax dh ao (ax aN (af 1) ao))) ao) (ar 3 aaz.nd));apply au;exact(aJ (ax ly (ax aN (ax dh (af 3) (af 3)) (ax oo (af 3) ao)) ao) (ar 3 aaz.nd));exact aw (aI (ax ly (ax oo (ax ly (ax aN (ax dh (af 3) (af 3)) (ax oo (af 3) ao)) ao) ao) (af 2)))))
abbrev jG:ZF:=top 55
abbrev pK:List Str:=["_law_script","_law_at","_law_clocks","_law_row","_law_place","_law_other","_law_least","_law_most"]
theorem aac:aA pK ["_law_script","_law_at","_law_clocks"] (aj jG):=gh
theorem pA(F:g9 K mg "_law_letter" jG ["_law_script","_law_at","_law_clocks"])(aa8:Cl P w K mg base 1 "_law_events" 1 bY)(aa0:Cl P w K mg base 2 "_law_drawn" 3 aF)(B:Bl mg):Cl P w K mg base 3 "_law_letter" 3 bX:=
 bK F aac rfl λf c A o s H E hr x=>(by(apply au;exact(aJ (a6 aa8 hr (ag (af 2) ah)) (ar 3 aac.nd));apply au;exact(ck (bc nG (cb bW B.b_len Pl (ag (af 3) ah)) ao) (aw (aI bM)) bL);apply au;exact(aJ (a6 aa0 hr (ag (af 0) (ag (af 1) (ag (cb bW B.b_len Pl (ag (af 3) ah)) ah)))) (ar 4 aac.nd));apply au;exact(aJ (ax ly (ax aN (ax aN (af 4) ao) (a6 aa0 hr (ag (af 0) (ag (ax aN (af 1) ao) (ag (ax cW (cb bW B.b_len Pl (ag (af 3) ah)) ao) ah))))) (cb bW B.b_len Pl (ag (af 3) ah))) (ar 5 aac.nd));apply au;exact(aJ (a6 aa0 hr (ag (af 0) (ag (ax aN (af 1) ao) (ag ao ah)))) (ar 6 aac.nd));apply au;exact(aJ (vi (bc (jt (jz hr)) (a6 aa0 hr (ag (af 0) (ag (ax aN (af 1) ao) (ag ao ah)))) ao) bM (ax aN (af 6) (a6 aa0 hr (ag (af 0) (ag (ax aN (af 1) ao) (ag ao ah)))))) (ar 7 aac.nd));exact aw (aI (aM (ag (aH (af 3) (af 4)) (ag (aH (af 3) (af 5)) (ag (af 6) (ag (af 7) ah))))))))
abbrev kY:ZF:=top 54
abbrev rf:List Str:=["_law_script","_law_at","_law_slow","_law_readings","_law_k"]
theorem aai:aA rf ["_law_script","_law_at"] (aj kY):=gh
theorem qV(F:g9 K mg "_law_clock" kY ["_law_script","_law_at"])(aa0:Cl P w K mg base 2 "_law_drawn" 3 aF)(B:Bl mg):Cl P w K mg base 3 "_law_clock" 2 cL:=
 bK F aai rfl λf c A o s H E hr x=>(by(apply au;exact(aJ (ax aN ao (a6 aa0 hr (ag (af 0) (ag (af 1) (ag ao ah))))) (ar 2 aai.nd));apply au;exact(aJ (aM (ag (a6 aa0 hr (ag (af 0) (ag (ax aN (af 1) ao) (ag ao ah)))) ah)) (ar 3 aai.nd));apply au;exact(cE rfl (dF B.b_range (ag (a6 aa0 hr (ag (af 0) (ag (ax aN (af 1) ao) (ag ao ah)))) ah)) (ar 4 aai.nd) (aw (aJ (ax aN (af 3) (aM (ag (ax aN (ax aN (aH (af 3) (lu ao)) ao) (a6 aa0 hr (ag (af 0) (ag (ax aN (ax aN (af 1) ao) (af 4)) (ag ao ah))))) ah))) (ar 3 aai.nd))));exact aw (aI (aM (ag (af 2) (ag (ax aN (af 2) (a6 aa0 hr (ag (af 0) (ag (ax aN (af 1) ao) (ag ao ah))))) (ag (af 3) ah)))))))
abbrev gP:ZF:=top 57
abbrev jO:List Str:=["_law_script","_law_at","_law_most","_law_clocks","_law_letters","_law_k","_law_letter_here"]
theorem aad:aA jO ["_law_script","_law_at","_law_most"] (aj gP):=gh
theorem pz(F:g9 K mg "_law_record" gP ["_law_script","_law_at","_law_most"])(aa0:Cl P w K mg base 2 "_law_drawn" 3 aF)(aae:Cl P w K mg base 3 "_law_letter" 3 bX)(aaH:Cl P w K mg base 3 "_law_clock" 2 cL)(B:Bl mg):Cl P w K mg base 4 "_law_record" 3 fQ:=
 bK F aad rfl λf c A o s H E hr x=>(by(apply au;exact(aJ (oN kg B.b_tuple dB (ag (jn (N':=["_law_k","_law_script","_law_at"]) (src:=[ZB,ZA 0,ZA 1]) rfl (LcScope.by (N:=jO) (names:=(aj gP).names) rfl rfl rfl (by decide+kernel)) (dF B.b_range (ag (ax aN ao (a6 aa0 hr (ag (af 0) (ag (af 1) (ag ao ah))))) ah)) (λ_ _ _ _ _=>⟨(ar 0 (show Pm (["_law_k","_law_script","_law_at"]:List Str)by decide+kernel)),dE,(a6 aaH hr (ag (af 1) (ag (ax aN (ax aN (af 2) ao) (ax dh ao (af 0))) ah)))⟩)) ah)) (ar 3 aad.nd));apply au;exact(aJ (ip ah) (ar 4 aad.nd));apply au;exact(cE rfl (dF B.b_range (ag (a6 aa0 hr (ag (af 0) (ag (ax aN (af 1) ao) (ag (ax aN (af 2) ao) ah)))) ah)) (ar 5 aad.nd) (au (aJ (a6 aae hr (ag (af 0) (ag (ax aN (ax aN (af 1) ao) (ax dh ao (af 5))) (ag (af 3) ah)))) (ar 6 aad.nd)) (aw (aJ (ax aN (af 4) (ax dh (ip (ag (af 6) ah)) (oN Ek B.b_int kh (ag (iq fh (af 6) bM) ah)))) (ar 4 aad.nd)))));exact aw (aI (aM (ag (af 3) (ag (oN kg B.b_tuple dB (ag (af 4) ah)) ah))))))
abbrev lY:ZF:=top 65
abbrev uE:List Str:=["_law_record_here","_law_ask","_law_some","_law_clocks","_law_letters","_law_letter_here","_law_number","_law_reading","_law_found","_law_slow","_law_fast","_law_readings"]
theorem aa6:aA uE ["_law_record_here","_law_ask","_law_some"] (aj lY):=gh
theorem ug(F:g9 K mg "_law_next" lY ["_law_record_here","_law_ask","_law_some"])(aag:Cl P w K mg base 6 "is_record" 1 bH)(B:Bl mg):Cl P w K mg base 7 "_law_next" 3 cu:=
 bK F aa6 rfl λf c A o s H E hr x=>(by(apply au;exact(aJ (af 0) (dX rfl (aO (ar 3 aa6.nd) (aO (ar 4 aa6.nd) cV))));apply au;exact(aJ (af 2) (dX rfl (aO (ar 5 aa6.nd) (aO (ar 6 aa6.nd) (aO (ar 7 aa6.nd) cV)))));apply au;exact(ck (bc (jt (jz hr)) (af 1) ao) (au (aJ (aM (ag (af 3) (ag (ax aN (af 4) (aM (ag (af 5) ah))) ah))) (ar 8 aa6.nd)) (aw (aI (vi (df (a6 aag hr (ag (af 8) ah))) (aM (ag (af 8) (ag (cb bW B.b_len Pl (ag (af 4) ah)) ah))) (aM (ag bM (ag (aM (ag iW (ag ao ah))) ah))))))) bL);apply au;exact(ck (bc (jt (jz hr)) (af 1) ao) (au (ck (dC (rA rO nG ao (af 6) (cb bW B.b_len Pl (ag (af 4) ah)))) (aw (aI (aM (ag bM (ag (aM (ag iW (ag ao ah))) ah))))) bL) (aw (aI (aM (ag (aM (ag (af 3) (ag (ax aN (cH (af 4) cG (cF (af 6))) (cH (af 4) (cF (ax aN (af 6) ao)) cG)) ah))) (ag bM ah)))))) bL);apply au;exact(ck (dC (rA rO nG ao (af 6) (cb bW B.b_len Pl (ag (af 3) ah)))) (aw (aI (aM (ag bM (ag (aM (ag iW (ag ao ah))) ah))))) bL);apply au;exact(aJ (aH (af 3) (af 6)) (dX rfl (aO (ar 9 aa6.nd) (aO (ar 10 aa6.nd) (aO (ar 11 aa6.nd) cV)))));apply au;exact(aJ (aM (ag (ax aN (ax aN (cH (af 3) cG (cF (af 6))) (aM (ag (aM (ag (af 9) (ag (af 10) (ag (ax aN (af 11) (aM (ag (af 7) ah))) ah)))) ah))) (cH (af 3) (cF (ax aN (af 6) ao)) cG)) (ag (af 4) ah))) (ar 8 aa6.nd));exact aw (aI (vi (df (a6 aag hr (ag (af 8) ah))) (aM (ag (af 8) (ag (aM (ag (af 6) (ag (cb bW B.b_len Pl (ag (af 11) ah)) ah))) ah))) (aM (ag bM (ag (aM (ag iW (ag ao ah))) ah)))))))
abbrev l7:ZF:=dm (top 50) 7
abbrev uJ:List Str:=["self"]
theorem tG:aA uJ ["self"] (aj l7):=gh
theorem um(F:qE K "Desk" "many" "Desk.many" l7 ["self"])(B:Bl mg)(jp:eE K mg):Ml P w K mg base 1 "Desk" "many" de:=
 Hn F tG rfl λf c A o s H E hr x=>(aw (aI (ax cW (cb bW B.b_len Pl (ag (Bz jp.k jp.a_kept (af 0)) ah)) ao)))
abbrev l8:ZF:=dm (top 50) 2
abbrev uK:List Str:=["self","record"]
theorem tH:aA uK ["self","record"] (aj l8):=gh
theorem uo(F:qE K "Desk" "keep" "Desk.keep" l8 ["self","record"])(aaj:Cl P w K mg base 11 "has_world" 1 cq)(jp:eE K mg)(S:Xs K mg ac al bi bn bv ca ci):Mm P w K mg base 12 "Desk" "keep" 2 bQ:=
 rY F tH rfl λf c A o s H E hr x=>(lO (Hd (dC (df (a6 aaj hr (ag (af 1) ah)))) (gi (BE (iI S.o_Barred S.m_Barred))) BB) (gi (rB (HJ 0 jp.k jp.a_kept (af 1)))))
abbrev lV:ZF:=top 32
abbrev uB:List Str:=["thing"]
theorem tq:aA uB ["thing"] (aj lV):=gh
theorem ud(F:g9 K mg "if_record" lV ["thing"])(aa1:Cl P w K mg base 7 "need_record" 1 aY):Cl P w K mg base 8 "if_record" 1 c9:=
 bK F tq rfl λf c A o s H E hr x=>(au (fV (a6 aa1 hr (ag (af 0) ah))) (aw (aI (af 0))))
abbrev jD:ZF:=top 33
abbrev pH:List Str:=["record","letter"]
theorem oZ:aA pH ["record","letter"] (aj jD):=gh
theorem pj(F:g9 K mg "with_letter" jD ["record","letter"])(aa1:Cl P w K mg base 7 "need_record" 1 aY)(aak:Cl P w K mg base 8 "if_record" 1 c9):Cl P w K mg base 9 "with_letter" 2 dz:=
 bK F oZ rfl λf c A o s H E hr x=>(au (fV (a6 aa1 hr (ag (af 0) ah))) (aw (aI (a6 aak hr (ag (aM (ag (aH (af 0) ao) (ag (ax aN (aH (af 0) ao) (aM (ag (af 1) ah))) ah))) ah)))))
abbrev l5:ZF:=dm (top 50) 3
abbrev uH:List Str:=["self","letter"]
theorem tE:aA uH ["self","letter"] (aj l5):=gh
theorem uj(F:qE K "Desk" "take" "Desk.take" l5 ["self","letter"])(ld:Mm P w K mg base 12 "Desk" "keep" 2 bQ)(aaA:Cl P w K mg base 9 "with_letter" 2 dz)(lf:Ml P w K mg base 1 "Desk" "record" aZ)(B:Bl mg)(jp:eE K mg):Mm P w K mg base 13 "Desk" "take" 2 eQ:=
 rY F tE rfl λf c A o s H E hr x=>(lO (rB (kr 0 jp.k ld hr (ag (a6 aaA hr (ag (eV 0 (gx jp.k lf hr (af 0))) (ag (af 1) ah))) ah))) (gi (oO (sO (ax cW (cb bW B.b_len Pl (ag (aH (eV 0 (gx jp.k lf hr (af 0))) ao) ah)) ao)))))
abbrev jF:ZF:=top 29
abbrev pJ:List Str:=["many","thing"]
theorem o5:aA pJ ["many","thing"] (aj jF):=gh
theorem pq(F:g9 K mg "need_number" jF ["many","thing"])(aa2:Cl P w K mg base 2 "is_within" 3 a7)(S:Xs K mg ac al bi bn bv ca ci):Cl P w K mg base 3 "need_number" 2 cR:=
 bK F o5 rfl λf c A o s H E hr x=>(aw (ck (dC (df (a6 aa2 hr (ag (af 1) (ag ao (ag (ax cW (af 0) ao) ah)))))) (aw (iI S.o_NoNumber S.m_NoNumber)) bL))
abbrev kU:ZF:=top 35
abbrev qX:List Str:=["record","number","clock","clocks"]
theorem aaW:aA qX ["record","number","clock"] (aj kU):=gh
theorem qP(F:g9 K mg "with_clock" kU ["record","number","clock"])(aak:Cl P w K mg base 8 "if_record" 1 c9):Cl P w K mg base 9 "with_clock" 3 gA:=
 bK F aaW rfl λf c A o s H E hr x=>(au (aJ (aH (af 0) ao) (ar 3 aaW.nd)) (aw (aI (a6 aak hr (ag (aM (ag (ax aN (ax aN (cH (af 3) cG (cF (af 1))) (aM (ag (af 2) ah))) (cH (af 3) (cF (ax aN (af 1) ao)) cG)) (ag (aH (af 0) ao) ah))) ah)))))
abbrev jq:ZF:=top 36
abbrev nV:List Str:=["record","clock","reading","old"]
theorem aaM:aA nV ["record","clock","reading"] (aj jq):=gh
theorem nT(F:g9 K mg "with_reading" jq ["record","clock","reading"])(aa1:Cl P w K mg base 7 "need_record" 1 aY)(aaf:Cl P w K mg base 3 "need_number" 2 cR)(aaI:Cl P w K mg base 9 "with_clock" 3 gA)(B:Bl mg):Cl P w K mg base 10 "with_reading" 3 cX:=
 bK F aaM rfl λf c A o s H E hr x=>(by(apply au;exact(fV (a6 aa1 hr (ag (af 0) ah)));apply au;exact(fV (a6 aaf hr (ag (cb bW B.b_len Pl (ag (aH (af 0) ao) ah)) (ag (af 1) ah))));apply au;exact(aJ (aH (aH (af 0) ao) (af 1)) (ar 3 aaM.nd));exact aw (aI (a6 aaI hr (ag (af 0) (ag (af 1) (ag (aM (ag (aH (af 3) ao) (ag (aH (af 3) ao) (ag (ax aN (aH (af 3) ao) (aM (ag (af 2) ah))) ah)))) ah)))))))
abbrev l6:ZF:=dm (top 50) 4
abbrev uI:List Str:=["self","clock","reading"]
theorem tF:aA uI ["self","clock","reading"] (aj l6):=gh
theorem uk(F:qE K "Desk" "read" "Desk.read" l6 ["self","clock","reading"])(ld:Mm P w K mg base 12 "Desk" "keep" 2 bQ)(aau:Cl P w K mg base 10 "with_reading" 3 cX)(lf:Ml P w K mg base 1 "Desk" "record" aZ)(B:Bl mg)(jp:eE K mg):Mm P w K mg base 13 "Desk" "read" 3 dN:=
 rY F tF rfl λf c A o s H E hr x=>(lO (rB (kr 0 jp.k ld hr (ag (a6 aau hr (ag (eV 0 (gx jp.k lf hr (af 0))) (ag (af 1) (ag (af 2) ah)))) ah))) (gi (oO (sO (aM (ag (af 1) (ag (ax cW (cb bW B.b_len Pl (ag (aH (aH (aH (eV 0 (gx jp.k lf hr (af 0))) ao) (af 1)) ao) ah)) ao) ah)))))))
abbrev hW:ZF:=top 34
abbrev mm:List Str:=["record","number","letters"]
theorem aaC:aA mm ["record","number"] (aj hW):=gh
theorem mi(F:g9 K mg "without_letter" hW ["record","number"])(aa1:Cl P w K mg base 7 "need_record" 1 aY)(aaf:Cl P w K mg base 3 "need_number" 2 cR)(B:Bl mg):Cl P w K mg base 8 "without_letter" 2 cv:=
 bK F aaC rfl λf c A o s H E hr x=>(by(apply au;exact(fV (a6 aa1 hr (ag (af 0) ah)));apply au;exact(aJ (aH (af 0) ao) (ar 2 aaC.nd));apply au;exact(fV (a6 aaf hr (ag (cb bW B.b_len Pl (ag (af 2) ah)) (ag (af 1) ah))));exact aw (aI (aM (ag (aH (af 0) ao) (ag (ax aN (cH (af 2) cG (cF (af 1))) (cH (af 2) (cF (ax aN (af 1) ao)) cG)) ah))))))
abbrev l9:ZF:=dm (top 50) 5
abbrev uL:List Str:=["self","number"]
theorem tI:aA uL ["self","number"] (aj l9):=gh
theorem uq(F:qE K "Desk" "drop" "Desk.drop" l9 ["self","number"])(ld:Mm P w K mg base 12 "Desk" "keep" 2 bQ)(aaq:Cl P w K mg base 8 "without_letter" 2 cv)(lf:Ml P w K mg base 1 "Desk" "record" aZ)(jp:eE K mg):Mm P w K mg base 13 "Desk" "drop" 2 dO:=
 rY F tI rfl λf c A o s H E hr x=>(gi (rB (kr 0 jp.k ld hr (ag (a6 aaq hr (ag (eV 0 (gx jp.k lf hr (af 0))) (ag (af 1) ah))) ah))))
abbrev l0:ZF:=dm (top 50) 6
abbrev uG:List Str:=["self"]
theorem tD:aA uG ["self"] (aj l0):=gh
theorem ui(F:qE K "Desk" "undo" "Desk.undo" l0 ["self"])(li:Ml P w K mg base 1 "Desk" "many" de)(jp:eE K mg)(S:Xs K mg ac al bi bn bv ca ci):Mm P w K mg base 2 "Desk" "undo" 1 da:=
 rY F tD rfl λf c A o s H E hr x=>(lO (Hd (bc (jt (jz hr)) (eV 0 (gx jp.k li hr (af 0))) ao) (gi (BE (iI S.o_Nothing S.m_Nothing))) BB) (gi (rB (HH 0 jp.k jp.a_kept))))
abbrev lX:ZF:=top 62
abbrev uD:List Str:=["_law_desk","_law_ask","_law_some","_law_e"]
theorem aaZ:aA uD ["_law_desk","_law_ask","_law_some"] (aj lX):=gh
theorem uf(F:g9 K mg "_law_told" lX ["_law_desk","_law_ask","_law_some"])(lm:Mm P w K mg base 13 "Desk" "take" 2 eQ)(lv:Mm P w K mg base 13 "Desk" "read" 3 dN)(lw:Mm P w K mg base 13 "Desk" "drop" 2 dO)(o0:Mm P w K mg base 2 "Desk" "undo" 1 da)(B:Bl mg)(jp:eE K mg)(S:Xs K mg ac al bi bn bv ca ci)(aaa:Fn K mg "_law_refused" bP ["_law_e"] f_r fd_r):Ce P w K mg base 14 "_law_told" 3 0 bz:=
 Mw F aaZ rfl λf c A o s H E hr x=>(gi (HQ 3 aaZ.nd S.m_ClockError S.o_ClockError (λ_ _=>(BD (bc (jt (jz hr)) (af 1) ao) (gi (oO (kr 0 jp.k lm hr (ag (aH (af 2) ao) ah)))) (BD (bc (jt (jz hr)) (af 1) ao) (gi (oO (kr 0 jp.k lv hr (ag (aH (af 2) ao) (ag (aH (af 2) ao) ah))))) (gi (oO (KC (bc (jt (jz hr)) (af 1) ao) (kr 0 jp.k lw hr (ag (aH (af 2) ao) ah)) (Bw 0 jp.k o0 hr))))))) (vC rfl (OB rfl) aaa S B.b_isinstance B.b_ValueError (Hk hr)) (hcl:=λ_ _ z=>by cases z)))
theorem El{X:Cx}{j1 j2 j3 j4 j5 j6:Nat}{p1 p2 p3 p4 p5 p6 p7:Pos}:QE X (.List [(.Constant (.int 0) j1 p1),(.Constant (.int 0) j2 p2),(.Constant (.int 0) j3 p3),(.Constant (.int 1) j4 p4),(.Constant (.int 2) j5 p5),(.Constant (.int 3) j6 p6)] p7) (fA (ae (cn (.int 0)) (ae (cn (.int 0)) (ae (cn (.int 0)) (ae (cn (.int 1)) (ae (cn (.int 2)) (ae (cn (.int 3)) ai))))))):=by
 refine @ip X _ _ _ ?_
 refine @ag X _ _ _ _ ?_ ?_ rfl
 ·exact ao
 refine @ag X _ _ _ _ ?_ ?_ rfl
 ·exact ao
 refine @ag X _ _ _ _ ?_ ?_ rfl
 ·exact ao
 refine @ag X _ _ _ _ ?_ ?_ rfl
 ·exact ao
 refine @ag X _ _ _ _ ?_ ?_ rfl
 ·exact ao
 refine @ag X _ _ _ _ ?_ ?_ rfl
 ·exact ao
 exact ah
abbrev BS:ZF:=top 66
abbrev Jt:List Str:=["_law_script","_law_first","_law_desk","_law_rows","_law_k","_law_here","_law_record_here","_law_ask","_law_letter_here","_law_readings","_law_some","_law_due","_law_found"]
theorem aa9:aA Jt ["_law_script"] (aj BS):=gh
theorem Jn{f:ZE}{fd:Ox}(ab5:Fn K mg "law" BS ["_law_script"] f fd)(aaJ:Cl P w K mg base 2 "_law_small" 1 gC)(aam:Cs_ P w K mg base 15 "_law_begun" 1 bB)(aar:Cl P w K mg base 2 "_law_has" 1 di)(lf:Ml P w K mg base 1 "Desk" "record" aZ)(aaB:Cl P w K mg base 4 "_law_record" 3 fQ)(aae:Cl P w K mg base 3 "_law_letter" 3 bX)(aa0:Cl P w K mg base 2 "_law_drawn" 3 aF)(aaQ:Cl P w K mg base 7 "_law_next" 3 cu)(li:Ml P w K mg base 1 "Desk" "many" de)(aaR:Ce P w K mg base 14 "_law_told" 3 0 bz)(B:Bl mg)(jp:eE K mg):EF P w K mg base 16 f fd ["_law_script"] 1 m_law:=
 sR ab5.fn aa9 rfl λc A o s H E hr x=>(by(apply au;exact(aJ (a6 aaJ hr (ag (a6 aaB hr (ag (af 0) (ag ao (ag ao ah)))) ah)) (ar 1 aa9.nd));apply au;exact(Al 2 aa9.nd aam hr (ag (af 1) ah));apply au;exact(ck (dC (df (a6 aar hr (ag (af 1) ah)))) (aw (aI (eV 2 (iq (jt (jz hr)) (af 2) (aM (ag iW (ag ao ah))))))) bL);apply au;exact(ck (lN (mJ (bc (rN (jz hr)) (a6 aam.cl hr (ag (cH (af 1) cG (cF ao)) ah)) (aM (ag iW (ag ao ah)))) (ku (bc (rN (jz hr)) (a6 aam.cl hr (ag (aM (ag (aH (af 1) ao) (ag bM ah))) ah)) (aM (ag iW (ag ao ah))))))) (aw (aI nu)) bL);apply au;exact(aJ (ip (ag (af 1) ah)) (ar 3 aa9.nd));apply au;exact(cE rfl (dF B.b_range (ag (cb (Ej rfl) B.b_max boot_max (ag ao (ag (cb (Kk rfl) B.b_min boot_min (ag ao (ag (cb bW B.b_len Pl (ag (af 0) ah)) ah))) ah))) ah)) (ar 4 aa9.nd) (by(apply au;exact(aJ (ax aN ao (ax dh ao (af 4))) (ar 5 aa9.nd));apply au;exact(aJ (aH (af 3) (lu ao)) (ar 6 aa9.nd));apply au;exact(aJ (aH El (a6 aa0 hr (ag (af 0) (ag (af 5) (ag ao ah))))) (ar 7 aa9.nd));apply au;exact(aJ (a6 aae hr (ag (af 0) (ag (ax aN (af 5) ao) (ag (aH (af 6) ao) ah)))) (ar 8 aa9.nd));apply au;exact(aJ (aH (aH (aH (af 6) ao) ao) ao) (ar 9 aa9.nd));apply au;exact(aJ (aM (ag (af 8) (ag (ax cW (a6 aa0 hr (ag (af 0) (ag (ax aN (af 5) ao) (ag ao ah)))) ao) (ag (ax cW (ax aN (aH (af 9) (lu ao)) (a6 aa0 hr (ag (af 0) (ag (ax aN (af 5) ao) (ag ao ah))))) ao) ah)))) (ar 10 aa9.nd));apply au;exact(ck (bc (jt (jz hr)) (af 7) ao) (au (aJ (vi (bc (jt (jz hr)) (cb bW B.b_len Pl (ag (af 3) ah)) ao) (aM (ag iW (ag ao ah))) bM) (ar 11 aa9.nd)) (aw (aJ (cH (af 3) cG (cF (cb (Ej rfl) B.b_max boot_max (ag ao (ag (ax cW (cb bW B.b_len Pl (ag (af 3) ah)) ao) ah))))) (ar 3 aa9.nd)))) (by(apply au;exact(aJ (a6 aaQ hr (ag (af 6) (ag (af 7) (ag (af 10) ah)))) (dX rfl (aO (ar 12 aa9.nd) (aO (ar 11 aa9.nd) cV))));apply au;exact(ck (lN (sP (bc fh (af 12) bM) (oK (dC (df (a6 aar hr (ag (af 12) ah))))))) (aw (aJ (aM (ag bM (ag (aM (ag iW (ag ao ah))) ah))) (dX rfl (aO (ar 12 aa9.nd) (aO (ar 11 aa9.nd) cV))))) bL);exact aw (aJ (ax aN (af 3) (ax dh (ip (ag (af 12) ah)) (oN Ek B.b_int kh (ag (iq fh (af 12) bM) ah)))) (ar 3 aa9.nd)))));exact aw (ET (KA (Bv (ER (rN (jz hr)) (HI 2 aaR hr (ag (af 7) (ag (af 10) ah))) (af 11)) (Bv (vf (bc (rN (jz hr)) (eV 2 (gx jp.k lf hr (af 2))) (aH (af 3) (lu ao)))) (EO (vf (bc (rN (jz hr)) (eV 2 (gx jp.k li hr (af 2))) (ax cW (cb bW B.b_len Pl (ag (af 3) ah)) ao))))))) (aw (aI nu)) bL))));exact aw (aI (a6 aar hr (ag (eV 2 (gx jp.k lf hr (af 2))) ah)))))
end
@[elab_as_elim] theorem dQ {α:Type} {p:List α->Prop} (h:∀a0,p [a0]):∀us:List α,us.length=1->p us
 |[a0],_=>h a0
@[elab_as_elim] theorem fE {α:Type} {p:List α->Prop} (h:∀a0 a1,p [a0,a1]):∀us:List α,us.length=2->p us
 |[a0,a1],_=>h a0 a1
@[elab_as_elim] theorem jW {α:Type} {p:List α->Prop} (h:∀a0 a1 a2,p [a0,a1,a2]):∀us:List α,us.length=3->p us
 |[a0,a1,a2],_=>h a0 a1 a2
def all_ok{l:PySem.W.OpenLaw}{w:O0}{h:ZH}{fa:ZE}(X:K.In h)(e0:CT asks K=BJ asks top)(G:h.Ns OA mg)(hfa:mg "law" =ZA (.ref fa)):
  ∃fd:Ox,(∀(s:NQ)(v:NM),Sb s fd ⟨[v],[]⟩ [("_law_script",v)])/\∀base:ZH,K.In base->base.Ns OA mg->FnOk l.prog w K mg base CX0 16 fa fd ["_law_script"] (spP K 1 m_law):=by
 have e:ye Ew K=xH Ew top:=congrArg (·.1) e0
 obtain⟨kc0,ka0,km0⟩:=Md (A:=⟨"Desk",50,["kept"],[("__init__","Desk.__init__",0),("record","Desk.record",1),("many","Desk.many",7),("keep","Desk.keep",2),("take","Desk.take",3),("read","Desk.read",4),("drop","Desk.drop",5),("undo","Desk.undo",6)]⟩) X G (mY 0 (congrArg (·.2) e0) rfl)
 have jp:eE K mg:=⟨kc0,ka0 _ (by decide)⟩
 have B:Bl mg:=⟨gn 0 X G e rfl,gn 1 X G e rfl,gn 2 X G e rfl,gn 3 X G e rfl,gn 4 X G e rfl,gn 5 X G e rfl,gn 6 X G e rfl,gn 7 X G e rfl,gn 8 X G e rfl,gn 9 X G e rfl,gn 10 X G e rfl,gn 11 X G e rfl⟩
 have C:Cs mg:=⟨se 0 X G e rfl,se 1 X G e rfl,se 2 X G e rfl,se 3 X G e rfl,se 4 X G e rfl,se 5 X G e rfl⟩;obtain⟨ci,ls,xD,xl,nd⟩:=Jo (Mc e);obtain⟨ac,ls0,x_NoRecord,rfl,xl0⟩:=gI xl;obtain⟨al,ls1,x_NoEvent,rfl,xl1⟩:=gI xl0;obtain⟨bi,ls2,x_NoNumber,rfl,xl2⟩:=gI xl1;obtain⟨bn,ls3,x_NoWorld,rfl,xl3⟩:=gI xl2;obtain⟨bv,ls4,x_Barred,rfl,xl4⟩:=gI xl3;obtain⟨ca,ls5,x_Nothing,rfl,xl5⟩:=gI xl4
 cases Ey xl5
 have S:Xs K mg ac al bi bn bv ca ci:=⟨QQ X G (ix x_NoRecord).1,QQ X G (ix x_NoEvent).1,QQ X G (ix x_NoNumber).1,QQ X G (ix x_NoWorld).1,QQ X G (ix x_Barred).1,QQ X G (ix x_Nothing).1,QQ X G (ix xD).1,Kw x_NoRecord xD,Kw x_NoEvent xD,Kw x_NoNumber xD,Kw x_NoWorld xD,Kw x_Barred xD,Kw x_Nothing xD,ox0 xD,nd⟩
 obtain⟨fd43,ab5,bnd⟩:=L5 (n:="law") (i:=66) (x:="_law_script") 43 X G e rfl hfa λ_ _ _ _ _ _ _=>rfl
 obtain⟨f44,fd44,aaa⟩:=cN (n:="_law_refused") (i:=61) (ps:=["_law_e"]) 44 X G e rfl λ_ _ _ _ _ _=>dQ λ_=>rfl
 refine⟨fd43,bnd,λbase _ _=>?_⟩
 have aa8:=pB l.prog w base (cN 0 X G e rfl λ_ _ _ _ _ _=>dQ λ_=>rfl) B
 have aaJ:=qT l.prog w base (cN 1 X G e rfl λ_ _ _ _ _ _=>dQ λ_=>rfl) aa8 B
 have aa3:=yd l.prog w base (cN 2 X G e rfl λ_ _ _ _ _ _=>jW λ_ _ _=>rfl) B
 have aaS:=v8 l.prog w base (cN 3 X G e rfl λ_ _ _ _ _ _=>dQ λ_=>rfl) B
 have aa2:=t9 l.prog w base (cN 4 X G e rfl λ_ _ _ _ _ _=>jW λ_ _ _=>rfl) aaS
 have aaX:=yc l.prog w base (cN 5 X G e rfl λ_ _ _ _ _ _=>fE λ_ _=>rfl) aa2 C
 have ab3:=CS l.prog w base (cN 6 X G e rfl λ_ _ _ _ _ _=>dQ λ_=>rfl) B
 have aat:=nU l.prog w base (cN 7 X G e rfl λ_ _ _ _ _ _=>dQ λ_=>rfl) aa3 ab3 aa2 B C
 have aaT:=wb l.prog w base (cN 8 X G e rfl λ_ _ _ _ _ _=>dQ λ_=>rfl) aa3 aaX aat
 have aaE:=qR l.prog w base (cN 9 X G e rfl λ_ _ _ _ _ _=>dQ λ_=>rfl) aa3 aaT B C
 have aaD:=v9 l.prog w base (cN 10 X G e rfl λ_ _ _ _ _ _=>fE λ_ _=>rfl) aa2 aa3 B
 have aaU:=wa l.prog w base (cN 11 X G e rfl λ_ _ _ _ _ _=>fE λ_ _=>rfl) aa2 C
 have aaN:=ub l.prog w base (cN 12 X G e rfl λ_ _ _ _ _ _=>fE λ_ _=>rfl) aaD aa3 aaU
 have aax:=pw l.prog w base (cN 13 X G e rfl λ_ _ _ _ _ _=>fE λ_ _=>rfl) aa3 aaN B C
 have aag:=ua l.prog w base (cN 14 X G e rfl λ_ _ _ _ _ _=>dQ λ_=>rfl) aa3 aaE aax
 have aa1:=pk l.prog w base (cN 15 X G e rfl λ_ _ _ _ _ _=>dQ λ_=>rfl) aag S
 have ab0:=AE l.prog w base (cN 16 X G e rfl λ_ _ _ _ _ _=>dQ λ_=>rfl) aa1 B
 have aaO:=uc l.prog w base (cN 17 X G e rfl λ_ _ _ _ _ _=>jW λ_ _ _=>rfl)
 have ab1:=AD l.prog w base (cN 18 X G e rfl λ_ _ _ _ _ _=>fE λ_ _=>rfl) aaO B
 have aap:=mj l.prog w base (cN 19 X G e rfl λ_ _ _ _ _ _=>fE λ_ _=>rfl) ab0 ab1 B
 have aao:=lz l.prog w base (cN 20 X G e rfl λ_ _ _ _ _ _=>fE λ_ _=>rfl) B
 have aal:=kM l.prog w base (cN 21 X G e rfl λ_ _ _ _ _ _=>dQ λ_=>rfl)
 have ab2:=AF l.prog w base (cN 22 X G e rfl λ_ _ _ _ _ _=>dQ λ_=>rfl) aa1 aao aal B
 have ab4:=CP l.prog w base (cN 23 X G e rfl λ_ _ _ _ _ _=>dQ λ_=>rfl) aap ab2
 have aaj:=ue l.prog w base (cN 24 X G e rfl λ_ _ _ _ _ _=>dQ λ_=>rfl) ab4
 have aaF:=qQ l.prog w base (cN 25 X G e rfl λ_ _ _ _ _ _=>dQ λ_=>rfl) aaj S
 have kt:=mQ l.prog w base (jX 0 km0 rfl λ_ _ _ _ _ _=>fE λ_ _=>rfl) aaF jp
 have aam:=qW l.prog w base (cN 26 X G e rfl λ_ _ _ _ _ _=>dQ λ_=>rfl) kt B jp S aaa
 have aaG:=qS l.prog w base (cN 27 X G e rfl λ_ _ _ _ _ _=>fE λ_ _=>rfl) B
 have aay:=pC l.prog w base (cN 28 X G e rfl λ_ _ _ _ _ _=>dQ λ_=>rfl) B
 have aar:=wc l.prog w base (cN 29 X G e rfl λ_ _ _ _ _ _=>dQ λ_=>rfl) aaG aa8 aay
 have lf:=pE l.prog w base (jX 1 km0 rfl λ_ _ _ _ _ _=>dQ λ_=>rfl) jp
 have aaP:=uh l.prog w base (cN 30 X G e rfl λ_ _ _ _ _ _=>fE λ_ _=>rfl) B
 have aa0:=qU l.prog w base (cN 31 X G e rfl λ_ _ _ _ _ _=>jW λ_ _ _=>rfl) aaP
 have aae:=pA l.prog w base (cN 32 X G e rfl λ_ _ _ _ _ _=>jW λ_ _ _=>rfl) aa8 aa0 B
 have aaH:=qV l.prog w base (cN 33 X G e rfl λ_ _ _ _ _ _=>fE λ_ _=>rfl) aa0 B
 have aaB:=pz l.prog w base (cN 34 X G e rfl λ_ _ _ _ _ _=>jW λ_ _ _=>rfl) aa0 aae aaH B
 have aaQ:=ug l.prog w base (cN 35 X G e rfl λ_ _ _ _ _ _=>jW λ_ _ _=>rfl) aag B
 have li:=um l.prog w base (jX 2 km0 rfl λ_ _ _ _ _ _=>dQ λ_=>rfl) B jp
 have ld:=uo l.prog w base (jX 3 km0 rfl λ_ _ _ _ _ _=>fE λ_ _=>rfl) aaj jp S
 have aak:=ud l.prog w base (cN 36 X G e rfl λ_ _ _ _ _ _=>dQ λ_=>rfl) aa1
 have aaA:=pj l.prog w base (cN 37 X G e rfl λ_ _ _ _ _ _=>fE λ_ _=>rfl) aa1 aak
 have lm:=uj l.prog w base (jX 4 km0 rfl λ_ _ _ _ _ _=>fE λ_ _=>rfl) ld aaA lf B jp
 have aaf:=pq l.prog w base (cN 38 X G e rfl λ_ _ _ _ _ _=>fE λ_ _=>rfl) aa2 S
 have aaI:=qP l.prog w base (cN 39 X G e rfl λ_ _ _ _ _ _=>jW λ_ _ _=>rfl) aak
 have aau:=nT l.prog w base (cN 40 X G e rfl λ_ _ _ _ _ _=>jW λ_ _ _=>rfl) aa1 aaf aaI B
 have lv:=uk l.prog w base (jX 5 km0 rfl λ_ _ _ _ _ _=>jW λ_ _ _=>rfl) ld aau lf B jp
 have aaq:=mi l.prog w base (cN 41 X G e rfl λ_ _ _ _ _ _=>fE λ_ _=>rfl) aa1 aaf B
 have lw:=uq l.prog w base (jX 6 km0 rfl λ_ _ _ _ _ _=>fE λ_ _=>rfl) ld aaq lf jp
 have o0:=ui l.prog w base (jX 7 km0 rfl λ_ _ _ _ _ _=>dQ λ_=>rfl) li jp S
 have aaR:=uf l.prog w base (cN 42 X G e rfl λ_ _ _ _ _ _=>jW λ_ _ _=>rfl) lm lv lw o0 B jp S aaa
 exact(Jn l.prog w base ab5 aaJ aam aar lf aaB aae aa0 aaQ li aaR B jp).h
end G
namespace Tr
open PySem
abbrev RR(cs ls:List T):T:=.tup [.tup cs,.tup ls]
mutual
def T.pl:T->Bool
 |.scr _=>ZD
 |.dct _ _=>ZD
 |.ob _ _ _=>ZD
 |.tup l=>plS l
 |.lst l=>plS l
 |_=>ZC
def plS:List T->Bool
 |[] =>ZC
 |t::l=>t.pl&&plS l
end
theorem gy:∀{l:List T}{t:T},plS l=ZC->t∈l->t.pl=ZC
 |[],_,_,h=>by cases h
 |u::l,t,h,m=>by
  unfold plS at h;rw[NN]at h;rcases NT.mp m with rfl|m
  ·exact h.1
  ·exact gy h.2 m
mutual
theorem T.M5:∀(t:T),t.pl=ZC->t.nd=ZC
 |.non,_=>rfl
 |.bl _,_=>rfl
 |.int _,_=>rfl
 |.str _,_=>rfl
 |.scr _,h=>by cases h
 |.dct _ _,h=>by cases h
 |.ob _ _ _,h=>by cases h
 |.tup l,h=>by unfold T.pl at h;unfold T.nd;exact plS_nds l h
 |.lst l,h=>by unfold T.pl at h;unfold T.nd;exact plS_nds l h
theorem plS_nds:∀(l:List T),plS l=ZC->nds l=ZC
 |[],_=>rfl
 |t::l,h=>by
  unfold plS at h;rw[NN]at h;unfold nds;rw[T.M5 t h.1,plS_nds l h.2];rfl
end
theorem yu{fe:V5}{h:T->T}:∀(ts:List T)(Z:En),0<Z.length->(∀t∈ts,fe (Z.set 0 (.va t))=.ok (h t))->d8 (gN 0) bT fe ts Z=.ok (ts.map h)
 |[],_,_,_=>rfl
 |t::r,Z,hl,hf=>by
  unfold d8
  have e1:gN 0 t Z=.ok (Z.set 0 (.va t)):=by unfold gN;rw[if_pos hl]
  have ih:=yu r (Z.set 0 (.va t)) (by rw[Pe];exact hl) (λu hu=>by rw[UJ];exact hf u (NL _ hu))
  simp only[e1,ay,bT,if_true,hf t NP,ih,NO]
theorem r9{fc:V6}{fe:V5}{p:T->Bool}{h:T->T}:∀(ts:List T)(Z:En),0<Z.length->(∀t∈ts,fc (Z.set 0 (.va t))=.ok (p t)/\(p t=ZC->fe (Z.set 0 (.va t))=.ok (h t)))->d8 (gN 0) fc fe ts Z=.ok ((ts.filter p).map h)
 |[],_,_,_=>rfl
 |t::r,Z,hl,hf=>by
  unfold d8
  have e1:gN 0 t Z=.ok (Z.set 0 (.va t)):=by unfold gN;rw[if_pos hl]
  have ih:=r9 r (Z.set 0 (.va t)) (by rw[Pe];exact hl) (λu hu=>by rw[UJ];exact hf u (NL _ hu))
  obtain⟨h1,h2⟩:=hf t NP;simp only[e1,ay,h1]
  cases q:p t with
  |true=>simp only[if_true,h2 q,ay,ih,UR,q,NO]
  |false=>simp only[TR,if_false,ih,UR,q]
theorem sA(p:T->Bool):∀l:List T,qy (l.map λt=>T.bl (p t))=ZA (l.map p)
 |[] =>rfl
 |t::l=>by rw[NO,qy,sA p l];rfl
theorem all_map(p:T->Bool)(l:List T):rk [.lst (l.map λt=>T.bl (p t))]=.ok (.bl (l.all p)):=by
 simp only[rk,sA,List.all_map]
 rfl
variable{k:Nat}
def lK{α:Type}{l:List α}{t:α}(h:l[k]?=ZA t):L2.atI l (k:Int)=ZA t:=by
 have hk:k<l.length:=(NW.mp h).1
 unfold L2.atI L2.ixN;rw[if_pos (by omega),if_pos (by omega),PD]
 exact h
variable{n:Nat}
def az(h:n<=k)(hk:k<=1000:=by decide):n<=ZI:=by unfold ZI;omega
variable{b:V6}{fe:V5}{fi:V3}{g:T->En->Rs En}{h:T->T}{i:Nat}{k:Bool}{ks:List T}{x:Rs T}
section
variable {f fa fb fc:V5}{fs:V3}{c:V6}{F G:V4}{Z Z' Z1 Z2:En}{t u r:T}{ts l m:List T}
def Dn(h:Z[i]?=ZA (.va t)):vr i Z=.ok t:=by unfold vr;rw[h]
variable{g:T->T->Rs T}
def aL(ha:fa Z=.ok t)(hb:fb Z=.ok u)(hg:g t u=x):o2 g fa fb Z=x:=by unfold o2;rw[ha,hb];exact hg
def L3{c:Str}(ha:fa Z=.err c):o2 g fa fb Z=.err c:=by unfold o2;rw[ha];rfl
def Gj{g:T->Rs T}(ha:fa Z=.ok t)(hg:g t=x):o1 g fa Z=x:=by unfold o1;rw[ha];exact hg
def L1{vs:List T}(ha:fa Z=.ok (.dct ks vs))(hb:fb Z=.ok u)(hg:g (.dct ks vs) u=x):oD g fa fb Z=x:=by unfold oD;rw[ha];show(fb Z >>= g (.dct ks vs))=_;rw[hb];exact hg
def k_oL(ha:fa Z=.ok (.lst ks))(hb:fb Z=.ok u)(hg:g (.lst ks) u=x):oL g fa fb Z=x:=by unfold oL;rw[ha];show(fb Z >>= g (.lst ks))=_;rw[hb];exact hg
def aq(h:f Z=.ok t)(hs:fs Z=.ok ts):ae f fs Z=.ok (t::ts):=by unfold ae;rw[h,hs];rfl
def zN{c:Str}(h:f Z=.err c):ae f fs Z=.err c:=by unfold ae;rw[h];rfl
variable{g:List T->Rs T}
def aU(h:fs Z=.ok ts)(hg:g ts=x):cl g fs Z=x:=by unfold cl;rw[h];exact hg
def Me{c:Str}(h:fs Z=.err c):cl g fs Z=.err c:=by unfold cl;rw[h];rfl
def bf(h:f Z=.ok (.bl k)):tb f Z=.ok k:=by unfold tb;rw[h];rfl
def L0{c:Str}(h:f Z=.err c):tb f Z=.err c:=by unfold tb;rw[h];rfl
def gY(h:b Z=.ok k):cI b Z=.ok (!k):=by unfold cI;rw[h];rfl
def JO{c:Str}(h:b Z=.err c):cI b Z=.err c:=by unfold cI;rw[h];rfl
def Ht(h:b Z=.ok ZC):nS b c Z=.ok ZC:=by unfold nS;rw[h];rfl
variable{x:Rs Bool}
def zK(h:b Z=.ok ZD)(h2:c Z=x):nS b c Z=x:=by unfold nS;rw[h];exact h2
def yB(h:b Z=.ok ZD):lL b c Z=.ok ZD:=by unfold lL;rw[h];rfl
def qf(h:b Z=.ok ZC)(h2:c Z=x):lL b c Z=x:=by unfold lL;rw[h];exact h2
def JM(h:fa Z=.ok (.bl ZC)):EJ fa fb Z=.ok (.bl ZC):=by unfold EJ;rw[h];rfl
def JN(h:fa Z=.ok (.bl ZD)):EJ fa fb Z=fb Z:=by unfold EJ;rw[h];rfl
def sf{p:Bool}(h:b Z=.ok p):yE b fa fb Z=if p then fa Z else fb Z:=by unfold yE;rw[h];rfl
variable{g:T->En->Rs En}
def bV(h:f Z=.ok t)(hg:g t Z=.ok Z'):cg f g Z=.ok (.nx Z'):=by unfold cg;rw[h];show(match g t Z with|.ok Z'=>Rs.ok (Fl.nx Z')|_=>.bad)=_;rw[hg]
def aE(h:F Z=.ok (.nx Z')):aD F G Z=G Z':=by unfold aD;rw[h];rfl
def gX(h:F Z=.ok (.rt t)):aD F G Z=.ok (.rt t):=by unfold aD;rw[h];rfl
def Dp(h:F Z=.ok (.ct Z')):aD F G Z=.ok (.ct Z'):=by unfold aD;rw[h];rfl
def uP{c:Str}(h:F Z=.err c):aD F G Z=.err c:=by unfold aD;rw[h];rfl
def dS(h:b Z=.ok ZC):e9 b F G Z=F Z:=by unfold e9;rw[h];rfl
def d7(h:b Z=.ok ZD):e9 b F G Z=G Z:=by unfold e9;rw[h];rfl
def JT{c:Str}(h:b Z=.err c):e9 b F G Z=.err c:=by unfold e9;rw[h];rfl
def cT(h:f Z=.ok t):aR f Z=.ok (.rt t):=by unfold aR;rw[h];rfl
def yx{c:Str}(h:f Z=.err c):aR f Z=.err c:=by unfold aR;rw[h];rfl
def ri(h:f Z=.ok t):xW f Z=.ok (.nx Z):=by unfold xW;rw[h];rfl
def zM{c:Str}(h:f Z=.err c):xW f Z=.err c:=by unfold xW;rw[h];rfl
def fY{x:Fl}(h:fi Z=.ok ts)(h2:bx g F ts Z=.ok x):fI fi g F Z=.ok x:=by unfold fI;rw[h];show(match bx g F ts Z with|.ok f=>Rs.ok f|_=>.bad)=_;rw[h2]
def dR(h:g t Z=.ok Z1)(h2:F Z1=.ok (.nx Z2)):bx g F (t::ts) Z=bx g F ts Z2:=by rw[bx,h];show(F Z1 >>= _)=_;rw[h2];rfl
def Gq(h:g t Z=.ok Z1)(h2:F Z1=.ok (.ct Z2)):bx g F (t::ts) Z=bx g F ts Z2:=by rw[bx,h];show(F Z1 >>= _)=_;rw[h2];rfl
def Gp(h:g t Z=.ok Z1)(h2:F Z1=.ok (.rt r)):bx g F (t::ts) Z=.ok (.rt r):=by rw[bx,h];show(F Z1 >>= _)=_;rw[h2];rfl
def Dm(h:c Z=.ok ZD):bZ c F (n+1) Z=.ok (.nx Z):=by unfold bZ;rw[h]
def wO(h:c Z=.ok ZC)(h2:F Z=.ok (.nx Z')):bZ c F (n+1) Z=bZ c F n Z':=by rw[bZ,h];simp only[h2]
def Dl(h:c Z=.ok ZC)(h2:F Z=.ok (.rt t)):bZ c F (n+1) Z=.ok (.rt t):=by rw[bZ,h];simp only[h2]
def cy{m:Nat}(hl:ts.length=n)(h:F (aQ m ts)=.ok (.rt t)):val n m F ts=.ok t:=by unfold val;rw[if_pos hl];unfold bR;rw[h];rfl
def gW{m:Nat}{c:Str}(hl:ts.length=n)(h:F (aQ m ts)=.err c):val n m F ts=.err c:=by unfold val;rw[if_pos hl];unfold bR;rw[h];rfl
def yw{m:Nat}(hl:ts.length=n)(h:F (aQ m ts)=.ok (.nx Z)):val n m F ts=.ok .non:=by unfold val;rw[if_pos hl];unfold bR;rw[h];rfl
def yA{src:List (Option Nat)}(hi:fi Z=.ok ts)(hs:ts.length<=ZI)(hn:0<src.length)(hf:∀t∈ts,fe ((b8 src Z).set 0 (.va t))=.ok (h t)):
  ig fi src (gN 0) bT fe Z=.ok (.lst (ts.map h)):=by
 have e:=yu (fe:=fe) (h:=h) ts (b8 src Z) (by unfold b8;rw[NR];exact hn) hf
 unfold ig;rw[hi,ay,if_pos hs,e]
def Hv{src:List (Option Nat)}{fc:V6}{p:T->Bool}(hi:fi Z=.ok ts)(hs:ts.length<=ZI)(hn:0<src.length)
  (hf:∀t∈ts,fc ((b8 src Z).set 0 (.va t))=.ok (p t)/\(p t=ZC->fe ((b8 src Z).set 0 (.va t))=.ok (h t))):ig fi src (gN 0) fc fe Z=.ok (.lst ((ts.filter p).map h)):=by
 have e:=r9 (fc:=fc) (fe:=fe) (p:=p) (h:=h) ts (b8 src Z) (by unfold b8;rw[NR];exact hn) hf
 unfold ig;rw[hi,ay,if_pos hs,e]
def ba(h:fs Z=.ok ts)(hl:ts.length<=ZI):aK fs Z=.ok (.tup ts):=by unfold aK;rw[h];show lg ts=_;unfold lg;rw[if_pos hl]
def mr(h:fs Z=.ok ts)(hl:ts.length<=ZI):fA fs Z=.ok (.lst ts):=by unfold fA;rw[h];show lh ts=_;unfold lh;rw[if_pos hl]
def Dr{f:V3}(h:f Z=.ok l)(hi:i<Z.length)(hl:l.length<=1000):jJ i f Z=.ok (.nx (Z.set i (.ow (.lst l)))):=by
 unfold jJ;rw[h,ay,if_pos ⟨hi,az hl (by omega)⟩]
def yy(hi:i<Z.length):jJ i ai Z=.ok (.nx (Z.set i (.ow (.lst [])))):=Dr rfl hi (Qk _)
def qe(h:f Z=.ok t)(hi:Z[i]?=ZA (.ow (.lst l)))(hl:l.length<=1000):jx i f Z=.ok (.nx (Z.set i (.ow (.lst (l++[t]))))):=by
 unfold jx;rw[hi];simp only[h,ay];rw[if_pos (by unfold ZI;omega)]
def Du(h:f Z=.ok (.lst m))(hi:Z[i]?=ZA (.ow (.lst l)))(hl:l.length+m.length<=1000):o9 i f Z=.ok (.nx (Z.set i (.ow (.lst (l++m))))):=by
 unfold o9;rw[hi];simp only[h,ay,J3];rw[if_pos (by unfold ZI;omega)]
def L9(h:f Z=.ok (.tup l)):iS f Z=.ok l:=by unfold iS;rw[h];rfl
def Dt(h:f Z=.ok (.lst l)):iS f Z=.ok l:=by unfold iS;rw[h];rfl
def Ma(h:fs Z=.ok [.lst l]):iE fs Z=.ok (cQ 0 l):=by unfold iE;rw[h];rfl
def L6(e:l[n]?=ZA t):aV (.tup l) (.int (n:Int))=.ok t:=by show(match L2.atI l _ with|some t=>Rs.ok t|none=>.bad)=_;rw[lK e]
def JS(e:l[n]?=ZA t):aV (.lst l) (.int (n:Int))=.ok t:=by show(match L2.atI l _ with|some t=>Rs.ok t|none=>.bad)=_;rw[lK e]
def iA(h:fa Z=.ok (.tup l))(h2:fb Z=.ok (.int (n:Int)))(e:l[n]?=ZA t):o2 aV fa fb Z=.ok t:=aL h h2 (L6 e)
def L7(h:fa Z=.ok (.lst l))(h2:fb Z=.ok (.int (n:Int)))(e:l[n]?=ZA t):o2 aV fa fb Z=.ok t:=aL h h2 (JS e)
def AV{fl fu:En->Rs (Option Int)}{lo hi:Option Int}(h:fe Z=.ok (.tup l))(h1:fl Z=.ok lo)(h2:fu Z=.ok hi):sl fe fl fu Z=.ok (.tup (n9 l lo hi)):=by
 unfold sl;rw[h,h1,h2];rfl
def Hs{fl fu:En->Rs (Option Int)}{lo hi:Option Int}(h:fe Z=.ok (.lst l))(h1:fl Z=.ok lo)(h2:fu Z=.ok hi):sl fe fl fu Z=.ok (.lst (n9 l lo hi)):=by
 unfold sl;rw[h,h1,h2];rfl
def wQ{i:Int}(h:f Z=.ok (.int i)):pS f Z=.ok (ZA i):=by unfold pS;rw[h];rfl
def kf(l:List T)(n:Nat):n9 l ZB (ZA (n:Int))=l.take n:=by
 unfold n9;rw[HT.sIx_none,HT.sIx_nat,List.drop_zero,SW,List.take_eq_take_iff];omega
def xj(l:List T)(n:Nat):n9 l (ZA (n:Int)) ZB=l.drop n:=by
 unfold n9;rw[HT.sIx_none,HT.sIx_nat]
 by_cases h:n<=l.length
 ·rw[Vc h]
  exact SJ (by rw[Qx];omega)
 ·rw[US (by omega),Rq (N4 _),Rq (by omega),List.take_nil]
def Gs{o:OT}(hi:Z[i]?=ZA (.ow o))(h:f (disown i Z)=.ok t)(hk:t.nk o.isD=ZC):ln i f Z=.ok t:=by
 unfold ln;rw[hi];simp only[h,ay,hk,if_true]
def L4(h:b (disown i Z)=.ok k):JA i b Z=.ok k:=h
def Dv{x:Rs Fl}(h:F (disown i Z)=x):nQ i F Z=x:=h
end
def mk2(a b:T):lg [a,b]=.ok (.tup [a,b]):=by unfold lg;rw[if_pos (az (k:=1000) (by simp only[NU,U8];omega))]
def md(n:Nat):(rng 0 n).length=n:=by unfold rng;rw[NR,Qs];omega
variable{M N:Nat}{h:Str->Rs T}{sls:List Sl}{y:En->Rs (Bool×En)}
section
variable {Z Z':En}{f fa fo:V5}{fs:V3}{t u:T}{ts l:List T}{x:En->Rs (T×En)}{c m n a:Str}{ns:List Str}{ls:List (List T)}{j:Nat}{F G:En->Rs Fx}{o:OT}{g:List Sl->Rs (T×OT)}{d:Str}
def Hu{gm:List T->Rs T}{r:Rs T}(h:fo Z=.ok (.ob c ns ts))(hm:ns.contains m=ZD)(hs:fs Z=.ok l)(hg:gm (.ob c ns ts::l)=r):wC c m gm fo fs Z=r:=by
 unfold wC;rw[h];show(if _ then _ else _)=_;rw[if_pos ⟨rfl,hm⟩,hs];exact hg
def Hw(h:fa Z=.ok (.ob c ns ts))(hg:mB a ns ts=ZA t):o1 (yI c a) fa Z=.ok t:=Gj h (by show(if _ then _ else _)=_;rw[if_pos rfl,hg])
def JJ(h:f Z=.ok t):xP f Z=.ok (t,Z):=by unfold xP;rw[h];rfl
def LY(h:f Z=.err d):xP f Z=.err d:=by unfold xP;rw[h];rfl
def JL(hi:Z[i]?=ZA (.ow (.ob c ns ls)))(hf:mB a ns ls=ZA l)(h:fa Z=.ok t)(hl:l.length<=1000):Ao i c a fa Z=.ok (.non,Z.set i (.ow (.ob c ns (lG a (l++[t]) ns ls)))):=by
 unfold Ao;rw[hi];show(if _ then _ else _)=_;rw[if_pos rfl,hf];show(fa Z >>= _)=_;rw[h];show(if _ then _ else _)=_;rw[if_pos (by unfold ZI;omega)]
def JI(hi:Z[i]?=ZA (.ow (.ob c ns ls)))(hf:mB a ns ls=ZA (l++[t])):An i c a Z=.ok (t,Z.set i (.ow (.ob c ns (lG a l ns ls)))):=by
 unfold An;rw[hi];show(if _ then _ else _)=_;rw[if_pos rfl,hf];simp
def Dh{r:Rs (T×OT)}(h:r=.ok (t,o)):BG i Z r=.ok (t,Z.set i (.ow o)):=by rw[h];rfl
def kF(hi:Z[i]?=ZA (.ow (.ob c ns ls)))(hm:ns.contains m=ZD)(hs:fs Z=.ok ts)(h:g (.ow (.ob c ns ls)::ts.map Sl.va)=.ok (t,o)):c8 i c m g fs Z=.ok (t,Z.set i (.ow o)):=by
 unfold c8;rw[hi];show(if _ then _ else _)=_;rw[if_pos ⟨rfl,hm⟩,hs];exact Dh h
def gV(hi:Z[i]?=ZA (.ow (.ob c ns ls)))(hm:ns.contains m=ZD)(hs:fs Z=.ok ts)(h:g (.ow (.ob c ns ls)::ts.map Sl.va)=.err d):c8 i c m g fs Z=.err d:=by
 unfold c8;rw[hi];show(if _ then _ else _)=_;rw[if_pos ⟨rfl,hm⟩,hs];show BG i Z _=_;rw[h];rfl
def Di(hi:Z[i]?=ZA (.ow (.ob c ns ls)))(hm:ns.contains m=ZD)(hs:fs Z=.err d):c8 i c m g fs Z=.err d:=by
 unfold c8;rw[hi];show(if _ then _ else _)=_;rw[if_pos ⟨rfl,hm⟩,hs];rfl
def JK(hi:Z[i]?=ZA (.ow o))(hs:fs Z=.ok ts){o':OT}(h:g (.ow o::ts.map Sl.va)=.ok (t,o')):xE i g fs Z=.ok (t,Z.set i (.ow o')):=by
 unfold xE;rw[hi];show(fs Z >>= _)=_;rw[hs];exact Dh h
def p9{k:Fx}(h:F Z=.ok (.nx Z'))(h2:G Z'=.ok k):nW F G Z=.ok k:=by unfold nW;rw[h];show EK (G Z')=_;rw[h2];rfl
def ij(h:F Z=.err d):nW F G Z=.err d:=by unfold nW;rw[h]
def wR(h:x Z=.ok (t,Z')):xA x Z=.ok (.nx Z'):=by unfold xA;rw[h];rfl
def uQ(h:x Z=.err d):xA x Z=.err d:=by unfold xA;rw[h];rfl
def m6(h:x Z=.ok (t,Z')):lE x Z=.ok (.rt t Z'):=by unfold lE;rw[h];rfl
def mq(h:x Z=.err d):lE x Z=.err d:=by unfold lE;rw[h];rfl
def zL(h:b Z=.ok k):Jy b F G Z=if k then F Z else G Z:=by unfold Jy;rw[h];rfl
def JR(hi:Z[i]?=ZA (.ow (.ob c ns ls)))(hs:fs Z=.ok l)(hl:l.length<=1000)(hn:ns.length<1000):AN i c a fs Z=.ok (.nx (Z.set i (.ow (if ns.contains a then .ob c ns (lG a l ns ls)else .ob c (ns++[a]) (ls++[l]))))):=by
 unfold AN;rw[hi];show(fs Z >>= _)=_;rw[hs];show(if _ then _ else _)=_;rw[if_pos ⟨rfl,by unfold ZI;omega,hn⟩]
def JQ{k:Fx}(e:F Z=.ok k):wJ F h Z=.ok k:=by unfold wJ;rw[e]
def Gn(e:F Z=.err d)(e2:h d=.ok t):wJ F h Z=.ok (.rt t Z):=by unfold wJ;rw[e];simp only[e2]
def uO(hl:sls.length=N)(h:F (fH M sls)=.ok (.rt t Z))(hj:Z[j]?=ZA (.ow o)):iJ N j M F sls=.ok (t,o):=by unfold iJ;rw[if_pos hl,h];show qO j (.rt t Z)=_;unfold qO;simp only[hj]
def ox(hl:sls.length=N)(h:F (fH M sls)=.ok (.nx Z))(hj:Z[j]?=ZA (.ow o)):iJ N j M F sls=.ok (.non,o):=by unfold iJ;rw[if_pos hl,h];show qO j (.nx Z)=_;unfold qO;simp only[hj]
def fT(hl:sls.length=N)(h:F (fH M sls)=.err d):iJ N j M F sls=.err d:=by unfold iJ;rw[if_pos hl,h];rfl
def LZ{r:T->T->Rs T}{v:T}(h:x Z=.ok (t,Z'))(h2:f Z'=.ok u)(hr:r t u=.ok v):EZ r x f Z=.ok (v,Z'):=by unfold EZ;rw[h];show(EK (f Z' >>= _) >>= _)=_;rw[h2];show(EK (r t u) >>= _)=_;rw[hr];rfl
def LX{b:Bool}(h:x Z=.ok (.bl b,Z')):HV x Z=.ok (b,Z'):=by unfold HV;rw[h];rfl
def Hr(h:b Z=.ok k):EX b Z=.ok (k,Z):=by unfold EX;rw[h];rfl
def zJ{z:En->Rs (Bool×En)}{p:Bool×En}(h:y Z=.ok (ZD,Z'))(h2:z Z'=.ok p):sS y z Z=.ok p:=by unfold sS;rw[h];show EK (z Z')=_;rw[h2];rfl
def L8{A B:V4}{b:Bool}(h:y Z=.ok (b,Z')):xV y A B Z=if b then A Z' else B Z':=by unfold xV;rw[h];rfl
end
end Tr
namespace Gr
variable {ν:Type}[DecidableEq ν]
abbrev cj(ν:Type):=List (ν×ν×Int)
inductive Wk (L:cj ν):ν->ν->Int->Prop
 |nil (a:ν):Wk L a a 0
 |step {a b c:ν} {m s:Int}:(a,b,m)∈L->Wk L b c s->Wk L a c (m+s)
variable{m:Int}
def Wk.one{L:cj ν}{a b:ν}(h:(a,b,m)∈L):Wk L a b m:=by
 have:=Wk.step h (Wk.nil (L:=L) b)
 rwa [Int.add_zero]at this
variable{s:Int}
def Wk.app{L:cj ν}{a b c:ν}{t:Int}(h:Wk L a b s)(k:Wk L b c t):Wk L a c (s+t):=by
 induction h with
 |nil a=>rwa [Int.zero_add]
 |step e _ ih=>rw[Int.add_assoc];exact .step e (ih k)
def Holds(L:cj ν)(t:ν->Int):Prop:=∀a b m,(a,b,m)∈L->t b - t a<=m
def Holds.walk{L:cj ν}{t:ν->Int}(h:Holds L t){a b:ν}(w:Wk L a b s):t b - t a<=s:=by
 induction w with
 |nil a=>omega
 |step e _ ih=>have:=h _ _ _ e;omega
def lq(L:cj ν):Prop:=∀a s,Wk L a a s->0<=s
def Holds.NA{L:cj ν}{t:ν->Int}(h:Holds L t):lq L:=λa s w=>by have:=h.walk w;omega
def Ch(L:cj ν):ν->List Nat->ν->Prop
 |a,[],b=>a=b
 |a,k::r,b=>∃c m,L[k]?=ZA (a,c,m)/\Ch L c r b
def most(L:cj ν)(k:Nat):Int:=match L[k]? with
 |some x=>x.2.2
 |none=>0
def fB(L:cj ν):List Nat->Int
 |[] =>0
 |k::r=>most L k+fB L r
theorem mF(L:cj ν):∀(p q:List Nat),fB L (p++q)=fB L p+fB L q
 |[],q=>by simp[fB]
 |k::p,q=>by rw[SG,fB,fB,mF L p q];omega
theorem Ch.wk{L:cj ν}:∀{ks:List Nat}{a b:ν},Ch L a ks b->Wk L a b (fB L ks)
 |[],a,b,h=>by cases h;exact .nil a
 |k::r,a,b,⟨c,m,e,h⟩=>by
  have:fB L (k::r)=m+fB L r:=by rw[fB,most,e]
  rw[this];exact .step (Qo e) h.wk
theorem Ch.app{L:cj ν}:∀{p q:List Nat}{a b c:ν},Ch L a p b->Ch L b q c->Ch L a (p++q) c
 |[],q,a,b,c,h,k=>by cases h;exact k
 |x::p,q,a,b,c,⟨d,m,e,h⟩,k=>⟨d,m,e,Ch.app h k⟩
theorem Ch.lt{L:cj ν}:∀{ks:List Nat}{a b:ν},Ch L a ks b->∀k∈ks,k<L.length
 |[],_,_,_,k,hk=>by simp at hk
 |x::r,a,b,⟨c,m,e,h⟩,k,hk=>by
  rcases NT.mp hk with rfl|hk
  ·exact(NW.mp e).1
  ·exact h.lt k hk
variable{k:Nat}
def Ch.snoc{L:cj ν}{p:List Nat}{a b c:ν}(h:Ch L a p b)(e:L[k]?=ZA (b,c,m)):Ch L a (p++[k]) c:=h.app ⟨c,m,e,rfl⟩
noncomputable def src(L:cj ν)(k:Nat):Option ν:=(L[k]?).map (·.1)
abbrev cC(ν:Type):=ν->Option (Int×List Nat)
def put(b:cC ν)(v:ν)(x:Int×List Nat):cC ν:=λu=>if u=v then ZA x else b u
variable{x:Int×List Nat}
def ff{b:cC ν}{v:ν}:put b v x v=ZA x:=by unfold put;rw[if_pos rfl]
def lx{b:cC ν}{u v:ν}(h:u≠v):put b v x u=b u:=by unfold put;rw[if_neg h]
def fz(L:cj ν)(ks:List Nat):List ν:=ks.filterMap (src L)
def ft(b:cC ν)(v:ν)(d:Int):Bool:=match b v with
 |none=>ZC
 |some x=>decide (d<x.1)
noncomputable def iO(L:cj ν)(b:cC ν)(k:Nat)(x:ν×ν×Int):Sum (Option (cC ν)) (List Nat):=match b x.1 with
 |none=>.inl ZB
 |some (d,w)=>if ft b x.2.1 (d+x.2.2)=ZC then
   if x.2.1∈fz L (w++[k])then .inr ((w++[k]).drop ((fz L (w++[k])).idxOf x.2.1))else .inl (ZA (put b x.2.1 (d+x.2.2,w++[k])))
  else .inl ZB
noncomputable def jo(L:cj ν):Nat->cj ν->cC ν->Bool->Sum (cC ν×Bool) (List Nat)
 |_,[],b,mv=>.inl (b,mv)
 |k,x::r,b,mv=>match iO L b k x with
  |.inr q=>.inr q
  |.inl ZB=>jo L (k+1) r b mv
  |.inl (ZA b')=>jo L (k+1) r b' ZC
noncomputable def settle(L:cj ν):Nat->cC ν->Option (Sum (cC ν) (List Nat))
 |0,_=>ZB
 |n+1,b=>match jo L 0 L b ZD with
  |.inr q=>ZA (.inr q)
  |.inl (b',ZC)=>settle L n b'
  |.inl (b',ZD)=>ZA (.inl b')
def tV(L:cj ν)(p q:List Nat):fz L (p++q)=fz L p++fz L q:=by unfold fz;rw[List.filterMap_append]
def tU{L:cj ν}{x:ν×ν×Int}(e:L[k]?=ZA x):fz L [k]=[x.1]:=by unfold fz src;simp[e]
def Ch.MY{L:cj ν}{r:List Nat}{a b:ν}(h:Ch L a (k::r) b):fz L (k::r)=a::fz L r:=by
 obtain⟨c,m,e,_⟩:=h;rw[show k::r=[k] ++r from rfl,tV,tU e];rfl
theorem Ch.cut{L:cj ν}{v:ν}:∀{ks:List Nat}{a b:ν},Ch L a ks b->v∈fz L ks->Ch L a (ks.take ((fz L ks).idxOf v)) v/\Ch L v (ks.drop ((fz L ks).idxOf v)) b/\(fz L ks).idxOf v<ks.length
 |[],a,b,_,hv=>by simp[fz]at hv
 |k::r,a,b,h,hv=>by
  rw[h.MY]at hv ⊢
  have h0:=h;obtain⟨c,m,e,h⟩:=h
  by_cases z:a=v
  ·subst z
   rw[List.idxOf_cons_self];exact⟨rfl,h0,by simp⟩
  ·have hv':v∈fz L r:=by
    rcases NT.mp hv with q|q
    ·exact absurd q.symm z
    ·exact q
   obtain⟨h1,h2,h3⟩:=h.cut hv'
   have ei:(a::fz L r).idxOf v=(fz L r).idxOf v+1:=by
    rw[Vd]
    have:(a == v)=ZD:=by rw[beq_eq_false_iff_ne];exact z
    rw[this];rfl
   rw[ei];exact⟨⟨c,m,e,h1⟩,h2,by simpa using h3⟩
structure Kept (L:cj ν)(S:List ν)(b:cC ν):Prop where
 walk:∀v d w,b v=ZA (d,w)->∃s∈S,Ch L s w v/\fB L w=d/\v∉fz L w/\(fz L w).Nodup/\∀p q u,w=p++q->Ch L s p u->∃d' w',b u=ZA (d',w')/\d'<=fB L p
 start:∀s∈S,∃d w,b s=ZA (d,w)/\d<=0
theorem Kept.put{L:cj ν}{S:List ν}{b:cC ν}(K:Kept L S b){k:Nat}{a c:ν}{m d:Int}{w:List Nat}(e:L[k]?=ZA (a,c,m))(ha:b a=ZA (d,w))(hb:ft b c (d+m)=ZC)(hn:c∉fz L (w++[k])):
  Kept L S (put b c (d+m,w++[k])):=by
 have low:∀u d' w',b u=ZA (d',w')->∃d'' w'',Gr.put b c (d+m,w++[k]) u=ZA (d'',w'')/\d''<=d':=λu d' w' h=>by
  by_cases z:u=c
  ·subst z
   refine⟨_,_,ff,?_⟩
   unfold ft at hb;rw[h]at hb
   have:=of_decide_eq_true hb;omega
  ·exact⟨d',w',by rw[lx z];exact h,PR _⟩
 obtain⟨s,hs,h1,h2,h3,h4,h5⟩:=K.walk a d w ha
 have hch:Ch L s (w++[k]) c:=h1.snoc e
 have hcost:fB L (w++[k])=d+m:=by rw[mF,h2,fB,fB,most,e];simp
 refine⟨λv d' w' h=>?_,λs' hs'=>?_⟩
 ·by_cases z:v=c
  ·subst z
   rw[ff]at h;cases h;refine⟨s,hs,hch,hcost,hn,?_,λp q u hpq hp=>?_⟩
   ·rw[tV,tU e]
    exact OQ.mpr ⟨h4,by simp,λx hx y hy=>by simp at hy;subst hy;exact λz=>h3 (z▸hx)⟩
   ·by_cases hq:q=[]
    ·subst hq
     rw[Ol]at hpq;subst hpq
     have:u=v:=by
      clear low hb hn h5
      have aux:∀{ks:List Nat}{x y z:ν},Ch L x ks y->Ch L x ks z->y=z:=by
       intro ks
       induction ks with
       |nil=>intro x y z h1 h2;cases h1;cases h2;rfl
       |cons k r ih=>
        rintro x y z ⟨c1,m1,e1,r1⟩ ⟨c2,m2,e2,r2⟩
        rw[e1]at e2;cases e2;exact ih r1 r2
      exact aux hp hch
     subst this;exact⟨_,_,ff,by rw[hcost];exact PR _⟩
    ·have hw:∃q',w=p++q':=by
      refine⟨q.dropLast,?_⟩
      have:=congrArg List.dropLast hpq;rw[List.dropLast_concat,List.dropLast_append_of_ne_nil hq]at this;exact this
     obtain⟨q',hw⟩:=hw;obtain⟨d1,w1,e1,l1⟩:=h5 p q' u hw hp;obtain⟨d2,w2,e2,l2⟩:=low u d1 w1 e1;exact⟨d2,w2,e2,by omega⟩
  ·rw[lx z]at h
   obtain⟨s',hs',g1,g2,g3,g4,g5⟩:=K.walk v d' w' h;refine⟨s',hs',g1,g2,g3,g4,λp q u hpq hp=>?_⟩
   obtain⟨d1,w1,e1,l1⟩:=g5 p q u hpq hp;obtain⟨d2,w2,e2,l2⟩:=low u d1 w1 e1;exact⟨d2,w2,e2,by omega⟩
 ·obtain⟨d1,w1,e1,l1⟩:=K.start s' hs'
  obtain⟨d2,w2,e2,l2⟩:=low s' d1 w1 e1;exact⟨d2,w2,e2,by omega⟩
def Bar(L:cj ν)(q:List Nat):Prop:=q≠ []/\(∃a,Ch L a q a)/\fB L q<0/\(fz L q).Nodup
theorem Ch.Nb{L:cj ν}:∀{ks:List Nat}{a b:ν}(i:Nat),Ch L a ks b->fz L (ks.drop i)=(fz L ks).drop i
 |[],_,_,i,_=>by simp[fz]
 |k::r,a,b,0,_=>rfl
 |k::r,a,b,i+1,h=>by
  have:=h;obtain⟨c,m,e,h'⟩:=this;rw[h.MY,TF,TF,h'.Nb i]
variable{w:List Nat}
def Kept.round{L:cj ν}{S:List ν}{b:cC ν}(K:Kept L S b){a c:ν}{d:Int}(e:L[k]?=ZA (a,c,m))(ha:b a=ZA (d,w))(hb:ft b c (d+m)=ZC)(hn:c∈fz L (w++[k])):
  Bar L ((w++[k]).drop ((fz L (w++[k])).idxOf c)):=by
 obtain⟨s,hs,h1,h2,h3,h4,h5⟩:=K.walk a d w ha
 have hch:Ch L s (w++[k]) c:=h1.snoc e
 have hcost:fB L (w++[k])=d+m:=by rw[mF,h2,fB,fB,most,e];simp
 obtain⟨c1,c2,c3⟩:=hch.cut hn
 generalize hi:(fz L (w++[k])).idxOf c=i at c1 c2 c3
 refine⟨λz=>?_,⟨c,c2⟩,?_,?_⟩
 ·have:=congrArg O7 z
  rw[Qx]at this
  simp at this c3
  omega
 ·have hsum:fB L ((w++[k]).take i)+fB L ((w++[k]).drop i)=d+m:=by rw[<-mF,SZ,hcost]
  have hiw:i<=w.length:=by simp at c3;omega
  have ht:(w++[k]).take i=w.take i:=by rw[List.take_append_of_le_length hiw]
  rw[ht]at c1 hsum;obtain⟨d1,w1,e1,l1⟩:=h5 (w.take i) (w.drop i) c (SZ i w).symm c1;unfold ft at hb;rw[e1]at hb
  have:=of_decide_eq_true hb;simp only at this;omega
 ·rw[hch.Nb,tV,tU e]
  refine(List.drop_sublist _ _).nodup (OQ.mpr ⟨h4,by simp,λx hx y hy=>?_⟩)
  rw[N1.mp hy];exact λz=>h3 (by have z:x=a:=z;rw[<-z];exact hx)
def size(L:cj ν):Nat:=(L.map λx=>x.2.2.natAbs).sum
theorem kS{f:Nat->Nat}:∀{ks rs:List Nat},ks.Nodup->(∀k∈ks,k∈rs)->(ks.map f).sum<=(rs.map f).sum
 |[],rs,_,_=>by simp
 |k::ks,rs,hn,hs=>by
  have hk:k∈rs:=hs k NP;rw[Og]at hn
  have hp:=List.perm_cons_erase hk
  have e:(rs.map f).sum=f k+((rs.erase k).map f).sum:=by
   have:=(hp.map f).sum_nat
   rwa [NO,PV]at this
  rw[e,NO,PV]
  have:=kS (f:=f) hn.2 (rs:=rs.erase k) λj hj=>by
   have h1:=hs j (NL _ hj);exact(Tg (λ(z:j=k)=>hn.1 (z▸hj))).mpr h1
  omega
def xO(L:cj ν):size L=((OI L.length).map λk=>(most L k).natAbs).sum:=by
 unfold size
 congr 1
 apply List.ext_getElem
 ·simp
 ·intro i h1 h2
  simp only[SF,List.getElem_range];unfold most;rw[N9 (by simpa using h1)]
theorem Aa(L:cj ν):∀(ks:List Nat),(fB L ks).natAbs<=(ks.map λk=>(most L k).natAbs).sum
 |[] =>by simp[fB]
 |k::r=>by
  have:=Aa L r;rw[fB,NO,PV];omega
theorem Ch.nodup{L:cj ν}:∀{ks:List Nat}{a b:ν},Ch L a ks b->(fz L ks).Nodup->ks.Nodup
 |[],_,_,_,_=>Ql
 |k::r,a,b,h,hn=>by
  have h0:=h;rw[h.MY,Og]at hn;obtain⟨c,m,e,h⟩:=h;rw[Og];refine⟨λhk=>hn.1 ?_,h.nodup hn.2⟩
  unfold fz src;exact R6.mpr ⟨k,hk,by rw[e];rfl⟩
def Ch.small{L:cj ν}{ks:List Nat}{a b:ν}(h:Ch L a ks b)(hn:(fz L ks).Nodup):(fB L ks).natAbs<=size L:=by
 rw[xO];exact OJ (Aa L ks) (kS (h.nodup hn) λk hk=>Pr.mpr (h.lt k hk))
noncomputable def val(M:Nat)(b:cC ν)(v:ν):Nat:=match b v with
 |none=>2*M+1
 |some x=>(x.1+M).toNat
def left(M:Nat)(b:cC ν)(L:cj ν):Nat:=(L.map λx=>val M b x.2.1).sum
theorem zC{M:Nat}{b b':cC ν}:∀{L:cj ν},(∀x∈L,val M b' x.2.1<=val M b x.2.1)->left M b' L<=left M b L
 |[],_=>by simp[left]
 |x::L,h=>by
  have h1:=h x NP
  have h2:=zC (L:=L) λy hy=>h y (NL _ hy)
  unfold left at h2 ⊢;rw[NO,PV,NO,PV];omega
theorem zB{M:Nat}{b b':cC ν}{x:ν×ν×Int}:∀{L:cj ν},x∈L->(∀x∈L,val M b' x.2.1<=val M b x.2.1)->val M b' x.2.1<val M b x.2.1->left M b' L<left M b L
 |[],hx,_,_=>by simp at hx
 |y::L,hx,h,hl=>by
  have h1:=h y NP
  have h2:=zC (L:=L) λy hy=>h y (NL _ hy)
  unfold left at h2 ⊢;rw[NO,PV,NO,PV];rcases NT.mp hx with rfl|hx
  ·omega
  ·have h3:=zB (L:=L) hx (λy hy=>h y (NL _ hy)) hl
   unfold left at h3;omega
def C9{L:cj ν}{S:List ν}{b:cC ν}(K:Kept L S b){a c:ν}{d:Int}(e:L[k]?=ZA (a,c,m))(ha:b a=ZA (d,w))(hb:ft b c (d+m)=ZC)(hn:c∉fz L (w++[k])):
  left (size L) (put b c (d+m,w++[k])) L<left (size L) b L:=by
 have K':=K.put e ha hb hn;obtain⟨s,hs,h1,h2,h3,h4,h5⟩:=K'.walk c (d+m) (w++[k]) ff
 have sm:=h1.small h4;rw[h2]at sm
 have lt:val (size L) (put b c (d+m,w++[k])) c<val (size L) b c:=by
  unfold val ft at*;rw[ff]
  cases z:b c with
  |none=>simp only;omega
  |some y=>
   rw[z]at hb
   have hb:=of_decide_eq_true hb;simp only;omega
 refine zB (x:=(a,c,m)) (Qo e) (λy _=>?_) lt
 by_cases z:y.2.1=c
 ·rw[z];exact Rc lt
 ·unfold val;rw[lx z];exact N4 _
def EB(b:cC ν)(x:ν×ν×Int):Prop:=∀d w,b x.1=ZA (d,w)->∃d' w',b x.2.1=ZA (d',w')/\d'<=d+x.2.2
def BR{b:cC ν}{x:ν×ν×Int}(h:∀d w,b x.1=ZA (d,w)->ft b x.2.1 (d+x.2.2)=ZD):EB b x:=λd w e=>by
 have:=h d w e;unfold ft at this
 cases z:b x.2.1 with
 |none=>rw[z]at this;cases this
 |some y=>
  rw[z]at this
  have:=of_decide_eq_false this;exact⟨y.1,y.2,rfl,by omega⟩
theorem jC{L:cj ν}{S:List ν}:∀(r:cj ν)(k:Nat)(b:cC ν)(mv:Bool),L.drop k=r->Kept L S b->match jo L k r b mv with
  |.inr q=>Bar L q
  |.inl (b',mv')=>Kept L S b'/\(mv'=ZD->mv=ZD/\b'=b/\∀x∈r,EB b x)/\left (size L) b' L<=left (size L) b L/\(mv'=ZC->mv=ZC\/left (size L) b' L<left (size L) b L)
 |[],k,b,mv,_,K=>⟨K,λh=>⟨h,rfl,λx hx=>by simp at hx⟩,N4 _,λh=>.inl h⟩
 |x::r,k,b,mv,hr,K=>by
  have e:L[k]?=ZA x:=by
   have:=congrArg (·[0]?) hr
   simpa using this
  have hr':L.drop (k+1)=r:=by
   have:=congrArg (List.drop 1) hr
   simpa [List.drop_drop,UD]using this
  rw[jo];obtain⟨a,c,m⟩:=x;unfold iO
  cases z:b a with
  |none=>
   simp only[z]
   have ih:=jC r (k+1) b mv hr' K
   revert ih
   generalize jo L (k+1) r b mv=R
   cases R with
   |inr q=>exact id
   |inl p=>
    obtain⟨b',mv'⟩:=p
    rintro ⟨i1,i2,i3,i4⟩
    refine⟨i1,λh=>?_,i3,i4⟩
    obtain⟨j1,j2,j3⟩:=i2 h;refine⟨j1,j2,λx hx=>?_⟩
    rcases NT.mp hx with rfl|hx
    ·intro d w q;rw[z]at q;cases q
    ·exact j3 x hx
  |some y=>
   obtain⟨d,w⟩:=y;simp only[z]
   by_cases hb:ft b c (d+m)=ZC
   ·rw[if_pos hb]
    by_cases hn:c∈fz L (w++[k])
    ·rw[if_pos hn]
     exact K.round e z hb hn
    ·rw[if_neg hn]
     have K':=K.put e z hb hn
     have lt:=C9 K e z hb hn
     have ih:=jC r (k+1) (put b c (d+m,w++[k])) ZC hr' K'
     revert ih
     simp only
     generalize jo L (k+1) r (put b c (d+m,w++[k])) ZC=R
     cases R with
     |inr q=>exact id
     |inl p=>
      obtain⟨b',mv'⟩:=p
      rintro ⟨i1,i2,i3,i4⟩
      refine⟨i1,λh=>?_,by omega,λ_=>.inr (by omega)⟩
      obtain⟨j1,_⟩:=i2 h;cases j1
   ·rw[if_neg hb]
    have ih:=jC r (k+1) b mv hr' K
    revert ih
    simp only
    generalize jo L (k+1) r b mv=R
    cases R with
    |inr q=>exact id
    |inl p=>
     obtain⟨b',mv'⟩:=p
     rintro ⟨i1,i2,i3,i4⟩
     refine⟨i1,λh=>?_,i3,i4⟩
     obtain⟨j1,j2,j3⟩:=i2 h;refine⟨j1,j2,λx hx=>?_⟩
     rcases NT.mp hx with rfl|hx
     ·refine BR λd' w' q=>?_
      simp only at q;rw[z]at q;cases q
      simpa using hb
     ·exact j3 x hx
structure Settled (L:cj ν)(S:List ν)(b:cC ν):Prop where
 walk:∀v d w,b v=ZA (d,w)->∃s∈S,Ch L s w v/\fB L w=d/\v∉fz L w/\(fz L w).Nodup
 least:∀s∈S,∀v t,Wk L s v t->∃d w,b v=ZA (d,w)/\d<=t
def xQ{L:cj ν}{S:List ν}{b:cC ν}(K:Kept L S b)(h:∀x∈L,EB b x):Settled L S b where
 walk:=λv d w e=>by
  obtain⟨s,h1,h2,h3,h4,h5,_⟩:=K.walk v d w e;exact⟨s,h1,h2,h3,h4,h5⟩
 least:=by
  have go:∀{u v:ν}{t:Int},Wk L u v t->∀d w,b u=ZA (d,w)->∃d' w',b v=ZA (d',w')/\d'<=d+t:=by
   intro u v t hw
   induction hw with
   |nil a=>exact λd w e=>⟨d,w,e,by omega⟩
   |step e _ ih=>
    intro d w q;obtain⟨d1,w1,e1,l1⟩:=h _ e d w q;obtain⟨d2,w2,e2,l2⟩:=ih d1 w1 e1;exact⟨d2,w2,e2,by simp only at l1;omega⟩
  intro s hs v t hw;obtain⟨d,w,e,l⟩:=K.start s hs;obtain⟨d2,w2,e2,l2⟩:=go hw d w e;exact⟨d2,w2,e2,by omega⟩
theorem rH{L:cj ν}{S:List ν}:∀(n:Nat)(b:cC ν),Kept L S b->left (size L) b L<n->∃r,settle L n b=ZA r/\match r with
  |.inr q=>Bar L q
  |.inl b'=>Settled L S b'
 |0,b,K,h=>by omega
 |n+1,b,K,h=>by
  have s:=jC (S:=S) L 0 b ZD rfl K;rw[settle]
  revert s
  generalize jo L 0 L b ZD=R
  cases R with
  |inr q=>exact λs=>⟨_,rfl,s⟩
  |inl p=>
   obtain⟨b',mv'⟩:=p
   rintro ⟨i1,i2,i3,i4⟩
   cases mv' with
   |false=>
    obtain⟨_,j2,j3⟩:=i2 rfl;subst j2
    exact⟨_,rfl,xQ i1 j3⟩
   |true=>
    rcases i4 rfl with z|z
    ·cases z
    ·exact rH n b' i1 (by omega)
noncomputable def start(S:List ν):cC ν:=λv=>if v∈S then ZA (0,[])else ZB
def p8(L:cj ν)(S:List ν):Kept L S (start S) where
 walk:=λv d w e=>by
  unfold start at e
  split at e
  ·rename_i h
   cases e;refine⟨v,h,rfl,rfl,by simp[fz],by simp[fz],λp q u hpq hp=>?_⟩
   obtain⟨rfl,rfl⟩:=List.append_eq_nil_iff.mp hpq.symm;cases hp;exact⟨0,[],by unfold start;rw[if_pos h],by simp[fB]⟩
  ·cases e
 start:=λs hs=>⟨0,[],by unfold start;rw[if_pos hs],PR _⟩
def Dc(L:cj ν)(S:List ν):left (size L) (start S) L<=L.length*(2*size L+1):=by
 unfold left
 have:∀M:cj ν,(M.map λx=>val (size L) (start S) x.2.1).sum<=M.length*(2*size L+1):=by
  intro M
  induction M with
  |nil=>simp
  |cons x M ih=>
   rw[NO,PV,NU,Nat.succ_mul]
   have:val (size L) (start S) x.2.1<=2*size L+1:=by
    unfold val start;split
    ·exact N4 _
    ·rename_i h
     split at h
     ·cases h;simp;omega
     ·cases h
   omega
 exact this L
theorem xR(L:cj ν)(S:List ν){n:Nat}(h:L.length*(2*size L+1)<n):∃r,settle L n (start S)=ZA r/\match r with
  |.inr q=>Bar L q
  |.inl b'=>Settled L S b':=rH n (start S) (p8 L S) (T1 (Dc L S) h)
def Bar.neg{L:cj ν}{q:List Nat}(h:Bar L q):¬ lq L:=λn=>by
 obtain⟨_,⟨a,ha⟩,hc,_⟩:=h
 have:=n a _ ha.wk;omega
def Settled.holds{L:cj ν}{S:List ν}{b:cC ν}(h:Settled L S b)(hS:∀x∈L,x.1∈S/\x.2.1∈S){t:ν->Int}(ht:∀v∈S,∃w,b v=ZA (t v,w)):Holds L t:=λa c m hx=>by
 obtain⟨ha,hc⟩:=hS _ hx;obtain⟨w,e⟩:=ht a ha;obtain⟨s,hs,h1,h2,_⟩:=h.walk a _ _ e;obtain⟨d,w',e',l⟩:=h.least s hs c _ (h1.wk.app (.one hx));obtain⟨w2,e2⟩:=ht c hc;rw[e2]at e';cases e';omega
inductive Pth (L:cj ν):ν->List ν->ν->Int->Prop
 |one {a b:ν} {m:Int}:(a,b,m)∈L->Pth L a [] b m
 |cons {a x b:ν} {ms:List ν} {m s:Int}:(a,x,m)∈L->Pth L x ms b s->Pth L a (x::ms) b (m+s)
theorem Pth.cut{L:cj ν}{x:ν}{q:List ν}:∀{p:List ν}{a b:ν}{s:Int},Pth L a (p++x::q) b s->∃s1 s2,Pth L a p x s1/\Pth L x q b s2/\s=s1+s2
 |[],a,b,s,h=>by
  cases h with
  |cons e h=>exact⟨_,_,.one e,h,rfl⟩
 |y::p,a,b,s,h=>by
  cases h with
  |cons e h=>
   obtain⟨s1,s2,h1,h2,h3⟩:=Pth.cut h;exact⟨_,s2,.cons e h1,h2,by omega⟩
def Ks(L:cj ν)(u v:ν)(s:Int):Prop:=(u=v/\s=0)\/(u≠v/\∃ms,Pth L u ms v s/\ms.Nodup/\u∉ms/\v∉ms)
def ED(L:cj ν):Prop:=∃x ms s,Pth L x ms x s/\ms.Nodup/\x∉ms/\s<0
def Wk.simple{L:cj ν}{u v:ν}(w:Wk L u v s):ED L\/∃s',s'<=s/\Ks L u v s':=by
 induction w with
 |nil a=>exact .inr ⟨0,PR _,.inl ⟨rfl,rfl⟩⟩
 |@step a b c m s e w ih=>
  rcases ih with ih|⟨s',hs,ih⟩
  ·exact .inl ih
  by_cases hab:a=b
  ·subst hab
   by_cases hm:m<0
   ·exact .inl ⟨a,[],m,.one e,Ql,by simp,hm⟩
   ·exact .inr ⟨s',by omega,ih⟩
  rcases ih with⟨rfl,rfl⟩|⟨hbc,ms,hp,hn,hb,hc⟩
  ·exact .inr ⟨m,by omega,.inr ⟨hab,[],.one e,Ql,by simp,by simp⟩⟩
  by_cases hac:a=c
  ·subst hac
   by_cases hm:m+s'<0
   ·exact .inl ⟨a,b::ms,m+s',.cons e hp,Og.mpr ⟨hb,hn⟩,by simp[hab,hc],hm⟩
   ·exact .inr ⟨0,by omega,.inl ⟨rfl,rfl⟩⟩
  by_cases ham:a∈ms
  ·obtain⟨p,q,rfl⟩:=T2 ham
   obtain⟨s1,s2,h1,h2,h3⟩:=hp.cut;rw[OQ]at hn;obtain⟨n1,n2,n3⟩:=hn;rw[Og]at n2
   have hap:a∉p:=λz=>n3 a z a NP rfl
   by_cases hm:m+s1<0
   ·refine .inl ⟨a,b::p,m+s1,.cons e h1,Og.mpr ⟨λz=>hb (On _ z),n1⟩,by simp[hab,hap],hm⟩
   ·exact .inr ⟨s2,by omega,.inr ⟨hac,q,h2,n2.2,n2.1,λz=>hc (Of _ (NL _ z))⟩⟩
  ·refine .inr ⟨m+s',by omega,.inr ⟨hac,b::ms,.cons e hp,Og.mpr ⟨hb,hn⟩,by simp[hab,ham],?_⟩⟩
   simp only[NT,not_or];exact⟨λz=>hbc z.symm,hc⟩
abbrev fL(ν:Type):=ν->ν->Option Int
noncomputable def j7(f:fL ν)(a b:ν)(x:Int):fL ν:=λu v=>if u=a/\v=b then ZA x else f u v
noncomputable def n5(f:fL ν)(a b:ν)(x:Int):fL ν:=match f a b with
 |none=>j7 f a b x
 |some y=>if x<y then j7 f a b x else f
noncomputable def mx(mid one other:ν)(f:fL ν):fL ν:=match f one mid,f mid other with
 |some x,ZA y=>n5 f one other (x+y)
 |_,_=>f
noncomputable def vt(P:List ν):fL ν:=λu v=>if u∈P/\u=v then ZA 0 else ZB
noncomputable def BL(P:List ν)(L:cj ν):fL ν:=L.foldl (λf x=>n5 f x.1 x.2.1 x.2.2) (vt P)
noncomputable def my(mid one:ν)(P:List ν)(f:fL ν):fL ν:=P.foldl (λf other=>mx mid one other f) f
def qk(mid:ν)(Q P:List ν)(f:fL ν):fL ν:=Q.foldl (λf one=>my mid one P f) f
noncomputable def wY(M P:List ν)(f:fL ν):fL ν:=M.foldl (λf mid=>qk mid P P f) f
def table(P:List ν)(L:cj ν):fL ν:=wY P P (BL P L)
def Le(f g:fL ν):Prop:=∀u v x,g u v=ZA x->∃y,f u v=ZA y/\y<=x
def Le.refl(f:fL ν):Le f f:=λu v x h=>⟨x,h,PR _⟩
def Le.trans{f g h:fL ν}(a:Le f g)(b:Le g h):Le f h:=λu v x e=>by
 obtain⟨y,e1,l1⟩:=b u v x e;obtain⟨z,e2,l2⟩:=a u v y e1;exact⟨z,e2,by omega⟩
variable{x:Int}
def m7{f:fL ν}{a b:ν}:j7 f a b x a b=ZA x:=by unfold j7;rw[if_pos ⟨rfl,rfl⟩]
def uU(f:fL ν)(a b:ν)(x:Int):Le (n5 f a b x) f:=λu v y e=>by
 unfold n5
 cases q:f a b with
 |none=>
  by_cases z:u=a/\v=b
  ·obtain⟨rfl,rfl⟩:=z;rw[q]at e;cases e
  ·exact⟨y,by simp only;unfold j7;rw[if_neg z];exact e,PR _⟩
 |some y0=>
  simp only;split
  ·by_cases z:u=a/\v=b
   ·obtain⟨rfl,rfl⟩:=z;rw[q]at e;cases e
    exact⟨x,m7,by omega⟩
   ·exact⟨y,by unfold j7;rw[if_neg z];exact e,PR _⟩
  ·exact⟨y,e,PR _⟩
def zT(f:fL ν)(a b:ν)(x:Int):∃y,n5 f a b x a b=ZA y/\y<=x:=by
 unfold n5
 cases q:f a b with
 |none=>exact⟨x,m7,PR _⟩
 |some y0=>
  simp only;split
  ·exact⟨x,m7,PR _⟩
  ·exact⟨y0,q,by omega⟩
def qm{L:cj ν}{f:fL ν}{a b:ν}(h:∀u v y,f u v=ZA y->Wk L u v y)(hx:Wk L a b x):∀u v y,n5 f a b x u v=ZA y->Wk L u v y:=λu v y e=>by
 have key:j7 f a b x u v=ZA y->Wk L u v y:=λe'=>by
  unfold j7 at e'
  by_cases z:u=a/\v=b
  ·rw[if_pos z]at e';injection e' with e';rw[z.1,z.2,<-e'];exact hx
  ·rw[if_neg z]at e';exact h u v y e'
 unfold n5 at e
 cases q:f a b with
 |none=>rw[q]at e;exact key e
 |some y0=>
  rw[q]at e;simp only at e
  split at e
  ·exact key e
  ·exact h u v y e
def wW(mid one other:ν)(f:fL ν):Le (mx mid one other f) f:=by
 unfold mx;split
 ·exact uU _ _ _ _
 ·exact Le.refl f
variable{y:Int}
def DN{mid one other:ν}{f:fL ν}(h1:f one mid=ZA x)(h2:f mid other=ZA y):∃z,mx mid one other f one other=ZA z/\z<=x+y:=by
 unfold mx;rw[h1,h2];exact zT _ _ _ _
theorem kJ{α:Type}(step:fL ν->α->fL ν)(hs:∀f a,Le (step f a) f):∀(l:List α)(f:fL ν),Le (l.foldl step f) f
 |[],f=>Le.refl f
 |a::l,f=>(kJ step hs l (step f a)).trans (hs f a)
def qi(mid one:ν)(P:List ν)(f:fL ν):Le (my mid one P f) f:=kJ _ (λf o=>wW mid one o f) P f
def wX(mid:ν)(Q P:List ν)(f:fL ν):Le (qk mid Q P f) f:=kJ _ (λf o=>qi mid o P f) Q f
def DT(M P:List ν)(f:fL ν):Le (wY M P f) f:=kJ _ (λf o=>wX o P P f) M f
theorem oC{α:Type}(step:fL ν->α->fL ν)(hs:∀f a,Le (step f a) f):∀(l:List α)(f:fL ν)(a:α),a∈l->∃g,Le g f/\Le (l.foldl step f) (step g a)
 |[],f,a,h=>by simp at h
 |b::l,f,a,h=>by
  rcases NT.mp h with rfl|h
  ·exact⟨f,Le.refl f,kJ step hs l (step f a)⟩
  ·obtain⟨g,h1,h2⟩:=oC step hs l (step f b) a h
   exact⟨g,h1.trans (hs f b),h2⟩
def DQ{mid u v:ν}{P:List ν}{f:fL ν}(hu:u∈P)(hv:v∈P)(h1:f u mid=ZA x)(h2:f mid v=ZA y):∃z,qk mid P P f u v=ZA z/\z<=x+y:=by
 obtain⟨g,g1,g2⟩:=oC (λf one=>my mid one P f) (λf o=>qi mid o P f) P f u hu
 obtain⟨g',g3,g4⟩:=oC (λf other=>mx mid u other f) (λf o=>wW mid u o f) P g v hv
 have l:Le g' f:=g3.trans g1;obtain⟨x',e1,l1⟩:=l _ _ _ h1;obtain⟨y',e2,l2⟩:=l _ _ _ h2;obtain⟨z,e3,l3⟩:=DN e1 e2;obtain⟨z',e4,l4⟩:=(g2.trans g4) _ _ _ e3;exact⟨z',e4,by omega⟩
def Up(L:cj ν)(M:List ν)(f:fL ν):Prop:=∀u v ms s,Pth L u ms v s->ms.Nodup->(∀x∈ms,x∈M)->∃y,f u v=ZA y/\y<=s
def Pth.ends{L:cj ν}{P:List ν}(hL:∀x∈L,x.1∈P/\x.2.1∈P){u v:ν}{ms:List ν}(h:Pth L u ms v s):u∈P/\v∈P/\∀x∈ms,x∈P:=by
 induction h with
 |one e=>exact⟨(hL _ e).1,(hL _ e).2,by simp⟩
 |cons e _ ih=>exact⟨(hL _ e).1,ih.2.1,λx hx=>by
   rcases NT.mp hx with rfl|hx
   ·exact ih.1
   ·exact ih.2.2 x hx⟩
def Up.mid{L:cj ν}{P M:List ν}{f:fL ν}(hL:∀x∈L,x.1∈P/\x.2.1∈P)(h:Up L M f)(k:ν):Up L (k::M) (qk k P P f):=λu v ms s hp hn hm=>by
 by_cases hk:k∈ms
 ·obtain⟨p,q,rfl⟩:=T2 hk
  obtain⟨s1,s2,h1,h2,h3⟩:=hp.cut;rw[OQ]at hn;obtain⟨n1,n2,n3⟩:=hn;rw[Og]at n2
  have hp':∀x∈p,x∈M:=λx hx=>by
   rcases NT.mp (hm x (On _ hx))with rfl|z
   ·exact absurd rfl (n3 x hx x NP)
   ·exact z
  have hq':∀x∈q,x∈M:=λx hx=>by
   rcases NT.mp (hm x (Of _ (NL _ hx)))with rfl|z
   ·exact absurd hx n2.1
   ·exact z
  obtain⟨y1,e1,l1⟩:=h u k p s1 h1 n1 hp';obtain⟨y2,e2,l2⟩:=h k v q s2 h2 n2.2 hq';obtain⟨z,e3,l3⟩:=DQ (P:=P) (h1.ends hL).1 (h2.ends hL).2.1 e1 e2;exact⟨z,e3,by omega⟩
 ·obtain⟨y,e,l⟩:=h u v ms s hp hn λx hx=>by
   rcases NT.mp (hm x hx)with rfl|z
   ·exact absurd hx hk
   ·exact z
  obtain⟨z,e2,l2⟩:=wX k P P f u v y e;exact⟨z,e2,by omega⟩
theorem Up.Ny{L:cj ν}{P:List ν}(hL:∀x∈L,x.1∈P/\x.2.1∈P):∀(Q M:List ν)(f:fL ν),Up L M f->∃M',(∀x,x∈Q\/x∈M->x∈M')/\Up L M' (wY Q P f)
 |[],M,f,h=>⟨M,λx hx=>hx.elim (λz=>by simp at z) id,h⟩
 |k::Q,M,f,h=>by
  obtain⟨M',h1,h2⟩:=Up.Ny hL Q (k::M) (qk k P P f) (h.mid hL k);refine⟨M',λx hx=>h1 x ?_,h2⟩
  rcases hx with hx|hx
  ·rcases NT.mp hx with rfl|hx
   ·exact .inr NP
   ·exact .inl hx
  ·exact .inr (NL _ hx)
def E9{P:List ν}{L:cj ν}:Up L [] (BL P L):=λu v ms s hp hn hm=>by
 have:ms=[]:=by
  cases ms with
  |nil=>rfl
  |cons x r=>exact absurd (hm x NP) (by simp)
 subst this
 cases hp with
 |one e=>
  obtain⟨g,h1,h2⟩:=oC (λ(f:fL ν)(x:ν×ν×Int)=>n5 f x.1 x.2.1 x.2.2) (λf x=>uU f _ _ _) L (vt P) _ e
  obtain⟨y,e1,l1⟩:=zT g u v s;obtain⟨z,e2,l2⟩:=h2 u v y e1;exact⟨z,e2,by omega⟩
theorem gZ{α:Type}{L:cj ν}(step:fL ν->α->fL ν):∀(l:List α)(f:fL ν),(∀f,∀a∈l,(∀u v y,f u v=ZA y->Wk L u v y)->∀u v y,step f a u v=ZA y->Wk L u v y)->(∀u v y,f u v=ZA y->Wk L u v y)->∀u v y,l.foldl step f u v=ZA y->Wk L u v y
 |[],f,_,h=>h
 |a::l,f,hs,h=>gZ step l (step f a) (λf b hb=>hs f b (NL _ hb)) (hs f a NP h)
def nv(P:List ν)(L:cj ν):∀u v y,table P L u v=ZA y->Wk L u v y:=by
 unfold table wY;refine gZ _ P _ (λf m _ h=>?_) ?_
 ·unfold qk
  refine gZ _ P _ (λf o _ h=>?_) h
  unfold my;refine gZ _ P _ (λf v _ h=>?_) h
  unfold mx
  cases e1:f o m with
  |none=>exact h
  |some x=>
   cases e2:f m v with
   |none=>exact h
   |some y=>exact qm h ((h _ _ _ e1).app (h _ _ _ e2))
 ·unfold BL
  refine gZ _ L _ (λf x hx h=>qm h (.one hx)) λu v y e=>?_
  unfold vt at e
  split at e
  ·rename_i z;obtain⟨_,rfl⟩:=z;cases e;exact .nil u
  ·cases e
def vp{P:List ν}{L:cj ν}(hL:∀x∈L,x.1∈P/\x.2.1∈P):∀u v ms s,Pth L u ms v s->ms.Nodup->∃y,table P L u v=ZA y/\y<=s:=λu v ms s hp hn=>by
 obtain⟨M',h1,h2⟩:=Up.Ny hL P [] (BL P L) E9;exact h2 u v ms s hp hn λx hx=>h1 x (.inl ((hp.ends hL).2.2 x hx))
def oQ{P:List ν}{L:cj ν}{u:ν}(hu:u∈P):∃y,table P L u u=ZA y/\y<=0:=by
 have h0:vt P u u=ZA 0:=by unfold vt;rw[if_pos ⟨hu,rfl⟩]
 have h1:Le (table P L) (vt P):=(DT P P _).trans (kJ _ (λf x=>uU f _ _ _) L _)
 exact h1 u u 0 h0
structure HG (L:cj ν)(P:List ν)(f:fL ν):Prop where
 is:∀u v d,f u v=ZA d->Wk L u v d
 le:∀u∈P,∀v t,Wk L u v t->∃d,f u v=ZA d/\d<=t
def As{P:List ν}{L:cj ν}{u:ν}(h:table P L u u=ZA y)(hy:y<0):¬ lq L:=λn=>by
 have:=n u y (nv P L u u y h);omega
def vq{P:List ν}{L:cj ν}(hL:∀x∈L,x.1∈P/\x.2.1∈P)(h:∀u∈P,∀y,table P L u u=ZA y->0<=y):lq L/\HG L P (table P L):=by
 have nc:¬ ED L:=λ⟨x,ms,s,hp,hn,_,hs⟩=>by
  obtain⟨y,e,l⟩:=vp hL x x ms s hp hn
  have:=h x (hp.ends hL).1 y e;omega
 have le:∀u∈P,∀v t,Wk L u v t->∃d,table P L u v=ZA d/\d<=t:=λu hu v t w=>by
  rcases w.simple with z|⟨s',hs,z⟩
  ·exact absurd z nc
  ·rcases z with⟨rfl,rfl⟩|⟨_,ms,hp,hn,_⟩
   ·obtain⟨y,e,l⟩:=oQ (L:=L) hu
    exact⟨y,e,by omega⟩
   ·obtain⟨y,e,l⟩:=vp hL u v ms s' hp hn
    exact⟨y,e,by omega⟩
 refine⟨λa s w=>?_,λu v d e=>nv P L u v d e,le⟩
 by_cases ha:a∈P
 ·obtain⟨d,e,l⟩:=le a ha a s w
  have:=h a ha d e;omega
 ·cases w with
  |nil=>exact PR _
  |step e _=>exact absurd (hL _ e).1 ha
def less(L:cj ν)(u d:Int):cj ν:=L.map λx=>(x.1,x.2.1,x.2.2*d - u)
def box(N M:Nat):List (Int×Nat):=(OI (2*M+1)).flatMap λ(i:Nat)=>(OI N).map λ(j:Nat)=>((i:Int) - (M:Int),j+1)
def mu(N M:Nat)(c:Int)(n:Nat):Nat:=((box N M).filter λp=>decide (p.1*(n:Int)<c*(p.2:Int))).length
end Gr
namespace G
open PySem Tr
def isI:T->Bool
 |.int _=>ZC
 |_=>ZD
def GD(t:T)(h:t.pl=ZC):i9 [t]=.ok (.bl (isI t)):=by
 cases t <;> first|rfl| (simp[T.pl]at h;done)
def aW(t:T)(a b:Int):Bool:=match t with
 |.int i=>decide (a<=i)&&decide (i<=b)
 |_=>ZD
def fq(t:T)(a b:Int)(h:t.pl=ZC):a7 [t,.int a,.int b]=.ok (.bl (aW t a b)):=by
 have w:=GD t h
 cases t with
 |int i=>
  simp[a7,val,bR,kl,aQ,aR,dt,vr,ch,cl,ae,ai,yO,aW,w,isI]
  cases decide (a<=i) <;> rfl
 |scr _=>simp[T.pl]at h
 |dct _ _=>simp[T.pl]at h
 |ob _ _ _=>simp[T.pl]at h
 |_=>simp[a7,val,bR,kl,aQ,aR,dt,vr,ch,cl,ae,ai,aW,w,isI]
def d6(t:T)(a b:Nat):Bool:=match t with
 |.tup l=>decide (a<=l.length)&&decide (l.length<=b)
 |_=>ZD
def lH(t:T)(a b:Nat)(h:t.pl=ZC):aS [t,.int a,.int b]=.ok (.bl (d6 t a b)):=by
 cases t with
 |tup l=>
  simp[aS,val,bR,sL,aQ,aR,dt,o1,vr,Gz,T.ty,zP,ch,cl,ae,ai,bO,T.items,yO,d6]
  cases decide (a<=l.length) <;> rfl
 |scr _=>simp[T.pl]at h
 |dct _ _=>simp[T.pl]at h
 |ob _ _ _=>simp[T.pl]at h
 |_=>rfl
def nR(x y:T):Bool:=aW x 1 9&&(match x with
 |.int i=>aW y i 9
 |_=>ZD)
def J8(x y:T)(hx:x.pl=ZC)(hy:y.pl=ZC):gF [x,y]=.ok (.bl (nR x y)):=by
 have w:=fq x 1 9 hx;unfold nR
 cases q:aW x 1 9 with
 |false=>rw[q]at w;simp[gF,val,bR,nr,aQ,aR,dt,vr,cn,cl,ae,ai,w]
 |true=>
  rw[q]at w
  cases x with
  |int i=>simp[gF,val,bR,nr,aQ,aR,dt,vr,cn,cl,ae,ai,w,fq y i 9 hy]
  |_=>cases q
def nF:List Int->Bool
 |a::b::r=>decide (a<b)&&nF (b::r)
 |_=>ZC
def Fo(a b:Int)(r:List Int):nF (a::b::r)=(decide (a<b)&&nF (b::r)):=rfl
variable{Z:En}{l:List T}
def vc{fe:V5}{p:T->Bool}{fi:V3}{src:List (Option Nat)}(hi:fi Z=.ok l)(hs:l.length<=ZI)(hn:0<src.length)(hf:∀t∈l,fe ((b8 src Z).set 0 (.va t))=.ok (.bl (p t))):
  cl rk (ae (ig fi src (gN 0) bT fe) ai) Z=.ok (.bl (l.all p)):=by
 have e:=yu (fe:=fe) (h:=λt=>T.bl (p t)) l (b8 src Z) (by unfold b8;rw[NR];exact hn) hf
 simp only[cl,ae,ai,ig,hi,ay,if_pos hs,e,all_map]
noncomputable def mZ(l:List T):T->Bool
 |.int k=>match L2.atI l k,L2.atI l (k+1)with
  |some (.int a),ZA (.int b)=>decide (a<b)
  |_,_=>ZD
 |_=>ZD
variable{j:Int}
def tK{t:T}(h:t∈rng 0 j):∃k:Nat,t=.int k/\(k:Int)<j:=by
 unfold rng at h;obtain⟨k,hk,e⟩:=Om.mp h;rw[Pr]at hk;exact⟨k,by rw[<-e];simp,by omega⟩
theorem Io:(l:List Int)->l.length<=4->(rng 0 ((l.length:Int) - 1)).all (mZ (l.map .int))=nF l
 |[],_=>rfl
 |[a],_=>rfl
 |[a,b],_=>by simp[rng,S0,mZ,L2.atI,L2.ixN,nF]
 |[a,b,c],_=>by simp[rng,S0,mZ,L2.atI,L2.ixN,nF]
 |[a,b,c,d],_=>by simp[rng,S0,mZ,L2.atI,L2.ixN,nF,Bool.and_assoc]
 |a::b::c::d::e::r,h=>absurd h (by simp only[NU];omega)
def GJ(l:List Int)(h:l.length<=4):kE [.tup (l.map .int)]=.ok (.bl (nF l)):=by
 have hr:iR (ae (o2 cZ (cl bO (ae (vr 0) ai)) (cn (.int 1))) ai) [.va (.tup (l.map .int))]=.ok (rng 0 ((l.length:Int) - 1)):=by
  have:yF ((l.length:Int) - 1)=ZC:=by unfold yF;rw[NN];exact⟨decide_eq_true (by omega),decide_eq_true (by omega)⟩
  simp[iR,ae,ai,o2,cl,vr,cn,bO,T.items,cZ,this]
 have hs:(rng 0 ((l.length:Int) - 1)).length<=ZI:=by
  unfold rng ZI;rw[NR,Qs];omega
 have e:=vc (fe:=o2 pQ (o2 aV (vr 1) (vr 0)) (o2 aV (vr 1) (o2 aP (vr 0) (cn (.int 1))))) (p:=mZ (l.map .int)) (src:=[ZB,ZA 0]) hr hs (by decide) (λt ht=>by
  obtain⟨k,rfl,hk⟩:=tK ht
  have h1:(l.map T.int)[k]?=ZA (.int (l[k]'(by omega))):=by simp
  have h2:(l.map T.int)[k+1]?=ZA (.int (l[k+1]'(by omega))):=by rw[Oe,N9 (by omega)];rfl
  have g1:=lK h1
  have g2:L2.atI (l.map T.int) ((k:Int)+1)=ZA (.int (l[k+1]'(by omega))):=lK h2
  simp[o2,vr,b8,cn,aP,aV,T.items,g1,g2,yO,mZ])
 rw[Io l h]at e;simp only[kE,val,Pq,if_true,Ai,bR,aR,aQ]
 show(do let f <-(do let t <-cl rk _ [.va (.tup (l.map .int))];Rs.ok (Fl.rt t));_)=_
 rw[e]
 rfl
noncomputable def kN:List T->Option (List Int)
 |[] =>ZA []
 |.int i::l=>match kN l with
  |some m=>ZA (i::m)
  |none=>ZB
 |_::_=>ZB
noncomputable def cP(t:T):Bool:=d6 t 1 4&&(match t with
 |.tup l=>l.all (λu=>aW u 0 99)&&(match kN l with|some m=>nF m|none=>ZD)
 |_=>ZD)
theorem pG:∀{l:List T}{m:List Int},kN l=ZA m->l=m.map .int
 |[],m,h=>by cases h;rfl
 |t::l,m,h=>by
  cases t with
  |int i=>
   unfold kN at h
   cases q:kN l with
   |none=>rw[q]at h;cases h
   |some m'=>rw[q]at h;cases h;rw[NO,<-pG q]
  |_=>cases h
theorem ur:∀{l:List T}{a b:Int},(l.all λu=>aW u a b)=ZC->∃m,kN l=ZA m
 |[],_,_,_=>⟨[],rfl⟩
 |t::l,a,b,h=>by
  rw[List.all_cons,NN]at h
  cases t with
  |int i=>
   obtain⟨m,e⟩:=ur h.2
   exact⟨i::m,by unfold kN;rw[e]⟩
  |_=>exact absurd h.1 (by simp[aW])
def dP{t:T}{a b:Nat}(h:d6 t a b=ZC):∃l,t=.tup l/\a<=l.length/\l.length<=b:=by
 cases t with
 |tup l=>unfold d6 at h;rw[NN]at h;exact⟨l,rfl,of_decide_eq_true h.1,of_decide_eq_true h.2⟩
 |_=>cases h
variable{k n:Nat}
def small(h:n<=k)(hk:k<=1000:=by decide):n<=ZI:=by unfold ZI;omega
def yL(t:T)(h:t.pl=ZC):b7 [t]=.ok (.bl (cP t)):=by
 have w:aS [t,.int 1,.int 4]=.ok (.bl (d6 t 1 4)):=lH t 1 4 h;unfold cP
 cases q:d6 t 1 4 with
 |false=>rw[q]at w;simp[b7,val,bR,fy,aQ,aD,e9,cI,tb,sN,aR,cl,vr,cn,ae,ai,w]
 |true=>
  rw[q]at w;obtain⟨l,rfl,h1,h2⟩:=dP q
  have hp:∀u∈l,u.pl=ZC:=λu hu=>gy (by unfold T.pl at h;exact h) hu
  have e:=vc (fe:=cl a7 (ae (vr 0) (ae (cn (.int 0)) (ae (cn (.int 99)) ai)))) (p:=λu=>aW u 0 99) (src:=[ZB]) (fi:=iS (vr 0)) (Z:=[.va (.tup l)]) rfl (small h2) (by decide) (λu hu=>by
   simp[cl,ae,ai,vr,cn,b8,fq u 0 99 (hp u hu)])
  have w':cl aS (ae (vr 0) (ae (cn (.int 1)) (ae (cn (.int 4)) ai))) [.va (.tup l)]=.ok (.bl ZC):=w
  show b7 _=.ok (.bl (ZC&&(l.all (λu=>aW u 0 99)&&(match kN l with|some m=>nF m|none=>ZD))))
  cases qa:l.all λu=>aW u 0 99 with
  |false=>
   rw[qa]at e
   simp[b7,val,bR,fy,aQ,aD,e9,cI,tb,sN,aR,dt,e,w']
  |true=>
   rw[qa]at e;obtain⟨m,em⟩:=ur qa
   have el:=pG em
   have er:=GJ m (by rw[el,NR]at h2;exact h2)
   rw[<-el]at er
   have er':cl kE (ae (vr 0) ai) [.va (.tup l)]=.ok (.bl (nF m)):=er;simp[b7,val,bR,fy,aQ,aD,e9,cI,tb,sN,aR,dt,e,w',er',em]
def at_(t:T)(k:Nat):T:=match t.items with
 |some l=>l.getD k .non
 |none=>.non
noncomputable def bw(t:T):Bool:=d6 t 3 3&&(match t with
 |.tup [x,y,r] =>nR x y&&cP r
 |_=>ZD)
def GN(t:T)(h:t.pl=ZC):dJ [t]=.ok (.bl (bw t)):=by
 have w:aS [t,.int 3,.int 3]=.ok (.bl (d6 t 3 3)):=lH t 3 3 h;unfold bw
 cases q:d6 t 3 3 with
 |false=>rw[q]at w;simp[dJ,val,bR,jg,aQ,aR,dt,cl,vr,cn,ae,ai,w]
 |true=>
  rw[q]at w;obtain⟨l,rfl,h1,h2⟩:=dP q
  match l,h1,h2 with
  |[x,y,r],_,_=>
   simp[T.pl,plS]at h;obtain⟨px,py,pr⟩:=h
   have g0:aV (.tup [x,y,r]) (.int 0)=.ok x:=rfl
   have g1:aV (.tup [x,y,r]) (.int 1)=.ok y:=rfl
   have g2:aV (.tup [x,y,r]) (.int 2)=.ok r:=rfl
   have ep:=J8 x y px py
   have er:=yL r pr
   cases qp:nR x y with
   |false=>rw[qp]at ep;simp[dJ,val,bR,jg,aQ,aR,dt,cl,vr,cn,ae,ai,o2,w,g0,g1,ep,qp]
   |true=>rw[qp]at ep;simp[dJ,val,bR,jg,aQ,aR,dt,cl,vr,cn,ae,ai,o2,w,g0,g1,g2,ep,er,qp]
def a9(t:T):Bool:=d6 t 1 4&&(match t with
 |.tup l=>l.all bw
 |_=>ZD)
def D9(t:T)(h:t.pl=ZC):dZ [t]=.ok (.bl (a9 t)):=by
 have w:aS [t,.int 1,.int 4]=.ok (.bl (d6 t 1 4)):=lH t 1 4 h;unfold a9
 cases q:d6 t 1 4 with
 |false=>rw[q]at w;simp[dZ,val,bR,jh,aQ,aR,dt,cl,vr,cn,ae,ai,w]
 |true=>
  rw[q]at w;obtain⟨l,rfl,h1,h2⟩:=dP q
  have hp:∀u∈l,u.pl=ZC:=λu hu=>gy (by unfold T.pl at h;exact h) hu
  have e:=vc (fe:=cl dJ (ae (vr 0) ai)) (p:=bw) (src:=[ZB]) (fi:=iS (vr 0)) (Z:=[.va (.tup l)]) rfl (small h2) (by decide) (λu hu=>by
   simp[cl,ae,ai,vr,cn,b8,GN u (hp u hu)])
  have w':cl aS (ae (vr 0) (ae (cn (.int 1)) (ae (cn (.int 4)) ai))) [.va (.tup l)]=.ok (.bl ZC):=w;simp[dZ,val,bR,jh,aQ,aR,dt,e,w']
def dD(x y:T):Bool:=aW x 0 999&&(match x,y with
 |_,.non=>ZC
 |.int i,_=>aW y i 999
 |_,_=>ZD)
def GL(x y:T)(hx:x.pl=ZC)(hy:y.pl=ZC):eI [x,y]=.ok (.bl (dD x y)):=by
 have w:=fq x 0 999 hx;unfold dD
 cases q:aW x 0 999 with
 |false=>rw[q]at w;simp[eI,val,bR,jf,aQ,aR,dt,vr,cn,cl,ae,ai,w]
 |true=>
  rw[q]at w
  cases x with
  |int i=>
   have e:=fq y i 999 hy
   cases y with
   |non=>simp[eI,val,bR,jf,aQ,aR,dt,EJ,vr,cn,cl,ae,ai,o2,jZ,T.isN,w]
   |_=>simp[eI,val,bR,jf,aQ,aR,dt,EJ,vr,cn,cl,ae,ai,o2,jZ,T.isN,w,e]
  |_=>cases q
noncomputable def reads(cs:List T)(c:Int):Nat:=if 0<=c then(match cs[c.toNat]? with
 |some (.tup [_,_,.tup r])=>r.length
 |_=>0)else 0
noncomputable def aX(cs:List T)(t:T):Bool:=match t with
 |.tup [.int c,.int k] =>decide (0<=c)&&decide (c<cs.length)&&(decide (0<=k)&&decide (k<reads cs c))
 |_=>ZD
def nN{t:T}(h:bw t=ZC):∃x y r,t=.tup [x,y,.tup r]:=by
 unfold bw at h;rw[NN]at h;obtain⟨h1,h2⟩:=h;obtain⟨l,rfl,h3,h4⟩:=dP h1
 match l,h3,h4,h2 with
 |[x,y,r],_,_,h2=>
  simp only[NN]at h2;obtain⟨_,h5⟩:=h2;unfold cP at h5;rw[NN]at h5;obtain⟨m,rfl,_⟩:=dP h5.1;exact⟨x,y,m,rfl⟩
def cf{t:T}{a b:Int}(h:aW t a b=ZC):∃i,t=.int i/\a<=i/\i<=b:=by
 cases t with
 |int i=>unfold aW at h;rw[NN]at h;exact⟨i,rfl,of_decide_eq_true h.1,of_decide_eq_true h.2⟩
 |_=>cases h
def zZ(cs:List T)(t:T)(hc:a9 (.tup cs)=ZC)(h:t.pl=ZC):dI [.tup cs,t]=.ok (.bl (aX cs t)):=by
 have w:aS [t,.int 2,.int 2]=.ok (.bl (d6 t 2 2)):=lH t 2 2 h
 cases q:d6 t 2 2 with
 |false=>
  rw[q]at w
  have:aX cs t=ZD:=by
   unfold aX;split
   ·cases q
   ·rfl
  simp[dI,val,bR,je,aQ,aD,e9,nS,cI,tb,sN,aR,cl,vr,cn,ae,ai,w,this]
 |true=>
  rw[q]at w;obtain⟨l,rfl,h1,h2⟩:=dP q
  match l,h1,h2 with
  |[x,y],_,_=>
   simp[T.pl,plS]at h;obtain⟨px,py⟩:=h
   have g0:aV (.tup [x,y]) (.int 0)=.ok x:=rfl
   have g1:aV (.tup [x,y]) (.int 1)=.ok y:=rfl
   have gl:bO [.tup cs]=.ok (.int cs.length):=rfl
   have e1:=fq x 0 ((cs.length:Int) - 1) px
   cases q1:aW x 0 ((cs.length:Int) - 1)with
   |false=>
    rw[q1]at e1
    have:aX cs (.tup [x,y])=ZD:=by
     cases x with
     |int c=>
      cases y with
      |int k=>
       simp only[aW,S1,decide_eq_false_iff_not]at q1;simp only[aX,S1,decide_eq_false_iff_not]
       omega
      |_=>rfl
     |_=>rfl
    simp[dI,val,bR,je,aQ,aD,e9,nS,cI,tb,sN,aR,cl,vr,cn,ae,ai,o2,cZ,w,g0,gl,e1,this]
   |true=>
    rw[q1]at e1;obtain⟨c,rfl,c1,c2⟩:=cf q1;obtain⟨n,rfl⟩:=Ov c1
    have hn:n<cs.length:=by omega
    have hcl:bw cs[n]=ZC:=by
     unfold a9 at hc;rw[NN]at hc;exact Od.mp hc.2 _ (Px hn)
    obtain⟨a,b,r,er⟩:=nN hcl
    have g2:aV (.tup cs) (.int (n:Int))=.ok (.tup [a,b,.tup r]):=by
     simp only[aV,T.items];rw[lK (N9 hn),er]
    have g3:aV (.tup [a,b,.tup r]) (.int 2)=.ok (.tup r):=rfl
    have gr:bO [.tup r]=.ok (.int r.length):=rfl
    have e2:=fq y 0 ((r.length:Int) - 1) py
    have:aX cs (.tup [.int n,y])=aW y 0 ((r.length:Int) - 1):=by
     have er2:reads cs (n:Int)=r.length:=by
      unfold reads;rw[if_pos c1,PD,N9 hn,er]
     cases y with
     |int k=>
      simp only[aX,aW,er2];rw[decide_eq_true c1,decide_eq_true (show(n:Int)<cs.length by omega)]
      simp only[QU]
      congr 1
      exact decide_eq_decide.mpr (by omega)
     |_=>rfl
    simp[dI,val,bR,je,aQ,aD,e9,nS,cI,tb,sN,aR,cl,vr,cn,ae,ai,o2,cZ,w,g0,g1,g2,g3,gl,gr,e1,e2,this]
noncomputable def bu(cs:List T)(t:T):Bool:=match t with
 |.tup [a,b,x,y] =>dD x y&&(aX cs a&&(aX cs b&& !bo a b))
 |_=>ZD
variable{cs:List T}
def b9{t:T}(h:aX cs t=ZC):∃c k:Int,t=.tup [.int c,.int k]:=by
 unfold aX at h
 split at h
 ·exact⟨_,_,rfl⟩
 ·cases h
def DZ(cs:List T)(t:T)(hc:a9 (.tup cs)=ZC)(h:t.pl=ZC):cp [.tup cs,t]=.ok (.bl (bu cs t)):=by
 have w:aS [t,.int 4,.int 4]=.ok (.bl (d6 t 4 4)):=lH t 4 4 h
 cases q:d6 t 4 4 with
 |false=>
  rw[q]at w
  have:bu cs t=ZD:=by
   unfold bu;split
   ·cases q
   ·rfl
  simp[cp,val,bR,eR,aQ,aD,e9,nS,cI,tb,sN,aR,cl,vr,cn,ae,ai,w,this]
 |true=>
  rw[q]at w;obtain⟨l,rfl,h1,h2⟩:=dP q
  match l,h1,h2 with
  |[a,b,x,y],_,_=>
   simp[T.pl,plS]at h;obtain⟨pa,pb,px,py⟩:=h
   have g0:aV (.tup [a,b,x,y]) (.int 0)=.ok a:=rfl
   have g1:aV (.tup [a,b,x,y]) (.int 1)=.ok b:=rfl
   have g2:aV (.tup [a,b,x,y]) (.int 2)=.ok x:=rfl
   have g3:aV (.tup [a,b,x,y]) (.int 3)=.ok y:=rfl
   have e1:=GL x y px py
   have e2:=zZ cs a hc pa
   have e3:=zZ cs b hc pb
   show _=Rs.ok (T.bl (dD x y&&(aX cs a&&(aX cs b&& !bo a b))))
   cases q1:dD x y with
   |false=>
    rw[q1]at e1
    simp[cp,val,bR,eR,aQ,aD,e9,nS,cI,tb,sN,aR,cl,vr,cn,ae,ai,o2,w,g2,g3,e1]
   |true=>
    rw[q1]at e1
    cases q2:aX cs a with
    |false=>
     rw[q2]at e2
     simp[cp,val,bR,eR,aQ,aD,e9,nS,cI,tb,sN,aR,dt,cl,vr,cn,ae,ai,o2,w,g0,g2,g3,e1,e2]
    |true=>
     rw[q2]at e2
     cases q3:aX cs b with
     |false=>
      rw[q3]at e3
      simp[cp,val,bR,eR,aQ,aD,e9,nS,cI,tb,sN,aR,dt,cl,vr,cn,ae,ai,o2,w,g0,g1,g2,g3,e1,e2,e3]
     |true=>
      rw[q3]at e3;obtain⟨c,k,rfl⟩:=b9 q2
      have f:g8 (.tup [.int c,.int k]) b=ZC:=j8 (by simp[T.dep,deps]) rfl (T.M5 _ pb)
      have g4:pO (.tup [.int c,.int k]) b=.ok (.bl (!bo (.tup [.int c,.int k]) b)):=by unfold pO;rw[if_pos f]
      simp[cp,val,bR,eR,aQ,aD,e9,nS,cI,tb,sN,aR,dt,cl,vr,cn,ae,ai,o2,w,g0,g1,g2,g3,g4,e1,e2,e3]
def gG(cs:List T)(t:T):Bool:=d6 t 0 8&&(match t with
 |.tup l=>l.all (bu cs)
 |_=>ZD)
def A3(cs:List T)(t:T)(hc:a9 (.tup cs)=ZC)(h:t.pl=ZC):dA [.tup cs,t]=.ok (.bl (gG cs t)):=by
 have w:aS [t,.int 0,.int 8]=.ok (.bl (d6 t 0 8)):=lH t 0 8 h;unfold gG
 cases q:d6 t 0 8 with
 |false=>rw[q]at w;simp[dA,val,bR,iF,aQ,aR,dt,cl,vr,cn,ae,ai,w]
 |true=>
  rw[q]at w;obtain⟨l,rfl,h1,h2⟩:=dP q
  have hp:∀u∈l,u.pl=ZC:=λu hu=>gy (by unfold T.pl at h;exact h) hu
  have e:=vc (fe:=cl cp (ae (vr 1) (ae (vr 0) ai))) (p:=bu cs) (src:=[ZB,ZA 0]) (fi:=iS (vr 1)) (Z:=[.va (.tup cs),.va (.tup l)]) rfl (small h2) (by decide) (λu hu=>by
   simp[cl,ae,ai,vr,cn,b8,DZ cs u hc (hp u hu)])
  have w':cl aS (ae (vr 1) (ae (cn (.int 0)) (ae (cn (.int 8)) ai))) [.va (.tup cs),.va (.tup l)]=.ok (.bl ZC):=w;simp[dA,val,bR,iF,aQ,aR,dt,e,w']
noncomputable def cO(t:T):Bool:=match t with
 |.tup [.tup cs,ls] =>a9 (.tup cs)&&gG cs ls
 |_=>ZD
def qr(t:T)(h:t.pl=ZC):bH [t]=.ok (.bl (cO t)):=by
 have w:aS [t,.int 2,.int 2]=.ok (.bl (d6 t 2 2)):=lH t 2 2 h
 cases q:d6 t 2 2 with
 |false=>
  rw[q]at w
  have:cO t=ZD:=by
   unfold cO;split
   ·cases q
   ·rfl
  simp[bH,val,bR,il,aQ,aR,dt,cl,vr,cn,ae,ai,w,this]
 |true=>
  rw[q]at w;obtain⟨l,rfl,h1,h2⟩:=dP q
  match l,h1,h2 with
  |[x,y],_,_=>
   simp[T.pl,plS]at h;obtain⟨px,py⟩:=h
   have g0:aV (.tup [x,y]) (.int 0)=.ok x:=rfl
   have g1:aV (.tup [x,y]) (.int 1)=.ok y:=rfl
   have e1:=D9 x px
   cases q1:a9 x with
   |false=>
    rw[q1]at e1
    have:cO (.tup [x,y])=ZD:=by
     cases x with
     |tup cs=>show(a9 (.tup cs)&&_)=ZD;rw[q1];rfl
     |_=>rfl
    simp[bH,val,bR,il,aQ,aR,dt,cl,vr,cn,ae,ai,o2,w,g0,e1,this]
   |true=>
    rw[q1]at e1
    cases x with
    |tup cs=>
     have e2:=A3 cs y q1 py
     have:cO (.tup [.tup cs,y])=gG cs y:=by show(a9 (.tup cs)&&_)=_;rw[q1];rfl
     simp[bH,val,bR,il,aQ,aR,dt,cl,vr,cn,ae,ai,o2,w,g0,g1,e1,e2,this]
    |_=>cases q1
theorem gH:∀m:List Int,deps (m.map .int)=0
 |[] =>rfl
 |a::m=>by rw[NO,deps,gH m];rfl
def n6(i n:Nat):List T:=(rng 0 n).map λt=>T.tup [.int i,t]
def Iq:T->Nat
 |.tup [_,_,.tup r] =>r.length
 |_=>0
def d9:Nat->List T->List T
 |_,[] =>[]
 |i,c::r=>n6 i (Iq c)++d9 (i+1) r
def ik{t:T}(h:bw t=ZC):∃x y r,t=.tup [x,y,.tup r]/\1<=r.length/\r.length<=4:=by
 obtain⟨x,y,r,rfl⟩:=nN h
 have:cP (.tup r)=ZC:=by
  have h':(nR x y&&cP (.tup r))=ZC:=h;rw[NN]at h';exact h'.2
 unfold cP at this;rw[NN]at this;obtain⟨l,e,h1,h2⟩:=dP this.1;cases e;exact⟨x,y,r,rfl,h1,h2⟩
def j9(i n:Nat):(n6 i n).length=n:=by unfold n6;rw[NR,md]
abbrev evG:T->En->Rs En:=gT 2 (eU (gN 2) (eU (gN 3) nK))
def JY{f:V3}(h:f Z=.ok [.int j])(h0:0<=j)(h1:j<=100000):iR f Z=.ok (rng 0 j):=by
 have e:yF j=ZC:=by unfold yF;rw[NN];exact⟨decide_eq_true (by omega),decide_eq_true (by omega)⟩
 unfold iR;rw[h]
 show(if yF j=ZC then _ else _)=_
 rw[e];rfl
def vd(l m:List T)(h:(l++m).length<=1000):aP (.lst l) (.lst m)=.ok (.lst (l++m)):=by
 show lh (l++m)=_
 unfold lh;rw[if_pos (az h)]
def fU(l m:List T)(h:(l++m).length<=1000):aP (.tup l) (.tup m)=.ok (.tup (l++m)):=by
 show lg (l++m)=_
 unfold lg;rw[if_pos (az h)]
def Mq(c0 acc x y:T)(r:List T)(i:Nat)(h:r.length<=4):
  ig (iR (ae (cl bO (ae (o2 aV (vr 3) (cn (.int 2))) ai)) ai)) [ZB,ZA 2] (gN 0) bT (aK (ae (vr 1) (ae (vr 0) ai))) [.va c0,.va acc,.va (.int i),.va (.tup [x,y,.tup r])]=.ok (.lst (n6 i r.length)):=
 yA (JY (j:=(r.length:Int)) rfl (by omega) (by omega)) (az (k:=4) (by rw[md];exact h)) (by simp) λt _=>mk2 _ _
def GB(c0 x y:T)(acc r:List T)(i:Nat)(h:r.length<=4)(ha:acc.length<=100):evF [.va c0,.va (.lst acc),.va (.int i),.va (.tup [x,y,.tup r])]=.ok (.nx [.va c0,.va (.lst (acc++n6 i r.length)),.va (.int i),.va (.tup [x,y,.tup r])]):=
 bV (aL (t:=.lst acc) rfl (Mq c0 (.lst acc) x y r i h) (vd _ _ (by rw[NV,j9];omega))) rfl
theorem zU:∀(cs:List T)(c0:T)(acc:List T)(i:Nat)(s2 s3:Sl),(∀c∈cs,bw c=ZC)->acc.length+4*cs.length<=100 →
  ∃y2 y3,bx evG evF (cQ i cs) [.va c0,.va (.lst acc),s2,s3]=.ok (.nx [.va c0,.va (.lst (acc++d9 i cs)),y2,y3])
 |[],c0,acc,i,s2,s3,_,_=>⟨s2,s3,by simp[cQ,bx,d9]⟩
 |c::cs,c0,acc,i,s2,s3,hc,hl=>by
  obtain⟨x,y,r,rfl,r1,r2⟩:=ik (hc c NP);rw[NU]at hl;obtain⟨z2,z3,ih⟩:=zU cs c0 (acc++n6 i r.length) (i+1) (.va (.int i)) (.va (.tup [x,y,.tup r])) (λc h=>hc c (NL _ h)) (by rw[NV,j9];omega)
  refine⟨z2,z3,?_⟩
  rw[cQ,dR (Z1:=[.va c0,.va (.lst acc),.va (.int i),.va (.tup [x,y,.tup r])]) rfl (GB c0 x y acc r i r2 (by omega)),ih,d9,Oo]
  rfl
def bh(hc:a9 (.tup cs)=ZC):(∀c∈cs,bw c=ZC)/\1<=cs.length/\cs.length<=4:=by
 unfold a9 at hc;rw[NN]at hc;obtain⟨l,e,h1,h2⟩:=dP hc.1;cases e;exact⟨λc h=>Od.mp hc.2 c h,h1,h2⟩
def qt(cs:List T)(hc:a9 (.tup cs)=ZC):bY [.tup cs]=.ok (.lst (d9 0 cs)):=by
 obtain⟨ha,h1,h2⟩:=bh hc;obtain⟨y2,y3,e⟩:=zU cs (.tup cs) [] 0 .em .em ha (by simp;omega)
 rw[Pt]at e;refine cy rfl ?_
 unfold lr;rw[aE (Z':=[.va (.tup cs),.va (.lst []),.em,.em]) rfl,aE ((fY (ts:=cQ 0 cs) rfl e))]
 rfl
def Ge(h:k<n):T.int (k:Int)∈rng 0 (n:Int):=by
 unfold rng;exact Om.mpr ⟨k,Pr.mpr (by omega),by simp⟩
def rK(cs:List T)(c:Nat):reads cs (c:Int)=Iq (cs.getD c .non):=by
 unfold reads;rw[if_pos (by omega),PD,List.getD_eq_getElem?_getD]
 cases cs[c]? with
 |none=>rfl
 |some t=>
  cases t with
  |tup l=>
   match l with
   |[] =>rfl
   |[_] =>rfl
   |[_,_] =>rfl
   |[_,_,z] =>cases z <;> rfl
   |_::_::z::_::_=>cases z <;> rfl
  |_=>rfl
mutual
def sm(n:Nat):T->Bool
 |.dct _ _=>ZD
 |.ob _ _ _=>ZD
 |.scr _=>ZD
 |.tup l=>decide (l.length<=n)&&sms n l
 |.lst l=>decide (l.length<=n)&&sms n l
 |_=>ZC
def sms(n:Nat):List T->Bool
 |[] =>ZC
 |t::l=>sm n t&&sms n l
end
mutual
theorem BW{n:Nat}:∀(t:T),sm n t=ZC->t.pl=ZC
 |.scr _,h=>by simp[sm]at h
 |.dct _ _,h=>by simp[sm]at h
 |.ob _ _ _,h=>by simp[sm]at h
 |.tup l,h=>by rw[sm,NN]at h;rw[T.pl];exact sms_pl l h.2
 |.lst l,h=>by rw[sm,NN]at h;rw[T.pl];exact sms_pl l h.2
 |.non,_=>by simp[T.pl]
 |.bl _,_=>by simp[T.pl]
 |.int _,_=>by simp[T.pl]
 |.str _,_=>by simp[T.pl]
theorem sms_pl{n:Nat}:∀(l:List T),sms n l=ZC->plS l=ZC
 |[],_=>by simp[plS]
 |t::l,h=>by rw[sms,NN]at h;rw[plS,BW t h.1,sms_pl l h.2];rfl
end
theorem ze{n:Nat}:∀{l:List T},sms n l=ZC↔ ∀t∈l,sm n t=ZC
 |[] =>by simp[sms]
 |t::l=>by rw[sms,NN,ze (l:=l)];simp
def sm_tup:sm n (.tup l)=ZC↔l.length<=n/\∀t∈l,sm n t=ZC:=by rw[sm,NN,ze,decide_eq_true_iff]
variable{i:Int}
def lD(h:0<j):mn (.int i) (.int j)=.ok (.int (i % j)):=by show(if _ then _ else _)=_;rw[if_pos h]
def oE(h:0<j)(h2:j<1073741824):mz (.int i) (.int j)=.ok (.int (i / j)):=by show(if _ then _ else _)=_;rw[if_pos ⟨h,h2⟩]
def lb(h : -18446744073709551616<i)(h2:i<18446744073709551616):b6 (.int i) (.int j)=.ok (.int (i*j)):=by
 show yj (.int i) (.int j)=_
 show(if _ then _ else _)=_
 rw[if_pos (.inl ⟨by omega,by omega⟩)]
def C1(h : -18446744073709551616<j)(h2:j<18446744073709551616):b6 (.int i) (.int j)=.ok (.int (i*j)):=by
 show yj (.int i) (.int j)=_
 show(if _ then _ else _)=_
 rw[if_pos (.inr ⟨by omega,by omega⟩)]
def Kc(ns:List Int)(k:Nat)(hn:ns.length<=63):∃c,fX [.scr ns,.int k]=.ok (.int c):=by
 have e0:o2 kP (vr 0) (fA ai) [.va (.scr ns),.va (.int k)]=.ok (.bl (lj ns [])):=by
  refine aL (t:=.scr ns) (u:=.lst []) rfl (mr (ts:=[]) rfl (az (k:=0) (N4 _))) ?_
  unfold kP;rw[if_pos (j8 (by simp[T.dep]) rfl rfl)]
  rfl
 cases ns with
 |nil=>
  refine⟨7*k,cy rfl ?_⟩
  unfold ko
  refine gX ((dS (bf e0)).trans (cT (aL (t:=.int 7) (u:=.int k) rfl rfl (lb (by omega) (by omega)))))
 |cons a r=>
  have hl:(0:Int)<((a::r).length:Nat):=by simp only[NU];omega
  have hl2:(((a::r).length:Nat):Int)<1073741824:=by simp only[NU]at hn ⊢;omega
  have hi:k % (a::r).length<(a::r).length:=Nat.mod_lt _ (by simp)
  have g0:o2 mn (vr 1) (cl bO (ae (vr 0) ai)) [.va (.scr (a::r)),.va (.int k)]=.ok (.int ((k % (a::r).length:Nat):Int)):=by
   refine aL (t:=.int k) (u:=.int ((a::r).length:Nat)) rfl ?_ (by rw[lD hl];rfl)
   refine aU (ts:=[.scr (a::r)]) rfl ?_
   show Rs.ok (T.int (((a::r).map T.int).length:Nat))=_
   rw[NR]
  have g1:aV (.scr (a::r)) (.int ((k % (a::r).length:Nat):Int))=.ok (.int (a::r)[k % (a::r).length]):=by
   have e:((a::r).map T.int)[k % (a::r).length]?=ZA (.int (a::r)[k % (a::r).length]):=by rw[Oe,N9 hi];rfl
   show(match L2.atI ((a::r).map T.int) ((k % (a::r).length:Nat):Int)with|some t=>Rs.ok t|none=>.bad)=_
   rw[lK e]
  have g2:o2 mz (vr 1) (cl bO (ae (vr 0) ai)) [.va (.scr (a::r)),.va (.int k)]=.ok (.int ((k:Int) / ((a::r).length:Nat))):=by
   refine aL (t:=.int k) (u:=.int ((a::r).length:Nat)) rfl ?_ (oE hl hl2)
   refine aU (ts:=[.scr (a::r)]) rfl ?_
   show Rs.ok (T.int (((a::r).map T.int).length:Nat))=_
   rw[NR]
  refine⟨(a::r)[k % (a::r).length] +6553*((k:Int) / ((a::r).length:Nat)),cy rfl ?_⟩
  unfold ko
  show aD _ _ [.va (.scr (a::r)),.va (.int k)]=_
  refine(aE (Z':=[.va (.scr (a::r)),.va (.int k)]) ((d7 (bf e0)).trans rfl)).trans ?_
  exact cT (aL (aL (t:=.scr (a::r)) rfl g0 g1) (aL (t:=.int 6553) rfl g2 (lb (by omega) (by omega))) rfl)
def dq(ns:List Int)(k:Nat)(m:Int)(hn:ns.length<=63)(hm:0<m):∃r,aF [.scr ns,.int k,.int m]=.ok (.int r)/\0<=r/\r<m:=by
 obtain⟨c,hc⟩:=Kc ns k hn
 have b1:∀x:Int,0<=x % 2147483563/\x % 2147483563<2147483563:=λx=>⟨S2 _ (by omega),R7 _ (by omega)⟩
 have b2:∀x:Int,0<=x % 2147483399/\x % 2147483399<2147483399:=λx=>⟨S2 _ (by omega),R7 _ (by omega)⟩
 generalize hx:(c % 2147483563*69069+104723*((k:Int)+1)) % 2147483563=x
 have hx':=b1 (c % 2147483563*69069+104723*((k:Int)+1));rw[hx]at hx'
 generalize hy:(x*x+x / 3) % 2147483399=y
 have hy':=b2 (x*x+x / 3);rw[hy]at hy';refine⟨(y*y+y / 7) % 2147483647 / 11 % m,cy rfl ?_,S2 _ (by omega),R7 _ hm⟩
 show jl [.va (.scr ns),.va (.int k),.va (.int m),.em]=_
 unfold jl
 have s1:cg (o2 mn (o2 aP (o2 b6 (o2 mn (cl fX (ae (vr 0) (ae (vr 1) ai))) (cn (.int 2147483563))) (cn (.int 69069))) (o2 b6 (cn (.int 104723)) (o2 aP (vr 1) (cn (.int 1))))) (cn (.int 2147483563))) (gN 3) [.va (.scr ns),.va (.int k),.va (.int m),.em]=.ok (.nx [.va (.scr ns),.va (.int k),.va (.int m),.va (.int x)]):=by
  refine bV (t:=.int x) (aL (u:=.int 2147483563) (aL (aL (u:=.int 69069) (aL (u:=.int 2147483563) (aU (ts:=[.scr ns,.int k]) rfl hc) rfl (lD (by omega))) rfl (C1 (by omega) (by omega))) (aL (t:=.int 104723) (u:=.int ((k:Int)+1)) rfl rfl (lb (by omega) (by omega))) rfl) rfl ?_) rfl
  rw[lD (by omega),hx]
 have s2:cg (o2 mn (o2 aP (o2 b6 (vr 3) (vr 3)) (o2 mz (vr 3) (cn (.int 3)))) (cn (.int 2147483399))) (gN 3) [.va (.scr ns),.va (.int k),.va (.int m),.va (.int x)]=.ok (.nx [.va (.scr ns),.va (.int k),.va (.int m),.va (.int y)]):=by
  refine bV (t:=.int y) (aL (u:=.int 2147483399) (aL (aL (t:=.int x) (u:=.int x) rfl rfl (lb (by omega) (by omega))) (aL (t:=.int x) (u:=.int 3) rfl rfl (oE (by omega) (by omega))) rfl) rfl ?_) rfl
  rw[lD (by omega),hy]
 rw[aE s1,aE s2];exact cT (aL (u:=.int m) (aL (u:=.int 11) (aL (u:=.int 2147483647) (aL (aL (t:=.int y) (u:=.int y) rfl rfl (lb (by omega) (by omega))) (aL (t:=.int y) (u:=.int 7) rfl rfl (oE (by omega) (by omega))) rfl) rfl (lD (by omega))) rfl (oE (by omega) (by omega))) rfl (lD hm))
def eC{ns:List Int}{m r:Int}{f g h:V5}(e:aF [.scr ns,.int k,.int m]=.ok (.int r))(h1:f Z=.ok (.scr ns))(h2:g Z=.ok (.int k))(h3:h Z=.ok (.int m)):
  cl aF (ae f (ae g (ae h ai))) Z=.ok (.int r):=aU (aq h1 (aq h2 (aq h3 rfl))) e
theorem vP:∀(l:List Int)(z y:Int),nF (l++[z])=ZC->z<y->nF (l++[z] ++[y])=ZC
 |[],z,y,_,h=>by simp[nF,h]
 |[a],z,y,h,hy=>by
  simp[nF]at h ⊢
  omega
 |a::b::l,z,y,h,hy=>by
  have h':nF (a::b::(l++[z]))=ZC:=h;rw[Fo,NN]at h'
  have ih:=vP (b::l) z y h'.2 hy
  show nF (a::b::(l++[z] ++[y]))=ZC
  rw[Fo,h'.1];exact ih
theorem jL:∀l:List Int,kN (l.map .int)=ZA l
 |[] =>rfl
 |a::l=>by rw[NO,kN,jL l]
def RdOk(l:List Int):Prop:=∃(l':List Int)(z:Int),l=l'++[z]/\nF l=ZC/\(∀x∈l,0<=x/\x<=5*l.length)/\z<=5*l.length
def uR(l:List T)(z:T):aV (.tup (l++[z])) (.int (-1))=.ok z:=by
 have e:L2.atI (l++[z]) (-1)=ZA z:=by
  unfold L2.atI L2.ixN;simp;rw[if_pos (by omega)]
  have q:(-1+((l.length:Int)+1)).toNat=l.length:=by omega
  show(l++[z])[(-1+((l.length:Int)+1)).toNat]?=ZA z
  rw[q];simp
 show(match L2.atI (l++[z]) (-1)with|some t=>Rs.ok t|none=>.bad)=_
 rw[e]
def GW(ns:List Int)(hn:ns.length<=63)(a j:Nat)(s:T)(l:List Int)(h:RdOk l)(hl:l.length<=3):∃l2,clF [.va (.scr ns),.va (.int a),.va s,.va (.tup (l.map .int)),.va (.int j)]=.ok (.nx [.va (.scr ns),.va (.int a),.va s,.va (.tup (l2.map .int)),.va (.int j)])/\RdOk l2/\l2.length=l.length+1:=by
 obtain⟨l',z,rfl,h1,h2,h3⟩:=h;obtain⟨d,ed,d0,d1⟩:=dq ns (a+3+j) 5 hn (by omega)
 refine⟨l'++[z] ++[z+1+d],?_,⟨l'++[z],z+1+d,rfl,vP l' z _ h1 (by omega),?_,?_⟩,by simp⟩
 ·refine bV (t:=.tup ((l'++[z] ++[z+1+d]).map .int)) (aL (t:=.tup ((l'++[z]).map .int)) (u:=.tup [.int (z+1+d)]) rfl (ba (ts:=[.int (z+1+d)]) (aq (aL (t:=.int (z+1)) (u:=.int d) (aL (t:=.int z) (u:=.int 1) (aL (t:=.tup ((l'++[z]).map .int)) (u:=.int (-1)) rfl rfl ?_) rfl rfl) (eC (k:=a+3+j) ed rfl ?_ rfl) rfl) rfl) (az (k:=1) (by simp))) ?_) rfl
  ·rw[O8];exact uR _ _
  ·refine aL (t:=.int ((a:Int)+3)) (u:=.int j) (aL (t:=.int a) (u:=.int 3) rfl rfl rfl) rfl ?_
   show Rs.ok (T.int ((a:Int)+3+j))=_
   congr 2
  ·rw[O8 (l₁:=l'++[z])]
   exact fU _ _ (by rw[NV,NR];simp at hl ⊢;omega)
 ·intro x hx
  rcases Oi.mp hx with hx|hx
  ·have:=h2 x hx
   simp only[NV,Pq]at this ⊢;omega
  ·rw[N1]at hx
   subst hx
   have hz:=h2 z (by simp)
   simp only[NV,Pq]at h3 ⊢;omega
 ·simp only[NV,Pq]at h3 ⊢
  omega
theorem Ac(ns:List Int)(hn:ns.length<=63)(a:Nat)(s:T):∀(js:List Nat)(l:List Int)(s4:Sl),RdOk l->l.length+js.length<=4->∃l2 s5,bx (gN 4) clF (js.map λ(j:Nat)=>T.int j) [.va (.scr ns),.va (.int a),.va s,.va (.tup (l.map .int)),s4]=.ok (.nx [.va (.scr ns),.va (.int a),.va s,.va (.tup (l2.map .int)),s5])/\RdOk l2/\l2.length=l.length+js.length
 |[],l,s4,h,_=>⟨l,s4,rfl,h,rfl⟩
 |j::js,l,s4,h,hl=>by
  rw[NU]at hl;obtain⟨l2,e2,h2,n2⟩:=GW ns hn a j s l h (by omega)
  obtain⟨l3,s5,e3,h3,n3⟩:=Ac ns hn a s js l2 (.va (.int j)) h2 (by omega)
  refine⟨l3,s5,?_,h3,by rw[n3,n2,NU];omega⟩
  rw[NO,dR (Z1:=[.va (.scr ns),.va (.int a),.va s,.va (.tup (l.map .int)),.va (.int j)]) rfl e2];exact e3
def oh(n:Nat):rng 0 (n:Int)=(OI n).map λ(j:Nat)=>T.int j:=by
 unfold rng;simp
def RdOk.reads{l:List Int}(h:RdOk l)(hl:l.length<=4):cP (.tup (l.map .int))=ZC:=by
 obtain⟨l',z,rfl,h1,h2,h3⟩:=h;unfold cP;rw[NN];refine⟨?_,?_⟩
 ·simp[d6];simp at hl;omega
 ·show(((l'++[z]).map T.int).all (λu=>aW u 0 99)&&(match kN ((l'++[z]).map T.int)with|some m=>nF m|none=>ZD))=ZC
  rw[jL]
  show(_&&nF (l'++[z]))=ZC
  rw[h1,T3,Od];intro t ht;obtain⟨x,hx,rfl⟩:=Om.mp ht
  have:=h2 x hx;simp only[aW,NN,decide_eq_true_eq];omega
def Fe(n:Nat)(l:List Int)(h:l.length<=n):sm n (.tup (l.map .int))=ZC:=sm_tup.mpr ⟨by rw[NR];exact h,λt ht=>by obtain⟨x,_,rfl⟩:=Om.mp ht;simp[sm]⟩
def D8(ns:List Int)(hn:ns.length<=63)(a:Nat):∃c,cL [.scr ns,.int a]=.ok c/\bw c=ZC/\sm 8 c=ZC:=by
 obtain⟨d1,e1,p1,q1⟩:=dq ns a 3 hn (by omega)
 obtain⟨d2,e2,p2,q2⟩:=dq ns (a+2) 6 hn (by omega)
 obtain⟨d3,e3,p3,q3⟩:=dq ns (a+1) 3 hn (by omega)
 obtain⟨d4,e4,p4,q4⟩:=dq ns (a+6) 3 hn (by omega)
 obtain⟨n3,rfl⟩:=Ov p3;obtain⟨l,s5,el,hl,nl⟩:=Ac ns hn a (.int (1+d1)) (OI n3) [d2] .em ⟨[],d2,rfl,rfl,λx hx=>by rw[N1]at hx;subst hx;simp;omega,by simp;omega⟩ (by simp;omega)
 have nl':l.length<=4:=by rw[nl];simp;omega
 have hr:=hl.reads nl';refine⟨.tup [.int (1+d1),.int (1+d1+d4),.tup (l.map .int)],cy rfl ?_,?_,?_⟩
 ·show jm [.va (.scr ns),.va (.int a),.em,.em,.em]=_
  unfold jm;rw[aE (Z':=[.va (.scr ns),.va (.int a),.va (.int (1+d1)),.em,.em]) (bV (t:=.int (1+d1)) (aL (t:=.int 1) rfl (eC e1 rfl rfl rfl) rfl) rfl)];rw[aE (Z':=[.va (.scr ns),.va (.int a),.va (.int (1+d1)),.va (.tup ([d2].map .int)),.em]) (bV (t:=.tup [.int d2]) (ba (ts:=[.int d2]) (aq (eC (k:=a+2) e2 rfl rfl rfl) rfl) (az (k:=1) (by simp))) rfl)]
  rw[aE ((fY (JY (aq (eC (k:=a+1) e3 rfl rfl rfl) rfl) (by omega) (by omega)) (by rw[oh];exact el)))]
  exact cT (ba (aq (t:=.int (1+d1)) rfl (aq (aL (t:=.int (1+d1)) rfl (eC (k:=a+6) e4 rfl rfl rfl) rfl) (aq (t:=.tup (l.map .int)) rfl rfl))) (az (k:=3) (by simp)))
 ·show(ZC&&(nR (.int (1+d1)) (.int (1+d1+d4))&&cP _))=ZC
  rw[hr];simp only[nR,aW,QU,T3,NN,decide_eq_true_eq];omega
 ·refine sm_tup.mpr ⟨by simp,λt ht=>?_⟩
  rcases NT.mp ht with rfl|ht
  ·simp[sm]
  ·rcases NT.mp ht with rfl|ht
   ·simp[sm]
   ·rw[N1]at ht;subst ht;exact Fe 8 l (by omega)
theorem oq{y:T}:∀(cs:List T)(i:Nat),y∈d9 i cs->∃c k:Nat,y=.tup [.int c,.int k]/\i<=c/\c<i+cs.length/\k<Iq (cs.getD (c - i) .non)
 |[],i,h=>by cases h
 |x::cs,i,h=>by
  rw[d9]at h;rcases Oi.mp h with h|h
  ·unfold n6 at h
   obtain⟨t,ht,rfl⟩:=Om.mp h;obtain⟨j,rfl,hj⟩:=tK ht;refine⟨i,j,rfl,N4 _,by rw[NU];omega,?_⟩
   rw[SV]
   show j<Iq x
   omega
  ·obtain⟨c,k,e,h1,h2,h3⟩:=oq cs (i+1) h
   refine⟨c,k,e,by omega,by rw[NU];omega,?_⟩
   have:c - i=(c - (i+1))+1:=by omega
   rw[this];exact h3
def nL{y:T}(h:y∈d9 0 cs):aX cs y=ZC:=by
 obtain⟨c,k,rfl,_,h2,h3⟩:=oq cs 0 h
 show(decide ((0:Int)<=(c:Int))&&decide ((c:Int)<(cs.length:Int))&&(decide ((0:Int)<=(k:Int))&&decide ((k:Int)<(reads cs (c:Int):Int))))=ZC
 rw[SW]at h3;rw[rK];simp only[NN,decide_eq_true_eq];omega
theorem mS:∀(cs:List T)(i:Nat),(d9 i cs).Nodup
 |[],i=>Ql
 |x::cs,i=>by
  rw[d9,OQ];refine⟨?_,mS cs (i+1),?_⟩
  ·unfold n6 rng
   rw[PY];rw[R3,Us];refine List.nodup_range.imp ?_
   intro a b hab e
   simp at e
   exact hab (by omega)
  ·intro a ha b hb e
   subst e;unfold n6 at ha;obtain⟨t,ht,rfl⟩:=Om.mp ha;obtain⟨c,k,e,h1,_,_⟩:=oq cs (i+1) hb
   simp at e
   omega
variable{i:Nat}
def CV(h:l.Nodup){j:Nat}(hi:i<l.length)(hj:j<l.length)(hij:i≠j):l[i] ≠l[j]:=by
 rw[R3,List.pairwise_iff_getElem]at h;rcases Nat.lt_or_ge i j with q|q
 ·exact h i j hi hj q
 ·exact λe=>h j i hj hi (by omega) e.symm
theorem oF:∀(cs:List T)(i:Nat),(∀c∈cs,bw c=ZC)->(d9 i cs).length<=4*cs.length
 |[],i,_=>N4 _
 |x::cs,i,h=>by
  obtain⟨a,b,r,rfl,_,h2⟩:=ik (h x NP)
  have:=oF cs (i+1) λc hc=>h c (NL _ hc)
  rw[d9,NV,j9,NU]
  show r.length+_<=_
  omega
def DW{a b:T}(ha:aX cs a=ZC)(hb:aX cs b=ZC)(h:a≠b):bo a b=ZD:=by
 obtain⟨c,k,rfl⟩:=b9 ha;obtain⟨c',k',rfl⟩:=b9 hb;rw[Bool.eq_false_iff];intro e;simp[bo,beqTs]at e;exact h (by rw[e.1,e.2])
def vE{a:T}(ha:aX cs a=ZC):sm 8 a=ZC:=by
 obtain⟨c,k,rfl⟩:=b9 ha;simp[sm,sms]
def Dx(h:i<l.length):aV (.lst l) (.int (i:Int))=.ok l[i]:=by
 show(match L2.atI l (i:Int)with|some t=>Rs.ok t|none=>.bad)=_
 rw[lK (N9 h)]
def qo(a b:Int):kP (.int a) (.int b)=.ok (.bl (a == b)):=by
 unfold kP;rw[if_pos (j8 (by simp[T.dep]) rfl rfl)]
 rfl
def sv(ns:List Int)(hn:ns.length<=63)(a:Nat)(cs:List T)(hc:a9 (.tup cs)=ZC):∃r,bX [.scr ns,.int a,.tup cs]=.ok r/\(r=.non\/(bu cs r=ZC/\sm 8 r=ZC)):=by
 obtain⟨ha,h1,h4⟩:=bh hc
 have hlen:=oF cs 0 ha
 have er:=qt cs hc
 have gl:∀s4 s5 s6 s7:Sl,cl bO (ae (vr 3) ai) [.va (.scr ns),.va (.int a),.va (.tup cs),.va (.lst (d9 0 cs)),s4,s5,s6,s7]=.ok (.int ((d9 0 cs).length:Nat)):=λ_ _ _ _=>rfl
 have s1:cg (cl bY (ae (vr 2) ai)) (gN 3) [.va (.scr ns),.va (.int a),.va (.tup cs),.em,.em,.em,.em,.em]=.ok (.nx [.va (.scr ns),.va (.int a),.va (.tup cs),.va (.lst (d9 0 cs)),.em,.em,.em,.em]):=bV (aU (ts:=[.tup cs]) rfl er) rfl
 have lt:o2 pQ (cl bO (ae (vr 3) ai)) (cn (.int 2)) [.va (.scr ns),.va (.int a),.va (.tup cs),.va (.lst (d9 0 cs)),.em,.em,.em,.em]=.ok (.bl (decide (((d9 0 cs).length:Int)<2))):=aL (t:=.int ((d9 0 cs).length:Nat)) (u:=.int 2) (gl _ _ _ _) rfl rfl
 by_cases hs:(d9 0 cs).length<2
 ·refine⟨.non,cy rfl ?_,.inl rfl⟩
  show eh [.va (.scr ns),.va (.int a),.va (.tup cs),.em,.em,.em,.em,.em]=_
  unfold eh;rw[aE s1];rw[decide_eq_true (by omega)]at lt
  exact gX ((dS (bf lt)).trans rfl)
 ·rw[decide_eq_false (by omega)]at lt
  generalize hN:(d9 0 cs).length=n at*
  obtain⟨d1,e1,p1,q1⟩:=dq ns a (n:Int) hn (by omega)
  obtain⟨d2,e2,p2,q2⟩:=dq ns (a+1) ((n:Int) - 1) hn (by omega)
  obtain⟨d3,e3,p3,q3⟩:=dq ns (a+2) 8 hn (by omega)
  obtain⟨d4,e4,p4,q4⟩:=dq ns (a+3) 3 hn (by omega)
  obtain⟨d5,e5,p5,q5⟩:=dq ns (a+4) 9 hn (by omega)
  obtain⟨i,rfl⟩:=Ov p1;obtain⟨d2,rfl⟩:=Ov p2
  have hi:i<(d9 0 cs).length:=by omega
  have hj:(i+1+d2) % n<(d9 0 cs).length:=by rw[hN];exact Nat.mod_lt _ (by omega)
  have hij:i≠(i+1+d2) % n:=by
   rcases Nat.lt_or_ge (i+1+d2) n with q|q
   ·rw[UT q];omega
   ·have:(i+1+d2) % n=i+1+d2 - n:=by
     rw[Nat.mod_eq_sub_mod q,UT (by omega)]
    rw[this];omega
  have eA:=nL (Px hi)
  have eB:=nL (Px hj)
  have eN:(d9 0 cs)[i] ≠(d9 0 cs)[(i+1+d2) % n]:=CV (mS cs 0) hi hj hij
  generalize hA:(d9 0 cs)[i]=A at*
  generalize hB:(d9 0 cs)[(i+1+d2) % n]=B at*
  let y:T:=if d4 == 0 then .non else .int (d3+d5)
  refine⟨.tup [A,B,.int d3,y],cy rfl ?_,.inr ⟨?_,?_⟩⟩
  ·show eh [.va (.scr ns),.va (.int a),.va (.tup cs),.em,.em,.em,.em,.em]=_
   unfold eh;rw[aE s1];rw[aE (Z':=[.va (.scr ns),.va (.int a),.va (.tup cs),.va (.lst (d9 0 cs)),.em,.em,.em,.em]) ((d7 (bf lt)).trans rfl)];rw[aE (Z':=[.va (.scr ns),.va (.int a),.va (.tup cs),.va (.lst (d9 0 cs)),.va (.int (i:Nat)),.em,.em,.em]) (bV (eC e1 rfl rfl (gl _ _ _ _)) rfl)];rw[aE (Z':=[.va (.scr ns),.va (.int a),.va (.tup cs),.va (.lst (d9 0 cs)),.va (.int (i:Nat)),.va (.int ((i+1+d2) % n:Nat)),.em,.em]) (bV (t:=.int ((i+1+d2) % n:Nat)) (aL (t:=.int ((i:Int)+1+d2)) (u:=.int n) (aL (t:=.int ((i:Int)+1)) (u:=.int d2) rfl (eC (k:=a+1) e2 rfl rfl (aL (t:=.int n) (u:=.int 1) (gl _ _ _ _) rfl rfl)) rfl) (gl _ _ _ _) (lD (by omega))) rfl)]
   rw[aE (Z':=[.va (.scr ns),.va (.int a),.va (.tup cs),.va (.lst (d9 0 cs)),.va (.int (i:Nat)),.va (.int ((i+1+d2) % n:Nat)),.va (.int d3),.em]) (bV (eC (k:=a+2) e3 rfl rfl rfl) rfl)]
   have ey:yE (tb (o2 kP (cl aF (ae (vr 0) (ae (o2 aP (vr 1) (cn (.int 3))) (ae (cn (.int 3)) ai)))) (cn (.int 0)))) (cn .non) (o2 aP (vr 6) (cl aF (ae (vr 0) (ae (o2 aP (vr 1) (cn (.int 4))) (ae (cn (.int 9)) ai))))) [.va (.scr ns),.va (.int a),.va (.tup cs),.va (.lst (d9 0 cs)),.va (.int (i:Nat)),.va (.int ((i+1+d2) % n:Nat)),.va (.int d3),.em]=.ok y:=by
    rw[sf (bf (aL (u:=.int 0) (eC (k:=a+3) e4 rfl rfl rfl) rfl (qo _ _)))]
    show _=Rs.ok (if d4 == 0 then T.non else .int (d3+d5))
    cases d4 == 0 with
    |true=>rfl
    |false=>exact aL (t:=.int d3) rfl (eC (k:=a+4) e5 rfl rfl rfl) rfl
   rw[aE (Z':=[.va (.scr ns),.va (.int a),.va (.tup cs),.va (.lst (d9 0 cs)),.va (.int (i:Nat)),.va (.int ((i+1+d2) % n:Nat)),.va (.int d3),.va y]) (bV ey rfl)];refine cT (ba (aq (t:=A) (aL (t:=.lst (d9 0 cs)) (u:=.int (i:Nat)) rfl rfl ?_) (aq (t:=B) (aL (t:=.lst (d9 0 cs)) (u:=.int ((i+1+d2) % n:Nat)) rfl rfl ?_) (aq (t:=.int d3) rfl (aq (t:=y) rfl rfl)))) (az (k:=4) (by simp)))
   ·rw[<-hA];exact Dx hi
   ·rw[<-hB];exact Dx hj
  ·show(dD (.int d3) y&&(aX cs A&&(aX cs B&& !bo A B)))=ZC
   rw[eA,eB,DW eA eB eN]
   have:dD (.int d3) y=ZC:=by
    show(aW (.int d3) 0 999&&(match(T.int d3),(if d4 == 0 then T.non else .int (d3+d5))with|_,.non=>ZC|.int i,_=>aW (if d4 == 0 then T.non else .int (d3+d5)) i 999|_,_=>ZD))=ZC
    cases d4 == 0 with
    |true=>simp[aW];omega
    |false=>simp[aW];omega
   rw[this];rfl
  ·refine sm_tup.mpr ⟨by simp,λt ht=>?_⟩
   have hy:sm 8 y=ZC:=by show sm 8 (if d4 == 0 then T.non else .int (d3+d5))=ZC;cases d4 == 0 <;> simp[sm]
   simp only[NT,Po,or_false]at ht;rcases ht with rfl|rfl|rfl|rfl
   ·exact vE eA
   ·exact vE eB
   ·simp[sm]
   ·exact hy
def okv:Rs T->T
 |.ok t=>t
 |_=>.non
def zw(l:List T)(k:Int)(h : -(2 ^ 63)<=k/\k<2 ^ 63/\l.length*k.toNat<=ZI):b6 (.lst l) (.int k)=.ok (.lst (Ob k.toNat l).flatten):=by
 show yj (.lst l) (.int k)=_
 unfold yj;exact if_pos h
def mul_one(x:T)(b:Bool):b6 (.lst [x]) (.int (if b then 1 else 0))=.ok (.lst (if b then [x]else [])):=by
 cases b with
 |true=>exact zw [x] 1 ⟨by decide,by decide,az (k:=1) (by simp)⟩
 |false=>exact zw [x] 0 ⟨by decide,by decide,az (k:=1) (by simp)⟩
def Bm(cs ls:List T):Prop:=∀t∈ls,bu cs t=ZC/\sm 8 t=ZC
def Gi(ns:List Int)(hn:ns.length<=63)(a j:Nat)(m:T)(cs ls:List T)(hc:a9 (.tup cs)=ZC)(h:Bm cs ls)(hl:ls.length<=100)(s6:Sl):
  ∃ls2 s7,leF [.va (.scr ns),.va (.int a),.va m,.va (.tup cs),.va (.lst ls),.va (.int j),s6]=.ok (.nx [.va (.scr ns),.va (.int a),.va m,.va (.tup cs),.va (.lst ls2),.va (.int j),s7])/\Bm cs ls2/\ls2.length<=ls.length+1:=by
 obtain⟨r,er,hr⟩:=sv ns hn (a+31+6*j) cs hc
 have e1:∀G,aD (cg (cl bX (ae (vr 0) (ae (o2 aP (o2 aP (vr 1) (cn (.int 31))) (o2 b6 (cn (.int 6)) (vr 5))) (ae (vr 3) ai)))) (gN 6)) G [.va (.scr ns),.va (.int a),.va m,.va (.tup cs),.va (.lst ls),.va (.int j),s6]=G [.va (.scr ns),.va (.int a),.va m,.va (.tup cs),.va (.lst ls),.va (.int j),.va r]:=λG=>by
  refine aE (bV (t:=r) (aU (ts:=[.scr ns,.int (a+31+6*j:Nat),.tup cs]) (aq (t:=.scr ns) rfl (aq (t:=.int (a+31+6*j:Nat)) (aL (t:=.int ((a:Int)+31)) (u:=.int (6*(j:Int))) rfl (aL (t:=.int 6) (u:=.int j) rfl rfl (lb (by omega) (by omega))) rfl) (aq (t:=.tup cs) rfl rfl))) er) rfl)
 have e2:cl wV (ae (o2 dw (vr 6) (cn .non)) ai) [.va (.scr ns),.va (.int a),.va m,.va (.tup cs),.va (.lst ls),.va (.int j),.va r]=.ok (.int (if !r.isN then 1 else 0)):=aU (ts:=[.bl (!r.isN)]) rfl rfl
 refine⟨ls++(if !r.isN then [r]else []),.va r,?_,?_,?_⟩
 ·refine(e1 _).trans (bV (aL (t:=.lst ls) (u:=.lst (if !r.isN then [r]else [])) rfl (aL (t:=.lst [r]) (mr (ts:=[r]) rfl (az (k:=1) (by simp))) e2 (mul_one _ _)) (vd _ _ ?_)) rfl)
  rw[NV];cases r.isN <;> simp <;> omega
 ·intro t ht
  rcases Oi.mp ht with ht|ht
  ·exact h t ht
  ·rcases hr with rfl|hr
   ·cases ht
   ·cases q:r.isN with
    |true=>rw[q]at ht;cases ht
    |false=>
     rw[q]at ht;rw[show t=r by simpa using ht]
     exact hr
 ·rw[NV]
  cases r.isN <;> simp
theorem zD(ns:List Int)(hn:ns.length<=63)(a:Nat)(m:T)(cs:List T)(hc:a9 (.tup cs)=ZC):∀(js:List Nat)(ls:List T)(s5 s6:Sl),Bm cs ls->ls.length+js.length<=100 →
  ∃ls2 t5 t6,bx (gN 5) leF (js.map λ(j:Nat)=>T.int j) [.va (.scr ns),.va (.int a),.va m,.va (.tup cs),.va (.lst ls),s5,s6]=.ok (.nx [.va (.scr ns),.va (.int a),.va m,.va (.tup cs),.va (.lst ls2),t5,t6])/\Bm cs ls2/\ls2.length<=ls.length+js.length
 |[],ls,s5,s6,h,_=>⟨ls,s5,s6,rfl,h,N4 _⟩
 |j::js,ls,s5,s6,h,hl=>by
  rw[NU]at hl;obtain⟨l2,s7,e2,h2,n2⟩:=Gi ns hn a j m cs ls hc h (by omega) s6
  obtain⟨l3,t5,t6,e3,h3,n3⟩:=zD ns hn a m cs hc js l2 (.va (.int j)) s7 h2 (by omega)
  refine⟨l3,t5,t6,?_,h3,by rw[NU];omega⟩
  rw[NO,dR (Z1:=[.va (.scr ns),.va (.int a),.va m,.va (.tup cs),.va (.lst ls),.va (.int j),s6]) rfl e2];exact e3
def Kb(ns:List Int)(hn:ns.length<=63)(a m:Nat)(hm:m<=8):∃cs ls,fQ [.scr ns,.int a,.int m]=.ok (RR cs ls)/\a9 (.tup cs)=ZC/\cs.length<=3/\(∀c∈cs,sm 8 c=ZC)/\Bm cs ls/\ls.length<=m:=by
 obtain⟨d1,e1,p1,q1⟩:=dq ns a 3 hn (by omega)
 obtain⟨d2,e2,p2,q2⟩:=dq ns (a+30) ((m:Int)+1) hn (by omega)
 obtain⟨d1,rfl⟩:=Ov p1;obtain⟨d2,rfl⟩:=Ov p2
 let hcl:T->T:=λt=>match t with
  |.int k=>okv (cL [.scr ns,.int ((a:Int)+1+8*k)])
  |_=>.non
 have hh:∀t∈rng 0 ((1+d1:Nat):Int),∃k:Nat,t=.int k/\cL [.scr ns,.int ((a+1+8*k:Nat):Int)]=.ok (hcl t)/\bw (hcl t)=ZC/\sm 8 (hcl t)=ZC:=λt ht=>by
  obtain⟨k,rfl,_⟩:=tK ht;obtain⟨c,ec,h1,h2⟩:=D8 ns hn (a+1+8*k)
  have e:hcl (.int k)=c:=by
   show okv (cL [.scr ns,.int ((a+1+8*k:Nat):Int)])=c
   rw[ec];rfl
  exact⟨k,rfl,by rw[e];exact ec,by rw[e];exact h1,by rw[e];exact h2⟩
 generalize hcs:(rng 0 ((1+d1:Nat):Int)).map hcl=cs
 have lc:cs.length=1+d1:=by rw[<-hcs,NR,md]
 have hc:a9 (.tup cs)=ZC:=by
  show(d6 (.tup cs) 1 4&&cs.all bw)=ZC
  rw[NN,Od];refine⟨by simp[d6];omega,λc h=>?_⟩
  rw[<-hcs]at h;obtain⟨t,ht,rfl⟩:=Om.mp h;obtain⟨_,_,_,h1,_⟩:=hh t ht;exact h1
 have hsm:∀c∈cs,sm 8 c=ZC:=λc h=>by
  rw[<-hcs]at h;obtain⟨t,ht,rfl⟩:=Om.mp h;obtain⟨_,_,_,_,h1⟩:=hh t ht;exact h1
 obtain⟨ls,t5,t6,el,hl,nl⟩:=zD ns hn a (.int m) cs hc (OI d2) [] .em .em (λt h=>by cases h) (by simp;omega)
 refine⟨cs,ls,cy rfl ?_,hc,by omega,hsm,hl,by simp at nl;omega⟩
 show iG [.va (.scr ns),.va (.int a),.va (.int m),.em,.em,.em,.em]=_
 unfold iG
 have s1:cg (cl iZ (ae (ig (iR (ae (o2 aP (cn (.int 1)) (cl aF (ae (vr 0) (ae (vr 1) (ae (cn (.int 3)) ai))))) ai)) [ZB,ZA 0,ZA 1] (gN 0) bT (cl cL (ae (vr 1) (ae (o2 aP (o2 aP (vr 2) (cn (.int 1))) (o2 b6 (cn (.int 8)) (vr 0))) ai)))) ai)) (gN 3) [.va (.scr ns),.va (.int a),.va (.int m),.em,.em,.em,.em]=.ok (.nx [.va (.scr ns),.va (.int a),.va (.int m),.va (.tup cs),.em,.em,.em]):=by
  refine bV (t:=.tup cs) (aU (ts:=[.lst cs]) (aq (t:=.lst cs) ?_ rfl) rfl) rfl
  rw[<-hcs];refine yA (ts:=rng 0 ((1+d1:Nat):Int)) (h:=hcl) (JY (aq (t:=.int ((1+d1:Nat):Int)) (aL (t:=.int 1) (u:=.int d1) rfl (eC e1 rfl rfl rfl) rfl) rfl) (by omega) (by omega)) (az (k:=3) (by rw[md];omega)) (by simp) λt ht=>?_
  obtain⟨k,rfl,ek,_,_⟩:=hh t ht;refine aU (ts:=[.scr ns,.int ((a+1+8*k:Nat):Int)]) (aq (t:=.scr ns) rfl (aq (aL (t:=.int ((a:Int)+1)) (u:=.int (8*(k:Int))) rfl (aL (t:=.int 8) (u:=.int k) rfl rfl (lb (by omega) (by omega))) rfl) rfl)) ek
 rw[aE s1];rw[aE (Z':=[.va (.scr ns),.va (.int a),.va (.int m),.va (.tup cs),.va (.lst []),.em,.em]) (bV (mr (ts:=[]) rfl (az (k:=0) (by simp))) rfl)]
 rw[aE ((fY (JY (aq (eC (k:=a+30) e2 rfl rfl (aL (t:=.int m) (u:=.int 1) rfl rfl rfl)) rfl) (by omega) (by omega)) (by rw[oh];exact el)))]
 exact cT (ba (aq (t:=.tup cs) rfl (aq (t:=.tup ls) rfl rfl)) (az (k:=2) (by simp)))
def dj{t:T}(h:bu cs t=ZC):∃a b x y,t=.tup [a,b,x,y]/\dD x y=ZC/\aX cs a=ZC/\aX cs b=ZC/\bo a b=ZD:=by
 unfold bu at h
 split at h
 ·simp only[NN,Ur]at h
  exact⟨_,_,_,_,rfl,h.1,h.2.1,h.2.2.1,h.2.2.2⟩
 ·cases h
def Ip{ls:List T}(hc:a9 (.tup cs)=ZC)(hs:∀c∈cs,sm 8 c=ZC)(hl:Bm cs ls)(hn:ls.length<=8):cO (RR cs ls)=ZC/\sm 8 (RR cs ls)=ZC:=by
 refine⟨?_,?_⟩
 ·show(a9 (.tup cs)&&(d6 (.tup ls) 0 8&&ls.all (bu cs)))=ZC
  rw[hc,QU,NN,Od];exact⟨by simp[d6];exact hn,λt ht=>(hl t ht).1⟩
 ·refine sm_tup.mpr ⟨by simp,λt ht=>?_⟩
  simp only[NT,Po,or_false]at ht;rcases ht with rfl|rfl
  ·exact sm_tup.mpr ⟨by have:=(bh hc).2.2;omega,hs⟩
  ·exact sm_tup.mpr ⟨hn,λt ht=>(hl t ht).2⟩
end G
namespace Tr
open PySem
section
variable {f fa fb:V5}{fs:V3}{b c:V6}{F G:V4}{Z Z' Z1 Z2:En}{t u r:T}{ts l m:List T}
mutual
theorem ni:∀(t:T),t.pl=ZC->bo t t=ZC
 |.non,_=>rfl
 |.bl a,_=>by simp[bo]
 |.int a,_=>by simp[bo]
 |.str a,_=>by simp[bo]
 |.tup l,h=>by rw[bo];exact beqTs_refl l (by unfold T.pl at h;exact h)
 |.lst l,h=>by rw[bo];exact beqTs_refl l (by unfold T.pl at h;exact h)
 |.scr _,h=>by simp[T.pl]at h
theorem beqTs_refl:∀(l:List T),plS l=ZC->beqTs l l=ZC
 |[],_=>rfl
 |t::l,h=>by
  unfold plS at h;rw[NN]at h;rw[beqTs,ni t h.1,beqTs_refl l h.2];rfl
end
def i6(hp:t.pl=ZC)(hd:t.dep<=60):pO t t=.ok (.bl ZD):=by
 unfold pO;rw[if_pos (j8 hd (T.M5 _ hp) (T.M5 _ hp)),ni t hp];rfl
def zV(hp:t.pl=ZC)(hd:t.dep<=60):kP t t=.ok (.bl ZC):=by
 unfold kP;rw[if_pos (j8 hd (T.M5 _ hp) (T.M5 _ hp)),ni t hp]
theorem z9{n:Nat}:∀{l:List T},(∀t∈l,t.dep<=n)->deps l<=n
 |[],_=>by unfold deps;omega
 |t::l,h=>by
  unfold deps
  have:=z9 (l:=l) λu hu=>h u (NL _ hu)
  have:=h t NP;omega
theorem gk:∀{l:List T},(∀t∈l,t.pl=ZC)->plS l=ZC
 |[],_=>rfl
 |t::l,h=>by unfold plS;rw[h t NP,gk λu hu=>h u (NL _ hu)];rfl
end
end Tr
namespace G
open PySem Tr
def dr(r:List Int)(k:Nat):Int:=r.getD (k+1) 0 - r.getD k 0
noncomputable def pr(n:Nat)(x y:Int)(r:List Int)(k:Nat):List T:=
 [.tup [.tup [.int n,.int k],.tup [.int n,.int ((k+1:Nat):Int)],.int (dr r k*y)],.tup [.tup [.int n,.int ((k+1:Nat):Int)],.tup [.int n,.int k],.int (-dr r k*x)]]
def cB(n:Nat)(x y:Int)(r:List Int):List T:=(OI (r.length - 1)).flatMap (pr n x y r)
abbrev Et(n:Nat)(x y:Int)(r:List Int)(acc:List T)(s4 s5 s6 s7:Sl):En:=[.va (.int n),.va (.tup [.int x,.int y,.tup (r.map .int)]),.va (.tup (r.map .int)),.ow (.lst acc),s4,s5,s6,s7]
def kI{r:List Int}{k:Nat}(h:k<r.length):(r.map T.int)[k]?=ZA (.int (r.getD k 0)):=by
 rw[Oe,N9 h]
 simp[h]
def GZ(n:Nat)(x y:Int)(r:List Int)(acc:List T)(k:Nat)(s5 s6 s7:Sl)(hk:k+1<r.length)(hx:0<=x/\x<=9)(hy:0<=y/\y<=9)(ha:acc.length<=100):
  bcF (Et n x y r acc (.va (.int k)) s5 s6 s7)=.ok (.nx (Et n x y r (acc++pr n x y r k) (.va (.int k)) (.va (.tup [.int n,.int k])) (.va (.tup [.int n,.int ((k+1:Nat):Int)])) (.va (.int (dr r k))))):=by
 have h2:([T.int n,T.int k]:List T).length<=ZI:=az (k:=2) (by simp)
 have ek:((k:Int)+1)=((k+1:Nat):Int):=by omega
 refine(aE (Z':=Et n x y r acc (.va (.int k)) (.va (.tup [.int n,.int k])) s6 s7) (bV (ba rfl (az (k:=2) (by simp))) rfl)).trans ?_
 refine(aE (Z':=Et n x y r acc (.va (.int k)) (.va (.tup [.int n,.int k])) (.va (.tup [.int n,.int ((k+1:Nat):Int)])) s7) (bV (ba (aq rfl (aq (t:=.int ((k+1:Nat):Int)) (aL (t:=.int k) (u:=.int 1) rfl rfl (congrArg (λz=>Rs.ok (T.int z)) ek)) rfl)) (az (k:=2) (by simp))) rfl)).trans ?_
 refine(aE (Z':=Et n x y r acc (.va (.int k)) (.va (.tup [.int n,.int k])) (.va (.tup [.int n,.int ((k+1:Nat):Int)])) (.va (.int (dr r k)))) (bV (t:=.int (dr r k)) (aL (t:=.int (r.getD (k+1) 0)) (u:=.int (r.getD k 0)) (iA (n:=k+1) rfl (aL (t:=.int k) (u:=.int 1) rfl rfl (congrArg (λz=>Rs.ok (T.int z)) ek)) (kI hk)) (iA (n:=k) rfl rfl (kI (by omega))) rfl) rfl)).trans ?_
 refine(aE (Z':=Et n x y r (acc++[.tup [.tup [.int n,.int k],.tup [.int n,.int ((k+1:Nat):Int)],.int (dr r k*y)]]) (.va (.int k)) (.va (.tup [.int n,.int k])) (.va (.tup [.int n,.int ((k+1:Nat):Int)])) (.va (.int (dr r k)))) (qe (l:=acc) (ba (aq rfl (aq rfl (aq (aL (t:=.int (dr r k)) (u:=.int y) rfl rfl (C1 (by omega) (by omega))) rfl))) (az (k:=3) (by simp))) rfl (by omega))).trans ?_
 refine(qe (l:=acc++[.tup [.tup [.int n,.int k],.tup [.int n,.int ((k+1:Nat):Int)],.int (dr r k*y)]]) (ba (aq rfl (aq rfl (aq (aL (t:=.int (-dr r k)) (u:=.int x) rfl rfl (C1 (by omega) (by omega))) rfl))) (az (k:=3) (by simp))) rfl (by rw[NV];simp;omega)).trans ?_
 rw[Oo]
 rfl
theorem Af(n:Nat)(x y:Int)(r:List Int)(hx:0<=x/\x<=9)(hy:0<=y/\y<=9):∀(js:List Nat)(acc:List T)(s4 s5 s6 s7:Sl),(∀k∈js,k+1<r.length)->acc.length+2*js.length<=100 →
  ∃t4 t5 t6 t7,bx (gN 4) bcF (js.map λ(k:Nat)=>T.int k) (Et n x y r acc s4 s5 s6 s7)=.ok (.nx (Et n x y r (acc++js.flatMap (pr n x y r)) t4 t5 t6 t7))
 |[],acc,s4,s5,s6,s7,_,_=>⟨s4,s5,s6,s7,by simp[bx]⟩
 |k::js,acc,s4,s5,s6,s7,hk,hl=>by
  rw[NU]at hl
  have e:=GZ n x y r acc k s5 s6 s7 (hk k NP) hx hy (by omega)
  obtain⟨t4,t5,t6,t7,ih⟩:=Af n x y r hx hy js (acc++pr n x y r k) (.va (.int k)) (.va (.tup [.int n,.int k])) (.va (.tup [.int n,.int ((k+1:Nat):Int)])) (.va (.int (dr r k))) (λj hj=>hk j (NL _ hj)) (by rw[NV];simp[pr];omega)
  refine⟨t4,t5,t6,t7,?_⟩
  rw[NO,dR (Z1:=Et n x y r acc (.va (.int k)) s5 s6 s7) rfl e,ih,QV,Oo]
def Ee(n:Nat)(x y:Int)(r:List Int)(hx:0<=x/\x<=9)(hy:0<=y/\y<=9)(h1:1<=r.length)(h4:r.length<=4):cK [.int n,.tup [.int x,.int y,.tup (r.map .int)]]=.ok (.lst (cB n x y r)):=by
 refine cy rfl ?_
 show fx [.va (.int n),.va (.tup [.int x,.int y,.tup (r.map .int)]),.em,.em,.em,.em,.em,.em]=_
 unfold fx;rw[aE (Z':=[.va (.int n),.va (.tup [.int x,.int y,.tup (r.map .int)]),.va (.tup (r.map .int)),.em,.em,.em,.em,.em]) (bV (t:=.tup (r.map .int)) rfl rfl)];rw[aE (Z':=Et n x y r [] .em .em .em .em) rfl];obtain⟨t4,t5,t6,t7,e⟩:=Af n x y r hx hy (OI (r.length - 1)) [] .em .em .em .em (λk hk=>by have:=Pr.mp hk;omega) (by simp;omega)
 have e1:iR (ae (o2 cZ (cl bO (ae (vr 2) ai)) (cn (.int 1))) ai) (Et n x y r [] .em .em .em .em)=.ok (rng 0 ((r.length - 1:Nat):Int)):=by
  refine JY (j:=((r.length - 1:Nat):Int)) (aq (aL (t:=.int (r.length:Nat)) (u:=.int 1) (aU (ts:=[.tup (r.map .int)]) rfl (by show Rs.ok (T.int ((r.map T.int).length:Nat))=_;rw[NR])) rfl (congrArg (λz=>Rs.ok (T.int z)) (by omega))) rfl) (by omega) (by omega)
 rw[aE ((fY (ts:=(OI (r.length - 1)).map λ(k:Nat)=>T.int k) (by rw[e1,oh]) e))]
 rfl
def cS{t:T}(h:bw t=ZC):∃(x y:Int)(r:List Int),t=.tup [.int x,.int y,.tup (r.map .int)]/\(0<=x/\x<=9)/\(0<=y/\y<=9)/\1<=r.length/\r.length<=4:=by
 obtain⟨x,y,r,rfl,h1,h4⟩:=ik h
 have h':(nR x y&&cP (.tup r))=ZC:=h;rw[NN]at h';obtain⟨hp,hr⟩:=h';unfold nR at hp;rw[NN]at hp;obtain⟨i,rfl,i1,i2⟩:=cf hp.1;obtain⟨j,rfl,j1,j2⟩:=cf (t:=y) (a:=i) (b:=9) hp.2;unfold cP at hr;rw[NN]at hr
 have hr2:((r.all λu=>aW u 0 99)&&(match kN r with|some m=>nF m|none=>ZD))=ZC:=hr.2
 rw[NN]at hr2;obtain⟨m,em⟩:=ur hr2.1
 have e:=pG em;subst e;rw[NR]at h1 h4;exact⟨i,j,m,rfl,⟨by omega,by omega⟩,⟨by omega,by omega⟩,h1,h4⟩
noncomputable def xB(n:Nat)(t:T):List T:=match t with
 |.tup [.int x,.int y,.tup r] =>match kN r with
  |some m=>cB n x y m
  |none=>[]
 |_=>[]
def bC:Nat->List T->List T
 |_,[] =>[]
 |i,c::r=>xB i c++bC (i+1) r
noncomputable def lB(t:T):List T:=match t with
 |.tup [a,b,.int le,mo] =>.tup [b,a,.int (-le)] ::(if mo.isN then []else [.tup [a,b,mo]])
 |_=>[]
def Ko(cs ls:List T):List T:=bC 0 cs++ls.flatMap lB
def rC(n:Nat)(x y:Int)(r:List Int):xB n (.tup [.int x,.int y,.tup (r.map .int)])=cB n x y r:=by
 unfold xB;simp only[jL]
def Km(n:Nat)(x y:Int)(r:List Int):(cB n x y r).length=2*(r.length - 1):=by
 unfold cB;rw[List.length_flatMap]
 have:∀l:List Nat,(l.map λk=>(pr n x y r k).length).sum=2*l.length:=by
  intro l
  induction l with
  |nil=>rfl
  |cons a l ih=>rw[NO,PV,ih,NU];simp[pr];omega
 rw[this,Qs]
def xF{n:Nat}{t:T}(h:bw t=ZC):(xB n t).length<=6:=by
 obtain⟨x,y,r,rfl,_,_,h1,h4⟩:=cS h;rw[rC,Km];omega
theorem u7:∀{cs:List T}{i:Nat},(∀c∈cs,bw c=ZC)->(bC i cs).length<=6*cs.length
 |[],i,_=>by simp[bC]
 |c::cs,i,h=>by
  rw[bC,NV,NU]
  have:=xF (n:=i) (h c NP)
  have:=u7 (cs:=cs) (i:=i+1) λc hc=>h c (NL _ hc)
  omega
def yv(t:T):(lB t).length<=2:=by
 unfold lB;split
 ·rename_i a b le mo
  cases mo.isN <;> simp
 ·simp
theorem zH:∀(ls:List T),(ls.flatMap lB).length<=2*ls.length
 |[] =>by simp
 |t::ls=>by
  rw[QV,NV,NU]
  have:=yv t
  have:=zH ls;omega
variable{cs:List T}
def jV{t:T}(h:bu cs t=ZC):∃(a b mo:T)(le:Int),t=.tup [a,b,.int le,mo]/\aX cs a=ZC/\aX cs b=ZC:=by
 obtain⟨a,b,x,y,rfl,hd,ha,hb,_⟩:=dj h;unfold dD at hd;rw[NN]at hd;obtain⟨i,rfl,_⟩:=cf hd.1;exact⟨a,b,y,i,rfl,ha,hb⟩
def A5{t:T}(h:bu cs t=ZC):cx [t]=.ok (.lst (lB t)):=by
 obtain⟨a,b,mo,le,rfl,_,_⟩:=jV h;refine cy rfl ?_
 show eJ [.va (.tup [a,b,.int le,mo]),.em]=_
 unfold eJ;rw[aE (Z':=[.va (.tup [a,b,.int le,mo]),.ow (.lst [.tup [b,a,.int (-le)]])]) (Dr (l:=[.tup [b,a,.int (-le)]]) (aq (ba (aq rfl (aq rfl (aq rfl rfl))) (az (k:=3) (by simp))) rfl) (by simp) (by simp))]
 have e:∀(Z:En) l,Z=[.va (.tup [a,b,.int le,mo]),.ow (.lst l)]->o2 dw (o2 aV (vr 0) (cn (.int 3))) (cn .non) Z=.ok (.bl (!mo.isN)):=λZ l z=>by subst z;rfl
 have e2:lB (.tup [a,b,.int le,mo])=.tup [b,a,.int (-le)] ::(if mo.isN then []else [.tup [a,b,mo]]):=rfl
 rw[e2]
 cases q:mo.isN with
 |true=>
  rw[aE (Z':=[.va (.tup [a,b,.int le,mo]),.ow (.lst [.tup [b,a,.int (-le)]])]) ((d7 (bf (by rw[e _ _ rfl,q];rfl))).trans rfl)]
  rfl
 |false=>
  rw[aE (Z':=[.va (.tup [a,b,.int le,mo]),.ow (.lst ([.tup [b,a,.int (-le)]] ++[.tup [a,b,mo]]))]) ((dS (bf (by rw[e _ _ rfl,q];rfl))).trans (qe (l:=[.tup [b,a,.int (-le)]]) (ba (aq rfl (aq rfl (aq rfl rfl))) (az (k:=3) (by simp))) rfl (by simp)))]
  rfl
abbrev bdG:T->En->Rs En:=gT 2 (eU (gN 2) (eU (gN 3) nK))
theorem Ae(R:T)(s4:Sl):∀(cs:List T)(acc:List T)(i:Nat)(s2 s3:Sl),(∀c∈cs,bw c=ZC)->acc.length+6*cs.length<=100 →
  ∃y2 y3,bx bdG bdF (cQ i cs) [.va R,.ow (.lst acc),s2,s3,s4]=.ok (.nx [.va R,.ow (.lst (acc++bC i cs)),y2,y3,s4])
 |[],acc,i,s2,s3,_,_=>⟨s2,s3,by simp[cQ,bx,bC]⟩
 |c::cs,acc,i,s2,s3,hc,hl=>by
  have h0:=hc c NP
  have hx:=xF (n:=i) h0;obtain⟨x,y,r,rfl,a1,a2,a3,a4⟩:=cS h0;rw[NU]at hl;rw[rC]at hx
  have st:bdF [.va R,.ow (.lst acc),.va (.int i),.va (.tup [.int x,.int y,.tup (r.map .int)]),s4]=.ok (.nx [.va R,.ow (.lst (acc++cB i x y r)),.va (.int i),.va (.tup [.int x,.int y,.tup (r.map .int)]),s4]):=
   Du (l:=acc) (aU (ts:=[.int i,.tup [.int x,.int y,.tup (r.map .int)]]) rfl (Ee i x y r a1 a2 a3 a4)) rfl (by omega)
  obtain⟨z2,z3,ih⟩:=Ae R s4 cs (acc++cB i x y r) (i+1) (.va (.int i)) (.va (.tup [.int x,.int y,.tup (r.map .int)])) (λc h=>hc c (NL _ h)) (by rw[NV];omega)
  refine⟨z2,z3,?_⟩
  rw[cQ,dR (Z1:=[.va R,.ow (.lst acc),.va (.int i),.va (.tup [.int x,.int y,.tup (r.map .int)]),s4]) rfl st,ih,bC,rC,Oo]
abbrev blF:V4:=o9 1 (cl cx (ae (vr 4) ai))
theorem Ad(R:T)(cs:List T)(s2 s3:Sl):∀(ls:List T)(acc:List T)(s4:Sl),(∀t∈ls,bu cs t=ZC)->acc.length+2*ls.length<=100 →
  ∃y4,bx (gN 4) blF ls [.va R,.ow (.lst acc),s2,s3,s4]=.ok (.nx [.va R,.ow (.lst (acc++ls.flatMap lB)),s2,s3,y4])
 |[],acc,s4,_,_=>⟨s4,by simp[bx]⟩
 |t::ls,acc,s4,hl,hn=>by
  rw[NU]at hn
  have:=yv t
  have st:blF [.va R,.ow (.lst acc),s2,s3,.va t]=.ok (.nx [.va R,.ow (.lst (acc++lB t)),s2,s3,.va t]):=Du (l:=acc) (aU (ts:=[t]) rfl (A5 (hl t NP))) rfl (by omega)
  obtain⟨y4,ih⟩:=Ad R cs s2 s3 ls (acc++lB t) (.va t) (λu h=>hl u (NL _ h)) (by rw[NV];omega)
  refine⟨y4,?_⟩
  rw[dR (Z1:=[.va R,.ow (.lst acc),s2,s3,.va t]) rfl st,ih,QV,Oo]
variable{R:T}
def fW(hp:R.pl=ZC)(h:cO R=ZC):aY [R]=.ok .non:=by
 refine yw (Z:=[.va R]) rfl ?_
 show ee [.va R]=_
 unfold ee;exact(d7 ((gY (k:=ZC) (bf (aU (ts:=[R]) rfl (by rw[qr R hp,h])))))).trans rfl
def rV(hp:R.pl=ZC)(h:cO R=ZD):aY [R]=.err "NoRecord":=by
 refine gW rfl ?_
 show ee [.va R]=_
 unfold ee;exact(dS ((gY (k:=ZD) (bf (aU (ts:=[R]) rfl (by rw[qr R hp,h])))))).trans rfl
structure Good (cs ls:List T):Prop where
 c:a9 (.tup cs)=ZC
 l:∀t∈ls,bu cs t=ZC
 n:ls.length<=8
 p:(RR cs ls).pl=ZC
variable{ls:List T}
def Good.ok(g:Good cs ls):cO (RR cs ls)=ZC:=by
 show(a9 (.tup cs)&&(d6 (.tup ls) 0 8&&ls.all (bu cs)))=ZC
 rw[g.c,QU,NN,Od];exact⟨by simp[d6];exact g.n,g.l⟩
def Eb(g:Good cs ls):iQ [RR cs ls]=.ok (.lst (Ko cs ls)):=by
 obtain⟨hc,c1,c4⟩:=bh g.c
 have hn:=g.n;refine cy rfl ?_
 show qG [.va (RR cs ls),.em,.em,.em,.em]=_
 unfold qG;rw[aE (ri (t:=.non) (aU (ts:=[RR cs ls]) rfl (fW g.p g.ok)))];rw[aE (Z':=[.va (RR cs ls),.ow (.lst []),.em,.em,.em]) (yy (by simp))]
 obtain⟨y2,y3,e⟩:=Ae (RR cs ls) .em cs [] 0 .em .em hc (by simp;omega)
 rw[aE ((fY (ts:=cQ 0 cs) rfl e))]
 have:=u7 (i:=0) hc;obtain⟨y4,e2⟩:=Ad (RR cs ls) cs y2 y3 ls ([] ++bC 0 cs) .em g.l (by rw[Pt];omega)
 rw[aE ((fY (ts:=ls) rfl e2))]
 rfl
abbrev Bp(R:T)(acc:List T)(n:Nat)(x y:Int)(r:List Int)(s6 s7 s8 s9 s10 s11:Sl):En:=[.va R,.ow (.lst acc),.va (.int n),.va (.int x),.va (.int y),.va (.tup (r.map .int)),s6,s7,s8,s9,s10,s11]
def Gh(R:T)(n:Nat)(x y:Int)(r:List Int)(acc:List T)(k:Nat)(s7 s8 s9 s10 s11:Sl)(hk:k+1<r.length)(hx:0<=x/\x<=9)(hy:0<=y/\y<=9)(ha:acc.length<=100):
  lkF (Bp R acc n x y r (.va (.int ((k+1:Nat):Int))) s7 s8 s9 s10 s11)=.ok (.nx (Bp R (acc++pr n x y r k) n x y r (.va (.int ((k+1:Nat):Int))) (.va (.int (dr r k))) s8 s9 s10 s11)):=by
 have sb:∀acc s7,o2 cZ (vr 6) (cn (.int 1)) (Bp R acc n x y r (.va (.int ((k+1:Nat):Int))) s7 s8 s9 s10 s11)=.ok (.int k):=λacc s7=>aL (t:=.int ((k+1:Nat):Int)) (u:=.int 1) rfl rfl (congrArg (λz=>Rs.ok (T.int z)) (by omega))
 refine(aE (Z':=Bp R acc n x y r (.va (.int ((k+1:Nat):Int))) (.va (.int (dr r k))) s8 s9 s10 s11) (bV (t:=.int (dr r k)) (aL (t:=.int (r.getD (k+1) 0)) (u:=.int (r.getD k 0)) (iA (n:=k+1) rfl rfl (kI hk)) (iA (n:=k) rfl (sb acc s7) (kI (by omega))) rfl) rfl)).trans ?_
 refine(aE (Z':=Bp R (acc++[.tup [.tup [.int n,.int k],.tup [.int n,.int ((k+1:Nat):Int)],.int (dr r k*y)]]) n x y r (.va (.int ((k+1:Nat):Int))) (.va (.int (dr r k))) s8 s9 s10 s11) (qe (l:=acc) (ba (aq (ba (aq rfl (aq (sb _ _) rfl)) (az (k:=2) (by simp))) (aq (ba rfl (az (k:=2) (by simp))) (aq (aL (t:=.int y) (u:=.int (dr r k)) rfl rfl ((lb (by omega) (by omega)).trans (by rw[Int.mul_comm]))) rfl))) (az (k:=3) (by simp))) rfl (by omega))).trans ?_
 refine(qe (l:=acc++[.tup [.tup [.int n,.int k],.tup [.int n,.int ((k+1:Nat):Int)],.int (dr r k*y)]]) (t:=.tup [.tup [.int n,.int ((k+1:Nat):Int)],.tup [.int n,.int k],.int (-dr r k*x)]) (ba (aq (ba rfl (az (k:=2) (by simp))) (aq (ba (aq rfl (aq (sb _ _) rfl)) (az (k:=2) (by simp))) (aq (aL (t:=.int 0) (u:=.int (x*dr r k)) rfl (aL (t:=.int x) (u:=.int (dr r k)) rfl rfl (lb (by omega) (by omega))) (congrArg (λz=>Rs.ok (T.int z)) (by rw[Int.neg_mul,Int.mul_comm x,Int.zero_sub]))) rfl))) (az (k:=3) (by simp))) rfl (by rw[NV];simp;omega)).trans ?_
 rw[Oo]
 rfl
theorem zA(R:T)(n:Nat)(x y:Int)(r:List Int)(s8 s9 s10 s11:Sl)(hx:0<=x/\x<=9)(hy:0<=y/\y<=9):∀(js:List Nat)(acc:List T)(s6 s7:Sl),(∀k∈js,k+1<r.length)->acc.length+2*js.length<=100 →
  ∃t6 t7,bx (gN 6) lkF (js.map λ(k:Nat)=>T.int ((k+1:Nat):Int)) (Bp R acc n x y r s6 s7 s8 s9 s10 s11)=.ok (.nx (Bp R (acc++js.flatMap (pr n x y r)) n x y r t6 t7 s8 s9 s10 s11))
 |[],acc,s6,s7,_,_=>⟨s6,s7,by simp[bx]⟩
 |k::js,acc,s6,s7,hk,hl=>by
  rw[NU]at hl
  have e:=Gh R n x y r acc k s7 s8 s9 s10 s11 (hk k NP) hx hy (by omega)
  obtain⟨t6,t7,ih⟩:=zA R n x y r s8 s9 s10 s11 hx hy js (acc++pr n x y r k) (.va (.int ((k+1:Nat):Int))) (.va (.int (dr r k))) (λj hj=>hk j (NL _ hj)) (by rw[NV];simp[pr];omega)
  refine⟨t6,t7,?_⟩
  rw[NO,dR (Z1:=Bp R acc n x y r (.va (.int ((k+1:Nat):Int))) s7 s8 s9 s10 s11) rfl e,ih,QV,Oo]
def Fm(n:Nat)(h:1<=n):rng 1 (n:Int)=(OI (n - 1)).map λ(k:Nat)=>T.int ((k+1:Nat):Int):=by
 unfold rng
 have:((n:Int) - 1).toNat=n - 1:=by omega
 rw[this];exact OV λk _=>congrArg T.int (by omega)
variable{Z:En}
def iR2{f:V3}{i j:Int}(h:f Z=.ok [.int i,.int j])(h0:0<=i)(h1:i<=100000)(h2:0<=j)(h3:j<=100000):iR f Z=.ok (rng i j):=by
 unfold iR;rw[h]
 have e:(yF i&&yF j)=ZC:=by unfold yF;simp;omega
 show(if (yF i&&yF j)=ZC then _ else _)=_
 rw[e];rfl
abbrev LV:V4:=(fI (iR (ae (cn (.int 1)) (ae (cl bO (ae (vr 5) ai)) ai))) (gN 6) lkF)
abbrev lcG:T->En->Rs En:=gT 2 (eU (gN 2) (eU (gT 3 (eU (gN 3) (eU (gN 4) (eU (gN 5) nK)))) nK))
theorem zF(R:T)(s8 s9 s10 s11:Sl):∀(cs:List T)(acc:List T)(i:Nat)(s2 s3 s4 s5 s6 s7:Sl),(∀c∈cs,bw c=ZC)->acc.length+6*cs.length<=90 →
  ∃y2 y3 y4 y5 y6 y7,bx lcG LV (cQ i cs) [.va R,.ow (.lst acc),s2,s3,s4,s5,s6,s7,s8,s9,s10,s11]=.ok (.nx [.va R,.ow (.lst (acc++bC i cs)),y2,y3,y4,y5,y6,y7,s8,s9,s10,s11])
 |[],acc,i,s2,s3,s4,s5,s6,s7,_,_=>⟨s2,s3,s4,s5,s6,s7,by simp[cQ,bx,bC]⟩
 |c::cs,acc,i,s2,s3,s4,s5,s6,s7,hc,hl=>by
  have h0:=hc c NP
  have hx:=xF (n:=i) h0;obtain⟨x,y,r,rfl,a1,a2,a3,a4⟩:=cS h0;rw[NU]at hl;rw[rC]at hx;obtain⟨t6,t7,e⟩:=zA R i x y r s8 s9 s10 s11 a1 a2 (OI (r.length - 1)) acc s6 s7 (λk hk=>by have:=Pr.mp hk;omega) (by rw[Qs];omega)
  have e1:iR (ae (cn (.int 1)) (ae (cl bO (ae (vr 5) ai)) ai)) (Bp R acc i x y r s6 s7 s8 s9 s10 s11)=.ok (rng 1 (r.length:Nat)):=
   iR2 (i:=1) (j:=(r.length:Nat)) (aq rfl (aq (aU (ts:=[.tup (r.map .int)]) rfl (by show Rs.ok (T.int ((r.map T.int).length:Nat))=_;rw[NR])) rfl)) (by omega) (by omega) (by omega) (by omega)
  have st:LV (Bp R acc i x y r s6 s7 s8 s9 s10 s11)=.ok (.nx (Bp R (acc++cB i x y r) i x y r t6 t7 s8 s9 s10 s11)):=(fY (ts:=(OI (r.length - 1)).map λ(k:Nat)=>T.int ((k+1:Nat):Int)) (by rw[e1,Fm _ a3]) e)
  obtain⟨z2,z3,z4,z5,z6,z7,ih⟩:=zF R s8 s9 s10 s11 cs (acc++cB i x y r) (i+1) (.va (.int i)) (.va (.int x)) (.va (.int y)) (.va (.tup (r.map .int))) t6 t7 (λc h=>hc c (NL _ h)) (by rw[NV];omega)
  refine⟨z2,z3,z4,z5,z6,z7,?_⟩
  rw[cQ,dR (Z1:=Bp R acc i x y r s6 s7 s8 s9 s10 s11) rfl st,ih,bC,rC,Oo]
abbrev llG:T->En->Rs En:=gT 4 (eU (gN 8) (eU (gN 9) (eU (gN 10) (eU (gN 11) nK))))
theorem zy(R:T)(cs:List T)(s2 s3 s4 s5 s6 s7:Sl):∀(ls:List T)(acc:List T)(s8 s9 s10 s11:Sl),(∀t∈ls,bu cs t=ZC)->acc.length+2*ls.length<=100 →
  ∃y8 y9 y10 y11,bx llG llF ls [.va R,.ow (.lst acc),s2,s3,s4,s5,s6,s7,s8,s9,s10,s11]=.ok (.nx [.va R,.ow (.lst (acc++ls.flatMap lB)),s2,s3,s4,s5,s6,s7,y8,y9,y10,y11])
 |[],acc,s8,s9,s10,s11,_,_=>⟨s8,s9,s10,s11,by simp[bx]⟩
 |t::ls,acc,s8,s9,s10,s11,hl,hn=>by
  rw[NU]at hn
  have hlb:=yv t;obtain⟨a,b,mo,le,rfl,_,_⟩:=jV (hl t NP)
  have e2:lB (.tup [a,b,.int le,mo])=.tup [b,a,.int (-le)] ::(if mo.isN then []else [.tup [a,b,mo]]):=rfl
  have e:∀l,o2 dw (vr 11) (cn .non) [.va R,.ow (.lst l),s2,s3,s4,s5,s6,s7,.va a,.va b,.va (.int le),.va mo]=.ok (.bl (!mo.isN)):=λl=>rfl
  have st:llF [.va R,.ow (.lst acc),s2,s3,s4,s5,s6,s7,.va a,.va b,.va (.int le),.va mo]=.ok (.nx [.va R,.ow (.lst (acc++lB (.tup [a,b,.int le,mo]))),s2,s3,s4,s5,s6,s7,.va a,.va b,.va (.int le),.va mo]):=by
   refine(aE (Z':=[.va R,.ow (.lst (acc++[.tup [b,a,.int (-le)]])),s2,s3,s4,s5,s6,s7,.va a,.va b,.va (.int le),.va mo]) (qe (l:=acc) (t:=.tup [b,a,.int (-le)]) (ba (aq rfl (aq rfl (aq (aL (t:=.int 0) (u:=.int le) rfl rfl (congrArg (λz=>Rs.ok (T.int z)) (Int.zero_sub le))) rfl))) (az (k:=3) (by simp))) rfl (by omega))).trans ?_
   rw[e2]
   cases q:mo.isN with
   |true=>exact(d7 (bf (by rw[e,q];rfl))).trans rfl
   |false=>
    refine(dS (bf (by rw[e,q];rfl))).trans ((qe (l:=acc++[.tup [b,a,.int (-le)]]) (t:=.tup [a,b,mo]) (ba (aq rfl (aq rfl (aq rfl rfl))) (az (k:=3) (by simp))) rfl (by rw[NV];simp;omega)).trans ?_)
    rw[Oo]
    rfl
  obtain⟨y8,y9,y10,y11,ih⟩:=zy R cs s2 s3 s4 s5 s6 s7 ls (acc++lB (.tup [a,b,.int le,mo])) (.va a) (.va b) (.va (.int le)) (.va mo) (λu h=>hl u (NL _ h)) (by rw[NV];omega)
  refine⟨y8,y9,y10,y11,?_⟩
  rw[dR (Z1:=[.va R,.ow (.lst acc),s2,s3,s4,s5,s6,s7,.va a,.va b,.va (.int le),.va mo]) rfl st,ih,QV,Oo]
def A4(hcs:a9 (.tup cs)=ZC)(hls:∀t∈ls,bu cs t=ZC)(hn:ls.length<=8):fR [RR cs ls]=.ok (.lst (Ko cs ls)):=by
 obtain⟨hc,c1,c4⟩:=bh hcs;refine cy rfl ?_
 show iH [.va (RR cs ls),.em,.em,.em,.em,.em,.em,.em,.em,.em,.em,.em]=_
 unfold iH;rw[aE (Z':=[.va (RR cs ls),.ow (.lst []),.em,.em,.em,.em,.em,.em,.em,.em,.em,.em]) (yy (by simp))]
 obtain⟨y2,y3,y4,y5,y6,y7,e⟩:=zF (RR cs ls) .em .em .em .em cs [] 0 .em .em .em .em .em .em hc (by simp;omega)
 rw[aE ((fY (ts:=cQ 0 cs) rfl e))]
 have:=u7 (i:=0) hc;obtain⟨y8,y9,y10,y11,e2⟩:=zy (RR cs ls) cs y2 y3 y4 y5 y6 y7 ls ([] ++bC 0 cs) .em .em .em .em hls (by rw[Pt];omega)
 rw[aE ((fY (ts:=ls) rfl e2))]
 rfl
def fJ{l:List T}:(T.tup l).pl=plS l:=by unfold T.pl;rfl
def Good.parts(g:Good cs ls):(T.tup cs).pl=ZC/\∀t∈ls,t.pl=ZC:=by
 have:=g.p;rw[fJ]at this;unfold plS at this;rw[NN]at this
 have h2:=this.2;unfold plS at h2;rw[NN,fJ]at h2;exact⟨this.1,λt ht=>gy h2.1 ht⟩
def Good.sub{ms:List T}(g:Good cs ls)(hm:∀t∈ms,t∈ls)(hn:ms.length<=8):Good cs ms:=⟨g.c,λt ht=>g.l t (hm t ht),hn,by
 obtain⟨h1,h2⟩:=g.parts;rw[fJ];refine gk λt ht=>?_
 simp only[NT,Po,or_false]at ht;rcases ht with rfl|rfl
 ·exact h1
 ·rw[fJ];exact gk λt ht=>h2 t (hm t ht)⟩
def HA{y:T}(h:aX cs y=ZC):y.pl=ZC/\y.dep<=1:=by
 obtain⟨c,k,rfl⟩:=b9 h;exact⟨rfl,by simp[T.dep,deps]⟩
def LL{a b x y:T}(h:bu cs (.tup [a,b,x,y])=ZC):y.pl=ZC/\y.dep=0:=by
 obtain⟨a',b',x',y',e,hd,_⟩:=dj h;cases e;unfold dD at hd;rw[NN]at hd;obtain⟨i,rfl,_⟩:=cf hd.1
 cases y with
 |non=>exact⟨rfl,rfl⟩
 |int j=>exact⟨rfl,rfl⟩
 |bl j=>exact⟨rfl,rfl⟩
 |str j=>exact⟨rfl,rfl⟩
 |tup j=>cases hd.2
 |lst j=>cases hd.2
 |scr j=>cases hd.2
 |dct _ _=>cases hd.2
 |ob _ _ _=>cases hd.2
def vW(c0 s1:Sl)(x y:T)(r:List T)(i:Nat)(h:r.length<=4):
  ig (iR (ae (cl bO (ae (o2 aV (vr 3) (cn (.int 2))) ai)) ai)) [ZB,ZA 2] (gN 0) bT (aK (ae (vr 1) (ae (vr 0) ai))) [c0,s1,.va (.int i),.va (.tup [x,y,.tup r])]=.ok (.lst (n6 i r.length)):=
 yA (JY (j:=(r.length:Int)) rfl (by omega) (by omega)) (az (k:=4) (by rw[md];exact h)) (by simp) λt _=>mk2 _ _
theorem zm:∀(cs:List T)(c0:T)(acc:List T)(i:Nat)(s2 s3:Sl),(∀c∈cs,bw c=ZC)->acc.length+4*cs.length<=100 →
  ∃y2 y3,bx evG peF (cQ i cs) [.va c0,.ow (.lst acc),s2,s3]=.ok (.nx [.va c0,.ow (.lst (acc++d9 i cs)),y2,y3])
 |[],c0,acc,i,s2,s3,_,_=>⟨s2,s3,by simp[cQ,bx,d9]⟩
 |c::cs,c0,acc,i,s2,s3,hc,hl=>by
  obtain⟨x,y,r,rfl,r1,r2⟩:=ik (hc c NP);rw[NU]at hl
  have st:peF [.va c0,.ow (.lst acc),.va (.int i),.va (.tup [x,y,.tup r])]=.ok (.nx [.va c0,.ow (.lst (acc++n6 i r.length)),.va (.int i),.va (.tup [x,y,.tup r])]):=Du (l:=acc) (vW _ _ x y r i r2) rfl (by rw[j9];omega)
  obtain⟨z2,z3,ih⟩:=zm cs c0 (acc++n6 i r.length) (i+1) (.va (.int i)) (.va (.tup [x,y,.tup r])) (λc h=>hc c (NL _ h)) (by rw[NV,j9];omega)
  refine⟨z2,z3,?_⟩
  rw[cQ,dR (Z1:=[.va c0,.ow (.lst acc),.va (.int i),.va (.tup [x,y,.tup r])]) rfl st,ih,d9,Oo]
  rfl
def CK(g:Good cs ls):jT [RR cs ls]=.ok (.lst (d9 0 cs)):=by
 obtain⟨hc,c1,c4⟩:=bh g.c;refine cy rfl ?_
 show qF [.va (RR cs ls),.em,.em,.em]=_
 unfold qF;rw[aE (ri (t:=.non) (aU (ts:=[RR cs ls]) rfl (fW g.p g.ok)))];rw[aE (Z':=[.va (RR cs ls),.ow (.lst []),.em,.em]) (yy (by simp))]
 obtain⟨y2,y3,e⟩:=zm cs (RR cs ls) [] 0 .em .em hc (by simp;omega)
 rw[aE ((fY (ts:=cQ 0 cs) rfl e))]
 rfl
def p2{a b:V5}{t u:T}(ha:a Z=.ok t)(hb:b Z=.ok u):aK (ae a (ae b ai)) Z=.ok (.tup [t,u]):=ba (aq ha (aq hb rfl)) (az (k:=2) (by simp))
def GY(g:Good cs ls):(Ko cs ls).length<=60:=by
 unfold Ko;rw[NV];obtain⟨hc,c1,c4⟩:=bh g.c
 have:=u7 (i:=0) hc
 have:=zH ls
 have:=g.n;omega
end G
namespace G
open PySem Tr Gr
structure N2 where
 c:Int
 k:Int
deriving DecidableEq
theorem N2.ext':∀{u v:N2},u.c=v.c->u.k=v.k->u=v
 |⟨_,_⟩,⟨_,_⟩,rfl,rfl=>rfl
def en(v:N2):T:=.tup [.int v.c,.int v.k]
noncomputable def eB(x:N2×N2×Int):T:=.tup [en x.1,en x.2.1,.int x.2.2]
def eN(ks:List Nat):List T:=ks.map λk=>.int (k:Nat)
def eW(x:Int×List Nat):T:=.tup [.int x.1,.lst (eN x.2)]
def ky(v:N2):List L2.Key:=[.inl v.c,.inl v.k]
def bA(v:N2):keyOf (en v)=ZA (ky v):=rfl
variable{v:N2}
def ja{u:N2}(h:ZA (ky u)=ZA (ky v)):u=v:=by
 injection h with h
 injection h with h1 h2
 injection h2 with h2 _
 injection h1 with h1
 injection h2 with h2
 exact N2.ext' h1 h2
def J4{u:N2}(h:en u=en v):u=v:=ja (by rw[<-bA u,<-bA v,h])
def Es(u v:N2):bo (en u) (en v)=decide (u=v):=by
 unfold en bo beqTs bo beqTs beqTs
 by_cases h:u=v
 ·subst h;simp[bo]
 ·have:¬ (u.c=v.c/\u.k=v.k):=λz=>h (N2.ext' z.1 z.2)
  simp[h,bo];exact λz=>λy=>this ⟨z,y⟩
theorem oH(g:N2->T)(v:N2):∀(ns:List N2),n8 (ns.map en) (ns.map g) (ky v)=if v∈ns then ZA (g v)else ZB
 |[] =>rfl
 |u::ns=>by
  rw[NO,NO,n8,bA]
  by_cases h:u=v
  ·subst h;rw[if_pos rfl,if_pos NP]
  ·rw[if_neg (λz=>h (ja z)),oH g v ns]
   have:(v∈u::ns)↔v∈ns:=by rw[NT];exact⟨λz=>z.elim (λy=>absurd y.symm h) id,.inr⟩
   simp only[this]
theorem qu(x:T)(v:N2)(g:N2->T):∀(ns:List N2),v∉ns->hI (en v) x (ns.map en) (ns.map g)=(ns.map en++[en v],ns.map g++[x])
 |[],_=>rfl
 |u::ns,h=>by
  rw[NT,not_or]at h;rw[NO,NO,hI,bA,bA,if_neg (λz=>h.1 (ja z).symm),qu x v g ns h.2]
  rfl
theorem uV(x:T)(v:N2)(g:N2->T):∀(ns:List N2),ns.Nodup->v∈ns->hI (en v) x (ns.map en) (ns.map g)=(ns.map en,ns.map λu=>if u=v then x else g u)
 |[],_,h=>by simp at h
 |u::ns,hn,h=>by
  rw[Og]at hn;rw[NO,NO,NO,hI,bA,bA]
  by_cases z:u=v
  ·subst z
   rw[if_pos rfl,if_pos rfl]
   congr 2
   exact OV λw hw=>by rw[if_neg (λ(y:w=u)=>hn.1 (y▸hw))]
  ·rw[if_neg (λy=>z (ja y)),if_neg z]
   have h':v∈ns:=(NT.mp h).elim (λy=>absurd y.symm z) id
   rw[uV x v g ns hn.2 h']
theorem kC{α:Type}[DecidableEq α]:∀{l m:List α},l.Nodup->(∀x∈l,x∈m)->l.length<=m.length
 |[],_,_,_=>Qk _
 |x::l,m,hn,h=>by
  rw[Og]at hn
  have hx:=h x NP
  have:=kC (m:=m.erase x) hn.2 λy hy=>(Tg (λ(z:y=x)=>hn.1 (z▸hy))).mpr (h y (NL _ hy))
  rw[List.length_erase_of_mem hx]at this
  have:0<m.length:=List.length_pos_of_mem hx;rw[NU];omega
def oW(o:Option (Int×List Nat)):T:=match o with
 |some x=>eW x
 |none=>.non
structure DR (P ns:List N2)(b:cC N2):Prop where
 nd:ns.Nodup
 mem:∀v,v∈ns↔(b v).isSome=ZC
 sub:∀v∈ns,v∈P
def dV(ns:List N2)(b:cC N2):List T:=ns.map λv=>oW (b v)
variable{P ns:List N2}{b:cC N2}
def DR.get(D:DR P ns b)(v:N2):n8 (ns.map en) (dV ns b) (ky v)=(b v).map eW:=by
 unfold dV;rw[oH (λv=>oW (b v))]
 have:=D.mem v
 cases q:b v with
 |none=>rw[q]at this;rw[if_neg (λz=>by simpa using this.mp z)];rfl
 |some x=>rw[q]at this;rw[if_pos (this.mpr rfl)];rfl
def DR.put(D:DR P ns b)(hv:v∈P)(y:Int×List Nat):∃ns',DR P ns' (Gr.put b v y)/\hI (en v) (eW y) (ns.map en) (dV ns b)=(ns'.map en,dV ns' (Gr.put b v y)):=by
 by_cases h:v∈ns
 ·refine⟨ns,⟨D.nd,λu=>?_,D.sub⟩,?_⟩
  ·by_cases z:u=v
   ·subst z;rw[ff];exact⟨λ_=>rfl,λ_=>h⟩
   ·rw[lx z];exact D.mem u
  ·unfold dV
   rw[uV _ _ _ _ D.nd h]
   congr 1
   refine OV λu _=>?_
   by_cases z:u=v
   ·subst z;rw[if_pos rfl,ff];rfl
   ·rw[if_neg z,lx z]
 ·refine⟨ns++[v],⟨?_,λu=>?_,λu hu=>?_⟩,?_⟩
  ·exact OQ.mpr ⟨D.nd,by simp,λx hx y hy=>by simp at hy;subst hy;exact λz=>h (z▸hx)⟩
  ·rw[Oi,N1]
   by_cases z:u=v
   ·subst z;rw[ff];exact⟨λ_=>rfl,λ_=>.inr rfl⟩
   ·rw[lx z,<-D.mem u];exact⟨λw=>w.elim id λy=>absurd y z,.inl⟩
  ·rcases Oi.mp hu with w|w
   ·exact D.sub u w
   ·rw[N1.mp w];exact hv
  ·unfold dV
   rw[qu _ _ _ _ h,O8,O8]
   congr 1
   congr 1
   ·refine OV λu hu=>?_
    rw[lx (λ(z:u=v)=>h (z▸hu))]
   ·simp[ff,oW]
def Ed(D:DR P ns b)(x:N2×N2×Int)(d:Int)(w:List Nat):
  dM [.dct (ns.map en) (dV ns b),eB x,eW (d,w)]=.ok (.bl (ft b x.2.1 (d+x.2.2))):=by
 refine cy rfl ?_
 show km [.va (.dct (ns.map en) (dV ns b)),.va (eB x),.va (eW (d,w)),.em]=_
 unfold km
 have g:oD jw (vr 0) (o2 aV (vr 1) (cn (.int 1))) [.va (.dct (ns.map en) (dV ns b)),.va (eB x),.va (eW (d,w)),.em]=.ok (oW (b x.2.1)):=by
  refine L1 (ks:=ns.map en) (vs:=dV ns b) (u:=en x.2.1) rfl rfl ?_
  unfold jw;rw[bA];simp only[D.get];cases b x.2.1 <;> rfl
 rw[aE (bV (t:=oW (b x.2.1)) (Z':=[.va (.dct (ns.map en) (dV ns b)),.va (eB x),.va (eW (d,w)),.va (oW (b x.2.1))]) g rfl)];refine cT ?_
 unfold ft
 cases q:b x.2.1 with
 |none=>exact JM (aL (t:=.non) (u:=.non) rfl rfl rfl)
 |some y=>exact(JN (aL (t:=eW y) (u:=.non) rfl rfl rfl)).trans (aL (t:=.int (d+x.2.2)) (u:=.int y.1) rfl rfl rfl)
abbrev MG:T->En->Rs En:=gT 2 (eU (gN 4) (eU (gN 5) nK))
def eL(L:cj N2):T:=.lst (L.map eB)
def BU(L:cj N2)(t:T):T:=match t with
 |.int j=>match L[j.toNat]? with
  |some x=>en x.1
  |none=>.non
 |_=>.non
theorem zu{L:cj N2}:∀{ks:List Nat}{a b:N2},Ch L a ks b->(eN ks).map (BU L)=(fz L ks).map en
 |[],_,_,_=>rfl
 |k::r,a,b,h=>by
  rw[h.MY];obtain⟨c,m,e,h⟩:=h
  show BU L (.int k)::(eN r).map (BU L)=en a::(fz L r).map en
  rw[zu h]
  congr 1
  unfold BU;simp only[PD,e]
theorem Ex(v:N2):∀(l:List N2),fF (en v) (l.map en)=decide (v∈l)
 |[] =>rfl
 |u::l=>by
  have ih:=Ex v l;unfold fF at ih ⊢;rw[NO,Qa,ih,Es]
  by_cases h:u=v
  ·subst h;simp
  ·have h':¬ v=u:=λz=>h z.symm
   simp[h,h']
theorem w4(v:N2):∀(l:List N2)(n:Nat),v∈l->kL (en v) (l.map en) n=ZA (n+l.idxOf v)
 |[],n,h=>by simp at h
 |u::l,n,h=>by
  rw[NO,kL,Es,Vd]
  by_cases z:u=v
  ·subst z;simp
  ·have h':v∈l:=(NT.mp h).elim (λy=>absurd y.symm z) id
   have zb:(u == v)=ZD:=by rw[beq_eq_false_iff_ne];exact z
   rw[zb,decide_eq_false z,if_neg N0,w4 v l (n+1) h'];simp only[cond_false]
   congr 1
   omega
def Hm(v:N2):(en v).nd=ZC:=rfl
theorem uM{α:Type}(f:α->T)(h:∀a,(f a).nd=ZC):∀l:List α,nds (l.map f)=ZC
 |[] =>rfl
 |a::l=>by rw[NO,nds,h a,uM f h l];rfl
def Ei(v:N2):(en v).dep<=60:=by show(T.tup [.int v.c,.int v.k]).dep<=60;simp[T.dep,deps]
def Mf(v:N2)(l:List N2):AZ (en v) (.lst (l.map en))=.ok (.bl (decide (v∈l))):=by
 show(if (_\/_)/\_/\(T.lst (l.map en)).nd=ZC then _ else _)=_
 rw[if_pos ⟨.inl (Ei v),rfl,uM en Hm l⟩,Ex]
def DA(v:N2)(l:List N2)(h:v∈l):hZ (.lst (l.map en)) (en v)=.ok (.int ((l.idxOf v:Nat):Int)):=by
 unfold hZ;simp only;rw[if_pos ⟨.inl (Ei v),rfl,uM en Hm l⟩,w4 v l 0 h,Nat.zero_add]
def Kd(p q:List Nat):eN (p++q)=eN p++eN q:=by unfold eN;rw[O8]
theorem CZ(D:Bool):∀ks:List Nat,nks D (eN ks)=ZC
 |[] =>rfl
 |k::r=>by show nks D (.int k::eN r)=ZC;unfold nks;rw[CZ D r];rfl
variable{L:cj N2}
def Ch.len{ks:List Nat}{a b:N2}(h:Ch L a ks b)(hn:(fz L ks).Nodup):ks.length<=L.length:=by
 have:=kC (h.nodup hn) (m:=OI L.length) λk hk=>Pr.mpr (h.lt k hk)
 rwa [Qs]at this
abbrev sE(L:cj N2)(st:T)(o:OT)(b:Bool)(k:Nat)(x:N2×N2×Int)(s6 s7 s8:Sl):En:=[.va (eL L),.va st,.ow o,.va (.bl b),.va (.int k),.va (eB x),s6,s7,s8]
def HD(L:cj N2)(P ns:List N2)(b:cC N2)(k:Nat)(x:N2×N2×Int)(st:T)(mv:Bool)(s6 s7 s8:Sl):Sum (Option (cC N2)) (List Nat)->Prop
 |.inl ZB=>∃s6' s7' s8',EI (sE L st (.dct (ns.map en) (dV ns b)) mv k x s6 s7 s8)=.ok (.ct (sE L st (.dct (ns.map en) (dV ns b)) mv k x s6' s7' s8'))
 |.inl (ZA b')=>∃ns' s6' s7' s8',DR P ns' b'/\EI (sE L st (.dct (ns.map en) (dV ns b)) mv k x s6 s7 s8)=.ok (.nx (sE L st (.dct (ns'.map en) (dV ns' b')) ZC k x s6' s7' s8'))
 |.inr q=>EI (sE L st (.dct (ns.map en) (dV ns b)) mv k x s6 s7 s8)=.ok (.rt (.tup [.non,.lst (eN q)]))
def Fi{S:List N2}{k:Nat}{x:N2×N2×Int}(K:Kept L S b)(D:DR P ns b)(hL:L.length<=500)(hP:P.length<1000)(e:L[k]?=ZA x)(hx:x.2.1∈P)(st:T)(mv:Bool)(s6 s7 s8:Sl):
  HD L P ns b k x st mv s6 s7 s8 (iO L b k x):=by
 obtain⟨a,c,m⟩:=x;unfold HD
 generalize hks:ns.map en=ks
 generalize hvs:dV ns b=vs
 have get:∀s7 s8,ln 2 (oD jw (vr 2) (o2 aV (vr 5) (cn (.int 0)))) (sE L st (.dct ks vs) mv k (a,c,m) s6 s7 s8)=.ok (oW (b a)):=λs7 s8=>by
  refine Gs (o:=.dct ks vs) rfl (L1 (ks:=ks) (vs:=vs) (u:=en a) rfl rfl ?_) ?_
  ·unfold jw
   rw[bA,<-hks,<-hvs];simp only[D.get];cases b a <;> rfl
  ·cases b a with
   |none=>rfl
   |some y=>show nks ZC [.int y.1,.lst (eN y.2)]=ZC;simp[nks,T.nk,CZ]
 have s1:∀G,aD (cg (ln 2 (oD jw (vr 2) (o2 aV (vr 5) (cn (.int 0))))) (gN 6)) G (sE L st (.dct ks vs) mv k (a,c,m) s6 s7 s8)=G (sE L st (.dct ks vs) mv k (a,c,m) (.va (oW (b a))) s7 s8):=λG=>
  aE (bV (t:=oW (b a)) (get s7 s8) rfl)
 cases qa:b a with
 |none=>
  rw[show iO L b k (a,c,m)=.inl ZB from by unfold iO;simp only[qa]]
  simp only;refine⟨.va .non,s7,s8,?_⟩
  unfold EI;rw[s1,qa]
  exact Dp (dS (F:=Hj) (Ht (bf (aL (t:=.non) (u:=.non) rfl rfl rfl))))
 |some y=>
  obtain⟨d,w⟩:=y
  have bt:∀s7 s8,JA 2 (tb (cl dM (ae (vr 2) (ae (vr 5) (ae (vr 6) ai))))) (sE L st (.dct ks vs) mv k (a,c,m) (.va (eW (d,w))) s7 s8)=.ok (ft b c (d+m)):=λs7 s8=>by
   refine L4 (bf (aU (ts:=[.dct ks vs,eB (a,c,m),eW (d,w)]) rfl ?_))
   rw[<-hks,<-hvs];exact Ed D (a,c,m) d w
  have nn:tb (o2 jZ (vr 6) (cn .non)) (sE L st (.dct ks vs) mv k (a,c,m) (.va (eW (d,w))) s7 s8)=.ok ZD:=bf (aL (t:=eW (d,w)) (u:=.non) rfl rfl rfl)
  have cond:=zK nn (gY (bt s7 s8))
  have s1':∀G,aD (cg (ln 2 (oD jw (vr 2) (o2 aV (vr 5) (cn (.int 0))))) (gN 6)) G (sE L st (.dct ks vs) mv k (a,c,m) s6 s7 s8)=G (sE L st (.dct ks vs) mv k (a,c,m) (.va (eW (d,w))) s7 s8):=λG=>by rw[s1 G,qa];rfl
  cases hb:ft b c (d+m)with
  |false=>
   rw[show iO L b k (a,c,m)=.inl ZB from by unfold iO;simp only[qa,hb];rfl]
   simp only;rw[hb]at cond;refine⟨.va (eW (d,w)),s7,s8,?_⟩
   unfold EI;rw[s1']
   exact Dp (dS (F:=Hj) cond)
  |true=>
   rw[hb]at cond;obtain⟨s,hs,h1,h2,h3,h4,h5⟩:=K.walk a d w qa
   have hch:Ch L s (w++[k]) c:=h1.snoc e
   have hwl:w.length<=500:=OJ (Ch.len h1 h4) hL
   have s2:∀G,aD (e9 (nS (tb (o2 jZ (vr 6) (cn .non))) (cI (JA 2 (tb (cl dM (ae (vr 2) (ae (vr 5) (ae (vr 6) ai)))))))) Hj sN) G (sE L st (.dct ks vs) mv k (a,c,m) (.va (eW (d,w))) s7 s8)=G (sE L st (.dct ks vs) mv k (a,c,m) (.va (eW (d,w))) s7 s8):=λG=>
    aE (Z':=(sE L st (.dct ks vs) mv k (a,c,m) (.va (eW (d,w))) s7 s8)) ((d7 (F:=Hj) (G:=sN) cond).trans rfl)
   have wk:o2 aP (o2 aV (vr 6) (cn (.int 1))) (fA (ae (vr 4) ai)) (sE L st (.dct ks vs) mv k (a,c,m) (.va (eW (d,w))) s7 s8)=.ok (.lst (eN (w++[k]))):=by
    refine aL (t:=.lst (eN w)) (u:=.lst (eN [k])) rfl (mr (ts:=[.int k]) rfl (az (k:=1) (by simp))) ?_
    show lh (eN w++eN [k])=_
    rw[<-Kd];unfold lh;rw[if_pos (az (k:=1000) (by unfold eN;rw[NR,NV];simp;omega))]
   have s3:∀G,aD (cg (o2 aP (o2 aV (vr 6) (cn (.int 1))) (fA (ae (vr 4) ai))) (gN 7)) G (sE L st (.dct ks vs) mv k (a,c,m) (.va (eW (d,w))) s7 s8)=G (sE L st (.dct ks vs) mv k (a,c,m) (.va (eW (d,w))) (.va (.lst (eN (w++[k])))) s8):=λG=>aE (bV wk rfl)
   have ps:ig (iS (vr 7)) [ZB,ZA 0] (gN 0) bT (o2 aV (o2 aV (vr 1) (vr 0)) (cn (.int 0))) (sE L st (.dct ks vs) mv k (a,c,m) (.va (eW (d,w))) (.va (.lst (eN (w++[k])))) s8)=.ok (.lst ((fz L (w++[k])).map en)):=by
    rw[<-zu hch];refine yA (ts:=eN (w++[k])) (Dt rfl) (az (k:=1000) (by unfold eN;rw[NR,NV];simp;omega)) (by simp) λt ht=>?_
    unfold eN at ht;obtain⟨j,hj,rfl⟩:=Om.mp ht
    have hjl:=hch.lt j hj;refine aL (t:=eB L[j]) (u:=.int 0) (L7 (l:=L.map eB) (n:=j) rfl rfl (by rw[Oe,N9 hjl];rfl)) rfl ?_
    unfold BU;simp only[PD,N9 hjl]
    rfl
   have s4:∀G,aD (cg (ig (iS (vr 7)) [ZB,ZA 0] (gN 0) bT (o2 aV (o2 aV (vr 1) (vr 0)) (cn (.int 0)))) (gN 8)) G (sE L st (.dct ks vs) mv k (a,c,m) (.va (eW (d,w))) (.va (.lst (eN (w++[k])))) s8)=G (sE L st (.dct ks vs) mv k (a,c,m) (.va (eW (d,w))) (.va (.lst (eN (w++[k])))) (.va (.lst ((fz L (w++[k])).map en)))):=λG=>aE (bV ps rfl)
   have inn:tb (o2 AZ (o2 aV (vr 5) (cn (.int 1))) (vr 8)) (sE L st (.dct ks vs) mv k (a,c,m) (.va (eW (d,w))) (.va (.lst (eN (w++[k])))) (.va (.lst ((fz L (w++[k])).map en))))=.ok (decide (c∈fz L (w++[k]))):=
    bf (aL (t:=en c) (u:=.lst ((fz L (w++[k])).map en)) rfl rfl (Mf c _))
   by_cases hn:c∈fz L (w++[k])
   ·rw[show iO L b k (a,c,m)=.inr ((w++[k]).drop ((fz L (w++[k])).idxOf c))from by unfold iO;simp only[qa,hb,if_pos hn,if_true]]
    simp only;unfold EI;rw[s1',s2,s3,s4];rw[decide_eq_true hn]at inn;refine gX ((dS inn).trans (cT ?_))
    have sle:sl (vr 7) (pS (oL hZ (vr 8) (o2 aV (vr 5) (cn (.int 1))))) pN (sE L st (.dct ks vs) mv k (a,c,m) (.va (eW (d,w))) (.va (.lst (eN (w++[k])))) (.va (.lst ((fz L (w++[k])).map en))))=.ok (.lst (eN ((w++[k]).drop ((fz L (w++[k])).idxOf c)))):=by
     rw[Hs (l:=eN (w++[k])) (lo:=ZA (((fz L (w++[k])).idxOf c:Nat):Int)) (hi:=ZB) rfl (wQ (k_oL (ks:=(fz L (w++[k])).map en) (u:=en c) rfl rfl (DA c _ hn))) rfl,xj];unfold eN;rw[List.map_drop]
    exact(ba (ts:=[.non,.lst (eN ((w++[k]).drop ((fz L (w++[k])).idxOf c)))]) (aq rfl (aq sle rfl)) (az (k:=2) (by simp)))
   ·rw[show iO L b k (a,c,m)=.inl (ZA (Gr.put b c (d+m,w++[k])))from by unfold iO;simp only[qa,hb,if_neg hn,if_true]]
    simp only;rw[decide_eq_false hn]at inn;obtain⟨ns',D',hd⟩:=D.put hx (d+m,w++[k]);refine⟨ns',.va (eW (d,w)),.va (.lst (eN (w++[k]))),.va (.lst ((fz L (w++[k])).map en)),D',?_⟩
    unfold EI;rw[s1',s2,s3,s4];rw[aE (Z':=(sE L st (.dct ks vs) mv k (a,c,m) (.va (eW (d,w))) (.va (.lst (eN (w++[k])))) (.va (.lst ((fz L (w++[k])).map en))))) ((d7 (G:=sN) inn).trans rfl)]
    have pt:Aw 2 (o2 aV (vr 5) (cn (.int 1))) (aK (ae (o2 aP (o2 aV (vr 6) (cn (.int 0))) (o2 aV (vr 5) (cn (.int 2)))) (ae (vr 7) ai))) (sE L st (.dct ks vs) mv k (a,c,m) (.va (eW (d,w))) (.va (.lst (eN (w++[k])))) (.va (.lst ((fz L (w++[k])).map en))))
      = .ok (.nx (sE L st (.dct (ns'.map en) (dV ns' (Gr.put b c (d+m,w++[k])))) mv k (a,c,m) (.va (eW (d,w))) (.va (.lst (eN (w++[k])))) (.va (.lst ((fz L (w++[k])).map en))))):=by
     have ev:aK (ae (o2 aP (o2 aV (vr 6) (cn (.int 0))) (o2 aV (vr 5) (cn (.int 2)))) (ae (vr 7) ai)) (sE L st (.dct ks vs) mv k (a,c,m) (.va (eW (d,w))) (.va (.lst (eN (w++[k])))) (.va (.lst ((fz L (w++[k])).map en))))=.ok (eW (d+m,w++[k])):=
      ba (ts:=[.int (d+m),.lst (eN (w++[k]))]) rfl (az (k:=2) (by simp))
     have ek:o2 aV (vr 5) (cn (.int 1)) (sE L st (.dct ks vs) mv k (a,c,m) (.va (eW (d,w))) (.va (.lst (eN (w++[k])))) (.va (.lst ((fz L (w++[k])).map en))))=.ok (en c):=rfl
     show(aK _ _ >>= λv=>o2 aV (vr 5) (cn (.int 1)) _ >>= λkk=>match keyOf kk with|some _=>if ks.length<1000 then Rs.ok (Fl.nx _)else .bad|none=>.bad)=_
     rw[ev,ay,ek,ay,bA]
     have hlen:ks.length<1000:=by rw[<-hks,NR];exact T1 (kC D.nd D.sub) hP
     simp only[if_pos hlen]
     have hd1:hI (en c) (eW (d+m,w++[k])) ks vs=(ns'.map en,dV ns' (Gr.put b c (d+m,w++[k]))):=by rw[<-hks,<-hvs];exact hd
     rw[hd1]
     rfl
    rw[aE pt];exact bV (t:=.bl ZC) rfl rfl
noncomputable def Bo(L:cj N2)(st:T)(ns:List N2)(b:cC N2)(mv:Bool)(s4 s5 s6 s7 s8:Sl):En:=[.va (eL L),.va st,.ow (.dct (ns.map en) (dV ns b)),.va (.bl mv),s4,s5,s6,s7,s8]
def EA(L:cj N2)(P:List N2)(st:T)(X:Rs Fl):Sum (cC N2×Bool) (List Nat)->Prop
 |.inr q=>X=.ok (.rt (.tup [.non,.lst (eN q)]))
 |.inl (b',mv')=>∃ns' s4 s5 s6 s7 s8,DR P ns' b'/\X=.ok (.nx (Bo L st ns' b' mv' s4 s5 s6 s7 s8))
theorem sZ{L:cj N2}{S P:List N2}(hL:L.length<=500)(hP:P.length<1000)(hx:∀x∈L,x.2.1∈P)(st:T):∀(r:cj N2)(k:Nat)(b:cC N2)(mv:Bool)(ns:List N2)(s4 s5 s6 s7 s8:Sl),L.drop k=r->Kept L S b->DR P ns b →
  EA L P st (bx MG EI (cQ k (r.map eB)) (Bo L st ns b mv s4 s5 s6 s7 s8)) (jo L k r b mv)
 |[],k,b,mv,ns,s4,s5,s6,s7,s8,_,K,D=>⟨ns,s4,s5,s6,s7,s8,D,rfl⟩
 |x::r,k,b,mv,ns,s4,s5,s6,s7,s8,hr,K,D=>by
  have e:L[k]?=ZA x:=by
   have:=congrArg (·[0]?) hr
   simpa using this
  have hr':L.drop (k+1)=r:=by
   have:=congrArg (List.drop 1) hr
   simpa [List.drop_drop,UD]using this
  have tg:MG (.tup [.int k,eB x]) (Bo L st ns b mv s4 s5 s6 s7 s8)=.ok [.va (eL L),.va st,.ow (.dct (ns.map en) (dV ns b)),.va (.bl mv),.va (.int k),.va (eB x),s6,s7,s8]:=rfl
  have tn:=Fi K D hL hP e (hx x (Qo e)) st mv s6 s7 s8;rw[jo,NO,cQ]
  cases q:iO L b k x with
  |inr w=>
   rw[q]at tn;simp only;unfold EA
   exact Gp tg tn
  |inl o=>
   rw[q]at tn
   cases o with
   |none=>
    obtain⟨s6',s7',s8',tn⟩:=tn;simp only;rw[Gq tg tn]
    exact sZ hL hP hx st r (k+1) b mv ns _ _ _ _ _ hr' K D
   |some b'=>
    obtain⟨ns',s6',s7',s8',D',tn⟩:=tn;simp only;rw[dR tg tn];refine sZ (S:=S) hL hP hx st r (k+1) b' ZC ns' _ _ _ _ _ hr' ?_ D'
    -- what is kept stays so
    obtain⟨a,c,m⟩:=x;unfold iO at q
    cases qa:b a with
    |none=>simp only[qa]at q;cases q
    |some y=>
     obtain⟨d,w⟩:=y;simp only[qa]at q
     split at q
     ·rename_i hb
      split at q
      ·cases q
      ·rename_i hn
       cases q;exact K.put e qa hb hn
     ·cases q
abbrev wF:V4:=aD (cg (cn (.bl ZD)) (gN 3)) (fI (iE (ae (vr 0) ai)) MG EI)
def SetP(L:cj N2)(P:List N2)(st:T)(X:Rs Fl):Sum (cC N2) (List Nat)->Prop
 |.inr q=>X=.ok (.rt (.tup [.non,.lst (eN q)]))
 |.inl b'=>∃ns' s4 s5 s6 s7 s8,DR P ns' b'/\X=.ok (.nx (Bo L st ns' b' ZD s4 s5 s6 s7 s8))
theorem vG{L:cj N2}{S P:List N2}(hL:L.length<=500)(hP:P.length<1000)(hx:∀x∈L,x.2.1∈P)(st:T):∀(n:Nat)(b:cC N2)(ns:List N2)(s4 s5 s6 s7 s8:Sl)(r:Sum (cC N2) (List Nat)),Kept L S b->DR P ns b->Gr.settle L n b=ZA r →
  SetP L P st (bZ (tb (vr 3)) wF (n+1) (Bo L st ns b ZC s4 s5 s6 s7 s8)) r
 |0,_,_,_,_,_,_,_,_,_,_,h=>by cases h
 |n+1,b,ns,s4,s5,s6,s7,s8,r,K,D,h=>by
  have sw:=sZ hL hP hx st L 0 b ZD ns s4 s5 s6 s7 s8 rfl K D
  have ok:=jC (S:=S) L 0 b ZD rfl K
  have body:∀X,bx MG EI (cQ 0 (L.map eB)) (Bo L st ns b ZD s4 s5 s6 s7 s8)=.ok X->wF (Bo L st ns b ZC s4 s5 s6 s7 s8)=.ok X:=λX hX=>by
   show aD _ _ _=_
   rw[aE (Z':=Bo L st ns b ZD s4 s5 s6 s7 s8) (bV (t:=.bl ZD) rfl rfl)];exact fY (ts:=cQ 0 (L.map eB)) (Ma rfl) hX
  have tt:tb (vr 3) (Bo L st ns b ZC s4 s5 s6 s7 s8)=.ok ZC:=rfl;rw[Gr.settle]at h
  revert sw ok h
  generalize jo L 0 L b ZD=R
  intro h sw ok
  cases R with
  |inr q=>
   simp only at h;cases h
   exact Dl tt (body _ sw)
  |inl p=>
   obtain⟨b',mv'⟩:=p;obtain⟨ns',t4,t5,t6,t7,t8,D',sw⟩:=sw;obtain⟨K',_⟩:=ok
   cases mv' with
   |true=>
    simp only at h
    have ih:=vG hL hP hx st n b' ns' t4 t5 t6 t7 t8 r K' D' h;rw[wO tt (body _ sw)]
    exact ih
   |false=>
    simp only at h;cases h;refine⟨ns',t4,t5,t6,t7,t8,D',?_⟩
    rw[wO tt (body _ sw)];exact Dm rfl
theorem iX{c:V6}{F:V4}{x:Fl}:∀{n m:Nat}{Z:En},n<=m->bZ c F n Z=.ok x->bZ c F m Z=.ok x
 |0,_,_,_,h=>by cases h
 |n+1,0,_,hl,_=>absurd hl (by omega)
 |n+1,m+1,Z,hl,h=>by
  unfold bZ at h ⊢
  cases q:c Z with
  |bad=>rw[q]at h;cases h
  |err _=>rw[q]at h;cases h
  |ok k=>
   rw[q]at h
   cases k with
   |false=>exact h
   |true=>
    simp only at h ⊢
    cases q2:F Z with
    |bad=>rw[q2]at h;cases h
    |err _=>rw[q2]at h;cases h
    |ok f=>
     rw[q2]at h
     cases f with
     |nx Z'=>exact iX (by omega) h
     |ct Z'=>exact iX (by omega) h
     |bk Z'=>exact h
     |rt t=>exact h
theorem Cy(w:T):∀S:List N2,Kv (S.map λv=>.tup [en v,w])=ZA (S.map λv=>(en v,w))
 |[] =>rfl
 |v::S=>by rw[NO,Kv,bA,Cy w S];rfl
theorem xc(w:T):∀(S ns:List N2)(g:N2->T),(ns++S).Nodup->(∀v∈S,g v=w)->kc (S.map λv=>(en v,w)) (ns.map en,ns.map g)=((ns++S).map en,(ns++S).map g)
 |[],ns,g,_,_=>by rw[Ol];rfl
 |v::S,ns,g,hn,hg=>by
  have hv:v∉ns:=λz=>by
   rw[OQ]at hn;exact hn.2.2 v z v NP rfl
  rw[NO,kc,qu _ _ _ _ hv]
  have e1:ns.map en++[en v]=(ns++[v]).map en:=by rw[O8];rfl
  have e2:ns.map g++[w]=(ns++[v]).map g:=by rw[O8,<-hg v NP];rfl
  rw[e1,e2,xc w S (ns++[v]) g (by rw[Oo];exact hn) λu hu=>hg u (NL _ hu),Oo]
  rfl
def GP(w:T)(S:List N2)(hn:S.Nodup)(hl:S.length<=1000):z8 [.lst (S.map λv=>.tup [en v,w])]=.ok (.dct (S.map en) (S.map λ_=>w)):=by
 unfold z8;simp only[Cy];rw[if_pos (by rw[NR];exact hl)]
 have:=xc w S [] (λ_=>w) (by simpa using hn) (λ_ _=>rfl)
 rw[Pt]at this;rw[show(([]:List T),([]:List T))=(([]:List N2).map en,([]:List N2).map λ_=>w)from rfl,this]
def eS(S:List N2):T:=.lst (S.map en)
def G5(L:cj N2)(P:List N2)(X:Rs T):Sum (cC N2) (List Nat)->Prop
 |.inr q=>X=.ok (.tup [.non,.lst (eN q)])
 |.inl b'=>∃ns',DR P ns' b'/\X=.ok (.tup [.dct (ns'.map en) (dV ns' b'),.non])
structure MC (L:cj N2)(P:List N2):Prop where
 len:L.length<=500
 size:size L<=100000000
 ends:∀x∈L,x.1∈P/\x.2.1∈P
 pl:P.length<1000
def SOk(L:cj N2)(S:List N2):Sum (cC N2) (List Nat)->Prop
 |.inr q=>Bar L q
 |.inl b'=>Settled L S b'
def DY{S:List N2}(F:MC L P)(hS:S.Nodup)(hSP:∀v∈S,v∈P):∃r,G5 L P (jS [eL L,eS S]) r/\SOk L S r:=by
 have bound:L.length*(2*size L+1)<1000000000000 - 1:=by
  have h1:=F.len
  have h2:=F.size
  have:L.length*(2*size L+1)<=500*(2*100000000+1):=Nat.mul_le_mul h1 (by omega)
  omega
 obtain⟨r,hr,ok⟩:=xR L S bound
 have ok':SOk L S r:=by cases r <;> exact ok
 refine⟨r,?_,ok'⟩
 have hSl:S.length<=1000:=OJ (kC hS hSP) (by have:=F.pl;omega)
 have D0:DR P S (Gr.start S):=⟨hS,λv=>by unfold Gr.start;by_cases h:v∈S <;> simp[h],hSP⟩
 have dv0:dV S (Gr.start S)=S.map λ_=>eW (0,[]):=OV λv hv=>by unfold Gr.start;rw[if_pos hv];rfl
 have w:=vG F.len F.pl (λx hx=>(F.ends x hx).2) (eS S) _ (Gr.start S) S .em .em .em .em .em r (p8 L S) D0 hr
 have lc:ig (iS (vr 1)) [ZB] (gN 0) bT (aK (ae (vr 0) (ae (aK (ae (cn (.int 0)) (ae (fA ai) ai))) ai))) [.va (eL L),.va (eS S),.em,.em,.em,.em,.em,.em,.em]=.ok (.lst (S.map λv=>.tup [en v,eW (0,[])])):=by
  have:=yA (fi:=iS (vr 1)) (src:=[ZB]) (fe:=aK (ae (vr 0) (ae (aK (ae (cn (.int 0)) (ae (fA ai) ai))) ai))) (h:=λt=>.tup [t,eW (0,[])]) (Z:=[.va (eL L),.va (eS S),.em,.em,.em,.em,.em,.em,.em]) (ts:=S.map en) (Dt rfl) (az (k:=1000) (by rw[NR];exact hSl)) (by simp) λt _=>
   ba (ts:=[t,eW (0,[])]) (aq rfl (aq (ba (ts:=[.int 0,.lst []]) (aq rfl (aq (mr (ts:=[]) rfl (Qk _)) rfl)) (az (k:=2) (by simp))) rfl)) (az (k:=2) (by simp))
  rw[this,PY];rfl
 have n0:rJ 2 (ig (iS (vr 1)) [ZB] (gN 0) bT (aK (ae (vr 0) (ae (aK (ae (cn (.int 0)) (ae (fA ai) ai))) ai)))) [.va (eL L),.va (eS S),.em,.em,.em,.em,.em,.em,.em]=.ok (.nx [.va (eL L),.va (eS S),.ow (.dct (S.map en) (dV S (Gr.start S))),.em,.em,.em,.em,.em,.em]):=by
  unfold rJ;rw[lc,ay,GP _ S hS hSl,ay,dv0]
  rfl
 have main:∀G X,bZ (tb (vr 3)) wF FU (Bo L (eS S) S (Gr.start S) ZC .em .em .em .em .em)=.ok X->kj [.va (eL L),.va (eS S),.em,.em,.em,.em,.em,.em,.em]=G->(aD (bZ (tb (vr 3)) wF FU) (nQ 2 (aR (aK (ae (vr 2) (ae (cn .non) ai)))))) (Bo L (eS S) S (Gr.start S) ZC .em .em .em .em .em)=G:=λG X _ h=>by
  rw[<-h];unfold kj;rw[aE n0,aE (Z':=Bo L (eS S) S (Gr.start S) ZC .em .em .em .em .em) (bV (t:=.bl ZC) rfl rfl)]
 cases r with
 |inr q=>
  have w':=iX (m:=FU) (by unfold FU;omega) w
  refine cy rfl ?_
  show kj [.va (eL L),.va (eS S),.em,.em,.em,.em,.em,.em,.em]=_
  rw[<-main _ _ w' rfl]
  exact gX w'
 |inl b'=>
  obtain⟨ns',s4,s5,s6,s7,s8,D',w⟩:=w
  have w':=iX (m:=FU) (by unfold FU;omega) w
  refine⟨ns',D',cy rfl ?_⟩
  show kj [.va (eL L),.va (eS S),.em,.em,.em,.em,.em,.em,.em]=_
  rw[<-main _ _ w' rfl,aE w'];exact Dv (cT (ba (ts:=[.dct (ns'.map en) (dV ns' b'),.non]) rfl (az (k:=2) (by simp))))
theorem pT{α:Type}{f:α->T}{p:α->Prop}:∀{l:List T},(∀t∈l,∃x,t=f x/\p x)->∃L:List α,l=L.map f/\∀x∈L,p x
 |[],_=>⟨[],rfl,λ_ h=>nomatch h⟩
 |t::l,h=>by
  obtain⟨x,e,hx⟩:=h t NP;obtain⟨L,e2,h2⟩:=pT (l:=l) λu hu=>h u (NL _ hu)
  exact⟨x::L,by rw[e,e2];rfl,λy hy=>(NT.mp hy).elim (λz=>z▸hx) (h2 y)⟩
def yQ{t:T}(h:bw t=ZC):∃(x y:Int)(r:List Int),t=.tup [.int x,.int y,.tup (r.map .int)]/\(0<=x/\x<=9)/\(0<=y/\y<=9)/\∀k,0<=r.getD k 0/\r.getD k 0<=99:=by
 obtain⟨x,y,r,rfl,h1,h2,h3,h4⟩:=cS h;refine⟨x,y,r,rfl,h1,h2,λk=>?_⟩
 have h':(nR (.int x) (.int y)&&cP (.tup (r.map .int)))=ZC:=h;rw[NN]at h'
 have hr:=h'.2;unfold cP at hr;rw[NN]at hr
 have hr2:(((r.map T.int).all λu=>aW u 0 99)&&(match kN (r.map .int)with|some m=>nF m|none=>ZD))=ZC:=hr.2
 rw[NN]at hr2
 by_cases hk:k<r.length
 ·have:=Od.mp hr2.1 (.int r[k]) (Om.mpr ⟨_,Px hk,rfl⟩)
  obtain⟨i,e,a,b⟩:=cf this;cases e;simp[hk];exact⟨a,b⟩
 ·simp[hk]
def zx{cs:List T}{i:Nat}:∀{cs0:List T}{c k:Nat},i<=c->c<i+cs0.length->k<Iq (cs0.getD (c - i) .non)->T.tup [.int c,.int k] ∈d9 i cs0:=by
 intro cs0
 induction cs0 generalizing i with
 |nil=>intro c k h1 h2;simp at h2;omega
 |cons a r ih=>
  intro c k h1 h2 h3;rw[d9,Oi]
  by_cases e:c=i
  ·subst e
   rw[SV]at h3
   have h3':k<Iq a:=h3;exact .inl (Om.mpr ⟨.int k,Ge h3',rfl⟩)
  ·refine .inr (ih (by omega) (by rw[NU]at h2;omega) ?_)
   rw[show c - i=(c - (i+1))+1 by omega]at h3
   exact h3
variable{cs:List T}
def sj{t:T}(h:aX cs t=ZC):t∈d9 0 cs:=by
 obtain⟨c,k,rfl⟩:=b9 h;unfold aX at h;simp only[NN,decide_eq_true_eq]at h;obtain⟨⟨h1,h2⟩,h3,h4⟩:=h;obtain⟨c,rfl⟩:=Ov h1;obtain⟨k,rfl⟩:=Ov h3;rw[rK]at h4;exact zx (cs:=cs) (Qk _) (by omega) (by rw[SW];omega)
def DX{t:T}(h:t∈d9 0 cs):∃v:N2,t=en v/\True:=by
 obtain⟨c,k,rfl,_⟩:=oq cs 0 h;exact⟨⟨c,k⟩,rfl,trivial⟩
def big(x:N2×N2×Int):Prop:=x.2.2.natAbs<=999
def rX{a b:Int}(ha : -99<=a/\a<=99)(hb:0<=b/\b<=9):(a*b).natAbs<=999:=by
 rw[Int.natAbs_mul]
 have h1:a.natAbs<=99:=by omega
 have h2:b.natAbs<=9:=by omega
 exact OJ (Nat.mul_le_mul h1 h2) (by decide)
theorem HC{cs0:List T}:∀{cs:List T}{i:Nat},(∀c∈cs,bw c=ZC)->(∀c k:Nat,i<=c->c<i+cs.length->k<Iq (cs.getD (c - i) .non)->T.tup [.int c,.int k] ∈d9 0 cs0) →
  ∀t∈bC i cs,∃x,t=eB x/\(en x.1∈d9 0 cs0/\en x.2.1∈d9 0 cs0/\big x)
 |[],_,_,_,t,h=>by simp[bC]at h
 |c::cs,i,hc,hm,t,h=>by
  rw[bC,Oi]at h;rcases h with h|h
  ·obtain⟨x,y,r,rfl,hx,hy,hr⟩:=yQ (hc c NP)
   have hm0:∀k,k<r.length->T.tup [.int i,.int k] ∈d9 0 cs0:=λk hk=>hm i k (N4 _) (by simp) (by rw[SV];show k<(r.map T.int).length;rw[NR];exact hk)
   rw[rC]at h;unfold cB at h;obtain⟨k,hk,hp⟩:=UU.mp h
   have hk:=Pr.mp hk
   have d : -99<=dr r k/\dr r k<=99:=by have:=hr k;have:=hr (k+1);unfold dr;omega
   unfold pr at hp;simp only[NT,Po,or_false]at hp;rcases hp with rfl|rfl
   ·exact⟨(⟨i,k⟩,⟨i,((k+1:Nat):Int)⟩,dr r k*y),rfl,hm0 k (by omega),hm0 (k+1) (by omega),rX d hy⟩
   ·exact⟨(⟨i,((k+1:Nat):Int)⟩,⟨i,k⟩,-dr r k*x),rfl,hm0 (k+1) (by omega),hm0 k (by omega),rX (by omega) hx⟩
  ·exact HC (cs:=cs) (i:=i+1) (λc h=>hc c (NL _ h)) (λc k h1 h2 h3=>hm c k (by omega) (by rw[NU];omega) (by rw[show c - i=(c - (i+1))+1 by omega];exact h3)) t h
def LW{u:T}(hu:bu cs u=ZC):∀t∈lB u,∃x,t=eB x/\(en x.1∈d9 0 cs/\en x.2.1∈d9 0 cs/\big x):=by
 intro t ht;obtain⟨a,b,x,y,rfl,hd,ha,hb,_⟩:=dj hu
 have ma:=sj ha
 have mb:=sj hb;obtain⟨va,rfl,_⟩:=DX ma;obtain⟨vb,rfl,_⟩:=DX mb;unfold dD at hd;rw[NN]at hd;obtain⟨i,rfl,i1,i2⟩:=cf hd.1
 have e2:lB (.tup [en va,en vb,.int i,y])=.tup [en vb,en va,.int (-i)] ::(if y.isN then []else [.tup [en va,en vb,y]]):=rfl
 rw[e2]at ht;rcases NT.mp ht with rfl|ht
 ·exact⟨(vb,va,-i),rfl,mb,ma,by unfold big;simp only;omega⟩
 ·cases q:y.isN with
  |true=>rw[q]at ht;simp at ht
  |false=>
   rw[q]at ht
   have ht:t=.tup [en va,en vb,y]:=by simpa using ht
   have hw:aW y i 999=ZC:=by
    cases y with
    |non=>cases q
    |_=>exact hd.2
   obtain⟨j,rfl,j1,j2⟩:=cf hw;exact⟨(va,vb,j),ht,ma,mb,by unfold big;simp only;omega⟩
structure Rd (cs ls:List T)(L:cj N2)(P:List N2):Prop where
 g:Good cs ls
 b:Ko cs ls=L.map eB
 e:d9 0 cs=P.map en
 f:MC L P
 nd:P.Nodup
 pl:P.length<=16
 ll:L.length<=60
 bg:∀x∈L,big x
def Fg(h:∀x∈L,big x):size L<=999*L.length:=by
 unfold size
 induction L with
 |nil=>simp
 |cons x L ih=>
  rw[NO,PV,NU]
  have:=ih λy hy=>h y (NL _ hy)
  have:=h x NP;unfold big at this;omega
def CU(h:(P.map en).Nodup):P.Nodup:=by
 induction P with
 |nil=>exact Ql
 |cons a r ih=>
  rw[NO,Og]at h;exact Og.mpr ⟨λz=>h.1 (Om.mpr ⟨a,z,rfl⟩),ih h.2⟩
variable{ls:List T}
def vS(g:Good cs ls):∃L P,Rd cs ls L P:=by
 obtain⟨hc,c1,c4⟩:=bh g.c;obtain⟨P,eP,_⟩:=pT (f:=en) (p:=λ_=>True) (l:=d9 0 cs) λt ht=>DX ht
 have key:∀t∈Ko cs ls,∃x,t=eB x/\(en x.1∈d9 0 cs/\en x.2.1∈d9 0 cs/\big x):=λt ht=>by
  unfold Ko at ht;rw[Oi]at ht;rcases ht with h|h
  ·exact HC hc (λc k h1 h2 h3=>zx (cs:=cs) h1 h2 h3) t h
  ·obtain⟨u,hu,h⟩:=UU.mp h
   exact LW (g.l u hu) t h
 obtain⟨L,eL,hL⟩:=pT key
 have mem:∀v:N2,en v∈d9 0 cs->v∈P:=λv hv=>by
  rw[eP]at hv;obtain⟨u,hu,e⟩:=Om.mp hv;rw[<-J4 e];exact hu
 have hl:=GY g;rw[eL,NR]at hl
 have hp:=oF cs 0 hc;rw[eP,NR]at hp
 have hs:=Fg λx hx=>(hL x hx).2.2
 exact⟨L,P,g,eL,eP,⟨by omega,by omega,λx hx=>⟨mem _ (hL x hx).1,mem _ (hL x hx).2.1⟩,by omega⟩,CU (eP▸mS cs 0),by omega,hl,λx hx=>(hL x hx).2.2⟩
noncomputable def run(L:cj N2):N2->List Nat->Option N2
 |a,[] =>ZA a
 |a,k::r=>match L[k]? with
  |some x=>if x.1=a then run L x.2.1 r else ZB
  |none=>ZB
def Rd.bounds(R:Rd cs ls L P):iQ [RR cs ls]=.ok (eL L):=by rw[Eb R.g,R.b];rfl
def Rd.events(R:Rd cs ls L P):jT [RR cs ls]=.ok (eS P):=by rw[CK R.g,R.e];rfl
def Kf(D:DR P ns b){x:Int×List Nat}(e:b v=ZA x):bJ (.dct (ns.map en) (dV ns b)) (en v)=.ok (eW x):=by
 unfold bJ;simp only[bA];rw[D.get,e];rfl
def tmT(P:List N2)(t:N2->Int):T:=.tup (P.map λv=>.int (t v))
def MD(b:cC N2)(v:N2):Int:=match b v with
 |some x=>x.1
 |none=>0
noncomputable def atT(t:N2->Int)(u:T):T:=match u with
 |.tup [.int c,.int k] =>.int (t ⟨c,k⟩)
 |_=>.non
def Rd.NC(R:Rd cs ls L P):(¬lq L/\i8 [(RR cs ls)]=.ok .non)\/(lq L/\∃t b,Settled L P b/\(∀v∈P,∃w,b v=ZA (t v,w))/\i8 [(RR cs ls)]=.ok (tmT P t)):=by
 obtain⟨r,hr,ok⟩:=DY R.f R.nd (λv h=>h)
 have wrap:∀{w:T},dY [(RR cs ls),eL L]=.ok w->i8 [(RR cs ls)]=.ok w:=λ{w} e=>cy rfl (cT (aU (ts:=[(RR cs ls),eL L]) (aq rfl (aq (aU (ts:=[(RR cs ls)]) rfl R.bounds) rfl)) e))
 have begin_:∀{x z:T}{y:Rs Fl},jS [eL L,eS P]=.ok (.tup [x,z])->((aD (e9 (tb (o2 jZ (vr 3) (cn .non))) (aR (cn .non)) sN) (aR (cl iZ (ae (ig (iS (vr 2)) [ZB,ZA 3] (gN 0) bT (o2 aV (o2 bJ (vr 1) (vr 0)) (cn (.int 0)))) ai)))) [.va (RR cs ls),.va (eL L),.va (eS P),.va x]=y)->fM [.va (RR cs ls),.va (eL L),.em,.em]=y:=λ{x z y} hs hy=>by
  unfold fM;rw[aE (Z':=[.va (RR cs ls),.va (eL L),.va (eS P),.em]) (bV (aU (ts:=[(RR cs ls)]) rfl R.events) rfl)];rw[aE (Z':=[.va (RR cs ls),.va (eL L),.va (eS P),.va x]) (bV (aL (u:=.int 0) (aU (ts:=[eL L,eS P]) rfl hs) rfl rfl) rfl)];exact hy
 cases r with
 |inr q=>exact .inl ⟨λn=>absurd n (Bar.neg ok),wrap (cy rfl (begin_ hr (gX ((dS (bf (aL (t:=.non) (u:=.non) rfl rfl rfl))).trans rfl))))⟩
 |inl b=>
  obtain⟨ns,D,hr⟩:=hr
  have ok:Settled L P b:=ok
  have htm:∀v∈P,∃w,b v=ZA (MD b v,w):=λv hv=>by
   obtain⟨d,w,e,_⟩:=ok.least v hv v 0 (.nil v);exact⟨w,by unfold MD;rw[e]⟩
  refine .inr ⟨(ok.holds R.f.ends htm).NA,MD b,b,ok,htm,wrap (cy rfl (begin_ hr ?_))⟩
  generalize MD b=tm at htm
  have lc:ig (iS (vr 2)) [ZB,ZA 3] (gN 0) bT (o2 aV (o2 bJ (vr 1) (vr 0)) (cn (.int 0))) [.va (RR cs ls),.va (eL L),.va (eS P),.va (.dct (ns.map en) (dV ns b))]=.ok (.lst ((P.map en).map (atT tm))):=
   yA (ts:=P.map en) (Dt rfl) (az (k:=16) (by rw[NR];exact R.pl)) (by simp) λt ht=>by
    obtain⟨v,hv,rfl⟩:=Om.mp ht;obtain⟨w,e⟩:=htm v hv;exact aL (t:=eW (tm v,w)) (u:=.int 0) (aL (t:=.dct (ns.map en) (dV ns b)) (u:=en v) rfl rfl (Kf D e)) rfl rfl
  rw[PY]at lc;rw[aE (Z':=[.va (RR cs ls),.va (eL L),.va (eS P),.va (.dct (ns.map en) (dV ns b))]) ((d7 (bf (aL (t:=.dct (ns.map en) (dV ns b)) (u:=.non) rfl rfl rfl))).trans rfl)];exact cT (aU (aq lc rfl) rfl)
def Rd.NB(R:Rd cs ls L P):∃hw:Bool,cq [(RR cs ls)]=.ok (.bl hw)/\(hw=ZC↔lq L):=by
 rcases R.NC with⟨n,e⟩|⟨n,t,b,_,_,e⟩
 ·exact⟨ZD,cy rfl (cT (aL (t:=.non) (u:=.non) (aU (ts:=[(RR cs ls)]) rfl e) rfl rfl)),λz=>(by cases z),λz=>absurd z n⟩
 ·exact⟨ZC,cy rfl (cT (aL (t:=tmT P t) (u:=.non) (aU (ts:=[(RR cs ls)]) rfl e) rfl rfl)),λ_=>n,λ_=>rfl⟩
def oI(o:Option Int):T:=match o with
 |some x=>.int x
 |none=>.non
def gw(P:List N2)(f:fL N2):List (List T×List T):=P.map λu=>(P.map en,P.map λv=>oI (f u v))
def sW(P:List N2)(f:fL N2):T:=.dct (P.map en) (P.map λu=>.dct (P.map en) (P.map λv=>oI (f u v)))
abbrev i0(P:List N2)(L:cj N2)(f:fL N2)(s3 s4 s5 s6 s7:Sl):En:=[.va (eS P),.va (eL L),.ow (.dd (P.map en) (gw P f)),s3,s4,s5,s6,s7]
abbrev Ie(P:List N2)(L:cj N2)(f:fL N2)(s3 s4 s5 s6 s7:Sl):En:=[.va (eS P),.va (eL L),.va (sW P f),s3,s4,s5,s6,s7]
variable{Z:En}{a b:V5}{s3 s4 s5 s6 s7:Sl}{x:Int}
section
variable {f:fL N2}
def yM(s3 s4 s5 s6 s7:Sl):disown 2 (i0 P L f s3 s4 s5 s6 s7)=Ie P L f s3 s4 s5 s6 s7:=by
 show [Sl.va (eS P),.va (eL L),.va (OT.view (.dd (P.map en) (gw P f))),s3,s4,s5,s6,s7]=_
 have e:OT.view (.dd (P.map en) (gw P f))=sW P f:=by
  show T.dct (P.map en) ((gw P f).map λr=>T.dct r.1 r.2)=_
  unfold gw sW;rw[PY]
  rfl
 rw[e]
variable{c:V5}
def BK{u:N2}(hc:c Z=.ok (sW P f))(ha:a Z=.ok (en u))(hb:b Z=.ok (en v))(hu:u∈P)(hv:v∈P):o2 bJ (o2 bJ c a) b Z=.ok (oI (f u v)):=by
 refine aL (t:=.dct (P.map en) (P.map λw=>oI (f u w))) (u:=en v) (aL (t:=sW P f) (u:=en u) hc ha ?_) hb ?_
 ·show(match n8 (P.map en) (P.map λu=>T.dct (P.map en) (P.map λv=>oI (f u v))) (ky u)with|some t=>Rs.ok t|none=>.bad)=_
  rw[oH (λu=>T.dct (P.map en) (P.map λv=>oI (f u v))),if_pos hu]
 ·show(match n8 (P.map en) (P.map λw=>oI (f u w)) (ky v)with|some t=>Rs.ok t|none=>.bad)=_
  rw[oH (λw=>oI (f u w)),if_pos hv]
def C6{u:N2}(ha:a (Ie P L f s3 s4 s5 s6 s7)=.ok (en u))(hb:b (Ie P L f s3 s4 s5 s6 s7)=.ok (en v))(hu:u∈P)(hv:v∈P):ln 2 (o2 bJ (o2 bJ (vr 2) a) b) (i0 P L f s3 s4 s5 s6 s7)=.ok (oI (f u v)):=
 Gs (o:=.dd (P.map en) (gw P f)) rfl (by rw[yM];exact BK rfl ha hb hu hv) (by cases f u v <;> rfl)
theorem Cc(g:N2->List T×List T)(u:N2):∀(Q:List N2),u∈Q->qM (Q.map en) (Q.map g) (ky u)=ZA (g u)
 |w::Q,h=>by
  rw[NO,NO,qM,bA]
  by_cases e:w=u
  ·subst e;rw[if_pos rfl]
  ·rw[if_neg (λz=>e (ja z)),Cc g u Q ((NT.mp h).elim (λz=>absurd z.symm e) id)]
theorem Ca(g:N2->List T×List T)(u:N2)(x:List T×List T):∀(Q:List N2),Q.Nodup->qL (ky u) x (Q.map en) (Q.map g)=Q.map λw=>if w=u then x else g w
 |[],_=>rfl
 |w::Q,h=>by
  rw[Og]at h;rw[NO,NO,qL,bA,NO]
  by_cases e:w=u
  ·subst e
   rw[if_pos rfl,if_pos rfl]
   congr 1
   exact OV λz hz=>by rw[if_neg (λ(y:z=w)=>h.1 (y▸hz))]
  ·rw[if_neg (λz=>e (ja z)),if_neg e,Ca g u x Q h.2]
def Cq(nd:P.Nodup)(pl:P.length<1000){u:N2}(ha:a (i0 P L f s3 s4 s5 s6 s7)=.ok (en u))(hb:b (i0 P L f s3 s4 s5 s6 s7)=.ok (en v))(hc:c (i0 P L f s3 s4 s5 s6 s7)=.ok (.int x))(hu:u∈P)(hv:v∈P):
  jr 2 a b c (i0 P L f s3 s4 s5 s6 s7)=.ok (.nx (i0 P L (j7 f u v x) s3 s4 s5 s6 s7)):=by
 unfold jr
 show(c (i0 P L f s3 s4 s5 s6 s7) >>= λw=>a (i0 P L f s3 s4 s5 s6 s7) >>= λz=>match(keyOf z).bind λka=>(qM (P.map en) (gw P f) ka).map λr=>(ka,r)with
  |some (ka,r)=>b (i0 P L f s3 s4 s5 s6 s7) >>= λy=>if (keyOf y).isSome=ZC/\r.1.length<1000 then Rs.ok (Fl.nx ((i0 P L f s3 s4 s5 s6 s7).set 2 (.ow (.dd (P.map en) (qL ka (hI y w r.1 r.2) (P.map en) (gw P f))))))else .bad
  |none=>.bad)=_
 rw[hc,ay,ha,ay,bA]
 have e1:qM (P.map en) (gw P f) (ky u)=ZA (P.map en,P.map λv=>oI (f u v)):=Cc (λu=>(P.map en,P.map λv=>oI (f u v))) u P hu
 simp only[Option.bind_some,e1,Vb];rw[hb,ay,bA,if_pos ⟨rfl,by rw[NR];exact pl⟩,uV (.int x) v (λv=>oI (f u v)) P nd hv]
 have e2:=Ca (λu=>(P.map en,P.map λv=>oI (f u v))) u (P.map en,P.map λw=>if w=v then T.int x else oI (f u w)) P nd
 have e3:(P.map λw=>if w=u then(P.map en,P.map λw=>if w=v then T.int x else oI (f u w))else(P.map en,P.map λv=>oI (f w v)))=gw P (j7 f u v x):=by
  unfold gw j7;refine OV λw _=>?_
  by_cases e:w=u
  ·subst e
   rw[if_pos rfl]
   congr 1
   refine OV λz _=>?_
   by_cases h:z=v
   ·rw[if_pos h,if_pos ⟨rfl,h⟩];rfl
   ·rw[if_neg h,if_neg (λq=>h q.2)]
  ·rw[if_neg e]
   congr 1
   exact OV λz _=>by rw[if_neg (λq=>e q.1)]
 show Rs.ok (Fl.nx [.va (eS P),.va (eL L),.ow (.dd (P.map en) (qL (ky u) (P.map en,P.map λw=>if w=v then T.int x else oI (f u w)) (P.map en) (gw P f))),s3,s4,s5,s6,s7])=_
 rw[show qL (ky u) (P.map en,P.map λw=>if w=v then T.int x else oI (f u w)) (P.map en) (gw P f)=gw P (j7 f u v x)from e2.trans e3]
def DD(nd:P.Nodup)(pl:P.length<1000){u:N2}(ha:a (i0 P L f s3 s4 s5 s6 s7)=.ok (en u))(hb:b (i0 P L f s3 s4 s5 s6 s7)=.ok (en v))(ha':a (Ie P L f s3 s4 s5 s6 s7)=.ok (en u))(hb':b (Ie P L f s3 s4 s5 s6 s7)=.ok (en v))(hc:c (i0 P L f s3 s4 s5 s6 s7)=.ok (.int x))(hu:u∈P)(hv:v∈P):
  e9 (nS (tb (o2 jZ (ln 2 (o2 bJ (o2 bJ (vr 2) a) b)) (cn .non))) (tb (o2 pQ c (ln 2 (o2 bJ (o2 bJ (vr 2) a) b))))) (jr 2 a b c) sN (i0 P L f s3 s4 s5 s6 s7)=.ok (.nx (i0 P L (n5 f u v x) s3 s4 s5 s6 s7)):=by
 have g:=C6 (P:=P) (L:=L) (f:=f) ha' hb' hu hv
 have p:=Cq (P:=P) (L:=L) (f:=f) nd pl ha hb hc hu hv;unfold n5
 cases q:f u v with
 |none=>
  rw[q]at g
  exact(dS (Ht (bf (aL (t:=.non) (u:=.non) g rfl rfl)))).trans p
 |some y=>
  rw[q]at g
  have c2:tb (o2 pQ c (ln 2 (o2 bJ (o2 bJ (vr 2) a) b))) (i0 P L f s3 s4 s5 s6 s7)=.ok (decide (x<y)):=bf (aL (t:=.int x) (u:=.int y) hc g rfl)
  by_cases h:x<y
  ·rw[decide_eq_true h]at c2
   simp only[if_pos h];exact(dS (zK (bf (aL (t:=.int y) (u:=.non) g rfl rfl)) c2)).trans p
  ·rw[decide_eq_false h]at c2
   simp only[if_neg h];exact(d7 (zK (bf (aL (t:=.int y) (u:=.non) g rfl rfl)) c2)).trans rfl
end
theorem wN:∀(P:List N2),nJ (P.map en)=ZC
 |[] =>rfl
 |u::P=>by
  have:=wN P;simp[nJ,bA,this]
def JF(nd:P.Nodup):((P.map en).map keyOf).Nodup:=by
 rw[PY];exact nd.map _ λa b h e=>h (ja e)
def Ib(nd:P.Nodup)(pl:P.length<=1000):o8 2 0 [.va (eS P),.va (eL L),.em,.em,.em,.em,.em,.em]=.ok (.nx (i0 P L (λ_ _=>ZB) .em .em .em .em .em)):=by
 show(if (2:Nat)<8/\nJ (P.map en)=ZC/\((P.map en).map keyOf).Nodup/\(P.map en).length<=1000 then Rs.ok (Fl.nx [.va (eS P),.va (eL L),.ow (.dd (P.map en) ((P.map en).map λ_=>(P.map en,(P.map en).map λ_=>T.non))),.em,.em,.em,.em,.em])else .bad)=_
 rw[if_pos ⟨by omega,wN P,JF nd,by rw[NR];exact pl⟩,PY,PY]
 rfl
theorem Hi(nd:P.Nodup)(pl:P.length<1000):∀(Q:List N2)(f:fL N2)(s3 s4 s5 s6 s7:Sl),(∀u∈Q,u∈P)->∃s3',
  bx (gN 3) (jr 2 (vr 3) (vr 3) (cn (.int 0))) (Q.map en) (i0 P L f s3 s4 s5 s6 s7)=.ok (.nx (i0 P L (Q.foldl (λf u=>j7 f u u 0) f) s3' s4 s5 s6 s7))
 |[],f,s3,s4,s5,s6,s7,_=>⟨s3,rfl⟩
 |u::Q,f,s3,s4,s5,s6,s7,h=>by
  have hu:=h u NP;rw[NO,dR (Z1:=i0 P L f (.va (en u)) s4 s5 s6 s7) rfl (Cq nd pl (u:=u) (v:=u) (x:=0) rfl rfl rfl hu hu)];exact Hi nd pl Q _ _ _ _ _ _ λw hw=>h w (NL _ hw)
theorem sh:∀(Q:List N2)(f:fL N2)(u v:N2),Q.foldl (λf u=>j7 f u u 0) f u v=if u∈Q/\u=v then ZA 0 else f u v
 |[],f,u,v=>by rw[if_neg (λh=>nomatch h.1)];rfl
 |w::Q,f,u,v=>by
  rw[U5,sh Q]
  by_cases e:u=v
  ·subst e
   by_cases m:u∈Q
   ·rw[if_pos ⟨m,rfl⟩,if_pos ⟨NL _ m,rfl⟩]
   ·rw[if_neg (λz=>m z.1)]
    unfold j7
    by_cases q:u=w
    ·subst q;rw[if_pos ⟨rfl,rfl⟩,if_pos ⟨NP,rfl⟩]
    ·rw[if_neg (λz=>q z.1),if_neg (λz=>(NT.mp z.1).elim q m)]
  ·rw[if_neg (λz=>e z.2),if_neg (λz=>e z.2)]
   unfold j7;rw[if_neg (λz=>e (z.1.trans z.2.symm))]
def A2(P:List N2):P.foldl (λf u=>j7 f u u 0) (λ_ _=>ZB)=vt P:=by
 funext u v
 rw[sh]
 rfl
theorem Hh(nd:P.Nodup)(pl:P.length<1000):∀(M:cj N2)(f:fL N2)(s3 s4 s5 s6 s7:Sl),(∀x∈M,x.1∈P/\x.2.1∈P)->∃s3' s4' s5',
  bx (gT 3 (eU (gN 3) (eU (gN 4) (eU (gN 5) nK)))) (e9 (nS (tb (o2 jZ (ln 2 (o2 bJ (o2 bJ (vr 2) (vr 3)) (vr 4))) (cn .non))) (tb (o2 pQ (vr 5) (ln 2 (o2 bJ (o2 bJ (vr 2) (vr 3)) (vr 4)))))) (jr 2 (vr 3) (vr 4) (vr 5)) sN) (M.map eB) (i0 P L f s3 s4 s5 s6 s7)=.ok (.nx (i0 P L (M.foldl (λf x=>n5 f x.1 x.2.1 x.2.2) f) s3' s4' s5' s6 s7))
 |[],f,s3,s4,s5,s6,s7,_=>⟨s3,s4,s5,rfl⟩
 |x::M,f,s3,s4,s5,s6,s7,h=>by
  have hx:=h x NP;rw[NO,dR (Z1:=i0 P L f (.va (en x.1)) (.va (en x.2.1)) (.va (.int x.2.2)) s6 s7) rfl (DD nd pl (u:=x.1) (v:=x.2.1) (x:=x.2.2) rfl rfl rfl rfl rfl hx.1 hx.2)];exact Hh nd pl M _ _ _ _ _ _ λw hw=>h w (NL _ hw)
def E8(nd:P.Nodup)(pl:P.length<1000){mid one other:N2}(hm:mid∈P)(h1:one∈P)(h2:other∈P)(f:fL N2)(s5 s7:Sl):∃s7',
  KN (i0 P L f (.va (en one)) (.va (en other)) s5 (.va (en mid)) s7)=.ok (.nx (i0 P L (mx mid one other f) (.va (en one)) (.va (en other)) s5 (.va (en mid)) s7')):=by
 have ga:∀s7,ln 2 (o2 bJ (o2 bJ (vr 2) (vr 3)) (vr 6)) (i0 P L f (.va (en one)) (.va (en other)) s5 (.va (en mid)) s7)=.ok (oI (f one mid)):=λs7=>C6 rfl rfl h1 hm
 have gb:∀s7,ln 2 (o2 bJ (o2 bJ (vr 2) (vr 6)) (vr 4)) (i0 P L f (.va (en one)) (.va (en other)) s5 (.va (en mid)) s7)=.ok (oI (f mid other)):=λs7=>C6 rfl rfl hm h2
 unfold mx KN
 cases qa:f one mid with
 |none=>
  have ga:=ga s7;rw[qa]at ga
  exact⟨s7,(d7 (yB (bf (aL (t:=.non) (u:=.non) ga rfl rfl)))).trans rfl⟩
 |some x=>
  have ga:=ga s7;rw[qa]at ga
  have c1:=bf (aL (g:=dw) (t:=.int x) (u:=.non) (fb:=cn .non) ga rfl rfl)
  cases qb:f mid other with
  |none=>
   have gb:=gb s7;rw[qb]at gb
   exact⟨s7,(d7 (qf c1 (bf (aL (t:=.non) (u:=.non) gb rfl rfl)))).trans rfl⟩
  |some y=>
   have gb:=gb s7;rw[qb]at gb;refine⟨.va (.int (x+y)),(dS (qf c1 (bf (aL (t:=.int y) (u:=.non) gb rfl rfl)))).trans ?_⟩
   rw[aE (bV (Z':=i0 P L f (.va (en one)) (.va (en other)) s5 (.va (en mid)) (.va (.int (x+y)))) (aL (t:=.int x) (u:=.int y) ga gb rfl) rfl)];exact DD nd pl (u:=one) (v:=other) (x:=x+y) rfl rfl rfl rfl rfl h1 h2
theorem Hg(nd:P.Nodup)(pl:P.length<1000){mid one:N2}(hm:mid∈P)(h1:one∈P):∀(Q:List N2)(f:fL N2)(s4 s5 s7:Sl),(∀u∈Q,u∈P)->∃s4' s7',
  bx (gN 4) KN (Q.map en) (i0 P L f (.va (en one)) s4 s5 (.va (en mid)) s7)=.ok (.nx (i0 P L (my mid one Q f) (.va (en one)) s4' s5 (.va (en mid)) s7'))
 |[],f,s4,s5,s7,_=>⟨s4,s7,rfl⟩
 |u::Q,f,s4,s5,s7,h=>by
  have hu:=h u NP;obtain⟨s7',e⟩:=E8 (L:=L) nd pl hm h1 hu f s5 s7;rw[NO,dR (Z1:=i0 P L f (.va (en one)) (.va (en u)) s5 (.va (en mid)) s7) rfl e];exact Hg nd pl hm h1 Q _ _ _ _ λw hw=>h w (NL _ hw)
theorem Hf(nd:P.Nodup)(pl:P.length<1000){mid:N2}(hm:mid∈P):∀(Q:List N2)(f:fL N2)(s3 s4 s5 s7:Sl),(∀u∈Q,u∈P)->∃s3' s4' s7',
  bx (gN 3) (fI (iS (vr 0)) (gN 4) KN) (Q.map en) (i0 P L f s3 s4 s5 (.va (en mid)) s7)=.ok (.nx (i0 P L (qk mid Q P f) s3' s4' s5 (.va (en mid)) s7'))
 |[],f,s3,s4,s5,s7,_=>⟨s3,s4,s7,rfl⟩
 |u::Q,f,s3,s4,s5,s7,h=>by
  have hu:=h u NP;obtain⟨s4',s7',e⟩:=Hg (L:=L) nd pl hm hu P f s4 s5 s7 λ_ z=>z
  rw[NO,dR (Z1:=i0 P L f (.va (en u)) s4 s5 (.va (en mid)) s7) rfl (fY (ts:=P.map en) rfl e)];exact Hf nd pl hm Q _ _ _ _ _ λw hw=>h w (NL _ hw)
theorem He(nd:P.Nodup)(pl:P.length<1000):∀(Q:List N2)(f:fL N2)(s3 s4 s5 s6 s7:Sl),(∀u∈Q,u∈P)->∃s3' s4' s6' s7',
  bx (gN 6) (fI (iS (vr 0)) (gN 3) (fI (iS (vr 0)) (gN 4) KN)) (Q.map en) (i0 P L f s3 s4 s5 s6 s7)=.ok (.nx (i0 P L (wY Q P f) s3' s4' s5 s6' s7'))
 |[],f,s3,s4,s5,s6,s7,_=>⟨s3,s4,s6,s7,rfl⟩
 |u::Q,f,s3,s4,s5,s6,s7,h=>by
  have hu:=h u NP;obtain⟨s3',s4',s7',e⟩:=Hf (L:=L) nd pl hu P f s3 s4 s5 s7 λ_ z=>z
  rw[NO,dR (Z1:=i0 P L f s3 s4 s5 (.va (en u)) s7) rfl (fY (ts:=P.map en) rfl e)];exact He nd pl Q _ _ _ _ _ _ λw hw=>h w (NL _ hw)
def G9(P:List N2)(f:fL N2):Prop:=∀u∈P,∀y,f u u=ZA y->0<=y
def Ic(hd:∀u∈P,∃y,table P L u u=ZA y)(pl:P.length<1000)(s3 s4 s5 s6 s7:Sl):
  ∃t,((G9 P (table P L)/\t=sW P (table P L))\/(¬G9 P (table P L)/\t=.non))/\nQ 2 (aR (yE (tb (o2 kP (ig (iS (vr 0)) [ZB,ZA 2] (gN 0) (tb (o2 pQ (o2 bJ (o2 bJ (vr 1) (vr 0)) (vr 0)) (cn (.int 0)))) (vr 0)) (fA ai))) (vr 2) (cn .non))) (i0 P L (table P L) s3 s4 s5 s6 s7)=.ok (.rt t):=by
 generalize hf:table P L=f
 rw[hf]at hd
 have lc:ig (iS (vr 0)) [ZB,ZA 2] (gN 0) (tb (o2 pQ (o2 bJ (o2 bJ (vr 1) (vr 0)) (vr 0)) (cn (.int 0)))) (vr 0) (Ie P L f s3 s4 s5 s6 s7)=.ok (.lst (((P.map en).filter λt=>P.any λu=>decide (keyOf t=ZA (ky u))&&(match f u u with|some y=>decide (y<0)|none=>ZD)).map id)):=by
  refine Hv (ts:=P.map en) rfl (az (k:=1000) (by rw[NR];omega)) (by simp) λt ht=>?_
  obtain⟨u,hu,rfl⟩:=Om.mp ht;obtain⟨y,hy⟩:=hd u hu;refine⟨?_,λ_=>rfl⟩
  have e:(P.any λw=>decide (keyOf (en u)=ZA (ky w))&&(match f w w with|some y=>decide (y<0)|none=>ZD))=decide (y<0):=by
   by_cases h:y<0
   ·rw[decide_eq_true h]
    exact RJ.mpr ⟨u,hu,by rw[hy];simp[h,bA]⟩
   ·rw[decide_eq_false h,Sk]
    intro w hw
    by_cases q:w=u
    ·subst q;rw[hy];simp[h]
    ·rw[decide_eq_false (λz=>q (ja ((bA u).symm.trans z)).symm)];simp
  rw[e]
  have g:=BK (P:=P) (f:=f) (u:=u) (v:=u) (Z:=[.va (en u),.va (sW P f)]) (c:=vr 1) (a:=vr 0) (b:=vr 0) rfl rfl rfl hu hu;rw[hy]at g;exact bf (aL (t:=.int y) (u:=.int 0) g rfl rfl)
 rw[Tz]at lc
 generalize hp:(λt=>P.any λu=>decide (keyOf t=ZA (ky u))&&(match f u u with|some y=>decide (y<0)|none=>ZD))=p at lc
 have pu:∀u∈P,∀y,f u u=ZA y->p (en u)=decide (y<0):=by
  intro u hu y hy;rw[<-hp]
  show(P.any λw=>decide (keyOf (en u)=ZA (ky w))&&(match f w w with|some y=>decide (y<0)|none=>ZD))=decide (y<0)
  by_cases h:y<0
  ·rw[decide_eq_true h]
   exact RJ.mpr ⟨u,hu,by rw[hy];simp[h,bA]⟩
  ·rw[decide_eq_false h,Sk]
   intro w hw
   by_cases q:w=u
   ·subst q;rw[hy];simp[h]
   ·rw[decide_eq_false (λz=>q (ja ((bA u).symm.trans z)).symm)];simp
 have iff:(P.map en).filter p=[] ↔G9 P f:=by
  rw[List.filter_eq_nil_iff]
  constructor
  ·intro h u hu y hy
   have:=h (en u) (Om.mpr ⟨u,hu,rfl⟩);rw[pu u hu y hy]at this
   simpa using this
  ·intro h t ht
   obtain⟨u,hu,rfl⟩:=Om.mp ht;obtain⟨y,hy⟩:=hd u hu;rw[pu u hu y hy]
   have:=h u hu y hy
   simpa using this
 have nd:nds ((P.map en).filter p)=ZC:=yi λt ht=>by
  obtain⟨u,_,rfl⟩:=Om.mp (Rh.mp ht).1
  rfl
 have eq:o2 kP (ig (iS (vr 0)) [ZB,ZA 2] (gN 0) (tb (o2 pQ (o2 bJ (o2 bJ (vr 1) (vr 0)) (vr 0)) (cn (.int 0)))) (vr 0)) (fA ai) (Ie P L f s3 s4 s5 s6 s7)=.ok (.bl (bo (.lst ((P.map en).filter p)) (.lst []))):=
  aL (u:=.lst []) lc (mr rfl (az (k:=1) (by simp))) (by unfold kP;rw[if_pos (DU (by simp[T.dep,deps]) (by simpa [T.nd]using nd) rfl)])
 by_cases D:G9 P f
 ·refine⟨sW P f,.inl ⟨D,rfl⟩,?_⟩
  rw[iff.mpr D]at eq;refine Dv ?_
  rw[yM];exact cT ((sf (p:=ZC) (bf eq)).trans rfl)
 ·refine⟨.non,.inr ⟨D,rfl⟩,?_⟩
  have:(P.map en).filter p≠ []:=λz=>D (iff.mp z)
  cases q:(P.map en).filter p with
  |nil=>exact absurd q this
  |cons a l=>
   rw[q]at eq;refine Dv ?_
   rw[yM];exact cT ((sf (p:=ZD) (bf (eq.trans (by simp[bo,beqTs])))).trans rfl)
def GH(nd:P.Nodup)(pl:P.length<1000)(hL:∀x∈L,x.1∈P/\x.2.1∈P):
  ∃t,((lq L/\HG L P (table P L)/\t=sW P (table P L))\/(¬lq L/\t=.non))/\gB [eS P,eL L]=.ok t:=by
 obtain⟨a3,e1⟩:=Hi (L:=L) nd pl P (λ_ _=>ZB) .em .em .em .em .em λ_ z=>z
 rw[A2]at e1;obtain⟨b3,b4,b5,e2⟩:=Hh (L:=L) nd pl L (vt P) a3 .em .em .em .em hL;obtain⟨c3,c4,c6,c7,e3⟩:=He (L:=L) nd pl P (BL P L) b3 b4 b5 .em .em λ_ z=>z
 obtain⟨t,ht,e4⟩:=Ic (P:=P) (L:=L) (λu hu=>let ⟨y,h,_⟩:=oQ (L:=L) hu;⟨y,h⟩) pl c3 c4 b5 c6 c7
 refine⟨t,ht.elim (λh=>.inl ?_) (λh=>.inr ⟨λn=>h.1 λu hu y hy=>?_,h.2⟩),cy rfl ?_⟩
 ·have:=vq hL h.1
  exact⟨this.1,this.2,h.2⟩
 ·exact Int.not_lt.mp λz=>As hy z n
 ·show ji [.va (eS P),.va (eL L),.em,.em,.em,.em,.em,.em]=_
  unfold ji;rw[aE (Ib nd (by omega)),aE (fY (ts:=P.map en) rfl e1),aE (fY (ts:=L.map eB) rfl e2)]
  exact(aE (fY (ts:=P.map en) rfl e3)).trans e4
def wz{n:Int}{t:T}(ht:t.pl=ZC)(h:aW t 0 (n - 1)=ZC):cR [.int n,t]=.ok .non:=by
 refine yw (Z:=[.va (.int n),.va t]) rfl ?_
 show ef [.va (.int n),.va t]=_
 unfold ef;exact(d7 (gY (k:=ZC) (bf (aU (ts:=[t,.int 0,.int (n - 1)]) rfl (by rw[fq _ _ _ ht,h]))))).trans rfl
def D5{t:T}(hp:t.pl=ZC)(h:cO t=ZC):c9 [t]=.ok t:=by
 refine cy rfl ?_
 show gc [.va t]=_
 unfold gc;rw[aE (ri (t:=.non) (aU (ts:=[t]) rfl (fW hp h)))];exact cT rfl
def D6{t:T}(hp:t.pl=ZC)(h:cO t=ZD):c9 [t]=.err "NoRecord":=by
 refine gW rfl ?_
 show gc [.va t]=_
 unfold gc;exact uP (zM (aU (ts:=[t]) rfl (rV hp h)))
def pf(t:T):Rs T:=if cO t then .ok t else .err "NoRecord"
def zY{t:T}(hp:t.pl=ZC):c9 [t]=pf t:=by
 unfold pf
 cases h:cO t with
 |true=>exact D5 hp h
 |false=>exact D6 hp h
variable{f:V5}
def tL{t:T}(h:f Z=pf t):aR f Z=(if cO t then .ok (.rt t)else .err "NoRecord"):=by
 unfold pf at h
 cases q:cO t with
 |true=>rw[q]at h;exact cT h
 |false=>rw[q]at h;exact yx h
variable{n:Nat}
def sU{m:Nat}{F:V4}{ts:List T}{t:T}(hl:ts.length=n)(h:F (aQ m ts)=(if cO t then .ok (.rt t)else .err "NoRecord")):val n m F ts=pf t:=by
 unfold pf
 cases q:cO t with
 |true=>rw[q]at h;exact cy hl h
 |false=>rw[q]at h;exact gW hl h
def i5{a b:T}(ha:a.pl=ZC)(hb:b.pl=ZC):(T.tup [a,b]).pl=ZC:=by simp[T.pl,plS,ha,hb]
variable{l:List T}
def tR{m:List T}(h1:(T.tup l).pl=ZC)(h2:(T.tup m).pl=ZC):(T.tup (l++m)).pl=ZC:=by
 rw[fJ]at*;exact gk λt ht=>(Oi.mp ht).elim (gy h1) (gy h2)
def Good.pls(g:Good cs ls):(T.tup ls).pl=ZC:=by rw[fJ];exact gk g.parts.2
def tW{t:T}(hc:(T.tup cs).pl=ZC)(hl:(T.tup ls).pl=ZC)(hn:ls.length<=20)(ht:t.pl=ZC)(ok:cO (RR cs ls)=ZC):dz [RR cs ls,t]=pf (.tup [.tup cs,.tup (ls++[t])]):=by
 refine sU rfl ?_
 show iD [.va (RR cs ls),.va t]=_
 unfold iD;rw[aE (ri (t:=.non) (aU (ts:=[RR cs ls]) rfl (fW (i5 hc hl) ok)))];refine tL (aU (ts:=[.tup [.tup cs,.tup (ls++[t])]]) (aq (ba (aq (t:=.tup cs) rfl (aq (t:=.tup (ls++[t])) (aL (t:=.tup ls) (u:=.tup [t]) rfl (ba rfl (az (k:=1) (by simp))) (fU _ _ (by simp;omega))) rfl)) (az (k:=2) (by simp))) rfl) (zY (i5 hc (tR hl (by simp[T.pl,plS,ht])))))
variable{g:V5}
def yN(h:f Z=.ok (.tup l))(hg:g Z=.ok (.int n)):sl f pN (pS g) Z=.ok (.tup (l.take n)):=by
 rw[<-kf];exact AV h rfl (wQ hg)
def Ki(h:f Z=.ok (.tup l))(hg:g Z=.ok (.int n)):sl f (pS g) pN Z=.ok (.tup (l.drop n)):=by
 rw[<-xj];exact AV h (wQ hg) rfl
def uY(h:f Z=.ok (.tup l))(hg:g Z=.ok (.int n)):sl f (pS (o2 aP g (cn (.int 1)))) pN Z=.ok (.tup (l.drop (n+1))):=
 Ki h (aL (t:=.int n) (u:=.int 1) hg rfl rfl)
def tZ(l:List T)(n:Nat):List T:=l.take n++l.drop (n+1)
def tY(l:List T)(n:Nat):(tZ l n).length<=l.length:=by unfold tZ;rw[NV,OY,Qx];omega
def rM(g:Good cs ls)(hn:n<ls.length):cv [RR cs ls,.int n]=.ok (.tup [.tup cs,.tup (tZ ls n)]):=by
 have hl:=g.n;refine cy rfl ?_
 show cY [.va (RR cs ls),.va (.int n),.em]=_
 unfold cY;rw[aE (ri (t:=.non) (aU (ts:=[RR cs ls]) rfl (fW g.p g.ok)))];rw[aE (Z':=[.va (RR cs ls),.va (.int n),.va (.tup ls)]) ((bV (t:=.tup ls) rfl rfl))]
 have w:aW (.int n) 0 ((ls.length:Int) - 1)=ZC:=by unfold aW;simp;omega
 rw[aE (ri (t:=.non) (aU (ts:=[.int (ls.length:Int),.int n]) rfl (wz rfl w)))];exact cT (ba (aq (t:=.tup cs) rfl (aq (t:=.tup (tZ ls n)) (aL (t:=.tup (ls.take n)) (u:=.tup (ls.drop (n+1))) (yN rfl rfl) (uY rfl rfl) (fU _ _ (by have:=tY ls n;unfold tZ at this;omega))) rfl)) (az (k:=2) (by simp)))
def jy(l:List T)(n:Nat)(c:T):List T:=(l.take n++[c])++l.drop (n+1)
def FQ(l:List T)(n:Nat)(c:T):(jy l n c).length<=l.length+1:=by unfold jy;rw[NV,NV,OY,Qx];simp;omega
variable{c:T}
def Cr(h:(T.tup l).pl=ZC)(hc:c.pl=ZC):(T.tup (jy l n c)).pl=ZC:=by
 rw[fJ]at*;refine gk λt ht=>?_
 unfold jy at ht;rcases Oi.mp ht with ht|ht
 ·rcases Oi.mp ht with ht|ht
  ·exact gy h (PU ht)
  ·cases N1.mp ht;exact hc
 ·exact gy h (Th ht)
def Dq{h:V5}(hl:l.length<=100)(hf:f Z=.ok (.tup l))(hg:g Z=.ok (.int n))(hc:h Z=.ok c):
  o2 aP (o2 aP (sl f pN (pS g)) (aK (ae h ai))) (sl f (pS (o2 aP g (cn (.int 1)))) pN) Z=.ok (.tup (jy l n c)):=by
 have:=FQ l n c;refine aL (t:=.tup (l.take n++[c])) (u:=.tup (l.drop (n+1))) (aL (t:=.tup (l.take n)) (u:=.tup [c]) (yN hf hg) (ba (aq hc rfl) (az (k:=1) (by simp))) (fU _ _ (by simp;omega))) (uY hf hg) (fU _ _ (by unfold jy at this;omega))
def v7(g:Good cs ls)(hc:c.pl=ZC):gA [RR cs ls,.int n,c]=pf (.tup [.tup (jy cs n c),.tup ls]):=by
 obtain⟨_,_,h4⟩:=bh g.c;refine sU rfl ?_
 show jd [.va (RR cs ls),.va (.int n),.va c,.em]=_
 unfold jd;rw[aE (Z':=[.va (RR cs ls),.va (.int n),.va c,.va (.tup cs)]) (bV (t:=.tup cs) rfl rfl)];exact tL (aU (ts:=[.tup [.tup (jy cs n c),.tup ls]]) (aq (ba (aq (t:=.tup (jy cs n c)) (Dq (by omega) rfl rfl rfl) (aq (t:=.tup ls) rfl rfl)) (az (k:=2) (by simp))) rfl) (zY (i5 (Cr g.parts.1 hc) g.pls)))
def w_in{m:Nat}(h:n<m):aW (.int n) 0 ((m:Int) - 1)=ZC:=by unfold aW;simp;omega
def xm(g:Good cs ls)(hn:n<cs.length):∃(x y:Int)(r:List Int),cs[n]?=ZA (.tup [.int x,.int y,.tup (r.map .int)])/\1<=r.length/\r.length<=4:=by
 obtain⟨hc,_,h4⟩:=bh g.c;obtain⟨x,y,r,e,_,_,h1,h2⟩:=cS (hc _ (Px hn));exact⟨x,y,r,by rw[N9 hn,e],h1,h2⟩
def qN{x y u:T}{r:List T}(g:Good cs ls)(hn:n<cs.length)(e:cs[n]?=ZA (.tup [x,y,.tup r]))(hr:r.length<=4)(hx:x.pl=ZC)(hy:y.pl=ZC)(hp:(T.tup r).pl=ZC)(hu:u.pl=ZC):
  cX [RR cs ls,.int n,u]=pf (.tup [.tup (jy cs n (.tup [x,y,.tup (r++[u])])),.tup ls]):=by
 refine sU rfl ?_
 show dW [.va (RR cs ls),.va (.int n),.va u,.em]=_
 unfold dW;rw[aE (ri (t:=.non) (aU (ts:=[RR cs ls]) rfl (fW g.p g.ok)))];rw[aE (ri (t:=.non) (aU (ts:=[.int (cs.length:Int),.int n]) rfl (wz rfl (w_in hn))))];rw[aE (Z':=[.va (RR cs ls),.va (.int n),.va u,.va (.tup [x,y,.tup r])]) (bV (t:=.tup [x,y,.tup r]) (iA (n:=n) (l:=cs) rfl rfl e) rfl)];refine tL (aU (ts:=[RR cs ls,.int n,.tup [x,y,.tup (r++[u])]]) (aq rfl (aq rfl (aq (ba (aq (t:=x) rfl (aq (t:=y) rfl (aq (t:=.tup (r++[u])) (aL (t:=.tup r) (u:=.tup [u]) rfl (ba rfl (az (k:=1) (by simp))) (fU _ _ (by simp;omega))) rfl))) (az (k:=3) (by simp))) rfl))) (v7 g ?_))
 have:=tR hp (m:=[u]) (by simp[T.pl,plS,hu])
 simp[T.pl,plS,hx,hy]at this ⊢;exact this
def mE(h:∀t∈l,t.dep<=n):(T.tup l).dep<=n+1:=by unfold T.dep;have:=z9 h;omega
def Bc(h:bw c=ZC):c.dep<=2:=by
 obtain⟨x,y,r,rfl,_⟩:=cS h;refine mE λt ht=>?_
 simp only[NT,Po,or_false]at ht;rcases ht with rfl|rfl|rfl
 ·simp[T.dep]
 ·simp[T.dep]
 ·exact mE (n:=0) λt ht=>by obtain⟨i,_,rfl⟩:=Om.mp ht;simp[T.dep]
def yr{t:T}(h:bu cs t=ZC):t.dep<=2:=by
 obtain⟨a,b,x,y,rfl,hd,ha,hb,_⟩:=dj h;obtain⟨m1,m2⟩:=LL h
 have:=(HA ha).2
 have:=(HA hb).2
 have hx:x.dep<=2:=by
  unfold dD at hd;rw[NN]at hd;obtain⟨i,rfl,_⟩:=cf hd.1;simp[T.dep]
 unfold T.dep deps deps deps deps deps;obtain⟨a',b',mo,le,e,_⟩:=jV h;cases e;simp only[T.dep];omega
def zg(g:Good cs ls):(T.tup cs).dep<=3/\(T.tup ls).dep<=3:=⟨mE λt ht=>Bc ((bh g.c).1 t ht),mE λt ht=>yr (g.l t ht)⟩
def zf(h:cO (RR cs ls)=ZC)(hp:(RR cs ls).pl=ZC):Good cs ls:=by
 have h':(a9 (.tup cs)&&(d6 (.tup ls) 0 8&&ls.all (bu cs)))=ZC:=h;rw[NN,NN,Od]at h';exact⟨h'.1,h'.2.2,by have:=h'.2.1;simp[d6]at this;exact this,hp⟩
end G
namespace G
open PySem Tr Gr
theorem CY{D:Bool}:∀{l:List T},(∀t∈l,t.nk D=ZC)->nks D l=ZC
 |[],_=>rfl
 |t::l,h=>by unfold nks;rw[h t (.head _),CY λu hu=>h u (.tail _ hu)];rfl
def mW{D:Bool}{l:List T}(h:∀t∈l,t.nk D=ZC):(T.tup l).nk D=ZC:=by unfold T.nk;exact CY h
def Er{c:T}(h:bw c=ZC):c.nk ZD=ZC:=by
 obtain⟨x,y,r,rfl,_⟩:=cS h;refine mW λt ht=>?_
 simp at ht
 rcases ht with rfl|rfl|rfl
 ·rfl
 ·rfl
 ·exact mW λu hu=>by obtain⟨k,_,rfl⟩:=Om.mp hu;rfl
variable{cs:List T}
def w6{t:T}(h:aX cs t=ZC):t.nk ZD=ZC:=by
 obtain⟨c,k,rfl⟩:=b9 h;rfl
def AQ{t:T}(h:bu cs t=ZC):t.nk ZD=ZC:=by
 obtain⟨a,b,x,y,rfl,hd,ha,hb,_⟩:=dj h;unfold dD at hd;rw[NN]at hd;obtain⟨i,rfl,_⟩:=cf hd.1;refine mW λt ht=>?_
 simp at ht
 rcases ht with rfl|rfl|rfl|rfl
 ·exact w6 ha
 ·exact w6 hb
 ·rfl
 ·have:=hd.2
  cases t <;> first|rfl|simp[aW]at this
def GR(r:T):Prop:=∃cs ls,r=RR cs ls/\Good cs ls
variable{r:T}
def GR.pl(h:GR r):r.pl=ZC:=by obtain⟨cs,ls,rfl,g⟩:=h;exact g.p
def GR.nk(h:GR r):r.nk ZD=ZC:=by
 obtain⟨cs,ls,rfl,g⟩:=h;refine mW λt ht=>?_
 simp at ht
 rcases ht with rfl|rfl
 ·exact mW λc hc=>Er ((bh g.c).1 c hc)
 ·exact mW λu hu=>AQ (g.l u hu)
def GR.dep(h:GR r):r.dep<=4:=by
 obtain⟨cs,ls,rfl,g⟩:=h;refine mE λt ht=>?_
 simp at ht
 rcases ht with rfl|rfl
 ·exact(zg g).1
 ·exact(zg g).2
def GR.hw(h:GR r):∃b,cq [r]=.ok (.bl b):=by
 obtain⟨cs,ls,rfl,g⟩:=h;obtain⟨L,P,R⟩:=vS g;obtain⟨b,e,_⟩:=R.NB;exact⟨b,e⟩
variable{ls:List T}
def GR.of(hp:(RR cs ls).pl=ZC)(h:cO (RR cs ls)=ZC):GR (RR cs ls):=⟨cs,ls,rfl,zf h hp⟩
def wU(l:List T)(z:T):aV (.lst (l++[z])) (.int (-1))=.ok z:=by
 have:=uR l z;exact this
def fZ(r:T):Bool:=match cq [r]with
 |.ok (.bl b)=>b
 |_=>ZD
def GR.has(h:GR r):cq [r]=.ok (.bl (fZ r)):=by
 obtain⟨b,e⟩:=h.hw;unfold fZ;rw[e]
def DE{L:cj N2}{P:List N2}(R:Rd cs ls L P):fZ (RR cs ls)=ZC↔lq L:=by
 obtain⟨b,e,h⟩:=R.NB;unfold fZ;rw[e];exact h
def GR.ne(h:GR r):pO r r=.ok (.bl ZD):=i6 h.pl (by have:=h.dep;omega)
def GR.Nk(h:GR r):di [r]=.ok (.bl (fZ r)):=by
 obtain⟨cs,ls,rfl,g⟩:=h;obtain⟨L,P,R⟩:=vS g;obtain⟨t,ht,e⟩:=GH R.nd (by have:=R.e;have:=congrArg O7 this;have h2:=oF cs 0 (bh g.c).1;have h3:=(bh g.c).2.2;simp at this;omega) R.f.ends
 refine cy rfl (cT (aL (t:=t) (u:=.non) (aU (ts:=[eS P,eL L]) (aq (aU (ts:=[.tup cs]) (aq (iA (n:=0) (l:=[.tup cs,.tup ls]) rfl rfl rfl) rfl) (by rw[qt cs g.c,R.e];rfl)) (aq (aU (ts:=[RR cs ls]) rfl (by rw[A4 g.c g.l g.n,R.b];rfl)) rfl)) e) rfl ?_))
 show Rs.ok (T.bl (!t.isN))=_
 rcases ht with⟨n,_,rfl⟩|⟨n,rfl⟩
 ·rw[(DE R).mpr n];rfl
 ·have:fZ (RR cs ls)=ZD:=by
   cases hb:fZ (RR cs ls)
   ·rfl
   ·exact absurd ((DE R).mp hb) n
  rw[this];rfl
def GR.nw(h:GR r)(hw:fZ r=ZC):cJ [r]=.ok .non:=by
 refine yw rfl (Z:=[.va r]) ?_
 show fw [.va r]=_
 unfold fw;exact(d7 (gY (k:=ZC) (bf (aU (ts:=[r]) rfl (by rw[h.has,hw]))))).trans rfl
def GR.nwe(h:GR r)(hw:fZ r=ZD):cJ [r]=.err "NoWorld":=by
 refine gW rfl ?_
 show fw [.va r]=_
 unfold fw;exact(dS (gY (k:=ZD) (bf (aU (ts:=[r]) rfl (by rw[h.has,hw]))))).trans rfl
variable{Z:En}{c:Str}
def Gu{f:V5}{fs:V3}{t:T}(h:f Z=.ok t)(hs:fs Z=.err c):ae f fs Z=.err c:=by unfold ae;rw[h,ay,hs];rfl
def F9(hp:r.pl=ZC)(h:cO r=ZD):cJ [r]=.err "NoRecord":=by
 have hb:iQ [r]=.err "NoRecord":=gW rfl (uP (zM (aU (ts:=[r]) rfl (rV hp h))))
 have hw:i8 [r]=.err "NoRecord":=gW rfl (yx (Me (Gu (t:=r) rfl (zN (aU (ts:=[r]) rfl hb)))))
 have hh:cq [r]=.err "NoRecord":=gW rfl (yx (L3 (aU (ts:=[r]) rfl hw)));exact gW rfl (JT (JO (L0 (aU (ts:=[r]) rfl hh))))
abbrev DK(K:List T):OT:=.ob "Desk" ["kept"] [K]
abbrev DV(K:List T):T:=.ob "Desk" ["kept"] [.lst K]
def uT{α:Type}(K:α):mB "kept" ["kept"] [K]=ZA K:=by unfold mB;rw[if_pos rfl]
def CJ(K Q:List T):lG "kept" Q ["kept"] [K]=[Q]:=by unfold lG;rw[if_pos rfl]
def GK(h:GR r)(hw:fZ r=ZC):dy [.ow (.ob "Desk" [] []),.va r]=.ok (.non,DK [r]):=by
 refine ox (Z:=[.ow (DK [r]),.va r]) rfl ?_ rfl
 show gu [.ow (.ob "Desk" [] []),.va r]=_
 unfold gu;refine p9 (Z':=[.ow (.ob "Desk" [] []),.va r]) (wR (t:=.non) (JJ (aU (ts:=[r]) rfl (h.nw hw)))) ?_
 exact(JR (c:="Desk") (ns:=[]) (ls:=[]) (l:=[r]) rfl rfl (by simp) (by simp)).trans rfl
def Ms(K:List T)(r:T):aZ [DV (K++[r])]=.ok r:=
 cy rfl (cT (aL (Hw (ns:=["kept"]) (ts:=[.lst (K++[r])]) rfl (uT _)) (Gj rfl rfl) (wU K r)))
variable{X:V5}{g:List Sl->Rs (T×OT)}{hh:Str->Rs T}{i:Nat}{ts:List T}
section
variable {K:List T}{r' t:T}
def fm(hi:Z[i]?=ZA (.ow (DK (K++[r]))))(h:GR r):ln i (wC "Desk" "record" aZ (vr i) ai) Z=.ok r:=by
 have hl:i<Z.length:=(NW.mp hi).1
 refine Gs hi (Hu (c:="Desk") (ns:=["kept"]) (ts:=[.lst (K++[r])]) (Dn ?_) (by decide) rfl (Ms K r)) h.nk
 unfold disown;rw[hi];simp[hl];rfl
def D2(h:GR r)(hw:fZ r=ZC)(hl:K.length<=1000):bQ [.ow (DK K),.va r]=.ok (.non,DK (K++[r])):=by
 refine ox (Z:=[.ow (DK (K++[r])),.va r]) rfl ?_ rfl
 show gg [.ow (DK K),.va r]=_
 unfold gg;refine p9 (Z':=[.ow (DK K),.va r]) ((zL (k:=ZD) (gY (k:=ZC) (bf (aU (ts:=[r]) rfl (by rw[h.has,hw]))))).trans rfl) ?_
 exact wR (t:=.non) ((JL (ns:=["kept"]) (ls:=[K]) (l:=K) (t:=r) rfl (uT _) rfl hl).trans (by rw[CJ];rfl))
def zX(h:GR r)(hw:fZ r=ZD):bQ [.ow (DK K),.va r]=.err "Barred":=by
 refine fT rfl ?_
 show gg [.ow (DK K),.va r]=_
 unfold gg;exact ij ((zL (k:=ZC) (gY (k:=ZD) (bf (aU (ts:=[r]) rfl (by rw[h.has,hw]))))).trans rfl)
def J6(h:GR r)(hx:dz [r,t]=.ok (RR cs ls))(h':GR (RR cs ls))(hw:fZ (RR cs ls)=ZC)(hl:(K++[r]).length<=1000):
  eQ [.ow (DK (K++[r])),.va t]=.ok (.int ((ls.length:Int) - 1),DK (K++[r] ++[RR cs ls])):=by
 refine uO (Z:=[.ow (DK (K++[r] ++[RR cs ls])),.va t]) rfl ?_ rfl
 show gf [.ow (DK (K++[r])),.va t]=_
 unfold gf;refine p9 (wR (kF (c:="Desk") (ns:=["kept"]) (ls:=[K++[r]]) (ts:=[RR cs ls]) rfl (by decide) (aq (aU (aq (fm rfl h) rfl) hx) rfl) (D2 h' hw hl))) ?_
 exact m6 (JJ (aL (t:=.int (ls.length:Nat)) (u:=.int 1) (aU (ts:=[.tup ls]) (aq (iA (n:=1) (l:=[.tup cs,.tup ls]) (fm (K:=K++[r]) rfl h') rfl rfl) rfl) rfl) rfl rfl))
def GG(h:GR r)(hx:dz [r,t]=.ok r')(h':GR r')(hw:fZ r'=ZD):eQ [.ow (DK (K++[r])),.va t]=.err "Barred":=by
 refine fT rfl ?_
 show gf [.ow (DK (K++[r])),.va t]=_
 unfold gf;exact ij (uQ (gV (c:="Desk") (ns:=["kept"]) (ls:=[K++[r]]) (ts:=[r']) rfl (by decide) (aq (aU (aq (fm rfl h) rfl) hx) rfl) (zX h' hw)))
def Gm{fs:V3}{o:OT}(h:fs Z=.ok ts)(hg:g (.ow (.ob c [] [])::ts.map Sl.va)=.ok (.non,o)):la c g fs Z=.ok (.inr o):=by unfold la;rw[h,ay,hg];rfl
def Ds{d:Str}{fs:V3}(h:fs Z=.ok ts)(hg:g (.ow (.ob c [] [])::ts.map Sl.va)=.err d):la c g fs Z=.err d:=by unfold la;rw[h,ay,hg];rfl
def JP{F:En->Rs (T ⊕ OT)}{v:T ⊕ OT}(h:F Z=.ok v):wB F hh Z=.ok v:=by unfold wB;rw[h]
def Gk{F:En->Rs (T ⊕ OT)}(h:F Z=.err c)(hc:hh c=.ok t):wB F hh Z=.ok (.inl t):=by unfold wB;rw[h];dsimp only;rw[hc]
def r0:jc "NoRecord" =.ok (dv 0):=by unfold jc;rw[if_pos rfl]
def r2:jc "NoNumber" =.ok (dv 2):=by unfold jc;rw[if_neg (by decide),if_neg (by decide),if_pos rfl]
def r3:jc "NoWorld" =.ok (dv 3):=by unfold jc;rw[if_neg (by decide),if_neg (by decide),if_neg (by decide),if_pos rfl]
def r4:jc "Barred" =.ok (dv 4):=by unfold jc;rw[if_neg (by decide),if_neg (by decide),if_neg (by decide),if_neg (by decide),if_pos rfl]
def r5:jc "Nothing" =.ok (dv 5):=by unfold jc;rw[if_neg (by decide),if_neg (by decide),if_neg (by decide),if_neg (by decide),if_neg (by decide),if_pos rfl]
def D7(h:cJ [r]=.err c):dy [.ow (.ob "Desk" [] []),.va r]=.err c:=
 fT rfl (ij (uQ (LY (aU (ts:=[r]) rfl h))))
def GO(h:GR r)(hw:fZ r=ZC):bB [r]=.ok (.inr (DK [r])):=by
 unfold bB xG;rw[if_pos (show [r].length=1 from rfl)]
 exact JP (Gm (ts:=[r]) rfl (GK h hw))
def w9(h:cJ [r]=.err c)(hc:jc c=.ok t):bB [r]=.ok (.inl t):=by
 unfold bB xG;rw[if_pos (show [r].length=1 from rfl)]
 exact Gk (Ds (ts:=[r]) rfl (D7 h)) hc
def J9(K:List T):de [DV K]=.ok (.int ((K.length:Int) - 1)):=
 cy rfl (cT (aL (aU (ts:=[.lst K]) (aq (Hw (ns:=["kept"]) (ts:=[.lst K]) rfl (uT _)) rfl) rfl) rfl rfl))
def yz(hi:Z[i]?=ZA (.ow (DK K))):ln i (wC "Desk" "many" de (vr i) ai) Z=.ok (.int ((K.length:Int) - 1)):=by
 have hl:i<Z.length:=(NW.mp hi).1
 refine Gs hi (Hu (c:="Desk") (ns:=["kept"]) (ts:=[.lst K]) (Dn ?_) (by decide) rfl (J9 K)) rfl
 unfold disown;rw[hi];simp[hl];rfl
def D1(hi:Z[0]?=ZA (.ow (DK K)))(hx:X Z=.ok r')(h:GR r')(hw:fZ r'=ZC)(hl:K.length<=1000):xA (c8 0 "Desk" "keep" bQ (ae X ai)) Z=.ok (.nx (Z.set 0 (.ow (DK (K++[r']))))):=
 wR (kF (c:="Desk") (ns:=["kept"]) (ls:=[K]) (ts:=[r']) hi (by decide) (aq hx rfl) (D2 h hw hl))
def zW(hi:Z[0]?=ZA (.ow (DK K)))(hx:X Z=.ok r')(h:GR r')(hw:fZ r'=ZD):xA (c8 0 "Desk" "keep" bQ (ae X ai)) Z=.err "Barred" :=
 uQ (gV (c:="Desk") (ns:=["kept"]) (ls:=[K]) (ts:=[r']) hi (by decide) (aq hx rfl) (zX h hw))
def oG(hi:Z[0]?=ZA (.ow (DK K)))(hx:X Z=.err c):xA (c8 0 "Desk" "keep" bQ (ae X ai)) Z=.err c:=
 uQ (Di (c:="Desk") (ns:=["kept"]) (ls:=[K]) hi (by decide) (zN hx))
end
end G
namespace G
open PySem Tr Gr
noncomputable def Kj:T->T
 |.tup [x,y,.tup r] =>.tup [x,y,.tup (r.take 2)]
 |t=>t
def Ba{c:T}(h:bw c=ZC):bw (Kj c)=ZC:=by
 obtain⟨x,y,r,rfl,_⟩:=cS h
 have h':(nR (.int x) (.int y)&&cP (.tup (r.map .int)))=ZC:=h;rw[NN]at h'
 show(nR (.int x) (.int y)&&cP (.tup ((r.map .int).take 2)))=ZC
 rw[h'.1,QU]
 have hr:=h'.2;unfold cP at hr ⊢;rw[NN]at hr;obtain⟨h1,h2⟩:=hr
 have h2':(((r.map T.int).all λu=>aW u 0 99)&&(match kN (r.map .int)with|some m=>nF m|none=>ZD))=ZC:=h2
 rw[NN,jL,Od]at h2'
 show(d6 (.tup ((r.map T.int).take 2)) 1 4&&((((r.map T.int).take 2).all λu=>aW u 0 99)&&(match kN ((r.map .int).take 2)with|some m=>nF m|none=>ZD)))=ZC
 have h1':(decide (1<=(r.map T.int).length)&&decide ((r.map T.int).length<=4))=ZC:=h1;rw[NN]at h1'
 have e1:=of_decide_eq_true h1'.1
 have e2:=of_decide_eq_true h1'.2
 have hl:d6 (.tup ((r.map T.int).take 2)) 1 4=ZC:=by
  show(decide (1<=((r.map T.int).take 2).length)&&decide (((r.map T.int).take 2).length<=4))=ZC
  rw[OY,NN];exact⟨decide_eq_true (by omega),decide_eq_true (by omega)⟩
 rw[hl,QU,NN,Od,<-T4,jL];refine⟨λu hu=>h2'.1 u (by rw[T4]at hu;exact PU hu),?_⟩
 match r,h2'.2 with
 |[],_=>rfl
 |[a],_=>rfl
 |a::b::r,q=>
  show nF [a,b]=ZC
  have q:nF (a::b::r)=ZC:=q;rw[Fo,NN]at q;rw[Fo,q.1];rfl
theorem yJ{cs cs':List T}{x:T}(hx:aX cs x=ZC):∀{l:List T},(∀t∈l,aX cs' t=ZC)->fF x l=ZC->x∈l
 |[],_,h=>by cases h
 |t::l,hl,h=>by
  unfold fF at h;rw[Qa,RU]at h;rcases h with h|h
  ·obtain⟨c,k,rfl⟩:=b9 hx
   obtain⟨d,m,rfl⟩:=b9 (hl t (.head _))
   have h':((d == c)&&((m == k)&&ZC))=ZC:=h;rw[T3,NN]at h';rw[eq_of_beq h'.1,eq_of_beq h'.2];exact .head _
  ·exact .tail _ (yJ hx (λu hu=>hl u (.tail _ hu)) h)
def Hy{cs cs':List T}{x:T}{l:List T}(hx:aX cs x=ZC)(hl:∀t∈l,aX cs' t=ZC):AZ x (.lst l)=.ok (.bl (fF x l)):=by
 obtain⟨c,k,rfl⟩:=b9 hx
 show(if _ then _ else _)=_
 have:(T.lst l).nd=ZC:=by
  unfold T.nd;exact yi λt ht=>by obtain⟨d,m,rfl⟩:=b9 (hl t ht);rfl
 rw[if_pos ⟨.inl (by simp[T.dep,deps]),rfl,this⟩]
abbrev smK(l:List T)(t:T):Bool:=match t with
 |.tup [a,b,_,_] =>fF a l&&fF b l
 |_=>ZD
abbrev lI(cs:List T):List T:=(cs.take 2).map Kj
abbrev ls2(cs ls:List T):List T:=ls.filter (smK (d9 0 (lI cs)))
section
variable {cs ls:List T}
def Em(h:a9 (.tup cs)=ZC):a9 (.tup (lI cs))=ZC:=by
 obtain⟨ha,h1,h4⟩:=bh h
 show(d6 (.tup (lI cs)) 1 4&&(lI cs).all bw)=ZC
 rw[NN,Od];refine⟨?_,λc hc=>?_⟩
 ·show(decide (1<=(lI cs).length)&&decide ((lI cs).length<=4))=ZC
  rw[NR,OY,NN];exact⟨decide_eq_true (by omega),decide_eq_true (by omega)⟩
 ·obtain⟨d,hd,rfl⟩:=Om.mp hc
  exact Ba (ha d (PU hd))
def Jz(g:Good cs ls):∀t∈ls2 cs ls,bu (lI cs) t=ZC:=λt ht=>by
 obtain⟨h1,h2⟩:=Rh.mp ht;obtain⟨a,b,x,y,rfl,hd,ha,hb,hn⟩:=dj (g.l t h1)
 have h2':(fF a (d9 0 (lI cs))&&fF b (d9 0 (lI cs)))=ZC:=h2;rw[NN]at h2'
 have e1:=nL (yJ ha (λu hu=>nL hu) h2'.1)
 have e2:=nL (yJ hb (λu hu=>nL hu) h2'.2)
 show(dD x y&&(aX (lI cs) a&&(aX (lI cs) b&& !bo a b)))=ZC
 rw[hd,e1,e2,hn];rfl
def BV(g:Good cs ls):GR (RR (lI cs) (ls2 cs ls)):=by
 have hp:(RR (lI cs) (ls2 cs ls)).pl=ZC:=by
  refine i5 ?_ (by rw[fJ];exact gk λt ht=>g.parts.2 t (Rh.mp ht).1)
  rw[fJ];refine gk λt ht=>?_
  obtain⟨d,hd,rfl⟩:=Om.mp ht;obtain⟨x,y,r,rfl,_⟩:=cS ((bh g.c).1 d (PU hd))
  show(T.tup [.int x,.int y,.tup ((r.map .int).take 2)]).pl=ZC
  rw[<-T4,fJ]
  have:(T.tup ((r.take 2).map .int)).pl=ZC:=by rw[fJ];exact gk λt ht=>by obtain⟨k,_,rfl⟩:=Om.mp ht;rfl
  exact gk λu hu=>by
   simp only[NT,Po,or_false]at hu;rcases hu with rfl|rfl|rfl
   ·rfl
   ·rfl
   ·exact this
 exact⟨_,_,rfl,Em g.c,Jz g,OJ (List.length_filter_le _ _) g.n,hp⟩
def GI(g:Good cs ls):gC [RR cs ls]=.ok (RR (lI cs) (ls2 cs ls)):=by
 obtain⟨ha,h1,h4⟩:=bh g.c;refine cy rfl ?_
 show jk [.va (RR cs ls),.em,.em]=_
 unfold jk
 have hc:ig (iS (sl (o2 aV (vr 0) (cn (.int 0))) pN (pS (cn (.int 2))))) [ZB] (gN 0) bT (o2 aP (sl (vr 0) pN (pS (cn (.int 2)))) (aK (ae (sl (o2 aV (vr 0) (cn (.int 2))) pN (pS (cn (.int 2)))) ai))) [.va (RR cs ls),.em,.em]=.ok (.lst (lI cs)):=by
  refine yA (ts:=cs.take 2) (h:=Kj) (L9 ?_) (by unfold ZI;rw[OY];omega) (by simp) λc hc=>?_
  ·rw[AV (l:=cs) (lo:=ZB) (hi:=ZA ((2:Nat):Int)) (iA (n:=0) (l:=[.tup cs,.tup ls]) rfl rfl rfl) rfl (wQ rfl),kf]
  ·obtain⟨x,y,r,rfl,_,_,_,hr4⟩:=cS (ha c (PU hc))
   refine aL (t:=.tup [.int x,.int y]) (u:=.tup [.tup ((r.map .int).take 2)]) ?_ (ba (aq ?_ rfl) (az (k:=1) (by simp))) (fU _ _ (by simp))
   ·exact(AV (l:=[.int x,.int y,.tup (r.map .int)]) (lo:=ZB) (hi:=ZA ((2:Nat):Int)) rfl rfl (wQ rfl)).trans (by rw[kf];rfl)
   ·rw[AV (l:=r.map .int) (lo:=ZB) (hi:=ZA ((2:Nat):Int)) (iA (n:=2) (l:=[.int x,.int y,.tup (r.map .int)]) rfl rfl rfl) rfl (wQ rfl),kf]
 rw[aE (Z':=[.va (RR cs ls),.va (.tup (lI cs)),.em]) (bV (t:=.tup (lI cs)) (aU (ts:=[.lst (lI cs)]) (aq hc rfl) rfl) rfl)];rw[aE (Z':=[.va (RR cs ls),.va (.tup (lI cs)),.va (.lst (d9 0 (lI cs)))]) (bV (aU (ts:=[.tup (lI cs)]) rfl (qt _ (Em g.c))) rfl)]
 have hl:ig (iS (o2 aV (vr 0) (cn (.int 1)))) [ZB,ZA 2] (gN 0) (lL (tb (o2 AZ (o2 aV (vr 0) (cn (.int 0))) (vr 1))) (tb (o2 AZ (o2 aV (vr 0) (cn (.int 1))) (vr 1)))) (vr 0) [.va (RR cs ls),.va (.tup (lI cs)),.va (.lst (d9 0 (lI cs)))]=.ok (.lst (ls2 cs ls)):=by
  refine(Hv (ts:=ls) (p:=smK (d9 0 (lI cs))) (h:=id) (L9 (iA (n:=1) (l:=[.tup cs,.tup ls]) rfl rfl rfl)) (by have:=g.n;unfold ZI;omega) (by simp) λt ht=>?_).trans (by rw[Tz])
  obtain⟨a,b,x,y,rfl,hd,h1,h2,hn⟩:=dj (g.l t ht);refine⟨?_,λ_=>rfl⟩
  have c1:tb (o2 AZ (o2 aV (vr 0) (cn (.int 0))) (vr 1)) [.va (.tup [a,b,x,y]),.va (.lst (d9 0 (lI cs)))]=.ok (fF a (d9 0 (lI cs))):=bf (aL (iA (n:=0) (l:=[a,b,x,y]) rfl rfl rfl) rfl (Hy h1 λu hu=>nL hu))
  have c2:tb (o2 AZ (o2 aV (vr 0) (cn (.int 1))) (vr 1)) [.va (.tup [a,b,x,y]),.va (.lst (d9 0 (lI cs)))]=.ok (fF b (d9 0 (lI cs))):=bf (aL (iA (n:=1) (l:=[a,b,x,y]) rfl rfl rfl) rfl (Hy h2 λu hu=>nL hu))
  show(lL _ _ _)=.ok (fF a (d9 0 (lI cs))&&fF b (d9 0 (lI cs)))
  cases hq:fF a (d9 0 (lI cs))with
  |true=>rw[hq]at c1;exact qf c1 c2
  |false=>rw[hq]at c1;exact yB c1
 exact cT (ba (aq rfl (aq (aU (ts:=[.lst (ls2 cs ls)]) (aq hl rfl) rfl) rfl)) (az (k:=2) (by simp)))
end
end G
namespace G
open PySem Tr Gr
variable{n:Int}
def rW{t:T}(ht:t.pl=ZC)(h:aW t 0 (n - 1)=ZD):cR [.int n,t]=.err "NoNumber":=by
 refine gW rfl ?_
 show ef [.va (.int n),.va t]=_
 unfold ef;exact(dS (gY (k:=ZD) (bf (aU (ts:=[t,.int 0,.int (n - 1)]) rfl (by rw[fq _ _ _ ht,h]))))).trans rfl
variable{cs ls:List T}
def ya(g:Good cs ls)(hn:aW (.int n) 0 ((ls.length:Int) - 1)=ZD):cv [RR cs ls,.int n]=.err "NoNumber":=by
 refine gW rfl ?_
 show cY [.va (RR cs ls),.va (.int n),.em]=_
 unfold cY;rw[aE (ri (t:=.non) (aU (ts:=[RR cs ls]) rfl (fW g.p g.ok)))];rw[aE (Z':=[.va (RR cs ls),.va (.int n),.va (.tup ls)]) ((bV (t:=.tup ls) rfl rfl))];exact uP (zM (aU (ts:=[.int (ls.length:Int),.int n]) rfl (rW rfl hn)))
def v5{u:T}(g:Good cs ls)(hn:aW (.int n) 0 ((cs.length:Int) - 1)=ZD):cX [RR cs ls,.int n,u]=.err "NoNumber":=by
 refine gW rfl ?_
 show dW [.va (RR cs ls),.va (.int n),.va u,.em]=_
 unfold dW;rw[aE (ri (t:=.non) (aU (ts:=[RR cs ls]) rfl (fW g.p g.ok)))];exact uP (zM (aU (ts:=[.int (cs.length:Int),.int n]) rfl (rW rfl hn)))
abbrev NE(R:T)(ask:Nat)(S:T)(cs ls t n u f8 f9 f10 f11:Sl):En:=[.va R,.va (.int (ask:Nat)),.va S,cs,ls,t,n,u,f8,f9,f10,f11]
abbrev NF(cs ls:List T)(ask:Nat)(t:T)(n u:Int)(f8 f9 f10 f11:Sl):En:=NE (RR cs ls) ask (.tup [t,.int n,.int u]) (.va (.tup cs)) (.va (.tup ls)) (.va t) (.va (.int n)) (.va (.int u)) f8 f9 f10 f11
abbrev Ky(o:OT)(ask:Nat)(t:T)(n u:Int):En:=[.ow o,.va (.int (ask:Nat)),.va (.tup [t,.int n,.int u]),.em]
variable{Z:En}
def chI{fa fb fc:V5}{x y z:Int}(ha:fa Z=.ok (.int x))(hb:fb Z=.ok (.int y))(hc:fc Z=.ok (.int z)):ch Bq pQ fa fb fc Z=.ok (.bl (decide (x<=y)&&decide (y<z))):=by
 unfold ch;rw[ha,ay,hb,ay]
 show((Rs.ok (T.bl (decide (x<=y))):Rs T) >>= _)=_
 rw[ay]
 by_cases h0:x<=y
 ·rw[decide_eq_true h0,QU]
  show(fc Z >>= _)=_
  rw[hc,ay];rfl
 ·rw[decide_eq_false h0,Bool.false_and]
def DB{m:Nat}:(decide ((0:Int)<=n)&&decide (n<(m:Nat)))=aW (.int n) 0 ((m:Int) - 1):=by
 show _=(decide (0<=n)&&decide (n<=(m:Int) - 1))
 rw[show decide (n<((m:Nat):Int))=decide (n<=(m:Int) - 1)from decide_eq_decide.mpr (by omega)]
variable{f:V6}
def qc{F G':En->Rs Fx}{z:Rs Fx}(h:f Z=.ok ZC)(h2:F Z=z)(hz:MK z=z):pP f F G' Z=z:=by unfold pP;rw[h];show MK (F Z)=_;rw[h2];exact hz
def iB{F G':En->Rs Fx}(h:f Z=.ok ZD):pP f F G' Z=G' Z:=by unfold pP;rw[h];rfl
def Dj{x y:En->Rs (T×En)}(h:f Z=.ok ZC):E5 f x y Z=x Z:=by unfold E5;rw[h];rfl
def Dk{x y:En->Rs (T×En)}(h:f Z=.ok ZD):E5 f x y Z=y Z:=by unfold E5;rw[h];rfl
variable{ask:Nat}{c:Str}{o':OT}{v:T}
section
variable {t:T}{u:Int}
def za{o:OT}(h:tdB (Ky o ask t n u)=.ok (.rt v (Ky o' ask t n u))):bz [.ow o,.va (.int (ask:Nat)),.va (.tup [t,.int n,.int u])]=.ok (v,o'):=uO (Z:=Ky o' ask t n u) rfl (JQ h) rfl
def vo{o:OT}(h:tdB (Ky o ask t n u)=.err c)(hc:jc c=.ok v):bz [.ow o,.va (.int (ask:Nat)),.va (.tup [t,.int n,.int u])]=.ok (v,o):=uO (Z:=Ky o ask t n u) rfl (Gn h hc) rfl
def Gy{o:OT}{j:Nat}(e:[t,.int n,.int u][j]?=ZA v):o2 aV (vr 2) (cn (.int (j:Nat))) (Ky o ask t n u)=.ok v:=iA (n:=j) (l:=[t,.int n,.int u]) rfl rfl e
end
abbrev Kr(ask:Nat)(r t:T)(n u:Int)(K:List T):Rs (T×OT):=bz [.ow (DK (K++[r])),.va (.int (ask:Nat)),.va (.tup [t,.int n,.int u])]
def MT(ask:Nat)(r t:T)(n u:Int):Prop:=
 (∃r' v,GR r'/\cu [r,.int (ask:Nat),.tup [t,.int n,.int u]]=.ok (.tup [r',v])/\pO v v=.ok (.bl ZD) ∧
  (fZ r'=ZC->∀K:List T,(K++[r]).length<=1000->Kr ask r t n u K=.ok (v,DK (K++[r] ++[r'])))/\(fZ r'=ZD->∀K:List T,Kr ask r t n u K=.ok (dv 4,DK (K++[r])))) ∨
 ∃j,cu [r,.int (ask:Nat),.tup [t,.int n,.int u]]=.ok (.tup [.non,dv j])/\∀K:List T,Kr ask r t n u K=.ok (dv j,DK (K++[r]))
variable{K:List T}{k:Nat}
section
variable {t r r':T}{u:Int}
def ml(e:(aD X2 (aD X3 (aD X4 (aD X5 (aD X6 X7))))) (NF cs ls ask t n u .em .em .em .em)=.ok (.rt v)):cu [RR cs ls,.int (ask:Nat),.tup [t,.int n,.int u]]=.ok v:=by
 refine cy rfl ?_
 show kn (NE (RR cs ls) ask (.tup [t,.int n,.int u]) .em .em .em .em .em .em .em .em .em)=_
 unfold kn;rw[aE (Z':=NE (RR cs ls) ask (.tup [t,.int n,.int u]) (.va (.tup cs)) (.va (.tup ls)) .em .em .em .em .em .em .em) (bV (t:=RR cs ls) rfl rfl)];rw[aE (Z':=NF cs ls ask t n u .em .em .em .em) (bV (t:=.tup [t,.int n,.int u]) rfl rfl)];exact e
def tN(j:Nat):aK (ae (cn .non) (ae (aK (ae (cn (.str "refused")) (ae (cn (.int (j:Nat))) ai))) ai)) Z=.ok (.tup [.non,dv j]):=ba (aq rfl (aq (ba rfl (az (k:=2) (by simp))) rfl)) (az (k:=2) (by simp))
def K4{f:T}{g:V5}(h8:Z[8]?=ZA (.va f))(hp:f.pl=ZC)(hg:g Z=.ok v):aR (yE (tb (cl bH (ae (vr 8) ai))) (aK (ae (vr 8) (ae g ai))) (aK (ae (cn .non) (ae (aK (ae (cn (.str "refused")) (ae (cn (.int 0)) ai))) ai)))) Z=.ok (.rt (if cO f then .tup [f,v]else .tup [.non,dv 0])):=by
 refine cT ((sf (p:=cO f) (bf (aU (ts:=[f]) (aq (Dn h8) rfl) (qr f hp)))).trans ?_)
 cases cO f
 ·exact tN 0
 ·exact ba (aq (Dn h8) (aq hg rfl)) (az (k:=2) (by simp))
def nx0(g:Good cs ls)(ht:t.pl=ZC):MT 0 (RR cs ls) t n u:=by
 have hG:GR (RR cs ls):=⟨_,_,rfl,g⟩
 have hp:(RR cs (ls++[t])).pl=ZC:=i5 g.parts.1 (tR g.pls (by simp[T.pl,plS,ht]))
 have hn:cu [RR cs ls,.int (0:Nat),.tup [t,.int n,.int u]]=.ok (if cO (RR cs (ls++[t]))then .tup [RR cs (ls++[t]),.int (ls.length:Nat)]else .tup [.non,dv 0]):=by
  refine ml ?_
  refine gX ((dS (bf rfl)).trans ?_)
  rw[aE (bV (t:=RR cs (ls++[t])) (ba (aq rfl (aq (aL (t:=.tup ls) (u:=.tup [t]) rfl (ba rfl (az (k:=1) (by simp))) (fU _ _ (by have:=g.n;simp;omega))) rfl)) (az (k:=2) (by simp))) rfl)]
  exact K4 rfl hp (aU (ts:=[.tup ls]) rfl rfl)
 have hw:=tW g.parts.1 g.pls (by have:=g.n;omega) ht g.ok
 unfold pf at hw
 cases hr:cO (RR cs (ls++[t]))with
 |true=>
  rw[hr,if_pos rfl]at hn;rw[if_pos hr]at hw
  have h':GR (RR cs (ls++[t])):=GR.of hp hr;refine .inl ⟨_,_,h',hn,i6 rfl (by simp[T.dep]),λb K hl=>za (qc (bf rfl) (m6 (kF (c:="Desk") (ns:=["kept"]) (ls:=[K++[RR cs ls]]) (ts:=[t]) rfl (by decide) (aq (Gy (j:=0) rfl) rfl) ((J6 hG hw h' b hl).trans ?_))) rfl),λb K=>vo (qc (bf rfl) (mq (gV (c:="Desk") (ns:=["kept"]) (ls:=[K++[RR cs ls]]) (ts:=[t]) rfl (by decide) (aq (Gy (j:=0) rfl) rfl) (GG hG hw h' b))) rfl) r4⟩
  rw[show(((ls++[t]).length:Int) - 1)=(ls.length:Nat)by simp]
 |false=>
  rw[hr,if_neg N0]at hn;rw[if_neg (by rw[hr];exact N0)]at hw
  exact .inr ⟨0,hn,λK=>vo (qc (bf rfl) (mq (gV (c:="Desk") (ns:=["kept"]) (ls:=[K++[RR cs ls]]) (ts:=[t]) rfl (by decide) (aq (Gy (j:=0) rfl) rfl) (fT rfl (ij (oG (Z:=[.ow (DK (K++[RR cs ls])),.va t]) rfl (aU (aq (fm rfl hG) rfl) hw)))))) rfl) r0⟩
def Ka(h:GR r)(hx:cv [r,t]=.ok r')(h':GR r')(hw:fZ r'=ZC)(K:List T)(hl:(K++[r]).length<=1000):dO [.ow (DK (K++[r])),.va t]=.ok (.non,DK (K++[r] ++[r'])):=
 ox (Z:=[.ow (DK (K++[r] ++[r'])),.va t]) rfl (D1 (Z:=[.ow (DK (K++[r])),.va t]) rfl (aU (aq (fm rfl h) rfl) hx) h' hw hl) rfl
def td2(ha:ask=2)(h:dO [.ow (DK K),.va (.int n)]=.ok (v,o')):bz [.ow (DK K),.va (.int (2:Nat)),.va (.tup [t,.int n,.int u])]=.ok (v,o'):=
 za ((iB (bf rfl)).trans ((iB (bf rfl)).trans (m6 ((Dj (bf rfl)).trans (kF (c:="Desk") (ns:=["kept"]) (ls:=[K]) (ts:=[.int n]) rfl (by decide) (aq (Gy (j:=1) rfl) rfl) h)))))
def KL(h:dO [.ow (DK K),.va (.int n)]=.err c)(hc:jc c=.ok v):bz [.ow (DK K),.va (.int (2:Nat)),.va (.tup [t,.int n,.int u])]=.ok (v,DK K):=
 vo ((iB (bf rfl)).trans ((iB (bf rfl)).trans (mq ((Dj (bf rfl)).trans (gV (c:="Desk") (ns:=["kept"]) (ls:=[K]) (ts:=[.int n]) rfl (by decide) (aq (Gy (j:=1) rfl) rfl) h))))) hc
def td1(h:dN [.ow (DK K),.va (.int n),.va (.int u)]=.ok (v,o')):bz [.ow (DK K),.va (.int (1:Nat)),.va (.tup [t,.int n,.int u])]=.ok (v,o'):=
 za ((iB (bf rfl)).trans (qc (bf rfl) (m6 (kF (c:="Desk") (ns:=["kept"]) (ls:=[K]) (ts:=[.int n,.int u]) rfl (by decide) (aq (Gy (j:=1) rfl) (aq (Gy (j:=2) rfl) rfl)) h)) rfl))
def Ia(h:dN [.ow (DK K),.va (.int n),.va (.int u)]=.err c)(hc:jc c=.ok v):bz [.ow (DK K),.va (.int (1:Nat)),.va (.tup [t,.int n,.int u])]=.ok (v,DK K):=
 vo ((iB (bf rfl)).trans (qc (bf rfl) (mq (gV (c:="Desk") (ns:=["kept"]) (ls:=[K]) (ts:=[.int n,.int u]) rfl (by decide) (aq (Gy (j:=1) rfl) (aq (Gy (j:=2) rfl) rfl)) h)) rfl)) hc
def nx2(g:Good cs ls):MT 2 (RR cs ls) t n u:=by
 have hg:=g.n
 have hG:GR (RR cs ls):=⟨_,_,rfl,g⟩
 have h2:X2 (NF cs ls 2 t n u .em .em .em .em)=.ok (.nx (NF cs ls 2 t n u .em .em .em .em)):=(d7 (bf rfl)).trans rfl
 have hx:cI (tb (ch Bq pQ (cn (.int 0)) (vr 6) (cl bO (ae (vr 4) ai)))) (NF cs ls 2 t n u .em .em .em .em)=.ok (!aW (.int n) 0 ((ls.length:Int) - 1)):=by
  rw[<-DB];exact gY (bf (chI (x:=0) (y:=n) (z:=(ls.length:Nat)) rfl rfl (aU (ts:=[.tup ls]) rfl rfl)))
 cases hw:aW (.int n) 0 ((ls.length:Int) - 1)with
 |false=>
  rw[hw]at hx
  exact .inr ⟨2,ml ((aE h2).trans (gX ((dS (bf rfl)).trans (gX ((dS hx).trans (cT (tN 2))))))),λK=>KL (fT rfl (oG (Z:=[.ow (DK (K++[RR cs ls])),.va (.int n)]) rfl (aU (aq (fm rfl hG) rfl) (ya g hw)))) r2⟩
 |true=>
  rw[hw]at hx;obtain⟨i,hi,h0,h1⟩:=cf hw;cases hi;obtain⟨k,rfl⟩:=Ov h0
  have hk:k<ls.length:=by omega
  have h':GR (RR cs (tZ ls k)):=⟨cs,_,rfl,g.sub (λv hv=>by
   unfold tZ at hv;rcases Oi.mp hv with z|z
   ·exact PU z
   ·exact Th z) (OJ (tY _ _) g.n)⟩
  exact .inl ⟨_,.non,h',ml ((aE h2).trans (gX ((dS (bf rfl)).trans ((aE ((d7 hx).trans rfl)).trans (cT (ba (aq (ba (aq (t:=.tup cs) rfl (aq (t:=.tup (tZ ls k)) (aL (t:=.tup (ls.take k)) (u:=.tup (ls.drop (k+1))) (yN rfl rfl) (uY rfl rfl) (fU _ _ (by have:=tY ls k;unfold tZ at this;omega))) rfl)) (az (k:=2) (by simp))) (aq rfl rfl)) (az (k:=2) (by simp)))))))),i6 rfl (by simp[T.dep]),λb K hl=>td2 rfl (Ka hG (rM g hk) h' b K hl),λb K=>KL (fT rfl (zW (Z:=[.ow (DK (K++[RR cs ls])),.va (.int (k:Nat))]) rfl (aU (aq (fm rfl hG) rfl) (rM g hk)) h' b)) r4⟩
def IV{l:List T}{c:T}(h:k<l.length):(jy l k c)[k]?=ZA c:=by
 unfold jy;rw[Oo,Py (by simp;omega)]
 have:k - (l.take k).length=0:=by simp;omega
 rw[this];rfl
def J7{x y:Int}{rr:List T}{cs' ls':List T}(h:GR r)(hx:cX [r,.int (k:Nat),.int u]=.ok (RR cs' ls'))(h':GR (RR cs' ls'))(hw:fZ (RR cs' ls')=ZC)(e:cs'[k]?=ZA (.tup [.int x,.int y,.tup rr]))(K:List T)(hl:(K++[r]).length<=1000):
  dN [.ow (DK (K++[r])),.va (.int (k:Nat)),.va (.int u)]=.ok (.tup [.int (k:Nat),.int ((rr.length:Int) - 1)],DK (K++[r] ++[RR cs' ls'])):=by
 refine uO (Z:=[.ow (DK (K++[r] ++[RR cs' ls'])),.va (.int (k:Nat)),.va (.int u)]) rfl ?_ rfl
 show kq [.ow (DK (K++[r])),.va (.int (k:Nat)),.va (.int u)]=_
 unfold kq;refine p9 (D1 (Z:=[.ow (DK (K++[r])),.va (.int (k:Nat)),.va (.int u)]) rfl (aU (aq (fm rfl h) rfl) hx) h' hw hl) ?_
 exact m6 (JJ (ba (aq rfl (aq (aL (t:=.int (rr.length:Nat)) (u:=.int 1) (aU (ts:=[.tup rr]) (aq (iA (n:=2) (l:=[.int x,.int y,.tup rr]) (iA (n:=k) (l:=cs') (iA (n:=0) (l:=[.tup cs',.tup ls']) (fm (K:=K++[r]) rfl h') rfl rfl) rfl e) rfl rfl) rfl) rfl) rfl rfl) rfl)) (az (k:=2) (by simp))))
def nx1(g:Good cs ls):MT 1 (RR cs ls) t n u:=by
 have hc4:=(bh g.c).2.2
 have hG:GR (RR cs ls):=⟨_,_,rfl,g⟩
 have h2:X2 (NF cs ls 1 t n u .em .em .em .em)=.ok (.nx (NF cs ls 1 t n u .em .em .em .em)):=(d7 (bf rfl)).trans rfl
 have h3:X3 (NF cs ls 1 t n u .em .em .em .em)=.ok (.nx (NF cs ls 1 t n u .em .em .em .em)):=(d7 (bf rfl)).trans rfl
 have hx:cI (tb (ch Bq pQ (cn (.int 0)) (vr 6) (cl bO (ae (vr 3) ai)))) (NF cs ls 1 t n u .em .em .em .em)=.ok (!aW (.int n) 0 ((cs.length:Int) - 1)):=by
  rw[<-DB];exact gY (bf (chI (x:=0) (y:=n) (z:=(cs.length:Nat)) rfl rfl (aU (ts:=[.tup cs]) rfl rfl)))
 cases hw:aW (.int n) 0 ((cs.length:Int) - 1)with
 |false=>
  rw[hw]at hx
  exact .inr ⟨2,ml ((aE h2).trans ((aE h3).trans (gX ((dS hx).trans (cT (tN 2)))))),λK=>Ia (fT rfl (ij (oG (Z:=[.ow (DK (K++[RR cs ls])),.va (.int n),.va (.int u)]) rfl (aU (aq (fm rfl hG) rfl) (v5 g hw))))) r2⟩
 |true=>
  rw[hw]at hx;obtain⟨i,hi,h0,h1⟩:=cf hw;cases hi;obtain⟨k,rfl⟩:=Ov h0
  have hk:k<cs.length:=by omega
  obtain⟨x,y,rr,er,h1',h4⟩:=xm g (n:=k) hk
  have plr:(T.tup (rr.map .int)).pl=ZC:=by rw[fJ];exact gk λt ht=>by obtain⟨k,_,rfl⟩:=Om.mp ht;rfl
  have hw2:=qN (u:=.int u) g (n:=k) hk er (by rw[NR];exact h4) rfl rfl plr rfl
  have hp:(RR (jy cs k (.tup [.int x,.int y,.tup (rr.map .int++[.int u])])) ls).pl=ZC:=by
   refine i5 (Cr g.parts.1 ?_) g.pls
   have:=tR plr (m:=[.int u]) rfl;simp[T.pl,plS]at this ⊢;exact this
  have hn:cu [RR cs ls,.int (1:Nat),.tup [t,.int (k:Nat),.int u]]=.ok (if cO (RR (jy cs k (.tup [.int x,.int y,.tup (rr.map .int++[.int u])])) ls)then .tup [RR (jy cs k (.tup [.int x,.int y,.tup (rr.map .int++[.int u])])) ls,.tup [.int (k:Nat),.int (rr.length:Nat)]]else .tup [.non,dv 0]):=by
   refine ml ((aE h2).trans ((aE h3).trans ((aE ((d7 hx).trans rfl)).trans ?_)))
   rw[aE (Z':=NF cs ls 1 t (k:Nat) u .em (.va (.int x)) (.va (.int y)) (.va (.tup (rr.map .int)))) (bV (t:=.tup [.int x,.int y,.tup (rr.map .int)]) (iA (n:=k) (l:=cs) rfl rfl er) rfl)];rw[aE (bV (t:=RR (jy cs k (.tup [.int x,.int y,.tup (rr.map .int++[.int u])])) ls) (ba (aq (t:=.tup (jy cs k (.tup [.int x,.int y,.tup (rr.map .int++[.int u])]))) (Dq (by omega) rfl rfl (ba (aq rfl (aq rfl (aq (aL (t:=.tup (rr.map .int)) (u:=.tup [.int u]) rfl (ba rfl (az (k:=1) (by simp))) (fU _ _ (by simp;omega))) rfl))) (az (k:=3) (by simp)))) (aq rfl rfl)) (az (k:=2) (by simp))) rfl)]
   refine K4 rfl hp (ba (aq rfl (aq (aU (ts:=[.tup (rr.map .int)]) rfl ?_) rfl)) (az (k:=2) (by simp)))
   show Rs.ok (T.int ((rr.map T.int).length:Nat))=_
   rw[NR]
  unfold pf at hw2
  cases hr:cO (RR (jy cs k (.tup [.int x,.int y,.tup (rr.map .int++[.int u])])) ls)with
  |true=>
   rw[hr,if_pos rfl]at hn;rw[if_pos hr]at hw2
   have h':=GR.of hp hr;refine .inl ⟨_,_,h',hn,i6 rfl (by simp[T.dep,deps]),λb K hl=>td1 ((J7 hG hw2 h' b (IV hk) K hl).trans ?_),λb K=>Ia (fT rfl (ij (zW (Z:=[.ow (DK (K++[RR cs ls])),.va (.int (k:Nat)),.va (.int u)]) rfl (aU (aq (fm rfl hG) rfl) hw2) h' b))) r4⟩
   rw[show(((rr.map T.int++[T.int u]).length:Int) - 1)=(rr.length:Nat)by simp]
  |false=>
   rw[hr,if_neg N0]at hn;rw[if_neg (by rw[hr];exact N0)]at hw2
   exact .inr ⟨0,hn,λK=>Ia (fT rfl (ij (oG (Z:=[.ow (DK (K++[RR cs ls])),.va (.int (k:Nat)),.va (.int u)]) rfl (aU (aq (fm rfl hG) rfl) hw2)))) r0⟩
end
def Jq{r t:T}{u:Int}(ha:ask<3)(h:GR r)(ht:t.pl=ZC):MT ask r t n u:=by
 obtain⟨cs,ls,rfl,g⟩:=h
 match ask,ha with
 |0,_=>exact nx0 g ht
 |1,_=>exact nx1 g
 |2,_=>exact nx2 g
end G
namespace G
open PySem Tr Gr
def Ho{a b:Int}(h:a<b):rh [.int a,.int b]=.ok (.int b):=by
 show Rs.ok (T.int (if a<b then b else a))=_
 rw[if_pos h]
def C5{a b:Int}(h:b<=a):rh [.int a,.int b]=.ok (.int a):=by
 show Rs.ok (T.int (if a<b then b else a))=_
 rw[if_neg (by omega)]
def GF(r:T):da [.ow (DK [r])]=.err "Nothing":=by
 refine fT rfl ?_
 show gd [.ow (DK [r])]=_
 unfold gd;exact ij ((zL (k:=ZC) (bf (aL (t:=.int (([r].length:Int) - 1)) (u:=.int 0) (yz (K:=[r]) rfl) rfl (zV rfl (by simp[T.dep]))))).trans rfl)
variable{K:List T}
def J5(r:T)(h:K≠ []):da [.ow (DK (K++[r]))]=.ok (.non,DK K):=by
 refine ox (Z:=[.ow (DK K)]) rfl ?_ rfl
 show gd [.ow (DK (K++[r]))]=_
 unfold gd
 have hk:0<K.length:=List.length_pos_iff.mpr h;refine p9 (Z':=[.ow (DK (K++[r]))]) ((zL (k:=ZD) (bf (aL (t:=.int (((K++[r]).length:Int) - 1)) (u:=.int 0) (yz (K:=K++[r]) rfl) rfl ?_))).trans rfl) ?_
 ·rw[qo,NV,Pq]
  congr 2
  exact beq_eq_false_iff_ne.mpr (by omega)
 ·exact wR ((JI (ns:=["kept"]) (ls:=[K++[r]]) (l:=K) (t:=r) rfl (uT _)).trans (by rw[CJ];rfl))
variable{D:List T}{v:T}
section
variable {r t:T}{ns:List Int}{n u:Int}
abbrev LE(ns:List Int)(F:T)(D R:List T)(k he re ak le rd so du fo:Sl):En:=[.va (.scr ns),.va F,.ow (DK D),.va (.lst R),k,he,re,ak,le,rd,so,du,fo]
structure St (R:List T):Prop where
 g:∀r∈R,GR r/\fZ r=ZC
 n:R.length<=50
def pd(j:Nat):pO (dv j) (dv j)=.ok (.bl ZD):=i6 rfl (by simp[dv,T.dep,deps])
def GR.ND(h:GR r):r.isN=ZD:=by obtain⟨cs,ls,rfl,g⟩:=h;rfl
def yU(ns:List Int)(F:T)(K:List T)(r:T)(k he:Sl)(ask:Nat)(le rd:Sl)(t:T)(n u:Int)(du fo:Sl):Prop:=∃K' r' D fo',St (K'++[r'])/\K'.length<=K.length+1 ∧
  B6 (LE ns F (K++[r]) (K++[r]) k he (.va r) (.va (.int (ask:Nat))) le rd (.va (.tup [t,.int n,.int u])) du fo)=.ok (.nx (LE ns F (K++[r]) (K'++[r']) k he (.va r) (.va (.int (ask:Nat))) le rd (.va (.tup [t,.int n,.int u])) (.va D) fo')) ∧
  bz [.ow (DK (K++[r])),.va (.int (ask:Nat)),.va (.tup [t,.int n,.int u])]=.ok (D,DK (K'++[r']))/\pO D D=.ok (.bl ZD)
def Kq(h:St (K++[r]))(hl:K.length<40){ask:Nat}(hk:ask<3)(ht:t.pl=ZC)(F:T)(k he le rd du fo:Sl):yU ns F K r k he ask le rd t n u du fo:=by
 have hr:=(h.g r (by simp)).1
 have hgt:tb (o2 kP (vr 7) (cn (.int 3))) (LE ns F (K++[r]) (K++[r]) k he (.va r) (.va (.int (ask:Nat))) le rd (.va (.tup [t,.int n,.int u])) du fo)=.ok ZD:=bf (aL (t:=.int (ask:Nat)) (u:=.int 3) rfl rfl (by rw[qo];congr 2;exact beq_eq_false_iff_ne.mpr (by omega)))
 have step:∀(x v x' v':T),cu [r,.int (ask:Nat),.tup [t,.int n,.int u]]=.ok (.tup [x,v])->(x'=x/\v'=v/\(x.isN=ZD->GR x/\fZ x=ZC)\/(x'=.non/\v'=dv 4/\GR x/\fZ x=ZD)) →
   B6 (LE ns F (K++[r]) (K++[r]) k he (.va r) (.va (.int (ask:Nat))) le rd (.va (.tup [t,.int n,.int u])) du fo)=.ok (.nx (LE ns F (K++[r]) (K++[r] ++(if !x'.isN then [x']else [])) k he (.va r) (.va (.int (ask:Nat))) le rd (.va (.tup [t,.int n,.int u])) (.va v') (.va x'))):=by
  intro x v x' v' e hc;refine(d7 hgt).trans ?_
  rw[aE (Z':=LE ns F (K++[r]) (K++[r]) k he (.va r) (.va (.int (ask:Nat))) le rd (.va (.tup [t,.int n,.int u])) (.va v) (.va x)) (bV (aU (ts:=[r,.int (ask:Nat),.tup [t,.int n,.int u]]) rfl e) rfl)]
  have c1:tb (o2 dw (vr 12) (cn .non)) (LE ns F (K++[r]) (K++[r]) k he (.va r) (.va (.int (ask:Nat))) le rd (.va (.tup [t,.int n,.int u])) (.va v) (.va x))=.ok (!x.isN):=bf rfl
  have last:∀(fo:Sl),(cg (o2 aP (vr 3) (o2 b6 (fA (ae (vr 12) ai)) (cl wV (ae (o2 dw (vr 12) (cn .non)) ai)))) (gN 3)) (LE ns F (K++[r]) (K++[r]) k he (.va r) (.va (.int (ask:Nat))) le rd (.va (.tup [t,.int n,.int u])) (.va v') (.va x'))=.ok (.nx (LE ns F (K++[r]) (K++[r] ++(if !x'.isN then [x']else [])) k he (.va r) (.va (.int (ask:Nat))) le rd (.va (.tup [t,.int n,.int u])) (.va v') (.va x'))):=λ_=>by
   refine bV (aL (t:=.lst (K++[r])) (u:=.lst (if !x'.isN then [x']else [])) rfl (aL (t:=.lst [x']) (mr (ts:=[x']) rfl (az (k:=1) (by simp))) (aU (ts:=[.bl (!x'.isN)]) rfl rfl) (mul_one _ _)) (vd _ _ ?_)) rfl
   rw[NV,NV];cases x'.isN <;> simp <;> omega
  rcases hc with⟨rfl,rfl,hx⟩|⟨rfl,rfl,hx,hw⟩
  ·have c2:lL (tb (o2 dw (vr 12) (cn .non))) (cI (tb (cl di (ae (vr 12) ai)))) (LE ns F (K++[r]) (K++[r]) k he (.va r) (.va (.int (ask:Nat))) le rd (.va (.tup [t,.int n,.int u])) (.va v') (.va x'))=.ok ZD:=by
    cases hn:x'.isN with
    |true=>rw[hn]at c1;exact yB c1
    |false=>
     rw[hn]at c1;obtain⟨g1,g2⟩:=hx hn;exact qf c1 (gY (k:=ZC) (bf (aU (ts:=[x']) rfl (by rw[g1.Nk,g2]))))
   rw[aE ((d7 c2).trans rfl)];exact last .em
  ·rw[hx.ND]at c1
   have c2:lL (tb (o2 dw (vr 12) (cn .non))) (cI (tb (cl di (ae (vr 12) ai)))) (LE ns F (K++[r]) (K++[r]) k he (.va r) (.va (.int (ask:Nat))) le rd (.va (.tup [t,.int n,.int u])) (.va v) (.va x))=.ok ZC:=
    qf c1 (gY (k:=ZD) (bf (aU (ts:=[x]) rfl (by rw[hx.Nk,hw]))))
   rw[aE (Z':=LE ns F (K++[r]) (K++[r]) k he (.va r) (.va (.int (ask:Nat))) le rd (.va (.tup [t,.int n,.int u])) (.va (dv 4)) (.va .non)) ((dS c2).trans (bV (t:=.tup [.non,dv 4]) (ba (aq rfl (aq (ba rfl (az (k:=2) (by simp))) rfl)) (az (k:=2) (by simp))) rfl))]
   exact last .em
 rcases Jq (n:=n) (u:=u) hk hr ht with⟨r',v,g',e,hv,a1,a2⟩|⟨j,e,a1⟩
 ·cases hw:fZ r' with
  |true=>
   refine⟨K++[r],r',v,.va r',⟨λx hx=>?_,by simp;omega⟩,by simp,?_,a1 hw K (by simp;omega),hv⟩
   ·rcases Oi.mp hx with z|z
    ·exact h.g x z
    ·rw[N1.mp z];exact⟨g',hw⟩
   ·have:=step r' v r' v e (.inl ⟨rfl,rfl,λ_=>⟨g',hw⟩⟩)
    rw[g'.ND]at this
    exact this
  |false=>
   refine⟨K,r,dv 4,.va .non,h,by omega,?_,a2 hw K,pd 4⟩
   have:=step r' v .non (dv 4) e (.inr ⟨rfl,rfl,g',hw⟩);rw[show(if !T.non.isN then [T.non]else [])=([]:List T)from rfl,Ol]at this
   exact this
 ·refine⟨K,r,dv j,.va .non,h,by omega,?_,a1 K,pd j⟩
  have:=step .non (dv j) .non (dv j) e (.inl ⟨rfl,rfl,λz=>by cases z⟩)
  rw[show(if !T.non.isN then [T.non]else [])=([]:List T)from rfl,Ol]at this
  exact this
def td3{o':OT}(h:da [.ow (DK D)]=.ok (v,o')):bz [.ow (DK D),.va (.int (3:Nat)),.va (.tup [t,.int n,.int u])]=.ok (v,o'):=
 za ((iB (bf rfl)).trans ((iB (bf rfl)).trans (m6 ((Dk (bf rfl)).trans (kF (c:="Desk") (ns:=["kept"]) (ls:=[D]) (ts:=[]) rfl (by decide) rfl h)))))
def td3e{c:Str}(h:da [.ow (DK D)]=.err c)(hc:jc c=.ok v):bz [.ow (DK D),.va (.int (3:Nat)),.va (.tup [t,.int n,.int u])]=.ok (v,DK D):=
 vo ((iB (bf rfl)).trans ((iB (bf rfl)).trans (mq ((Dk (bf rfl)).trans (gV (c:="Desk") (ns:=["kept"]) (ls:=[D]) (ts:=[]) rfl (by decide) rfl h))))) hc
def G0(h:St (K++[r]))(F:T)(k he le rd du fo:Sl):yU ns F K r k he 3 le rd t n u du fo:=by
 have hgt:tb (o2 kP (vr 7) (cn (.int 3))) (LE ns F (K++[r]) (K++[r]) k he (.va r) (.va (.int (3:Nat))) le rd (.va (.tup [t,.int n,.int u])) du fo)=.ok ZC:=bf rfl
 have hlen:∀du,cl bO (ae (vr 3) ai) (LE ns F (K++[r]) (K++[r]) k he (.va r) (.va (.int (3:Nat))) le rd (.va (.tup [t,.int n,.int u])) du fo)=.ok (.int ((K++[r]).length:Nat)):=λ_=>aU (ts:=[.lst (K++[r])]) rfl rfl
 have hcut:∀(m:Nat)(du:Sl),rh [.int 1,.int (((K++[r]).length:Nat) - 1:Int)]=.ok (.int (m:Nat))->(cg (sl (vr 3) pN (pS (cl rh (ae (cn (.int 1)) (ae (o2 cZ (cl bO (ae (vr 3) ai)) (cn (.int 1))) ai))))) (gN 3)) (LE ns F (K++[r]) (K++[r]) k he (.va r) (.va (.int (3:Nat))) le rd (.va (.tup [t,.int n,.int u])) du fo)=.ok (.nx (LE ns F (K++[r]) ((K++[r]).take m) k he (.va r) (.va (.int (3:Nat))) le rd (.va (.tup [t,.int n,.int u])) du fo)):=λm du e=>by
  refine bV ?_ rfl
  rw[Hs (l:=K++[r]) (lo:=ZB) (hi:=ZA (m:Int)) rfl rfl (wQ (aU (ts:=[.int 1,.int (((K++[r]).length:Nat) - 1:Int)]) (aq rfl (aq (aL (hlen du) rfl rfl) rfl)) e)),kf]
 rcases(show K=[]\/∃L q,K=L++[q]from by
   rcases List.eq_nil_or_concat K with h|⟨L,q,h⟩
   ·exact .inl h
   ·exact .inr ⟨L,q,by rw[h,List.concat_eq_append]⟩)with rfl|⟨L,q,rfl⟩
 ·refine⟨[],r,dv 5,fo,h,by simp,?_,td3e (GF r) r5,pd 5⟩
  refine(dS hgt).trans ?_
  rw[aE (Z':=LE ns F ([] ++[r]) ([] ++[r]) k he (.va r) (.va (.int (3:Nat))) le rd (.va (.tup [t,.int n,.int u])) (.va (dv 5)) fo) (bV (t:=dv 5) ((sf (p:=ZC) (bf (aL (hlen du) rfl (by rw[qo];rfl)))).trans ((if_pos rfl).trans (ba (ts:=[.str "refused",.int 5]) rfl (az (k:=2) (by simp))))) rfl)]
  exact hcut 1 _ (C5 (by simp))
 ·refine⟨L,q,.non,fo,⟨λx hx=>h.g x (On _ hx),by have:=h.n;simp at this ⊢;omega⟩,by simp;omega,?_,td3 (J5 r (by simp)),i6 rfl (by simp[T.dep])⟩
  refine(dS hgt).trans ?_
  have hlL:((L++[q] ++[r]).length:Int)=(L.length:Int)+2:=by simp
  rw[aE (Z':=LE ns F (L++[q] ++[r]) (L++[q] ++[r]) k he (.va r) (.va (.int (3:Nat))) le rd (.va (.tup [t,.int n,.int u])) (.va .non) fo) (bV (t:=.non) ((sf (p:=ZD) (bf (aL (hlen du) rfl (by rw[qo];congr 2;exact beq_eq_false_iff_ne.mpr (by rw[hlL];omega))))).trans rfl) rfl)]
  have:=hcut (L.length+1) (.va .non) (by
   rw[hlL]
   by_cases hz:L.length=0
   ·rw[C5 (by omega),hz];rfl
   ·rw[Ho (by omega),show((L.length:Int)+2 - 1)=((L.length+1:Nat):Int)by omega])
  rw[List.take_left' (by simp)]at this
  exact this
end
end G
namespace G
open PySem Tr Gr
variable{Z:En}{i:Nat}
section
variable {K:List T}{r:T}{ns:List Int}
def Dw{l:List T}{z:T}(h:Z[i]?=ZA (.va (.lst (l++[z])))):o2 aV (vr i) (o1 jQ (cn (.int 1))) Z=.ok z:=aL (t:=.lst (l++[z])) (u:=.int (-1)) (Dn h) (Gj rfl rfl) (wU l z)
def Mt{d:Nat}(h:d<6):∃ask:Nat,ask<4/\aV (.lst [.int 0,.int 0,.int 0,.int 1,.int 2,.int 3]) (.int (d:Nat))=.ok (.int (ask:Nat)):=by
 match d,h with
 |0,_=>exact⟨0,by omega,rfl⟩
 |1,_=>exact⟨0,by omega,rfl⟩
 |2,_=>exact⟨0,by omega,rfl⟩
 |3,_=>exact⟨1,by omega,rfl⟩
 |4,_=>exact⟨2,by omega,rfl⟩
 |5,_=>exact⟨3,by omega,rfl⟩
abbrev B8:V4:=aD B0 (aD B1 (aD B2 (aD B3 (aD B4 (aD B5 (aD B6 B7))))))
def Kp(hn:ns.length<=63)(h:St (K++[r]))(hl:K.length<40)(F:T)(j:Nat)(he re ak le rd so du fo:Sl):∃K' r' he' re' ak' le' rd' so' du' fo',St (K'++[r'])/\K'.length<=K.length+1 ∧
  B8 (LE ns F (K++[r]) (K++[r]) (.va (.int (j:Nat))) he re ak le rd so du fo)=.ok (.nx (LE ns F (K'++[r']) (K'++[r']) (.va (.int (j:Nat))) he' re' ak' le' rd' so' du' fo')):=by
 obtain⟨cs,ls,er,g⟩:=(h.g r (by simp)).1
 obtain⟨d0,e0,p0,q0⟩:=dq ns (80+12*j) 6 hn (by omega)
 obtain⟨d0,rfl⟩:=Ov p0;obtain⟨ask,hask,eask⟩:=Mt (d:=d0) (by omega)
 obtain⟨t,et,ht⟩:=sv ns hn (80+12*j+4) cs g.c
 have htp:t.pl=ZC:=by
  rcases ht with rfl|⟨_,z⟩
  ·rfl
  ·exact BW _ z
 obtain⟨d1,e1,p1,q1⟩:=dq ns (80+12*j+1) 4 hn (by omega)
 obtain⟨d2,e2,p2,q2⟩:=dq ns (80+12*j+2) 9 hn (by omega)
 obtain⟨x,y,rr,ec,hr1,hr4⟩:=xm g (n:=0) (by have:=(bh g.c).2.1;omega)
 obtain⟨rr',z,rfl⟩:∃rr' z,rr=rr'++[z]:=⟨rr.dropLast,rr.getLast (by intro q;rw[q]at hr1;simp at hr1),(List.dropLast_concat_getLast _).symm⟩
 have hT:yU ns F K r (.va (.int (j:Nat))) (.va (.int ((80+12*j:Nat):Int))) ask (.va t) (.va (.tup ((rr'++[z]).map .int))) t (d1 - 1) (z+d2 - 1) du fo:=by
  by_cases hk:ask<3
  ·exact Kq h hl hk htp F _ _ _ _ _ _
  ·obtain rfl:ask=3:=by omega
   exact G0 h F _ _ _ _ _ _
 obtain⟨K',r',D,fo',h',hl',eb,etd,hD⟩:=hT;refine⟨K',r',.va (.int ((80+12*j:Nat):Int)),.va r,.va (.int (ask:Nat)),.va t,.va (.tup ((rr'++[z]).map .int)),.va (.tup [t,.int (d1 - 1),.int (z+d2 - 1)]),.va D,fo',h',hl',?_⟩
 unfold B8;rw[aE (Z':=LE ns F (K++[r]) (K++[r]) (.va (.int (j:Nat))) (.va (.int ((80+12*j:Nat):Int))) re ak le rd so du fo) (bV (t:=.int ((80+12*j:Nat):Int)) (aL (t:=.int 80) (u:=.int (12*(j:Int))) rfl (aL (t:=.int 12) (u:=.int (j:Nat)) rfl rfl (lb (by omega) (by omega))) (by show Rs.ok (T.int (80+12*(j:Int)))=_;rw[show(80+12*(j:Int))=((80+12*j:Nat):Int)by omega])) rfl)]
 rw[aE (Z':=LE ns F (K++[r]) (K++[r]) (.va (.int (j:Nat))) (.va (.int ((80+12*j:Nat):Int))) (.va r) ak le rd so du fo) (bV (t:=r) (Dw rfl) rfl)];rw[aE (Z':=LE ns F (K++[r]) (K++[r]) (.va (.int (j:Nat))) (.va (.int ((80+12*j:Nat):Int))) (.va r) (.va (.int (ask:Nat))) le rd so du fo) (bV (t:=.int (ask:Nat)) (aL (t:=.lst [.int 0,.int 0,.int 0,.int 1,.int 2,.int 3]) (u:=.int (d0:Nat)) (mr rfl (by unfold ZI;simp)) (aU (ts:=[.scr ns,.int ((80+12*j:Nat):Int),.int 6]) rfl e0) eask) rfl)]
 have hrc:∀(k he ak le rd so du fo:Sl),o2 aV (vr 6) (cn (.int 0)) (LE ns F (K++[r]) (K++[r]) k he (.va r) ak le rd so du fo)=.ok (.tup cs):=λk he ak le rd so du fo=>by
  rw[er];exact iA (n:=0) (l:=[.tup cs,.tup ls]) rfl rfl rfl
 rw[aE (Z':=LE ns F (K++[r]) (K++[r]) (.va (.int (j:Nat))) (.va (.int ((80+12*j:Nat):Int))) (.va r) (.va (.int (ask:Nat))) (.va t) rd so du fo) (bV (t:=t) (aU (ts:=[.scr ns,.int ((80+12*j+4:Nat):Int),.tup cs]) (aq rfl (aq rfl (aq (hrc _ _ _ _ _ _ _ _) rfl))) et) rfl)];rw[aE (Z':=LE ns F (K++[r]) (K++[r]) (.va (.int (j:Nat))) (.va (.int ((80+12*j:Nat):Int))) (.va r) (.va (.int (ask:Nat))) (.va t) (.va (.tup ((rr'++[z]).map .int))) so du fo) (bV (t:=.tup ((rr'++[z]).map .int)) (iA (n:=2) (l:=[.int x,.int y,.tup ((rr'++[z]).map .int)]) (iA (n:=0) (l:=cs) (hrc _ _ _ _ _ _ _ _) rfl ec) rfl rfl) rfl)]
 have hlast:o2 aV (vr 9) (o1 jQ (cn (.int 1))) (LE ns F (K++[r]) (K++[r]) (.va (.int (j:Nat))) (.va (.int ((80+12*j:Nat):Int))) (.va r) (.va (.int (ask:Nat))) (.va t) (.va (.tup ((rr'++[z]).map .int))) so du fo)=.ok (.int z):=by
  refine aL (t:=.tup ((rr'++[z]).map .int)) (u:=.int (-1)) rfl (Gj rfl rfl) ?_
  rw[O8];exact uR _ _
 rw[aE (Z':=LE ns F (K++[r]) (K++[r]) (.va (.int (j:Nat))) (.va (.int ((80+12*j:Nat):Int))) (.va r) (.va (.int (ask:Nat))) (.va t) (.va (.tup ((rr'++[z]).map .int))) (.va (.tup [t,.int (d1 - 1),.int (z+d2 - 1)])) du fo) (bV (t:=.tup [t,.int (d1 - 1),.int (z+d2 - 1)]) (ba (aq rfl (aq (aL (t:=.int d1) (u:=.int 1) (aU (ts:=[.scr ns,.int ((80+12*j+1:Nat):Int),.int 4]) rfl e1) rfl rfl) (aq (aL (t:=.int (z+d2)) (u:=.int 1) (aL hlast (aU (ts:=[.scr ns,.int ((80+12*j+2:Nat):Int),.int 9]) rfl e2) rfl) rfl rfl) rfl))) (az (k:=3) (by simp))) rfl)]
 rw[aE eb]
 have hr':=(h'.g r' (by simp)).1
 refine(L8 (b:=ZD) (zJ (LX (LZ (JK (o:=DK (K++[r])) (ts:=[.int (ask:Nat),.tup [t,.int (d1 - 1),.int (z+d2 - 1)]]) rfl rfl etd) rfl hD)) (zJ (Hr (bf (aL (fm rfl hr') (Dw rfl) hr'.ne))) (Hr (bf (aL (yz (K:=K'++[r']) rfl) (aL (t:=.int ((K'++[r']).length:Nat)) (u:=.int 1) (aU (ts:=[.lst (K'++[r'])]) rfl rfl) rfl rfl) (i6 rfl (by simp[T.dep])))))))).trans rfl
theorem Eu(hn:ns.length<=63)(F:T):∀(js:List Nat){K:List T}{r:T}(k he re ak le rd so du fo:Sl),St (K++[r])->K.length+js.length<=40->∃K' r' k' he' re' ak' le' rd' so' du' fo',St (K'++[r']) ∧
  bx (gN 4) B8 (js.map λ(j:Nat)=>T.int j) (LE ns F (K++[r]) (K++[r]) k he re ak le rd so du fo)=.ok (.nx (LE ns F (K'++[r']) (K'++[r']) k' he' re' ak' le' rd' so' du' fo'))
 |[],K,r,k,he,re,ak,le,rd,so,du,fo,h,hl=>⟨K,r,k,he,re,ak,le,rd,so,du,fo,h,rfl⟩
 |j::js,K,r,k,he,re,ak,le,rd,so,du,fo,h,hl=>by
  rw[NU]at hl;obtain⟨K',r',he',re',ak',le',rd',so',du',fo',h',hl',e⟩:=Kp hn h (by omega) F j he re ak le rd so du fo
  obtain⟨K2,r2,k2,he2,re2,ak2,le2,rd2,so2,du2,fo2,h2,e2⟩:=Eu hn F js (.va (.int (j:Nat))) he' re' ak' le' rd' so' du' fo' h' (by omega)
  refine⟨K2,r2,k2,he2,re2,ak2,le2,rd2,so2,du2,fo2,h2,?_⟩
  rw[NO,dR (Z1:=LE ns F (K++[r]) (K++[r]) (.va (.int (j:Nat))) he re ak le rd so du fo) rfl e];exact e2
end
variable{g:List T->Rs (T ⊕ OT)}{ts:List T}
def Gw{fs:V3}{o:OT}(h:fs Z=.ok ts)(hg:g ts=.ok (.inr o))(hi:i<Z.length):jK i g fs Z=.ok (.nx (Z.set i (.ow o))):=by unfold jK;rw[h,ay,hg,ay,if_pos hi]
def Gv{fs:V3}{v:T}(h:fs Z=.ok ts)(hg:g ts=.ok (.inl v))(hi:i<Z.length):jK i g fs Z=.ok (.nx (Z.set i (.va v))):=by unfold jK;rw[h,ay,hg,ay,if_pos hi]
def pure_law(ns:List Int)(hn:ns.length<=63):m_law [.scr ns]=.ok (.bl ZC):=by
 refine cy rfl ?_
 show EG [.va (.scr ns),.em,.em,.em,.em,.em,.em,.em,.em,.em,.em,.em,.em]=_
 unfold EG;obtain⟨cs0,ls0,e0,hc,_,hs,hl,h2⟩:=Kb ns hn 0 2 (by omega)
 obtain⟨hr,hsm⟩:=Ip hc hs hl (by omega)
 have hg0:=zf hr (BW _ hsm);obtain⟨cs,ls,ecs,hg⟩:=BV hg0
 have es:=GI hg0;rw[ecs]at es
 have hG:GR (RR cs ls):=⟨_,_,rfl,hg⟩;rw[aE (Z':=[.va (.scr ns),.va (RR cs ls),.em,.em,.em,.em,.em,.em,.em,.em,.em,.em,.em]) (bV (aU (aq (aU (ts:=[.scr ns,.int 0,.int 2]) rfl e0) rfl) es) rfl)]
 cases hw:fZ (RR cs ls)with
 |false=>
  rw[aE (Z':=[.va (.scr ns),.va (RR cs ls),.va (dv 3),.em,.em,.em,.em,.em,.em,.em,.em,.em,.em]) (Gv (ts:=[RR cs ls]) rfl (w9 (hG.nwe hw) r3) (by simp))]
  exact gX ((dS (gY (k:=ZD) (bf (aU (ts:=[RR cs ls]) rfl (by rw[hG.Nk,hw]))))).trans (cT (aL (t:=dv 3) (u:=dv 3) rfl (ba rfl (az (k:=2) (by simp))) (zV rfl (by simp[dv,T.dep,deps])))))
 |true=>
  rw[aE (Z':=[.va (.scr ns),.va (RR cs ls),.ow (DK [RR cs ls]),.em,.em,.em,.em,.em,.em,.em,.em,.em,.em]) (Gw (ts:=[RR cs ls]) rfl (GO hG hw) (by simp))]
  rw[aE (Z':=[.va (.scr ns),.va (RR cs ls),.ow (DK [RR cs ls]),.em,.em,.em,.em,.em,.em,.em,.em,.em,.em]) ((d7 (gY (k:=ZC) (bf (aU (ts:=[RR cs ls]) rfl (by rw[hG.Nk,hw]))))).trans rfl)]
  have hbad:∀{x:T},x.pl=ZC->cO x=ZD->iw bB [x]=.ok (dv 0):=λhp hx=>by
   unfold iw;rw[w9 (F9 hp hx) r0]
  have hpc:=hg.parts.1
  have b1:tb (o2 pO (cl (iw bB) (ae (sl (vr 1) pN (pS (cn (.int 1)))) ai)) (aK (ae (cn (.str "refused")) (ae (cn (.int 0)) ai)))) [.va (.scr ns),.va (RR cs ls),.ow (DK [RR cs ls]),.em,.em,.em,.em,.em,.em,.em,.em,.em,.em]=.ok ZD:=
   bf (aL (aU (ts:=[.tup [.tup cs]]) (aq ((AV (l:=[.tup cs,.tup ls]) (lo:=ZB) (hi:=ZA 1) rfl rfl (wQ rfl)).trans rfl) rfl) (hbad (by rw[fJ];exact gk λy hy=>by rw[N1.mp hy];exact hpc) rfl)) (ba rfl (az (k:=2) (by simp))) (pd 0))
  have b2:tb (o2 pO (cl (iw bB) (ae (aK (ae (o2 aV (vr 1) (cn (.int 0))) (ae (cn .non) ai))) ai)) (aK (ae (cn (.str "refused")) (ae (cn (.int 0)) ai)))) [.va (.scr ns),.va (RR cs ls),.ow (DK [RR cs ls]),.em,.em,.em,.em,.em,.em,.em,.em,.em,.em]=.ok ZD:=
   bf (aL (aU (ts:=[.tup [.tup cs,.non]]) (aq (ba (aq (iA (n:=0) (l:=[.tup cs,.tup ls]) rfl rfl rfl) rfl) (az (k:=2) (by simp))) rfl) (hbad (i5 hpc rfl) (by show(a9 (.tup cs)&&gG cs .non)=ZD;rw[show gG cs .non=ZD from rfl,Bool.and_false]))) (ba rfl (az (k:=2) (by simp))) (pd 0))
  rw[aE ((d7 (zK b1 b2)).trans rfl)];rw[aE (Z':=LE ns (RR cs ls) ([] ++[RR cs ls]) ([] ++[RR cs ls]) .em .em .em .em .em .em .em .em .em) (bV (t:=.lst [RR cs ls]) (mr rfl (by unfold ZI;simp)) rfl)]
  have hS:St ([] ++[RR cs ls]):=⟨λx hx=>by rw[Pt,N1]at hx;rw[hx];exact⟨hG,hw⟩,by simp⟩
  obtain⟨c,hc2,hi⟩:∃c:Nat,c<=10/\iR (ae (cl rh (ae (cn (.int 1)) (ae (cl C3 (ae (cn (.int 10)) (ae (cl bO (ae (vr 0) ai)) ai))) ai))) ai) (LE ns (RR cs ls) ([] ++[RR cs ls]) ([] ++[RR cs ls]) .em .em .em .em .em .em .em .em .em)=.ok ((OI c).map λ(j:Nat)=>T.int j):=by
   have hm:cl C3 (ae (cn (.int 10)) (ae (cl bO (ae (vr 0) ai)) ai)) (LE ns (RR cs ls) ([] ++[RR cs ls]) ([] ++[RR cs ls]) .em .em .em .em .em .em .em .em .em)=.ok (.int ((min 10 ns.length:Nat):Int)):=by
    refine aU (ts:=[.int 10,.int (ns.length:Nat)]) (aq rfl (aq (aU (ts:=[.scr ns]) rfl (by show Rs.ok (T.int ((ns.map T.int).length:Nat))=_;rw[NR])) rfl)) ?_
    show Rs.ok (T.int (if ((ns.length:Nat):Int)<10 then((ns.length:Nat):Int)else 10))=_
    by_cases h:ns.length<10
    ·rw[if_pos (by omega),US (by omega)]
    ·rw[if_neg (by omega),Vc (by omega)];rfl
   refine⟨max 1 (min 10 ns.length),by omega,?_⟩
   rw[<-oh];refine JY (aq (aU (ts:=[.int 1,.int ((min 10 ns.length:Nat):Int)]) (aq rfl (aq hm rfl)) ?_) rfl) (by omega) (by omega)
   by_cases h:1<min 10 ns.length
   ·rw[Ho (by omega),Nat.max_eq_right (by omega)]
   ·rw[C5 (by omega),Nat.max_eq_left (by omega)];rfl
  obtain⟨K',r',k',he',re',ak',le',rd',so',du',fo',h',e2⟩:=Eu hn (RR cs ls) (OI c) .em .em .em .em .em .em .em .em .em hS (by simp;omega)
  rw[aE (fY hi e2)];obtain⟨g1,g2⟩:=h'.g r' (by simp)
  exact cT (aU (aq (fm rfl g1) rfl) (by rw[g1.Nk,g2]))
end G
end
open PySem PySem.W PyProof.Rows
set_option maxRecDepth 100000 in
set_option maxHeartbeats 0 in
theorem PySem.Challenge.cw_farclocks_k80_desks_holds : PySem.Challenge.rw_farclocks_k80_desks.Holds := by
  w_on; o_law
  refine holds_open (q :=G.vw) (loose :=G.lse) (Xt :=λ_ =>true) (XP :=λ_ _ =>True) (Yf :=(Tr.hookC G.asks G.top).obs) (Ya :=(Tr.hookC G.asks G.top).val) (YP :=(Tr.hookC G.asks G.top).says) (N :=9000) (Tr.left_of (by rfl) (by rfl) (λ_ =>rfl) λw os =>?hl) (Tr.hookC G.asks G.top).of (Tr.hookC G.asks G.top).keeps (λ_ _ =>trivial) (λ_ _ _ _ _ =>trivial) (by rfl) (by rfl) (by rfl) (λs _ =>recFacts_of (s :=s) rfl) (by rfl) (by assumption) (by decide +kernel) ⟨rfl, rfl, rfl, rfl, rfl, by decide +kernel⟩ ?hw ?hc
  case hl =>exact ((congrFun (congrFun (congrFun (congrFun (congrFun PySem.W.Fast.lhsz_eq w) _) _) _) os).trans (G.NG w os)).trans (congrFun PySem.W.Fast.rhsz_eq w).symm
  case hw =>w_witness2
  case hc =>exact Tr.walk_c (n :=63) (k :=16) (x := "_law_script") (CX :=L2.CX0) (sp :=λK =>Tr.spP K 1 G.m_law) rfl (by decide) rfl ⟨rfl, by decide, by decide⟩ (λw K mg fa h X e g hf =>G.all_ok X e g hf) (λK H a ns hl _ hS =>Tr.sp_script hS (G.pure_law ns hl)) λ_ _ _ _ z =>z
