import PyProof.Rows.All
import Wide.All
import OpenK.AllK
import Wide.FinOn
import Lean
import PyProof.EqAt
import PyProof.EqKinds
import PyProof.TupleCall
import PyProof.ExcClass3
import PyProof.StationsW
import PyProof.ExcBaseAll.ValueError
import PyProof.ExcArgsOwn
import PyProof.IsiBase
import PyProof.IsiH_tuple
import PyProof.ExcAttrAll.ValueError
import PyProof.Rows.RuleN_isinstance
import PyProof.MeetsSeq
import PyProof.RulesAs
import PyProof.IsiH_list
import PyProof.AttrMiss
import KE.KDictOf
import PyProof.Rows.SumAny
import PyProof.Rows.MinMaxN
import PyProof.Rows.SortShellK
import PyProof.Rows.SortWalk
import PyProof.ZipIter
import PyProof.WalksMore
import PyProof.DictWalks
import PyProof.AutoSeq1
import PyProof.Rows.Range3
import PyProof.CollectWalk
import KE.KSortTup
import PyProof.EnumMake
import PyProof.ListRange
import KE.KRevIter
import PySem.Challenge.RW_farclocks_k80_desks
variable{D ab ab' b expr hdct hdct' tt:Bool}{M N ask i j k k' kk n t' tk x1:Nat}{Ty newId:String}{a d m s x y:Int}{col col':Option Bool}{g:Int->Int->Int}{hi lo:Option Int}{ks w:List Nat}{ns:List Int}{α β κ:Type}
noncomputable section
open PySem.Challenge renaming pw_farclocks_k80_desks→Pb,rw_farclocks_k80_desks→S7
open PySem.AutoListH renaming list___mul___list_int_3→TL
open PyProof.Rows renaming slot_tuple_getitem→OU,callWith_builtin1→PJ,callWith_type1→O7,subscriptTail_builtinR→SI,entry_tuple_getitem→TB,args_tuple_getitem→T8,call_isinstance_of→Ub,tupleItemsOf_→T9,subscriptTail→Ua,IntsAre→RG,AllBare→Sy,IsTup→Vj
open PySem.F renaming args_tuple_iterator_next_1→RJ,entry_tuple_iterator_next→RO,slot_tuple_iterator_next→P2,excBase_ValueError→RW,slot_list_getattribute→Qp,args_tuple_add_2→Q5,slot_list_append→Sd,type_list_append→Se,plainAttrs_list→Pc,entry_tuple_add→Rb,args_dict_get_2→So,slot_list_index→Sq,type_list_index→Sr,slot_tuple_add→Rl,entry_dict_get→SF,slot_dict_get→Ru,typeOf_object_class→RB,slot_enumerate_next→SO,args_list_index_2→Tu,entry_list_index→TR,args_int_rmul_2→Uh,slot_tuple_rmul→Uk,slot_list_index→Ul,slot_tuple_mul→SB,slot_int_index→UK,entry_int_rmul→UL,slot_int_rmul→RN,fills_int_mul→U3,slot_gs_get→TQ
open PySem.Builtin.Slice renaming slicePartIndex→UW,sliceApplied→RT,slicePlaces→Qc,sliceAdjust→QY
open Array renaming getElem?_eq_some_iff→OY,length_toList→O9,find?_toList→TK,toList→SM
open List renaming getElem?_append_right→Pu,nodup_iff_pairwise_ne→RY,getElem?_eq_some_iff→NU,getElem?_append_left→O5,drop_eq_getElem_cons→QZ,getElem?_eq_getElem→N7,getElem?_replicate→Pd,getElem?_cons_succ→Pq,getElem?_set_self→Of,drop_eq_nil_of_le→Rm,take_of_length_le→SG,mem_append_right→Od,length_singleton→Pm,getElem?_eq_none→Rx,set_getElem_self→SQ,dropLast_eq_take→SU,take_append_drop→SW,mem_cons_of_mem→NJ,getElem?_set_ne→Oh,mem_append_left→Ol,mem_of_mem_take→PN,mem_of_getElem?→Qk,mem_erase_of_ne→Td,mem_of_mem_drop→Te,map_congr_left→OP,filterMap_cons→O8,replicate_succ→Pz,getElem_of_mem→Qs,drop_succ_cons→Tz,mem_cons_self→NN,length_append→NT,mem_singleton→N0,contains_cons→OW,mem_filterMap→R1,append_of_mem→TY,size_toArray→N5,getElem?_map→Oc,append_assoc→Om,nodup_append→OK,flatten_cons→Qn,length_range→Qo,flatMap_cons→QP,any_eq_false→Sh,pairwise_map→Uo,length_cons→NS,all_eq_true→Ob,lookup_cons→OJ,length_take→OS,not_mem_nil→Pk,getElem_mem→Pt,length_drop→Qt,any_eq_true→RF,getElem_map→SC,cons_append→SD,drop_length→UM,filter_cons→UO,mem_flatMap→UR,length_map→NP,nodup_cons→Oe,mem_append→Og,append_nil→Oi,map_append→O4,length_set→Pa,nil_append→Po,of_mem_zip→Qy,find?_cons→QB,mem_filter→Rc,range_succ→SX,foldl_cons→U2,forIn_cons→U4,length_nil→U5,idxOf_cons→Va,replicate→N9,mem_range→Pn,nodup_nil→Qh,map_cons→NM,mem_cons→NR,sum_cons→PP,any_cons→P5,map_take→T1,mem_map→Oj,map_map→P7,map_nil→SN,toArray→UC,set_set→UG,length→O0,lookup→Px,map_id→Tv,range→OQ,Nodup→Ph,foldl→Si
open PySem renaming wpAny_newFunctionEnv_cells→P3,wpAny_binaryOp_repeat_ref→R8,codeAny_handlers_suite_as→R9,wpAny_callSpecial?_slot→PQ,wpAny_pyNext_list_item→SH,wpAny_Call_method_late→SJ,builtinLookup_eq_fast→Qb,codeAny_call_function→QF,wpAny_isTrue_Compare1→RD,wpAny_pyNext_list_end→S1,codeAny_handlers_test→S6,codeAny_call_builtin→RI,wpAny_setFlight_none→Tf,mem_of_lookup→PV,wpAny_isSubtype_exc→PY,wpAny_handleBy_cons→TF,wpAny_Call_Name_kw→Oz,wpAny_pyIter_tuple→Ri,tupleKind_room_in1→Rk,wpAny_List_spliced→T5,wpAny_truthy_bool→OL,foldedSetIterable→OM,wpAny_loadPart_at→ON,wpAny_newObj_type→PC,wpAny_pyIter_list→Sn,wpAny_assign_Name→Us,wpAny_sequenceKey→Ut,wpAny_pyIter_enum→Uv,wpAny_call_entry→Q3,noFill_tuple_add→SE,seqSlot_of→UN,wpAny_execs_cons→US,lookupAlong_cons→UT,checkBuiltinCall→UU,wpAny_Try_except→UV,wpAny_loadPart'→Qq,wpAny_execs_nil→QC,letOwnedTupleGo→Rh,typeLookup_type→Rj,pushCells_keeps→S4,codeAny_builtin→S5,importedModules→Vb,wpAny_passesOwn→Vc,recursionLimit→Q1,wpAny_seqItems→Ti,wpAny_setField→Tj,attributeBase→On,behindInMarks→P9,wpAny_holding→Sz,swapsWithSole→T3,swappedStores→T4,seq_tuple_add→T6,bootBuiltins→OF,codeAny_mono→Qa,wpAny_typeOf→R4,codeAny_func→S2,Within→Ux,concat_meets→UH,mainGlobals→Ox,excClassObj→Pe,wpAny_field→Qj,sizeLine_eq→QD,keywordEach→QH,sliceBounds→Rr,subscripted→TC,lookupAlong→Vg,wpAny_bind→NQ,wpAny_pure→N4,wpAny_mono→Pr,assignEach→PB,sysModules→QR,call_meets→QU,wpAny_call→Rp,typeLookup→Rq,builtinsNs→Sk,typeIs_int→S9,wpAny_rule→Uu,compareOp→OG,swapsWith→OR,cellsFrom→PX,getMethod→RS,tupleKind→Sm,Arguments→S0,pushCells→S3,noteFrame→Ve,lastMarks→Vf,starEach→NW,FuncData→Ot,boot_len→Pg,binaryOp→PH,NameKind→QQ,backToKw→R5,GenState→T2,callWith→Uc,bindArgs→UX,Program→N8,BindsTo→R7,OsState→Ur,Keyword→Vd,Shared→NO,Around→Oq,Result→Th,IsPart→T7,Paired→Vi,Value→NK,World→OV,Scope→Q4,CmpOp→Uq,Model→Vh
open PySem.Builtin.Tuple renaming tupleItemsOf→RU,tupleIsExact→RV,tupleExact→PL
open PySem.Calls renaming Name_function_global→RX,callWith_builtin→Qv,evalArgs_plain→QV,spliced_cons→Rf,Constant_str→TJ,spliced_nil→Ro
open PySem.Builtin.SmallTypes renaming nextOf→Qd
open PySem.Builtin.List renaming listTooLong→Ql
open Option renaming isSome_iff_exists→Q9,map_eq_some_iff→Qx,isSome_some→TN,getD_none→UJ,map_some→U8,some→OH
open Int renaming eq_ofNat_of_zero_le→Os,emod_lt_of_pos→R3,toNat_natCast→Py,emod_nonneg→SZ,le_antisymm→U7,le_refl→PM
open PySem.Builtin.Dict renaming updateFrom→Ss
open PySem.Heap renaming get?_push_of_some→NV,get?_update_other→Qw,get?_update_self→Ry,get?_push_size→Oa,NewAttrErr→U6,size_push→Qe,lt_size→NY,SameBut→Q7
open PySem.W renaming cellsFrom_some→PZ,methodCall_KW→Rv,hideAll_none→RH,hideAll_get→Qr,plainGet_of→RM,callWith_K0→Tq,callWith_K→PK,codeRec_of→Ra,of_hideAll→RZ,emptyDict→Pl,methodObj→Sa,hasDictIn→Sb,plainOver→Ud,kitx_list→Ue,kitx_dict→Ug,plainGet→RE,handedIn→UI,kia_one→Pj,instObj→PU,hideAll→SK,takerIn→SL,makesIn→UY,findIn→PD,keepIn→PF,lookIn→R6,codeIn→Tg,mg_of→QJ,Frag→NI,nsIn→Q6,fnOf→Rt,isFn→Uw
open PySem.Obj renaming isFreed_of_fields→RA,data_mapFields→P6,mapFields→RL
open Bool renaming and_eq_false_iff→SY,and_eq_true_iff→O6,or_eq_false_iff→Tc,false_ne_true→NZ,false_eq_true→TM,not_eq_true'→Um,and_eq_true→NL,eq_iff_iff→Re,or_eq_true→RP,true_and→QL,false_or→Sw,and_true→TZ,or_true→UD,true_or→UE
open PySem.Around renaming frames_deeper→Ta,under_plainId→Tb,units→RC,under→Uy
open PySem.Heap.SameBut renaming update→To
open Nat renaming lt_of_lt_of_le→N6,lt_of_le_of_lt→TX,le_of_succ_le→Sj,lt_succ_of_lt→Ui,lt_succ_self→SA,min_eq_right→UP,mod_eq_of_lt→UQ,min_eq_left→U9,lt_irrefl→Oo,le_trans→OB,ne_of_lt→Pf,le_of_lt→Q8,le_of_eq→Rw,ne_of_gt→R0,sub_self→SR,sub_zero→SS,add_comm→UA,mul_comm→UB,le_refl→N3,zero_le→Qg
open Option.some renaming injEq→Sf,inj→Ou
open ForInStep renaming yield→Qz
open PySem.Expr renaming Subscript→PR,Attribute→Q0,Constant→Sx,ListComp→TV,Compare→SV,UnaryOp→UF,BoolOp→Qi,Name→Oy,Call→P8
open PySem.NameKind renaming free→OA,cell→Pp
open PySem.Value renaming builtin→QK,float→U0,none→Ov,bool→OI,type→Rn,ref→N1,int→Pv,str→Pw
open Prod.mk renaming injEq→Su,inj→UZ
open PySem.Paired renaming length→Sv
open PySem.Value.ref renaming inj→TH
open PySem.Str renaming ofString→NX
open PySem.Code renaming isFrame→Uz
open PySem.Stmt renaming Assign→RQ
open PySem.Scope renaming names→Tw
open PySem.Pos renaming endLine→Tx,line→Q2
open False renaming elim→P4
open True renaming intro→Qm
open PySem.BoolOp renaming And→S8,Or→TU
open PySem.Env renaming scope→Qu
open PyProof.Rows.IsTup renaming new→U1
open Ne renaming symm→OZ
open Iff renaming rfl→Rg
open Sum renaming inl→Ts,inr→Tt
open Prod renaming mk→Uj
open Or renaming inl→Sg
open Option renaming some→ZA,none→ZB
open Bool renaming true→ZC,false→ZD
open PySem renaming Addr→ZE,Stmt→ZF,Expr→ZG,Heap→ZH
set_option Elab.async false
set_option linter.all false
set_option maxRecDepth 100000
set_option maxHeartbeats 8000000
abbrev V0:=PySem.Str->Option NK
abbrev V1:=NK->NO->Prop
abbrev V2:=List (PySem.Addr×PySem.Obj)
variable{A:Oq}{E Q:V1}{K:NI}{M:Vh}{P prog q:N8}{R:Th->NO->Prop}{bm bmE bs' its sub' tl us vs:List NK}{cd f ux v vl vu:NK}{fd fd_r:Ot}{k0 k1 k2 k3 k5:Option NK}{op op':Uq}{os:Ur}{s s' s1:NO}{sc scope:Q4}{w:OV}
noncomputable section
abbrev nDb(x:PySem.Str):Prop:=(x == PySem.Str.ofString "__debug__")=ZD
def aqa(h:True:=by first|exact .inl rfl|exact .inr rfl|assumption):True:=trivial
def aqb(h:True:=by decide):True:=trivial
def aqc(h:True:=by intro _;rfl):True:=trivial
def aqd(h:True:=by rfl):True:=trivial
def aqe(h:True:=by first|exact Sg rfl|exact Or.inr (Sg rfl)|exact Or.inr (Or.inr rfl)):True:=trivial
def aqf(h:True:=by with_unfolding_all rfl):True:=trivial
def aqg(h:True:=by intro _ _;rfl):True:=trivial
def aqh(h:True:=by first|exact Sg rfl|exact Or.inr rfl):True:=trivial
def aqi(h:True:=by decide+kernel):True:=trivial
namespace L2
open PySem PySem.Spec PyProof.Rows
inductive V where
 |non|bl (b:Bool)|int (i:Int)|str (x:Str)|byt (b:Array UInt8)|flt (b:UInt64)|ref (a:ZE)|ty (n:String)
 deriving DecidableEq
def dm(s:ZF)(j:Nat):ZF:=match s with
 |.ClassDef _ _ _ body _ _ _ _ _ _ _=>body.getD j (.Pass ⟨0,0,0,0⟩)
 |_=>.Pass ⟨0,0,0,0⟩
def gD(s:ZF):S0:=match s with
 |.FunctionDef _ a _ _ _ _ _ _ _ _=>a
 |_=>{posonlyargs:=[],args:=[],vararg:=ZB,kwonlyargs:=[],kw_defaults:=[],kwarg:=ZB,defaults:=[]}
def bD(s:ZF):List ZF:=match s with
 |.FunctionDef _ _ b _ _ _ _ _ _ _=>b
 |_=>[]
def aj(s:ZF):Q4:=match s with
 |.FunctionDef _ _ _ _ _ _ sc _ _ _=>sc
 |_=>{kind:=.function,names:=[],isGenerator:=ZD,isCoroutine:=ZD}
end L2
namespace Tr
open PySem PySem.Spec PyProof.Rows L2
inductive T where
 |non|bl (b:Bool)|int (i:Int)|str (x:Str)|tup (l:List T)|lst (l:List T)
 /-- the law's script: a list of ints that is only read -/
 |scr (l:List Int)
 /-- a dict: its keys,its values -/
 |dct (ks vs:List T)
 /-- an instance: its class,the names of its attributes,what they are -/
 |ob (C:Str) (ns:List Str) (ts:List T)
inductive OT where
 |lst (l:List T)|dct (ks ts:List T)|dd (ks:List T) (rows:List (List T×List T))
 /-- an instance,its attributes own lists -/
 |ob (C:Str) (ns:List Str) (ls:List (List T))
def OT.view:OT->T
 |.lst l=>.lst l
 |.dct ks ts=>.dct ks ts
 |.dd ks rows=>.dct ks (rows.map λr=>.dct r.1 r.2)
 |.ob C ns ls=>.ob C ns (ls.map T.lst)
def calmNames:List Str:=["__init__","__getattribute__","__getattr__","__class__"]
def BQ:NK->Bool
 |.str _ _=>ZC
 |_=>ZD
end Tr
namespace Tr
def gS:List Int->List Int->Bool
 |[],[] =>ZD
 |[],_::_=>ZC
 |_::_,[] =>ZD
 |a::l,b::m=>if a=b then gS l m else decide (a<b)
end Tr
namespace Tr
open PySem PySem.Spec PyProof.Rows L2
structure RK where
 V:ZH->NK->List Int->Prop
 inj:∀{h v a b},V h v a->V h v b->a=b
 on:∀{h h':ZH} {v a},V h v a->(∀b o,h.get? b=ZA o->h'.get? b=ZA o)->V h' v a
 fst:∀{h v a},V h v a->∃ad xs n o m t,v=.ref ad/\h.get? ad=ZA o/\o.cls=.type "tuple"/\o.data=.seq xs n/\xs[0]?=ZA (.int m t)
 lt:∀{prog w A s E x y a b} {Q:Bool->NO->Prop},A.units+60<cLine->V s.heap x a->V s.heap y b->Q (gS a b) s->wpAny (model prog w) A (keyLt' (tuples' ZC) x y) Q E s
variable (R:RK)
open Classical in
def RK.key(h:ZH)(v:NK):Option (List Int):=if e:∃ns,R.V h v ns then ZA e.choose else ZB
variable {R:RK}
end Tr
namespace Tr
open PySem PySem.Spec PyProof.Rows L2 PySem.W
def DP(h:ZH):Frag:=(OQ h.objs.size).filterMap λa=>(h.get? a).map λo=>(a,o)
def obF(K:Frag)(n:Str):Option (Str×Str×S0×FuncBody×Q4×ZE×List (Str×ZE)×NK×ZE×Bool×Bool):=match nsIn K Ox n with
 |some (ZA (.ref f))=>match K.lookup f with
  |some ⟨_,_,.func d,_⟩=>ZA (d.name,d.qualname,d.params,d.body,d.scope,d.globals,d.closure,d.defaults,d.builtins,codeIn K d.code n,keepIn K (.ref f))
  |_=>ZB
 |_=>ZB
def exF(n:Str)(st:ZF):Option (Str×Str×S0×FuncBody×Q4×ZE×List (Str×ZE)×NK×ZE×Bool×Bool):=
 ZA (n,n,gD st,.stmts (bD st),aj st,Ox,[],.none,Sk,ZC,ZC)
def LF(K:Frag)(N:ZE)(n:Str):Bool:=match nsIn K N n with|some ZB=>ZC|_=>ZD
def MI(K:Frag)(n:Str):Option Int:=match nsIn K Ox n with|some (ZA (.int i _))=>ZA i|_=>ZB
def zc:List NK->Bool
 |[.type a,.type b,.type c,.type d] =>a == "ValueError" &&b == "Exception" &&c == "BaseException" &&d == "object"
 |_=>ZD
def under(D:Option ZE)(m:List NK):Bool:=match D with
 |none=>zc m
 |some D=>match m with
  |.ref E::m=>E == D&&zc m
  |_=>ZD
def F8(K:Frag)(D:Option ZE)(n:Str):Option ZE:=match nsIn K Ox n with
 |some (ZA (.ref C))=>match K.lookup C with
  |some ⟨.type t,_,.cls c,⟨[_,_,_,_,ZA (.builtin b),_]⟩⟩=>match c.mro,K.lookup c.ns with
   |.ref E::m,ZA ⟨_,_,.dict es _,_⟩=>
    if (t == "type" &&b == "ValueError.__new__" && !c.hasDel&&(es.toList.all λe=>BQ e.key)&&calmNames.all (LF K c.ns)&&E == C&&under D m)=ZC then ZA C else ZB
   |_,_=>ZB
  |_=>ZB
 |_=>ZB
def yS{α:Type}:List (Option α)->Option (List α)
 |[] =>ZA []
 |none::_=>ZB
 |some a::r=>match yS r with|some l=>ZA (a::l)|none=>ZB
def ur:List ZE->Bool
 |[] =>ZC
 |a::r=>(r.all λb=>!(a == b))&&ur r
def MH(K:Frag):List Str->Bool
 |[] =>ZC
 |m::es=>match F8 K ZB m with
  |some D=>match yS (es.map (F8 K (ZA D)))with|some l=>ur (l++[D])|none=>ZD
  |none=>ZD
structure EH where
 tab:List (Str×Nat)
 zs:List Str
 cs:List (Str×Int)
 es:List Str
def yd(S:EH)(K:Frag):=(S.tab.map (λp=>obF K p.1),S.zs.all (LF K Ox),S.cs.map (λc=>MI K c.1),MH K S.es)
def xG(S:EH)(top:Nat->ZF):=(S.tab.map (λp=>exF p.1 (top p.2)),ZC,S.cs.map (λc=>ZA c.2),ZC)
def LG(K:Frag)(C:ZE)(m q:Str):Option (Str×Str×S0×FuncBody×Q4×ZE×List (Str×ZE)×NK×ZE×Bool×Bool×Bool):=match findIn K (.ref C) m with
 |some (ZA (.ref f))=>match K.lookup f with
  |some ⟨_,_,.func d,_⟩=>ZA (d.name,d.qualname,d.params,d.body,d.scope,d.globals,d.closure,d.defaults,d.builtins,codeIn K d.code q,keepIn K (.ref f),isFn K (.ref f))
  |_=>ZB
 |_=>ZB
def Mp(m q:Str)(st:ZF):Option (Str×Str×S0×FuncBody×Q4×ZE×List (Str×ZE)×NK×ZE×Bool×Bool×Bool):=
 ZA (m,q,gD st,.stmts (bD st),aj st,Ox,[],.none,Sk,ZC,ZC,ZC)
def Js(K:Frag)(C:ZE)(f:Str):Bool:=match findIn K (.ref C) f with|some ZB=>ZC|_=>ZD
def Ik(K:Frag)(C:ZE):Bool:=match findIn K (.ref C) "__setattr__" with|some (ZA (.builtin b))=>b == "object.__setattr__" |_=>ZD
def HB(K:Frag)(C:ZE)(as:List Str):Bool:=plainGet K C Str.empty&&hasDictIn K C&&plainOver K C&&Ik K C&&makesIn K C&&keepIn K (.ref C)&&as.all (Js K C)
structure Ha where
 c:Str
 i:Nat
 as:List Str
 ms:List (Str×Str×Nat)
def obK(K:Frag)(A:Ha):=match nsIn K Ox A.c with
 |some (ZA (.ref C))=>ZA (HB K C A.as,A.ms.map λ(m:Str×Str×Nat)=>LG K C m.1 m.2.1)
 |_=>ZB
def exK(top:Nat->ZF)(A:Ha):=ZA (ZC,A.ms.map λ(m:Str×Str×Nat)=>Mp m.1 m.2.1 (dm (top A.i) m.2.2))
structure xw where
 a:EH
 ks:List Ha
def CT(S:xw)(K:Frag):=(yd S.a K,S.ks.map (obK K))
def BJ(S:xw)(top:Nat->ZF):=(xG S.a top,S.ks.map (exK top))
end Tr
namespace G
open PySem PySem.Spec PyProof.Rows L2 Tr
def top(i:Nat):ZF:=Pb.main.body.getD i (.Pass ⟨0,0,0,0⟩)
def Ew:EH:=⟨([("_law_events",56),("_law_small",58),("is_long",17),("is_whole",15),("is_within",16),("is_pace",20),("rises",18),("are_readings",19),("is_clock",21),("are_clocks",22),("is_event",23),("is_delay",24),("is_letter",25),("are_letters",26),("is_record",27)]:List (Str×Nat))++([("need_record",28),("events",30),("is_better",43),("settle",42),("greatest_world",45),("bounds_of_clock",38),("bounds_of_letter",39),("bounds",40),("world",46),("has_world",47),("need_world",48),("_law_begun",63),("_law_table",60),("_law_bounds",59),("_law_has",64)]:List (Str×Nat))++([("_law_cell",52),("_law_drawn",53),("_law_letter",55),("_law_clock",54),("_law_record",57),("_law_next",65),("if_record",32),("with_letter",33),("need_number",29),("with_clock",35),("with_reading",36),("without_letter",34),("_law_told",62),("law",66),("_law_refused",61)]:List (Str×Nat)),(["ValueError","all","bool","dict","enumerate","int","isinstance","len","max","min","range","tuple"]:List Str),[("MOST_CLOCKS",4),("MOST_LETTERS",8),("MOST_READINGS",4),("LAST_READING",99),("SLOWEST",9),("LONGEST",999)],["ClockError","NoRecord","NoEvent","NoNumber","NoWorld","Barred","Nothing"]⟩
def asks:xw:=⟨Ew,[⟨"Desk",50,["kept"],[("__init__","Desk.__init__",0),("record","Desk.record",1),("many","Desk.many",7),("keep","Desk.keep",2),("take","Desk.take",3),("read","Desk.read",4),("drop","Desk.drop",5),("undo","Desk.undo",6)]⟩]⟩
def vw:N8:=PySem.W.view Pb [66]
def lse:List Str:=(["ClockError","NoRecord","NoEvent","NoNumber","NoWorld","Barred","Nothing","MOST_CLOCKS","MOST_LETTERS","MOST_READINGS","LAST_READING","SLOWEST","LONGEST","is_whole","is_within","is_long","rises","are_readings","is_pace","is_clock"]:List Str)++(["are_clocks","is_event","is_delay","is_letter","are_letters","is_record","need_record","need_number","events","if_record","with_letter","without_letter","with_clock","with_reading","bounds_of_clock","bounds_of_letter","bounds","settle","is_better","greatest_world"]:List Str)++(["world","has_world","need_world","Desk","_law_cell","_law_drawn","_law_clock","_law_letter","_law_events","_law_record","_law_small","_law_bounds","_law_table","_law_refused","_law_told","_law_begun","_law_has","_law_next"]:List Str)
def lhs(w:OV)(h:ZH)(d:Drawn)(t:Nat)(os:Ur):=(PySem.W.topFrom treeTable Pb w 9000 ⟨h,⟨[]⟩,d,t,os⟩).map (λs=>(PySem.W.openSeen vw lse (Vb Pb.main.body) (λ_=>ZC) ZC s,CT asks (DP s.heap)))
def rhs(w:OV):=ZA (PySem.W.openGood vw lse,BJ asks top)
def lhs_r:lhs=lhs:=rfl
def rhs_r:rhs=rhs:=rfl
end G
section
lay_quick G.lhs G.rhs
name_quick lhsz for G.lhs by G.lhs_r
name_quick rhsz for G.rhs by G.rhs_r
open PySem PySem.W PyProof.Rows
set_option maxRecDepth 100000 in
theorem G.NB(w:OV)(os:Ur):PySem.W.Fast.lhsz w (boot_heap w.params) boot_drawn boot_toks os=PySem.W.Fast.rhsz w:=by kernel_rfl
end
namespace L2
open PySem PySem.Spec PyProof.Rows
abbrev Key:=Sum Int Str
def r9:Key->NK->Bool
 |.inl k,v=>Value.isInt k v
 |.inr x,v=>Value.isStrOf x v
def keyH(w:OV):Key->Int
 |.inl k=>hashInt k
 |.inr x=>hashStr w x
theorem cL:∀{k:Key}{v:NK},r9 k v=ZC->(∃i t,k=Ts i/\v=Pv i t)\/(∃x t,k=Tt x/\v=Pw x t)
 |.inl i,v,h=>by
  obtain⟨t,e⟩:=Value.isInt_shape (k:=i) (v:=v) h
  exact .inl ⟨i,t,rfl,e⟩
 |.inr x,v,h=>by
  obtain⟨t,e⟩:=Value.isStrOf_shape (x:=x) (v:=v) h;exact .inr ⟨x,t,rfl,e⟩
def AU(i:Int)(t:Tok):r9 (.inl i) (.int i t)=ZC:=by simp[r9,Value.isInt]
def AS(x:Str)(t:Tok):r9 (.inr x) (.str x t)=ZC:=by simp[r9,Value.isStrOf]
def JH(a b:Int):decide ((Ts a:Key)=Ts b)=(a == b):=by
 by_cases e:a=b
 ·subst e;simp
 ·have h:¬ (Ts a:Key)=Ts b:=λq=>e (Ts.inj q)
  rw[decide_eq_false h];exact(beq_eq_false_iff_ne.mpr e).symm
def JD(a b:Str):decide ((Tt a:Key)=Tt b)=decide (a=b):=by
 by_cases e:a=b
 ·subst e;simp
 ·have h:¬ (Tt a:Key)=Tt b:=λq=>e (Tt.inj q)
  rw[decide_eq_false h,decide_eq_false e]
def JG(a:Int)(b:Str):decide ((Ts a:Key)=Tt b)=ZD:=decide_eq_false (λq=>nomatch q)
def JE(a:Str)(b:Int):decide ((Tt a:Key)=Ts b)=ZD:=decide_eq_false (λq=>nomatch q)
def cT(prog:N8)(w:OV):PySem.KeyKind prog w Key where
 is:=r9
 hash:=keyH w
 inj:=λv a b ha hb=>by
  rcases cL ha with⟨i,t,rfl,rfl⟩|⟨x,t,rfl,rfl⟩
  ·rcases cL hb with⟨j,u,rfl,e⟩|⟨y,u,rfl,e⟩
   ·injection e with e1 _;rw[e1]
   ·exact nomatch e
  ·rcases cL hb with⟨j,u,rfl,e⟩|⟨y,u,rfl,e⟩
   ·exact nomatch e
   ·injection e with e1 _;rw[e1]
 byValue:=λk v h=>by
  rcases cL h with⟨i,t,rfl,rfl⟩|⟨x,t,rfl,rfl⟩ <;> rfl
 pyHash:=λhv h=>by
  rcases cL hv with⟨i,t,rfl,rfl⟩|⟨x,t,rfl,rfl⟩
  ·exact wpAny_pyHash_int h
  ·exact wpAny_pyHash_str h
 eqBool:=λhu hv h=>by
  rcases cL hu with⟨i,t,rfl,rfl⟩|⟨x,t,rfl,rfl⟩
  ·rcases cL hv with⟨j,u,rfl,rfl⟩|⟨y,u,rfl,rfl⟩
   ·rw[JH]at h;exact wpAny_eqBool_int h
   ·rw[JG]at h;exact SeqAt.EqAt.int_str i t y u _ _ _ _ h
  ·rcases cL hv with⟨j,u,rfl,rfl⟩|⟨y,u,rfl,rfl⟩
   ·rw[JE]at h;exact SeqAt.EqAt.str_int x t j u _ _ _ _ h
   ·rw[JD]at h;exact wpAny_eqBool_str h
 «strs»:=λk x t v h=>by
  rcases cL h with⟨i,u,rfl,e⟩|⟨y,u,rfl,e⟩
  ·exact nomatch e
  ·injection e with e1 _
   subst e1;cases v <;> rfl
def wG(prog:N8)(w:OV)(i:Int)(t:Tok):(cT prog w).is (.inl i) (.int i t)=ZC:=AU i t
def wC(prog:N8)(w:OV)(x:Str)(t:Tok):(cT prog w).is (.inr x) (.str x t)=ZC:=AS x t
def RelV:V->NK->Prop
 |.non,u=>u=Ov
 |.bl b,u=>u=OI b
 |.int i,u=>∃t,u=Pv i t
 |.str x,u=>∃t,u=Pw x t
 |.byt b,u=>∃t,u=Value.bytes b t
 |.flt b,u=>∃t,u=U0 b t
 |.ref a,u=>u=N1 a
 |.ty n,u=>u=Rn n
abbrev Vals:List V->List NK->Prop:=Vi RelV
variable{xs:List V}
def Vals.length(r:Vals xs us):xs.length=us.length:=Sv r
theorem Vals.get:∀{xs:List V}{us:List NK}{i:Nat}{x:V},Vals xs us->xs[i]?=ZA x->∃u,us[i]?=ZA u/\RelV x u
 |_,_,_,_,.nil,e=>by simp at e
 |_,_,0,_,.cons r _,e=>by simp at e;subst e;exact⟨_,rfl,r⟩
 |_,_,i+1,x,.cons _ t,e=>by
  obtain⟨u,h1,h2⟩:=Vals.get (i:=i) (x:=x) t (by simpa using e)
  exact⟨u,by simpa using h1,h2⟩
theorem Vals.append:∀{xs ys:List V}{us ws:List NK},Vals xs us->Vals ys ws->Vals (xs++ys) (us++ws)
 |_,_,_,_,.nil,s=>s
 |_,_,_,_,.cons r t,s=>.cons r (Vals.append t s)
theorem Vals.take:∀{xs:List V}{us:List NK}(n:Nat),Vals xs us->Vals (xs.take n) (us.take n)
 |_,_,0,_=>.nil
 |_,_,_+1,.nil=>.nil
 |_,_,n+1,.cons r t=>.cons r (Vals.take n t)
theorem Vals.drop:∀{xs:List V}{us:List NK}(n:Nat),Vals xs us->Vals (xs.drop n) (us.drop n)
 |_,_,0,r=>r
 |_,_,_+1,.nil=>.nil
 |_,_,n+1,.cons _ t=>Vals.drop n t
def RelO:Option V->Option NK->Prop
 |some v,ZA u=>RelV v u
 |none,ZB=>True
 |_,_=>False
def KV{κ:Type}:List (κ×V)->List (κ×NK)->Prop:=Vi λ(p:κ×V)(q:κ×NK)=>p.1=q.1/\RelV p.2 q.2
def kV:Key->V
 |.inl i=>.int i
 |.inr x=>.str x
inductive HO where
 /-- a list -/
 |lst (xs:List V)
 /-- a tuple (never changes) -/
 |tup (xs:List V)
 /-- a dict whose keys are ints and texts;one whose keys are tuples of ints and texts (the empty one is both) -/
 |dK (kvs:List (Key×V))|dT (kvs:List (List Key×V))
 /-- a set of ints: its members,its size -/
 |set (S:Int->Bool) (n:Nat)
 /-- an instance of the class at C,its dict at dx,its attributes -/
 |ins (C dx:ZE) (fs:List (Str×V))
 /-- the dict of the instance at x -/
 |own (x:ZE)
 /-- the dict of an exception -/
 |xd (fs:List (Str×V))
 /-- a bound method,f of x -/
 |met (f x:ZE)
 /-- a range object lo,lo+1,.. below hi -/
 |rng (lo hi:Int)
 /-- a thing that is known to the object (the script;a dict while a loop walks it): read,never written while it is so -/
 |frz (o:Obj) (u:HO)
 /-- a code object's table -/
 |tbl (ps:Array NK)
 /-- any other thing,by what is ZC of its one object (a def of one's own: SetO a S n:=HO.ext λh=>..) -/
 |ext (φ:ZH->Prop)
abbrev Hp:=ZE->Option HO
def upd(H:Hp)(a:ZE)(o:HO):Hp:=λb=>if b=a then ZA o else H b
variable{H:Hp}{a:ZE}
def aG{o:HO}:upd H a o a=ZA o:=by unfold upd;rw[if_pos rfl]
variable{b:ZE}
def aB{o:HO}(h:b≠a):upd H a o b=H b:=by unfold upd;rw[if_neg h]
def sU{o u:HO}:upd (upd H a o) a u=upd H a u:=by
 funext b;unfold upd;split <;> rfl
def jQ{o u:HO}(h:H a=ZA o)(h':H b=ZA u)(d:o≠u):a≠b:=by
 intro e;subst e;rw[h]at h';exact d (Ou h')
def cw{o:HO}(h:H a=ZA o)(h':H b=ZB):a≠b:=by
 intro e;subst e;rw[h]at h';cases h'
section
variable (P:N8)(w:OV)
def ObjOk(H:Hp)(h:ZH)(a:ZE):HO->Prop
 |.lst xs=>xs.length<=sizeLine/\∃(its:List NK)(n:Nat),Vals xs its/\h.get? a=ZA {cls:=.type "list",data:=.seq its.toArray n}
 |.tup xs=>xs.length<=sizeLine/\∃its:List NK,Vals xs its/\Vj h a its.toArray
 |.dK kvs=>kvs.length<=sizeLine/\(a == QR)=ZD/\∃vs,KV kvs vs/\h.DictOf (cT P w) a vs
 |.dT kvs=>kvs.length<=sizeLine/\(a == QR)=ZD/\∃xs:List (List Key×ZE×NK),
   Vi (λ(p:List Key×V)(q:List Key×ZE×NK)=>p.1=q.1/\H q.2.1=ZA (.tup (p.1.map kV))/\RelV p.2 q.2.2) kvs xs ∧
   ∃o es ep,h.get? a=ZA o/\o.ExactDict/\o.data=.dict es ep/\es.toList=xs.map (entryOfKey (Sm (cT P w)))/\(xs.map (·.1)).Nodup
 |.set S n=>h.SetOf (intKind P w) a S n
 |.ins C dx fs=>H dx=ZA (.own a)/\fs.length<=1000/\dx≠a/\h.get? a=ZA (PU C dx) ∧
   ∃mA,h.Ns1 dx mA/\(∀f,RelO (fs.lookup f) (mA f))/\Ux mA (fs.map (·.1))
 |.own _=>∃o,h.get? a=ZA o
 |.xd fs=>∃mA,h.Ns1 a mA/\∀f,RelO (fs.lookup f) (mA f)
 |.rng lo hi=>∃t u v,h.get? a=ZA {cls:=.type "range",data:=.fields #[.int lo t,.int hi u,.int 1 v]}
 |.frz o u=>h.get? a=ZA o/\ObjOk H h a u
 |.tbl ps=>h.get? a=ZA {cls:=.none,data:=.fields ps}
 |.met f x=>h.get? a=ZA (Sa (.ref f) (.ref x))
 |.ext φ=>φ h/\(∃o,h.get? a=ZA o)/\∀h1 h2:ZH,φ h1->(∀o,h1.get? a=ZA o->h2.get? a=ZA o)->φ h2
def HOk(H:Hp)(h:ZH):Prop:=∀a o,H a=ZA o->ObjOk P w H h a o
end
variable{H':Hp}{h h':ZH}
section
variable {o:HO}
theorem ObjOk.lt(x:ObjOk P w H h a o):a<h.objs.size:=by
 cases o with
 |lst xs=>obtain⟨_,_,_,_,e⟩:=x;exact NY e
 |tup xs=>obtain⟨_,_,_,p⟩:=x;exact p.lt
 |dK kvs=>obtain⟨_,_,_,_,o,_,_,e,_⟩:=x;exact NY e
 |dT kvs=>obtain⟨_,_,_,_,o,_,_,e,_⟩:=x;exact NY e
 |set S n=>obtain⟨o,_,_,_,e,_⟩:=x;exact NY e
 |ins C dx fs=>obtain⟨_,_,_,e,_⟩:=x;exact NY e
 |own y=>obtain⟨_,e⟩:=x;exact NY e
 |xd fs=>obtain⟨_,⟨_,_,_,e,_⟩,_⟩:=x;exact NY e
 |rng lo hi=>obtain⟨_,_,_,e⟩:=x;exact NY e
 |frz ob u=>obtain⟨e,_⟩:=x;exact NY e
 |tbl ps=>exact NY (show h.get? a=ZA _ from x)
 |met f y=>exact NY (show h.get? a=ZA _ from x)
 |ext φ=>obtain⟨_,⟨_,e⟩,_⟩:=x;exact NY e
theorem Paired.Nq{F G:α->β->Prop}:∀{l₁:List α}{l₂:List β},Vi F l₁ l₂->(∀a b,F a b->G a b)->Vi G l₁ l₂
 |_,_,.nil,_=>.nil
 |_,_,.cons r t,f=>.cons (f _ _ r) (Paired.Nq t f)
def ObjOk.M0(x:ObjOk P w H h a o)(k:∀b u,(b=a\/H b=ZA (.own a))->h.get? b=ZA u->h'.get? b=ZA u)
  (ho:∀b,H b=ZA (.own a)->H' b=ZA (.own a)) (ht:∀b xs,H b=ZA (.tup xs)->H' b=ZA (.tup xs)):ObjOk P w H' h' a o:=by
 induction o with
 |lst xs=>obtain⟨z,its,n,r,e⟩:=x;exact⟨z,its,n,r,k _ _ (.inl rfl) e⟩
 |tup xs=>obtain⟨z,its,r,ob,e,c⟩:=x;exact⟨z,its,r,ob,k _ _ (.inl rfl) e,c⟩
 |dK kvs=>obtain⟨z,y,vs,r,ob,es,ep,e,c⟩:=x;exact⟨z,y,vs,r,ob,es,ep,k _ _ (.inl rfl) e,c⟩
 |dT kvs=>
  obtain⟨z,y,xs,r,ob,es,ep,e,c⟩:=x
  exact⟨z,y,xs,Paired.Nq r λp q z=>⟨z.1,ht _ _ z.2.1,z.2.2⟩,ob,es,ep,k _ _ (.inl rfl) e,c⟩
 |set S n=>obtain⟨ob,es,ep,t,e,c⟩:=x;exact⟨ob,es,ep,t,k _ _ (.inl rfl) e,c⟩
 |ins C dx fs=>
  obtain⟨d,z,ne,e,mA,⟨od,es,ep,e2,c⟩,r⟩:=x
  exact⟨ho _ d,z,ne,k _ _ (.inl rfl) e,mA,⟨od,es,ep,k _ _ (.inr d) e2,c⟩,r⟩
 |own y=>obtain⟨ob,e⟩:=x;exact⟨ob,k _ _ (.inl rfl) e⟩
 |xd fs=>obtain⟨mA,⟨od,es,ep,e,c⟩,r⟩:=x;exact⟨mA,⟨od,es,ep,k _ _ (.inl rfl) e,c⟩,r⟩
 |rng lo hi=>obtain⟨t,u,v,e⟩:=x;exact⟨t,u,v,k _ _ (.inl rfl) e⟩
 |frz ob u ih=>obtain⟨e,q⟩:=x;exact⟨k _ _ (.inl rfl) e,ih q⟩
 |tbl ps=>
  have e:h.get? a=ZA {cls:=.none,data:=.fields ps}:=x
  show h'.get? a=ZA {cls:=.none,data:=.fields ps}
  exact k a _ (.inl rfl) e
 |met f y=>
  have e:h.get? a=ZA (Sa (.ref f) (.ref y)):=x
  show h'.get? a=ZA (Sa (.ref f) (.ref y))
  exact k a _ (.inl rfl) e
 |ext φ=>obtain⟨p,⟨o,e⟩,st⟩:=x;exact⟨st _ _ p λo q=>k _ _ (.inl rfl) q,⟨o,k _ _ (.inl rfl) e⟩,st⟩
theorem HOk.lt(x:HOk P w H h)(e:H a=ZA o):a<h.objs.size:=(x a o e).lt
def HOk.fresh(x:HOk P w H h)(e:h.objs.size<=a):H a=ZB:=by
 cases q:H a with
 |none=>rfl
 |some u=>exact absurd (N6 (x.lt q) e) (Oo _)
def HOk.kept(x:HOk P w H h)(k:∀b u,h.get? b=ZA u->h'.get? b=ZA u):HOk P w H h':=λa o e=>
 (x a o e).M0 (λb u _ q=>k b u q) (λ_ q=>q) λ_ _ q=>q
def HOk.laid(x:HOk P w H h)(k:∀b u,h.get? b=ZA u->h'.get? b=ZA u)(hp:h.objs.size<=a)(new:ObjOk P w (upd H a o) h' a o):HOk P w (upd H a o) h':=λb u e=>by
 have hn:=x.fresh hp
 by_cases hb:b=a
 ·subst hb;rw[aG]at e;cases e;exact new
 ·rw[aB hb]at e
  exact(x b u e).M0 (λc v _ q=>k c v q) (λc q=>by rw[aB (cw q hn)];exact q) λc xs q=>by rw[aB (cw q hn)];exact q
end
def Rd(H:Hp)(a:ZE)(u:HO):Prop:=H a=ZA u\/∃o,H a=ZA (.frz o u)
def Rd.ok{u:HO}(r:Rd H a u)(x:HOk P w H h):ObjOk P w H h a u:=by
 rcases r with r|⟨o,r⟩
 ·exact x a u r
 ·obtain⟨_,q⟩:=x a _ r
  exact q
def MA:Option HO->Prop
 |some (.lst _)=>True
 |some (.dK _)=>True
 |some (.dT _)=>True
 |some (.set _ _)=>True
 |some (.ins _ _ _)=>True
 |some (.ext _)=>True
 |_=>False
variable{e:ZE}
section
variable {x:ZE}{o':HO}
def HOk.write(ok:HOk P w H h)(mu:MA (H x))(he:e=x\/H e=ZA (.own x))(k:∀b u,b≠e->h.get? b=ZA u->h'.get? b=ZA u)(heo:∃u,h'.get? e=ZA u)
  (new:ObjOk P w (upd H x o') h' x o'):HOk P w (upd H x o') h':=λb u q=>by
 have nown:∀c y,H c=ZA (.own y)->c≠x:=λc y r z=>by subst z;rw[r]at mu;exact mu
 have ntup:∀c xs,H c=ZA (.tup xs)->c≠x:=λc xs r z=>by subst z;rw[r]at mu;exact mu
 by_cases hb:b=x
 ·subst hb;rw[aG]at q;cases q;exact new
 ·rw[aB hb]at q
  by_cases hbe:b=e
  ·have q':H b=ZA (.own x):=by
    rcases he with z|z
    ·exact absurd (hbe.trans z) hb
    ·rw[hbe];exact z
   rw[q]at q';cases q';obtain⟨v,hv⟩:=heo;exact⟨v,by rw[hbe];exact hv⟩
  ·refine(ok b u q).M0 (λc v hc r=>k c v ?_ r) (λc r=>by rw[aB (nown c b r)];exact r) λc xs r=>by rw[aB (ntup c xs r)];exact r
   rcases hc with rfl|hc
   ·exact hbe
   ·rintro rfl
    rcases he with z|z
    ·exact nown c b hc z
    ·rw[hc]at z;cases z;exact hb rfl
end
structure Un (fs ex:List ZE)(H H':Hp)(h h':ZH):Prop where
 keep:∀b o,h.get? b=ZA o->H b=ZB->b∉fs->b∉ex->h'.get? b=ZA o
 slot:∀b o,h.get? b=ZA o->H b=ZB->b∈fs->b∉ex->∃sl,h'.get? b=ZA {o with slots:=sl}
 free:∀b o,h.get? b=ZA o->H b=ZB->b∉ex->H' b=ZB
 there:∀b o,h.get? b=ZA o->b∉ex->∃o',h'.get? b=ZA o'
 tups:∀b xs,H b=ZA (.tup xs)->H' b=ZA (.tup xs)
 frzs:∀b o u,H b=ZA (.frz o u)->H' b=ZA (.frz o u)
 tbls:∀b ps,H b=ZA (.tbl ps)->∃more,H' b=ZA (.tbl (ps++more))
section
variable {fs fs' ex ex':List ZE}{H1 H2:Hp}{h1 h2:ZH}{x:ZE}{o:HO}
def Un.any(u:Un fs ex H H1 h h1){ob:Obj}(q:h.get? b=ZA ob)(n:H b=ZB)(hx:b∉ex):∃sl,h1.get? b=ZA {ob with slots:=sl}:=by
 by_cases hb:b∈fs
 ·exact u.slot b ob q n hb hx
 ·exact⟨ob.slots,u.keep b ob q n hb hx⟩
def Un.kept(k:∀b u,h.get? b=ZA u->h'.get? b=ZA u):Un fs ex H H h h':=
 ⟨λb ob q _ _ _=>k b ob q,λb ob q _ _ _=>⟨ob.slots,k b ob q⟩,λ_ _ _ n _=>n,λb ob q _=>⟨ob,k b ob q⟩,λ_ _ q=>q,λ_ _ _ q=>q,λ_ ps q=>⟨#[],by rw[q];simp⟩⟩
def Un.refl:Un fs ex H H h h:=Un.kept λ_ _ q=>q
def Un.laid(k:∀b u,h.get? b=ZA u->h'.get? b=ZA u)(hp:h.objs.size<=a)(hn:H a=ZB):Un fs ex H (upd H a o) h h' where
 keep:=λb u q _ _ _=>k b u q
 slot:=λb u q _ _ _=>⟨u.slots,k b u q⟩
 free:=λb u q n _=>by rw[aB (Pf (N6 (NY q) hp))];exact n
 there:=λb u q _=>⟨u,k b u q⟩
 tups:=λb xs q=>by rw[aB (cw q hn)];exact q
 frzs:=λb u xs q=>by rw[aB (cw q hn)];exact q
 tbls:=λb ps q=>⟨#[],by rw[aB (cw q hn),q];simp⟩
def Un.write(mu:MA (H x))(he:e=x\/H e=ZA (.own x))(k:∀b u,b≠e->h.get? b=ZA u->h'.get? b=ZA u)(heo:∃u,h'.get? e=ZA u):Un fs ex H (upd H x o) h h':=by
 have hx:∀b,H b=ZB->b≠x:=λb n z=>by subst z;rw[n]at mu;exact mu
 have hb:∀b,H b=ZB->b≠e:=λb n z=>by
  subst z;rcases he with r|r
  ·exact hx b n r
  ·rw[n]at r;cases r
 have hm:∀b u,H b=ZA u->¬ MA (ZA u)->b≠x:=λb u q nm z=>by subst z;rw[q]at mu;exact nm mu
 refine⟨λb u q n _ _=>k b u (hb b n) q,λb u q n _ _=>⟨u.slots,k b u (hb b n) q⟩,λb u q n _=>by rw[aB (hx b n)];exact n,λb u q _=>?_,
  λb xs q=>by rw[aB (hm b _ q λz=>z)];exact q,λb u xs q=>by rw[aB (hm b _ q λz=>z)];exact q,λb ps q=>⟨#[],by rw[aB (hm b _ q λz=>z),q];simp⟩⟩
 by_cases hbe:b=e
 ·subst hbe;exact heo
 ·exact⟨u,k b u hbe q⟩
end
def trk(h:ZH)(H:Hp):List ZE:=(OQ h.objs.size).filter λa=>(H a).isSome
def uR(h:ZH)(H:Hp):ZH:=SK h (trk h H)
def A0(h:ZH)(H:Hp):(uR h H).objs.size=h.objs.size:=PySem.W.hideAll_size _ _
def DF{o:Obj}(e:h.get? b=ZA o)(n:H b=ZB):(uR h H).get? b=ZA o:=
 Qr _ e λhm=>by
  have q:(H b).isSome=ZC:=(Rc.mp hm).2;rw[n]at q;simp at q
def F7{o:Obj}(e:(uR h H).get? b=ZA o):h.get? b=ZA o/\H b=ZB:=by
 have e':h.get? b=ZA o:=RZ (trk h H) e;refine⟨e',?_⟩
 cases q:H b with
 |none=>rfl
 |some x=>
  have hm:b∈trk h H:=Rc.mpr ⟨Pn.mpr (NY e'),by simp[q]⟩
  have z:(uR h H).get? b=ZB:=RH (trk h H) hm;rw[z]at e;cases e
def G3(g h:ZH)(L:ZE):V2:=(OQ h.objs.size).filterMap λa=>if a=L\/(g.get? a).isSome=ZC then ZB else(h.get? a).map λo=>(a,o)
def bV(g h:ZH)(L d:ZE):V2:=(G3 g h L).filter λp=>decide (p.1≠d)
structure Mod (K:NI)(mg:V0)(base:ZH):Prop where
 kin:K.In base
 glob:base.Ns Ox mg
 blt:∃mb,base.Ns Sk mb/\∀x:Str,x≠ "__name__"->mb x=OF x
 nolimit:base.NoLimit
structure Cx where
 prog:N8
 w:OV
 K:NI
 mg:V0
 base:ZH
 A:Oq
 N:List Str
 s₀:NO
 H₀:Hp
 env:Env
 outer:List Env
 stack:List Env
 ex:List ZE
 fn:Str->Bool
 calm:Bool
 pn:V2
 xe:V1
def m6(l:List Env):List ZE:=l.filterMap (·.frame)
abbrev Cx.fs(X:Cx):List ZE:=m6 X.outer
def lJ(sc:Q4)(x:Str):Prop:=sc.names.lookup x=ZA .local\/sc.names.lookup x=ZA .cell\/sc.names.lookup x=ZA .free
def Loc(sc:Q4)(x:Str):Prop:=sc.names.lookup x=ZA .local\/sc.names.lookup x=ZA .cell
def Look(env:Env)(h:ZH)(m:V0)(x:Str)(u:NK):Prop:=
 (env.kindOf x=ZA .local/\m x=ZA u)\/((env.kindOf x=ZA .cell\/env.kindOf x=ZA .free)/\∃c,env.cells.lookup x=ZA c/\h.IsCell c (ZA u))
structure Cx.Ok (X:Cx):Prop where
 mod:Mod X.K X.mg X.base
 kind:X.env.scope.kind=.function
 glob:X.env.globals=Ox
 blt:X.env.builtins=Sk
 above:X.s₀.heap.objs.size<=X.env.locals
 inj:∀x y c,X.env.cells.lookup x=ZA c->X.env.cells.lookup y=ZA c->x=y
 has:∀x,(X.env.kindOf x=ZA .cell\/X.env.kindOf x=ZA .free)->∃c,X.env.cells.lookup x=ZA c
 cab:∀x c,X.fn x=ZC->X.env.cells.lookup x=ZA c->X.s₀.heap.objs.size<=c
 hd:X.calm=ZC->X.A.handled=ZB
 frames:X.A.frames=ZA X.stack
 stk:X.stack=X.outer\/(X.stack=X.env::X.outer/\X.env.frame=ZA X.env.locals)
 exf:∀b∈X.ex,b≠X.env.locals/\∀x c,X.env.cells.lookup x=ZA c->c≠b
 bs:∀b o,X.base.get? b=ZA o->X.s₀.heap.get? b=ZA o/\X.H₀ b=ZB
 bsz:X.base.objs.size<=X.s₀.heap.objs.size
 noex:∀b o,X.base.get? b=ZA o->b∉X.ex
 exfs:∀b∈X.ex,b∉X.fs
 funs:X.s₀.heap.FunFrames X.base X.outer
 frf:∀b∈X.fs,X.H₀ b=ZB
structure Inv (X:Cx)(ol:V2)(σ:List (Option V))(H:Hp)(s:NO):Prop where
 ok:X.Ok
 os:s.os=X.s₀.os
 bare:Sy s.gens
 base:Un X.fs X.ex X.H₀ H X.s₀.heap s.heap
 loc:∃m,s.heap.Ns X.env.locals m/\∀(i:Nat)(x:Str)(v:V),X.N[i]?=ZA x->σ[i]?=ZA (ZA v)->lJ X.env.scope x->∃u,RelV v u/\Look X.env s.heap m x u
 cell:∀x c,X.env.cells.lookup x=ZA c->∃v,s.heap.IsCell c v
 free:H X.env.locals=ZB
 freeC:∀x c,X.env.cells.lookup x=ZA c->H c=ZB
 pin:∀p∈X.pn++ol,s.heap.get? p.1=ZA p.2/\H p.1=ZB/\p.1≠X.env.locals/\p.1∉X.fs/\∀v,p.2.data≠ .cell v
 hok:HOk X.prog X.w H s.heap
 len:σ.length=X.N.length
variable{N:List Str}{X:Cx}{it:ZE}{ol:V2}{v:V}{x:Str}
section
variable {σ:List (Option V)}
def Cx.Ok.NH(ok:X.Ok){o:Obj}(e:X.base.get? b=ZA o):b∉X.fs:=λhb=>by
 have:=(ok.funs.mem hb).1;rw[e]at this;cases this
theorem Inv.bs(I:Inv X ol σ H s):∀b o,X.base.get? b=ZA o->s.heap.get? b=ZA o/\H b=ZB:=λb o e=>
 ⟨I.base.keep b o (I.ok.bs b o e).1 (I.ok.bs b o e).2 (I.ok.NH e) (I.ok.noex b o e),I.base.free b o (I.ok.bs b o e).1 (I.ok.bs b o e).2 (I.ok.noex b o e)⟩
def Inv.bk(I:Inv X ol σ H s):∀b o,X.base.get? b=ZA o->s.heap.get? b=ZA o:=λb o e=>(I.bs b o e).1
theorem Inv.mod(I:Inv X ol σ H s):Mod X.K X.mg X.base:=I.ok.mod
def Inv.kIn(I:Inv X ol σ H s):X.K.In s.heap:=I.ok.mod.kin.keeps I.bk
theorem Inv.lt(I:Inv X ol σ H s):X.env.locals<s.heap.objs.size:=let ⟨_,hn,_⟩:=I.loc;hn.lt
def Inv.sz(I:Inv X ol σ H s):X.s₀.heap.objs.size<=s.heap.objs.size:=OB I.ok.above (Q8 I.lt)
def Inv.ND(I:Inv X ol σ H s)(h:s.heap.objs.size<=a):a∉X.fs:=λhb=>by
 obtain⟨_,o,ho,_⟩:=I.ok.funs.mem hb;exact absurd (N6 (NY ho) (OB I.sz h)) (Oo _)
def Inv.cne(I:Inv X ol σ H s):∀x c,X.env.cells.lookup x=ZA c->c≠X.env.locals:=λx c e z=>by
 obtain⟨v,o,ho,hd⟩:=I.cell x c e;obtain⟨m,⟨o',es,ep,ho',hd',_⟩,_⟩:=I.loc;rw[z,ho']at ho;cases ho;rw[hd']at hd;cases hd
theorem Inv.funs(I:Inv X ol σ H s):s.heap.FunFrames X.base X.outer:=by
 have all:∀(l:List Env),(∀b∈m6 l,b∈X.fs)->X.s₀.heap.FunFrames X.base l->s.heap.FunFrames X.base l:=by
  intro l
  induction l with
  |nil=>intro _ _;trivial
  |cons env r ih=>
   intro hs hl;obtain⟨hk,⟨L,o,hf,hn,ho,hd⟩,hr⟩:=hl
   have hL:L∈X.fs:=hs L (by unfold m6;rw[O8,hf];exact NN)
   obtain⟨sl,e⟩:=I.base.slot L o ho (I.ok.frf L hL) hL λz=>I.ok.exfs L z hL
   exact⟨hk,⟨L,_,hf,hn,e,hd⟩,ih (λb hb=>hs b (by unfold m6;rw[O8,hf];exact NJ _ hb)) hr⟩
 exact all X.outer (λ_ hb=>hb) I.ok.funs
def Inv.stack(I:Inv X ol σ H s):s.heap.FunFrames X.base X.stack:=by
 rcases I.ok.stk with e|⟨e,hf⟩
 ·rw[e];exact I.funs
 ·rw[e]
  obtain⟨m,hn,_⟩:=I.loc;refine .cons (by rw[I.ok.kind];decide) hf hn ?_ I.funs
  exact Heap.get?_none_of_le (OB I.ok.bsz I.ok.above)
def Inv.Nd(I:Inv X ol σ H s):∀b∈m6 X.stack,b∈X.env.locals::X.fs:=λb hb=>by
 rcases I.ok.stk with e|⟨e,hf⟩
 ·rw[e]at hb;exact NJ _ hb
 ·rw[e]at hb
  unfold m6 at hb;rw[O8,hf]at hb;exact hb
def Inv.KM(I:Inv X ol σ H s):∀b∈m6 X.stack,H b=ZB:=λb hb=>by
 rcases NR.mp (I.Nd b hb)with e|hb
 ·rw[e];exact I.free
 ·obtain⟨_,o,ho,_⟩:=I.ok.funs.mem hb
  exact I.base.free b o ho (I.ok.frf b hb) λz=>I.ok.exfs b z hb
def Inv.step{g':Array T2}{t':Nat}{d':Drawn}{ch:List ZE}(I:Inv X ol σ H s)
  (hch:∀b∈ch,(b∈X.ex\/X.s₀.heap.objs.size<=b)/\b≠X.env.locals/\(∀x c,X.env.cells.lookup x=ZA c->c≠b)/\∀p∈X.pn++ol,p.1≠b)
  (keep:∀b o,b≠X.env.locals->b∉X.fs->b∉ch->s.heap.get? b=ZA o->H b=ZB->h'.get? b=ZA o)
  (slot:∀b o,b≠X.env.locals->b∈X.fs->b∉ch->s.heap.get? b=ZA o->H b=ZB->∃sl,h'.get? b=ZA {o with slots:=sl}) (free:∀b o,b∉ch->s.heap.get? b=ZA o->H b=ZB->H' b=ZB)
  (there:∀b o,b∉ch->s.heap.get? b=ZA o->∃o',h'.get? b=ZA o')
  (tups:∀b xs,H b=ZA (.tup xs)->H' b=ZA (.tup xs)) (frzs:∀b o u,H b=ZA (.frz o u)->H' b=ZA (.frz o u)) (tbls:∀b ps,H b=ZA (.tbl ps)->∃more,H' b=ZA (.tbl (ps++more)))
  (ns:∀m,s.heap.Ns X.env.locals m->h'.Ns X.env.locals m) (hok:HOk X.prog X.w H' h') (hg:Sy g'):
  Inv X ol σ H' {s with heap:=h',gens:=g',drawn:=d',toks:=t'}:=by
 have neL:∀b o,X.s₀.heap.get? b=ZA o->b≠X.env.locals:=λb o e=>Pf (N6 (NY e) I.ok.above)
 have neC:∀b o,X.s₀.heap.get? b=ZA o->b∉X.ex->b∉ch:=λb o e hx hb=>by
  rcases(hch b hb).1 with z|z
  ·exact hx z
  ·exact absurd (N6 (NY e) z) (Oo _)
 have cellK:∀x c,X.env.cells.lookup x=ZA c->∀v,s.heap.IsCell c v->h'.IsCell c v:=λx c e v hh_=>by
  obtain⟨o,ho,hd⟩:=hh_
  have nch:c∉ch:=λz=>(hch c z).2.2.1 x c e rfl
  by_cases hc:c∈X.fs
  ·obtain⟨sl,q⟩:=slot c o (I.cne x c e) hc nch ho (I.freeC x c e)
   exact⟨_,q,hd⟩
  ·exact⟨o,keep c o (I.cne x c e) hc nch ho (I.freeC x c e),hd⟩
 refine⟨I.ok,I.os,hg,⟨λb o e n hb hx=>?_,λb o e n hb hx=>?_,λb o e n hx=>?_,λb o e hx=>?_,λb xs e=>tups b xs (I.base.tups b xs e),λb o xs e=>frzs b o xs (I.base.frzs b o xs e),λb ps e=>?_⟩,?_,λx c e=>?_,?_,λx c e=>?_,λp hp=>?_,hok,I.len⟩
 ·exact keep b o (neL b o e) hb (neC b o e hx) (I.base.keep b o e n hb hx) (I.base.free b o e n hx)
 ·obtain⟨sl,e1⟩:=I.base.slot b o e n hb hx
  obtain⟨sl',e2⟩:=slot b _ (neL b o e) hb (neC b o e hx) e1 (I.base.free b o e n hx);exact⟨sl',e2⟩
 ·obtain⟨o',e1⟩:=I.base.there b o e hx
  exact free b o' (neC b o e hx) e1 (I.base.free b o e n hx)
 ·obtain⟨o',e1⟩:=I.base.there b o e hx
  exact there b o' (neC b o e hx) e1
 ·obtain⟨m1,e1⟩:=I.base.tbls b ps e
  obtain⟨m2,e2⟩:=tbls b _ e1;exact⟨m1++m2,by rw[e2,Array.append_assoc]⟩
 ·obtain⟨m,hn,hl⟩:=I.loc
  refine⟨m,ns m hn,λi x v e1 e2 e3=>?_⟩
  obtain⟨u,r,l⟩:=hl i x v e1 e2 e3;refine⟨u,r,?_⟩
  rcases l with l|⟨k,c,e,z⟩
  ·exact .inl l
  ·exact .inr ⟨k,c,e,cellK x c e _ z⟩
 ·obtain⟨v,z⟩:=I.cell x c e
  exact⟨v,cellK x c e v z⟩
 ·obtain⟨m,⟨o,_,_,ho,_⟩,_⟩:=I.loc
  exact free _ o (λz=>(hch _ z).2.1 rfl) ho I.free
 ·obtain⟨v,o,ho,hd⟩:=I.cell x c e
  exact free c o (λz=>(hch c z).2.2.1 x c e rfl) ho (I.freeC x c e)
 ·obtain⟨e,n,ne,nf,d⟩:=I.pin p hp
  have nch:p.1∉ch:=λz=>(hch p.1 z).2.2.2 p hp rfl
  exact⟨keep p.1 p.2 ne nf nch e n,free p.1 p.2 nch e n,ne,nf,d⟩
def Inv.un(I:Inv X ol σ H s)(u:Un X.fs [] H H' s.heap h')(hok:HOk X.prog X.w H' h'):Inv X ol σ H' {s with heap:=h',toks:=t'}:=by
 obtain⟨m,⟨o,es,ep,ho,r⟩,_⟩:=id I.loc;obtain⟨sl,hL⟩:=u.any ho I.free (by simp)
 exact I.step (g':=s.gens) (d':=s.drawn) (ch:=[]) (λ_ z=>nomatch z) (λb o _ hb _ e n=>u.keep b o e n hb (by simp)) (λb o _ hb _ e n=>u.slot b o e n hb (by simp)) (λb o _ e n=>u.free b o e n (by simp)) (λb o _ e=>u.there b o e (by simp)) u.tups u.frzs u.tbls (λm' hm=>by
  obtain⟨o',es',ep',ho',r'⟩:=hm;rw[ho]at ho';cases ho';exact⟨_,es',ep',hL,r'⟩) hok I.bare
def Inv.call{g':Array T2}{d':Drawn}{ch:List ZE}(I:Inv X ol σ H s)(u:Un (m6 X.stack) ch H H' s.heap h')(hok:HOk X.prog X.w H' h')(hg:Sy g')
  (hch:∀b∈ch,(b∈X.ex\/X.s₀.heap.objs.size<=b)/\b≠X.env.locals/\(∀x c,X.env.cells.lookup x=ZA c->c≠b)/\∀p∈X.pn++ol,p.1≠b):
  Inv X ol σ H' {s with heap:=h',gens:=g',drawn:=d',toks:=t'}:=by
 obtain⟨m,⟨o,es,ep,ho,r⟩,_⟩:=id I.loc;obtain⟨sl,hL⟩:=u.any ho I.free λz=>(hch _ z).2.1 rfl
 exact I.step (ch:=ch) hch (λb o hL hb hc e n=>u.keep b o e n (λz=>(NR.mp (I.Nd b z)).elim hL hb) hc) (λb o _ _ hc e n=>u.any e n hc) (λb o hc e n=>u.free b o e n hc) (λb o hc e=>u.there b o e hc) u.tups u.frzs u.tbls (λm' hm=>by
  obtain⟨o',es',ep',ho',r'⟩:=hm;rw[ho]at ho';cases ho';exact⟨_,es',ep',hL,r'⟩) hok hg
def Inv.turned(I:Inv X ol σ H s)(k:∀b o,b≠it->s.heap.get? b=ZA o->h'.get? b=ZA o)(hn:H it=ZB)(hL:it≠X.env.locals)
  (h1:it∈X.ex\/X.s₀.heap.objs.size<=it) (h2:∀x c,X.env.cells.lookup x=ZA c->c≠it) (h3:∀p∈X.pn++ol,p.1≠it):Inv X ol σ H {s with heap:=h',toks:=t'}:=by
 have nit:∀b u,H b=ZA u->b≠it:=λb u e z=>by rw[z,hn]at e;cases e
 refine I.step (g':=s.gens) (d':=s.drawn) (ch:=[it]) (λb hb=>?_) (λb o _ _ hc e _=>k b o (λz=>hc (by simp[z])) e) (λb o _ _ hc e _=>⟨o.slots,k b o (λz=>hc (by simp[z])) e⟩) (λ_ _ _ _ n=>n)
  (λb o hc e=>⟨o,k b o (λz=>hc (by simp[z])) e⟩) (λ_ _ e=>e) (λ_ _ _ e=>e) (λb ps e=>⟨#[],by rw[e];simp⟩) (λm hm=>?_) (λb u e=>?_) I.bare
 ·have e:b=it:=by simpa using hb
  subst e;exact⟨h1,hL,h2,h3⟩
 ·obtain⟨o,es,ep,ho,r⟩:=hm
  exact⟨o,es,ep,k _ o (OZ hL) ho,r⟩
 ·refine(I.hok b u e).M0 (λc v hc q=>k c v ?_ q) (λ_ q=>q) λ_ _ q=>q
  rcases hc with z|z
  ·rw[z];exact nit b u e
  ·exact nit c _ z
def Inv.tok(I:Inv X ol σ H s)(t:Nat):Inv X ol σ H {s with toks:=t}:=I.un (h':=s.heap) (t':=t) Un.refl I.hok
theorem Inv.kept(I:Inv X ol σ H s)(k:∀b u,s.heap.get? b=ZA u->h'.get? b=ZA u):Inv X ol σ H {s with heap:=h',toks:=t'}:=I.un (Un.kept k) (I.hok.kept k)
theorem Inv.laid{o:HO}(I:Inv X ol σ H s)(k:∀b u,s.heap.get? b=ZA u->h'.get? b=ZA u)(hp:s.heap.objs.size<=a)(new:ObjOk X.prog X.w (upd H a o) h' a o):
  Inv X ol σ (upd H a o) {s with heap:=h',toks:=t'}:=I.un (Un.laid k hp (I.hok.fresh hp)) (I.hok.laid k hp new)
theorem Inv.write{x:ZE}{o:HO}(I:Inv X ol σ H s)(mu:MA (H x))(he:e=x\/H e=ZA (.own x))(k:∀b u,b≠e->s.heap.get? b=ZA u->h'.get? b=ZA u)(heo:∃u,h'.get? e=ZA u)
  (new:ObjOk X.prog X.w (upd H x o) h' x o):Inv X ol σ (upd H x o) {s with heap:=h',toks:=t'}:=I.un (Un.write mu he k heo) (I.hok.write mu he k heo new)
def Inv.Nf{pins':V2}(I:Inv X ol σ H s)(h:∀p∈pins',s.heap.get? p.1=ZA p.2/\H p.1=ZB/\p.1≠X.env.locals/\p.1∉X.fs/\∀v,p.2.data≠ .cell v):Inv X pins' σ H s:=
 ⟨I.ok,I.os,I.bare,I.base,I.loc,I.cell,I.free,I.freeC,λp hp=>(Og.mp hp).elim (λz=>I.pin p (Ol _ z)) (h p),I.hok,I.len⟩
def we(hN:N.Nodup)(a:N[i]?=ZA x)(b:N[j]?=ZA x):i=j:=by
 obtain⟨h1,e1⟩:=NU.mp a
 obtain⟨h2,e2⟩:=NU.mp b
 exact(List.getElem_inj hN).mp (e1.trans e2.symm)
variable{Q:Unit->NO->Prop}
def rE{u:NK}(I:Inv X ol σ H s)(hN:X.N.Nodup)(hi:X.N[i]?=ZA x)(hx:Loc X.env.scope x)(r:RelV v u)
  (h:∀s',Inv X ol (σ.set i (ZA v)) H s'->(∃a,Q7 a s.heap s'.heap/\(a=X.env.locals\/X.env.cells.lookup x=ZA a))->Q () s') (hf:autoParam (X.fn x=ZC\/X.env.scope.names.lookup x=ZA .local) aqa._auto_1):wpAny M A (storeName X.env x u) Q E s:=by
 obtain⟨m,hn,hl⟩:=id I.loc
 have hcls:(X.env.scope.kind == .class||(X.env.scope.kind == .module&&X.env.locals != X.env.globals))=ZD:=by rw[I.ok.kind];rfl
 have hiσ:i<σ.length:=by rw[I.len];exact(NU.mp hi).1
 have cne:=I.cne
 have tracked:∀{a:ZE}{h':ZH},(∃o,s.heap.get? a=ZA o/\H a=ZB)->Q7 a s.heap h'->HOk X.prog X.w H h':=λ{a h'} ha hs b ob e=>by
  obtain⟨_,_,hfree⟩:=ha;refine(I.hok b ob e).M0 (λc w' hc q=>(hs.2 c ?_).trans q) (λ_ q=>q) λ_ _ q=>q
  rintro rfl
  rcases hc with rfl|hc
  ·rw[hfree]at e;cases e
  ·rw[hfree]at hc;cases hc
 rcases hx with hk|hk
 ·refine wpAny_storeName_local hk hn (λh' hn' hs=>?_) hcls
  obtain⟨oL,_,_,hoL,_⟩:=id hn;refine h _ ⟨I.ok,I.os,I.bare,⟨λb o e n hb hx=>?_,λb o e n hb hx=>?_,I.base.free,λb o e hx=>?_,I.base.tups,I.base.frzs,I.base.tbls⟩,⟨_,hn',λj y v' e1 e2 e3=>?_⟩,λy c e=>?_,I.free,I.freeC,λp hp=>?_,tracked ⟨oL,hoL,I.free⟩ hs,by simpa using I.len⟩ ⟨_,hs,.inl rfl⟩
  ·exact(hs.2 b (Pf (N6 (NY e) I.ok.above))).trans (I.base.keep b o e n hb hx)
  ·obtain⟨sl,e1⟩:=I.base.slot b o e n hb hx
   exact⟨sl,(hs.2 b (Pf (N6 (NY e) I.ok.above))).trans e1⟩
  ·obtain⟨o',e1⟩:=I.base.there b o e hx
   exact⟨o',(hs.2 b (Pf (N6 (NY e) I.ok.above))).trans e1⟩
  ·by_cases hj:j=i
   ·subst hj
    rw[hi]at e1;cases e1;rw[Of hiσ]at e2
    cases e2;exact⟨u,r,.inl ⟨hk,by simp⟩⟩
   ·rw[Oh (OZ hj)]at e2
    obtain⟨u',r',q⟩:=hl j y v' e1 e2 e3;refine⟨u',r',?_⟩
    rcases q with⟨k,e⟩|⟨k,c,e,z⟩
    ·refine .inl ⟨k,?_⟩
     have:y≠x:=λe=>hj (we hN e1 (e▸hi))
     simp[this,e]
    ·exact .inr ⟨k,c,e,z.sameBut hs (cne y c e)⟩
  ·obtain⟨w',z⟩:=I.cell y c e
   exact⟨w',z.sameBut hs (cne y c e)⟩
  ·obtain⟨e,n,ne,nf,d⟩:=I.pin p hp
   exact⟨(hs.2 p.1 ne).trans e,n,ne,nf,d⟩
 ·have hfn:X.fn x=ZC:=by
   rcases hf with z|z
   ·exact z
   ·rw[z]at hk;cases hk
  obtain⟨c,hc⟩:=I.ok.has x (.inl hk);obtain⟨w',z⟩:=I.cell x c hc;refine wpAny_storeName_cell I.ok.kind hk hc z (λh' hc' hs=>?_)
  obtain⟨oc,hoc,hocd⟩:=id z;refine h {s with heap:=h'} ⟨I.ok,I.os,I.bare,⟨λb o e n hb hx=>?_,λb o e n hb hx=>?_,I.base.free,λb o e hx=>?_,I.base.tups,I.base.frzs,I.base.tbls⟩,⟨m,hn.sameBut hs (OZ (cne x c hc)),λj y v' e1 e2 e3=>?_⟩,λy c' e=>?_,I.free,I.freeC,λp hp=>?_,tracked ⟨oc,hoc,I.freeC x c hc⟩ hs,by simpa using I.len⟩ ⟨c,hs,.inr hc⟩
  ·exact(hs.2 b (Pf (N6 (NY e) (I.ok.cab x c hfn hc)))).trans (I.base.keep b o e n hb hx)
  ·obtain⟨sl,e1⟩:=I.base.slot b o e n hb hx
   exact⟨sl,(hs.2 b (Pf (N6 (NY e) (I.ok.cab x c hfn hc)))).trans e1⟩
  ·obtain⟨o',e1⟩:=I.base.there b o e hx
   exact⟨o',(hs.2 b (Pf (N6 (NY e) (I.ok.cab x c hfn hc)))).trans e1⟩
  ·by_cases hj:j=i
   ·subst hj
    rw[hi]at e1;cases e1;rw[Of hiσ]at e2
    cases e2;exact⟨u,r,.inr ⟨.inl hk,c,hc,hc'⟩⟩
   ·rw[Oh (OZ hj)]at e2
    obtain⟨u',r',q⟩:=hl j y v' e1 e2 e3;refine⟨u',r',?_⟩
    rcases q with q|⟨k,c',e,z'⟩
    ·exact .inl q
    ·refine .inr ⟨k,c',e,z'.sameBut hs ?_⟩
     rintro rfl
     exact hj (we hN e1 (I.ok.inj _ _ _ e hc▸hi))
  ·by_cases hcc:c'=c
   ·subst hcc;exact⟨_,hc'⟩
   ·obtain⟨w2,z2⟩:=I.cell y c' e
    exact⟨w2,z2.sameBut hs hcc⟩
  ·obtain⟨e,n,ne,nf,d⟩:=I.pin p hp
   refine⟨(hs.2 p.1 ?_).trans e,n,ne,nf,d⟩
   intro q;rw[q,hoc]at e
   have q':oc=p.2:=Ou e;exact d w' (by rw[<-q'];exact hocd)
def lN{u:NK}(I:Inv X ol σ H s)(hN:X.N.Nodup)(hi:X.N[i]?=ZA x)(hx:Loc X.env.scope x)(r:RelV v u)
  (h:∀s',Inv X ol (σ.set i (ZA v)) H s'->Q () s') (hf:autoParam (X.fn x=ZC\/X.env.scope.names.lookup x=ZA .local) aqa._auto_1):wpAny M A (storeName X.env x u) Q E s:=
 rE I hN hi hx r (λs' I' _=>h s' I') hf
def Inv.M6{ch:List ZE}(I:Inv X ol σ H s)(ho:s'.os=s.os)(u:Un (m6 X.stack) ch H H' s.heap s'.heap)(hok:HOk X.prog X.w H' s'.heap)(hg:Sy s'.gens)
  (hch:∀b∈ch,(b∈X.ex\/X.s₀.heap.objs.size<=b)/\b≠X.env.locals/\(∀x c,X.env.cells.lookup x=ZA c->c≠b)/\∀p∈X.pn++ol,p.1≠b):Inv X ol σ H' s':=by
 obtain⟨h',g',d',t',o'⟩:=s'
 have e:o'=s.os:=ho;subst e;exact I.call (g':=g') (t':=t') (d':=d') u hok hg hch
end
abbrev XK:=NK->Option ZE->Hp->Prop
abbrev St:=List (Option V)
abbrev VK:=V->Hp->Prop
abbrev TE:=St->Hp->VK->Prop
abbrev TT:=St->Hp->(Bool->Hp->Prop)->Prop
abbrev TA:=St->Hp->(List V->Hp->Prop)->Prop
structure nj where
 nx:St->Hp->Prop
 rt:VK
 bk:St->Hp->Prop:=λ_ _=>False
 ct:St->Hp->Prop:=λ_ _=>False
abbrev TS:=nj->St->Hp->Prop
def EP(X:Cx)(ol:V2)(σ:St)(Q:VK)(u:NK)(s':NO):Prop:=∃v H',Inv X ol σ H' s'/\RelV v u/\Q v H'
def TP(X:Cx)(ol:V2)(σ:St)(Q:Bool->Hp->Prop)(b:Bool)(s':NO):Prop:=∃H',Inv X ol σ H' s'/\Q b H'
def AP(X:Cx)(ol:V2)(σ:St)(Q:List V->Hp->Prop)(us:List NK)(s':NO):Prop:=∃vs H',Inv X ol σ H' s'/\Vals vs us/\Q vs H'
def SP(X:Cx)(ol:V2)(D:nj)(f:Flow)(s':NO):Prop:=
 match f with
 |.next=>∃σ' H',Inv X ol σ' H' s'/\D.nx σ' H'
 |.brk=>∃σ' H',Inv X ol σ' H' s'/\D.bk σ' H'
 |.cont=>∃σ' H',Inv X ol σ' H' s'/\D.ct σ' H'
 |.ret u=>∃v σ' H',Inv X ol σ' H' s'/\RelV v u/\D.rt v H'
def PE(X:Cx)(e:ZG)(t:TE):Prop:=
 ∀(ol:V2)(s:NO)(σ:St)(H:Hp)(Q:VK),Inv X ol σ H s->t σ H Q->wpAny (model X.prog X.w) X.A (eval e X.env) (EP X ol σ Q) X.xe s
def PT(X:Cx)(e:ZG)(t:TT):Prop:=
 ∀(ol:V2)(s:NO)(σ:St)(H:Hp)(Q:Bool->Hp->Prop),Inv X ol σ H s->t σ H Q->wpAny (model X.prog X.w) X.A (isTrue e X.env (eval e X.env)) (TP X ol σ Q) X.xe s
def PW(X:Cx)(e:ZG)(t:TT):Prop:=
 ∀(whole:Sem NK)(ol:V2)(s:NO)(σ:St)(H:Hp)(Q:Bool->Hp->Prop),Inv X ol σ H s->t σ H Q->wpAny (model X.prog X.w) X.A (isTrue e X.env whole) (TP X ol σ Q) X.xe s
variable{e:ZG}
def PW.pt{t:TT}(h:PW X e t):PT X e t:=h _
def PA(X:Cx)(es:List ZG)(t:TA):Prop:=
 ∀(pos:Pos)(ol:V2)(s:NO)(σ:St)(H:Hp)(Q:List V->Hp->Prop),Inv X ol σ H s->t σ H Q->wpAny (model X.prog X.w) X.A (spliced (backTo pos (NW es X.env))) (AP X ol σ Q) X.xe s
def PS(X:Cx)(st:ZF)(t:TS):Prop:=
 ∀(ol:V2)(s:NO)(σ:St)(H:Hp)(D:nj),Inv X ol σ H s->t D σ H->wpAny (model X.prog X.w) X.A (exec st X.env) (SP X ol D) X.xe s
def PSs(X:Cx)(st:List ZF)(t:TS):Prop:=
 ∀(ol:V2)(s:NO)(σ:St)(H:Hp)(D:nj),Inv X ol σ H s->t D σ H->wpAny (model X.prog X.w) X.A (execs st X.env) (SP X ol D) X.xe s
def bU{t:Sem α}{Q Q':α->NO->Prop}(h:wpAny M A t Q E s)(hQ:∀a s,Q a s->Q' a s):wpAny M A t Q' E s:=Pr h hQ λ_ _ x=>x
variable{c:ZG}{pos:Pos}{ta:TE}{σ:St}
section
def oQ(i:Nat):TE:=λσ H Q=>∃v,σ[i]?=ZA (ZA v)/\Q v H
def tC(v:V):TE:=λ_ H Q=>Q v H
def eF{pos:Pos}(hN:X.N[i]?=ZA x)(hv:lJ X.env.scope x)(hd:autoParam ((x == ("__debug__" : Str))=ZD) aqb._auto_1)(hcd:autoParam ((x == ("__classdict__" : Str))=ZD) aqb._auto_1):PE X (.Name x pos) (oQ i):=by
 intro ol s σ H Q I h;obtain⟨v,e,h⟩:=h;obtain⟨m,hn,hl⟩:=I.loc;obtain⟨u,r,l⟩:=hl i x v hN e hv
 have fin:EP X ol σ Q u s:=⟨v,H,I,r,h⟩;rcases l with⟨hk,hm⟩|⟨hk,c,hc,hcell⟩
 ·exact wpAny_Name (wpAny_loadName_local I.ok.kind hk hn hm fin) hd
 ·rcases hk with hk|hk
  ·exact wpAny_Name (wpAny_loadName_cell I.ok.kind hk hc hcell fin) hd
  ·exact wpAny_Name (wpAny_loadName_free I.ok.kind hk hc hcell fin hcd) hd
def CF{i j pos}:PE X (.Constant (.int i) j pos) (tC (.int i)):=λ_ _ _ H _ I h=>wpAny_Constant_int ⟨.int i,H,I.tok _,⟨_,rfl⟩,h⟩
def CI{b j pos}:PE X (.Constant (.bool b) j pos) (tC (.bl b)):=λ_ _ _ H _ I h=>Constant_bool ⟨.bl b,H,I,rfl,h⟩
def CD{j pos}:PE X (.Constant .none j pos) (tC .non):=λ_ _ _ H _ I h=>Constant_none ⟨.non,H,I,rfl,h⟩
def CB{x j pos}:PE X (.Constant (.str x) j pos) (tC (.str x)):=λ_ _ _ H _ I h=>TJ ⟨.str x,H,I.tok _,⟨_,rfl⟩,h⟩
def Gl(X:Cx)(x:Str):Prop:=X.env.kindOf x=ZA .globalImplicit
def fR{u:NK}{pos:Pos}(I:Inv X ol σ H s)(hg:Gl X x)(hm:X.mg x=ZA u)(h:Q u s)
  (hd:autoParam ((x == ("__debug__" : Str))=ZD) aqb._auto_1):wpAny (model X.prog X.w) X.A (eval (.Name x pos) X.env) Q E s:=
 RX I.ok.kind hg (Calls.loadGlobal_global (by rw[I.ok.glob];exact I.mod.glob.keeps I.bk) hm h) hd
def gU{u:NK}{pos:Pos}(I:Inv X ol σ H s)(hg:Gl X x)(hm:X.mg x=ZB)(hv:OF x=ZA u)(h:Q u s)
  (hn:autoParam (x≠ "__name__") aqb._auto_1) (hd:autoParam ((x == ("__debug__" : Str))=ZD) aqb._auto_1):wpAny (model X.prog X.w) X.A (eval (.Name x pos) X.env) Q E s:=by
 obtain⟨mb,h1,h2⟩:=I.mod.blt;exact RX I.ok.kind hg (Calls.loadGlobal_builtin (by rw[I.ok.glob];exact I.mod.glob.keeps I.bk) hm (by rw[I.ok.blt];exact h1.keeps I.bk) ((h2 x hn).trans hv) h) hd
def zo{u:NK}{pos:Pos}(hg:Gl X x)(hm:X.mg x=ZA u)(r:RelV v u)(hd:autoParam ((x == ("__debug__" : Str))=ZD) aqb._auto_1):PE X (.Name x pos) (tC v):=
 λ_ _ _ H _ I h=>fR I hg hm ⟨v,H,I,r,h⟩ hd
def zr{u:NK}{pos:Pos}(hg:Gl X x)(hm:X.mg x=ZB)(hv:OF x=ZA u)(r:RelV v u)(hn:autoParam (x≠ "__name__") aqb._auto_1)(hd:autoParam ((x == ("__debug__" : Str))=ZD) aqb._auto_1):PE X (.Name x pos) (tC v):=
 λ_ _ _ H _ I h=>gU I hg hm hv ⟨v,H,I,r,h⟩ hn hd
variable {a b:ZG}{tb:TE}
def tB(t:TE):TT:=λσ H Q=>t σ H λx H1=>∃c,x=.bl c/\Q c H1
def Ct{t:TE}(h:PE X e t)(he:autoParam (∀whole,isTrue e X.env whole=(do let v <-whole;standAt e.pos;holding [v] (truthy v))) aqc._auto_1):PT X e (tB t):=by
 intro ol s σ H Q I hw;refine isTrue_plain (bU (h ol s σ H _ I hw) λv s1 ⟨x,H1,I1,r1,q1⟩=>?_) (he _)
 obtain⟨d,rfl,q⟩:=q1;cases r1;exact OL ⟨H1,I1,q⟩
variable {tA tB':TT}{bV:List ZG}
def tAnd(t u:TT):TT:=λσ H Q=>t σ H λc H1=>if c=ZC then u σ H1 Q else Q ZD H1
def tOr(t u:TT):TT:=λσ H Q=>t σ H λc H1=>if c=ZC then Q ZC H1 else u σ H1 Q
def tNot(t:TT):TT:=λσ H Q=>t σ H λc H1=>Q (!c) H1
def FP(ha:PT X a tA):PW X (.BoolOp .And [a] pos) tA:=by
 intro wh ol s σ H Q I h;refine isTrue_and (bU (ha ol s σ H Q I h) λc s1 e=>?_)
 cases c with
 |true=>exact isTrue_and_nil e
 |false=>exact e
def xY(ha:PT X a tA):PW X (.BoolOp .Or [a] pos) tA:=by
 intro wh ol s σ H Q I h;refine isTrue_or (bU (ha ol s σ H Q I h) λc s1 e=>?_)
 cases c with
 |false=>exact isTrue_or_nil e
 |true=>exact e
def IU(ha:PT X a tA)(hb:PW X (.BoolOp .And (b::bV) pos) tB'):PW X (.BoolOp .And (a::b::bV) pos) (tAnd tA tB'):=by
 intro wh ol s σ H Q I h;refine isTrue_and (bU (ha ol s σ H _ I h) λc s1 hh_=>?_)
 obtain⟨H1,I1,q1⟩:=hh_
 cases c with
 |true=>exact hb wh ol s1 σ H1 Q I1 q1
 |false=>exact⟨H1,I1,q1⟩
def Cp(ha:PT X a tA)(hb:PW X (.BoolOp .Or (b::bV) pos) tB'):PW X (.BoolOp .Or (a::b::bV) pos) (tOr tA tB'):=by
 intro wh ol s σ H Q I h;refine isTrue_or (bU (ha ol s σ H _ I h) λc s1 hh_=>?_)
 obtain⟨H1,I1,q1⟩:=hh_
 cases c with
 |true=>exact⟨H1,I1,q1⟩
 |false=>exact hb wh ol s1 σ H1 Q I1 q1
def Cu(ha:PT X a tA):PT X (.UnaryOp .Not a pos) (tNot tA):=by
 intro ol s σ H Q I h;exact isTrue_not (ha ol s σ H (λc H1=>Q (!c) H1) I h)
def K0(ta tb:TE):TE:=λσ H Q=>ta σ H λx H1=>∃c,x=.bl c/\if c=ZC then tb σ H1 Q else Q (.bl ZD) H1
def tOrV(ta tb:TE):TE:=λσ H Q=>ta σ H λx H1=>∃c,x=.bl c/\if c=ZC then Q (.bl ZC) H1 else tb σ H1 Q
def KQ(ta:TE):TE:=λσ H Q=>ta σ H λx H1=>∃c,x=.bl c/\Q (.bl (!c)) H1
def Jb{op}{t:TE}(h:PE X a t):PE X (.BoolOp op [a] pos) t:=λol s σ H Q I hw=>BoolOp_one (h ol s σ H Q I hw)
def Jf(ha:PE X a ta)(hb:PE X (.BoolOp .And (b::bV) pos) tb):PE X (.BoolOp .And (a::b::bV) pos) (K0 ta tb):=by
 intro ol s σ H Q I h;refine BoolOp_and (bU (ha ol s σ H _ I h) λv s1 hh_=>?_)
 obtain⟨x,H1,I1,r1,q1⟩:=hh_;obtain⟨c,rfl,q1⟩:=q1;cases r1;refine OL ?_
 cases c with
 |true=>exact hb ol s1 σ H1 Q I1 q1
 |false=>exact⟨.bl ZD,H1,I1,rfl,q1⟩
def Lx(ha:PE X a ta)(hb:PE X (.BoolOp .Or (b::bV) pos) tb):PE X (.BoolOp .Or (a::b::bV) pos) (tOrV ta tb):=by
 intro ol s σ H Q I h;refine BoolOp_or (bU (ha ol s σ H _ I h) λv s1 hh_=>?_)
 obtain⟨x,H1,I1,r1,q1⟩:=hh_;obtain⟨c,rfl,q1⟩:=q1;cases r1;refine OL ?_
 cases c with
 |false=>exact hb ol s1 σ H1 Q I1 q1
 |true=>exact⟨.bl ZC,H1,I1,rfl,q1⟩
def Jc(ha:PE X a ta):PE X (.UnaryOp .Not a pos) (KQ ta):=by
 intro ol s σ H Q I h;refine UnaryOp_ (bU (ha ol s σ H _ I h) λv s1 hh_=>?_)
 obtain⟨x,H1,I1,r1,q1⟩:=hh_;obtain⟨c,rfl,q1⟩:=q1;cases r1;exact not_of (OL ⟨.bl (!c),H1,I1,rfl,q1⟩)
def tIf(t:TT)(ta tb:TE):TE:=λσ H Q=>t σ H λc H1=>if c=ZC then ta σ H1 Q else tb σ H1 Q
def vW(hc:PT X c tA)(ha:PE X a ta)(hb:PE X b tb):PE X (.IfExp c a b pos) (tIf tA ta tb):=by
 intro ol s σ H Q I h;refine wpAny_IfExp (bU (hc ol s σ H _ I h) λd s1 hh_=>?_)
 obtain⟨H1,I1,q1⟩:=hh_
 cases d with
 |true=>exact ha ol s1 σ H1 Q I1 q1
 |false=>exact hb ol s1 σ H1 Q I1 q1
end
def SqL(K:NI)(H:Hp)(a:ZE)(xs:List V):Prop:=
 Rd H a (.lst xs) ∨
  ∃(o:Obj)(its:Array NK)(n:Nat),K.lookup a=ZA o/\o.cls=.type "list"/\o.dict=ZB/\o.data=.seq its n/\its.size<=sizeLine/\Vals xs its.toList
def SqT(K:NI)(H:Hp)(a:ZE)(xs:List V):Prop:=
 Rd H a (.tup xs) ∨
  ∃(o:Obj)(its:Array NK)(n:Nat),K.lookup a=ZA o/\o.cls=.type "tuple"/\o.data=.seq its n/\its.size<=sizeLine/\Vals xs its.toList
def absV:NK->Option V
 |.none=>ZA .non
 |.bool b=>ZA (.bl b)
 |.int i _=>ZA (.int i)
 |.str x _=>ZA (.str x)
 |.bytes b _=>ZA (.byt b)
 |.float b _=>ZA (.flt b)
 |.ref a=>ZA (.ref a)
 |.type n=>ZA (.ty n)
 |_=>ZB
def RelV.abs{x:V}{u:NK}(r:RelV x u):absV u=ZA x:=by
 cases x with
 |non=>cases r;rfl
 |bl _=>cases r;rfl
 |int _=>obtain⟨t,rfl⟩:=r;rfl
 |str _=>obtain⟨t,rfl⟩:=r;rfl
 |byt _=>obtain⟨t,rfl⟩:=r;rfl
 |flt _=>obtain⟨t,rfl⟩:=r;rfl
 |ref _=>cases r;rfl
 |ty _=>cases r;rfl
variable{y:V}
def RelV.inj{x:V}{u:NK}(r:RelV x u)(q:RelV y u):x=y:=Ou (r.abs.symm.trans q.abs)
theorem Vals.inj:∀{xs ys:List V}{us:List NK},Vals xs us->Vals ys us->xs=ys
 |_,_,_,.nil,.nil=>rfl
 |_,_,_,.cons r t,.cons r' t'=>by rw[r.inj r',Vals.inj t t']
section
variable {ys:List V}
def SqL.of(h:H a=ZA (.lst xs)):SqL K H a xs:=.inl (.inl h)
def SqT.of(h:H a=ZA (.tup xs)):SqT K H a xs:=.inl (.inl h)
def Inv.list(I:Inv X ol σ H s)(h:SqL X.K H a xs):∃its:List NK,Vals xs its/\PlainL s.heap a its.toArray/\xs.length<=sizeLine:=by
 rcases h with h|⟨o,its,n,hk,hc,hd,hs,hz,r⟩
 ·obtain⟨z,its,n,r,e⟩:=h.ok I.hok
  exact⟨its,r,⟨_,n,e,rfl,rfl,rfl⟩,z⟩
 ·refine⟨its.toList,r,⟨o,n,I.kIn a o hk,hc,hd,by simpa using hs⟩,?_⟩
  have e:=r.length;simp only[O9]at e;omega
def Inv.tuple(I:Inv X ol σ H s)(h:SqT X.K H a xs):∃its:List NK,Vals xs its/\Vj s.heap a its.toArray/\xs.length<=sizeLine:=by
 rcases h with h|⟨o,its,n,hk,hc,hs,hz,r⟩
 ·obtain⟨z,its,r,p⟩:=h.ok I.hok
  exact⟨its,r,p,z⟩
 ·refine⟨its.toList,r,⟨o,I.kIn a o hk,hc,n,by simpa using hs⟩,?_⟩
  have e:=r.length;simp only[O9]at e;omega
def Inv.Nc(I:Inv X ol σ H s)(h:SqL X.K H a xs)(h':SqL X.K H a ys):xs=ys:=by
 obtain⟨its,r,⟨o,n,e,_,_,d⟩,_⟩:=I.list h;obtain⟨its',r',⟨o',n',e',_,_,d'⟩,_⟩:=I.list h';rw[e]at e';cases e';rw[d]at d';injection d' with d1 _
 have:its=its':=by simpa using congrArg SM d1
 subst this;exact r.inj r'
def Inv.M5(I:Inv X ol σ H s)(h:SqT X.K H a xs)(h':SqT X.K H a ys):xs=ys:=by
 obtain⟨its,r,⟨o,e,_,n,d⟩,_⟩:=I.tuple h;obtain⟨its',r',⟨o',e',_,n',d'⟩,_⟩:=I.tuple h';rw[e]at e';cases e';rw[d]at d';injection d' with d1 _
 have:its=its':=by simpa using congrArg SM d1
 subst this;exact r.inj r'
end
abbrev Cx.FB(X:Cx)(E:V1):Cx:={X with xe:=E}
abbrev Cx.nox(X:Cx):Cx:=X.FB λ_ _=>False
def Cx.Ok.FB(ok:X.Ok)(E:V1):(X.FB E).Ok:=
 ⟨ok.mod,ok.kind,ok.glob,ok.blt,ok.above,ok.inj,ok.has,ok.cab,ok.hd,ok.frames,ok.stk,ok.exf,ok.bs,ok.bsz,ok.noex,ok.exfs,ok.funs,ok.frf⟩
def Cx.Ok.GT(ok:(X.FB E).Ok):X.Ok:=
 ⟨ok.mod,ok.kind,ok.glob,ok.blt,ok.above,ok.inj,ok.has,ok.cab,ok.hd,ok.frames,ok.stk,ok.exf,ok.bs,ok.bsz,ok.noex,ok.exfs,ok.funs,ok.frf⟩
theorem Inv.FB(I:Inv X ol σ H s)(E:V1):Inv (X.FB E) ol σ H s:=⟨I.ok.FB E,I.os,I.bare,I.base,I.loc,I.cell,I.free,I.freeC,I.pin,I.hok,I.len⟩
theorem Inv.GT(I:Inv (X.FB E) ol σ H s):Inv X ol σ H s:=⟨I.ok.GT,I.os,I.bare,I.base,I.loc,I.cell,I.free,I.freeC,I.pin,I.hok,I.len⟩
theorem SP.GT{D:nj}{f:Flow}(h:SP (X.FB E) ol D f s'):SP X ol D f s':=by
 cases f with
 |next=>obtain⟨σ',H',I,q⟩:=h;exact⟨σ',H',I.GT,q⟩
 |brk=>obtain⟨σ',H',I,q⟩:=h;exact⟨σ',H',I.GT,q⟩
 |cont=>obtain⟨σ',H',I,q⟩:=h;exact⟨σ',H',I.GT,q⟩
 |ret u=>obtain⟨v,σ',H',I,r,q⟩:=h;exact⟨v,σ',H',I.GT,r,q⟩
def PSs.nox{st:List ZF}{t:TS}(h:PSs X.nox st t):PSs X st t:=λol s σ H D I hw=>
 Pr (h ol s σ H D (I.FB _) hw) (λ_ _ q=>q.GT) λ_ _ z=>P4 z
variable{tc:TT}{te:TE}
section
variable {st:ZF}{bV:List ZF}{t u:TS}
def KR:TS:=λD σ H=>D.nx σ H
def tSeq(t u:TS):TS:=λD σ H=>t {D with nx:=u D} σ H
def oh:PSs X [] KR:=λ_ _ σ H _ I h=>QC ⟨σ,H,I,h⟩
def iP(h1:PS X st t)(h2:PSs X bV u):PSs X (st::bV) (tSeq t u):=by
 intro ol s σ H D I h;refine US (bU (h1 ol s σ H {D with nx:=u D} I h) λf s1 q=>?_)
 cases f with
 |next=>
  obtain⟨σ',H',I',q⟩:=q
  exact h2 ol s1 σ' H' D I' q
 |ret v=>exact q
 |brk=>exact q
 |cont=>exact q
def ff(h1:PS X st t):PSs X [st] t:=by
 intro ol s σ H D I h;refine US (bU (h1 ol s σ H D I h) λf s1 q=>?_)
 cases f with
 |next=>exact QC q
 |ret v=>exact q
 |brk=>exact q
 |cont=>exact q
def KY:TS:=λD σ H=>D.ct σ H
def vU:PS X (.Continue pos) KY:=λ_ _ σ H _ I h=>wpAny_Continue ⟨σ,H,I,h⟩
def Inv.quiet(I:Inv X ol σ H s):interactive X.env=ZD:=by simp[interactive,I.ok.kind]
def KU(te:TE):TS:=λD σ H=>te σ H λ_ H1=>D.nx σ H1
def oj(he:PE X e te)(hs:autoParam (OR e ZB pos.line X.env=pure ZD) aqd._auto_1):PS X (.Expr e pos) (KU te):=by
 intro ol s σ H D I h;exact wpAny_Expr_any (bU (he ol s σ H _ I h) λv s1 ⟨x,H1,I1,r1,q1⟩=>⟨σ,H1,I1,q1⟩) I.quiet hs
def tRet(te:TE):TS:=λD σ H=>te σ H D.rt
def iu(he:PE X e te):PS X (.Return (ZA e) pos) (tRet te):=by
 intro ol s σ H D I h;exact wpAny_Return_some (bU (he ol s σ H _ I h) λv s1 ⟨x,H1,I1,r1,q1⟩=>⟨x,σ,H1,I1,r1,q1⟩)
def tIfS(c:TT)(t u:TS):TS:=λD σ H=>c σ H λb H1=>if b=ZC then t D σ H1 else u D σ H1
def vS{a b:List ZF}(hc:PT X c tc)(ha:PSs X a t)(hb:PSs X b u):PS X (.If c a b pos) (tIfS tc t u):=by
 intro ol s σ H D I h;refine wpAny_If (bU (hc ol s σ H _ I h) λd s1 hh_=>?_)
 obtain⟨H1,I1,q1⟩:=hh_
 cases d with
 |true=>exact ha ol s1 σ H1 D I1 q1
 |false=>exact hb ol s1 σ H1 D I1 q1
def Ig:TS:=λ_ _ _=>False
def Cw:PS X st Ig:=λ_ _ _ _ _ _ h=>h.elim
end
abbrev TG:=V->St->Hp->(St->Hp->Prop)->Prop
abbrev G4:=List V->St->Hp->(St->Hp->Prop)->Prop
def PG(X:Cx)(target:ZG)(t:TG):Prop:=
 ∀(ol:V2)(s:NO)(σ:St)(H:Hp)(v:V)(u:NK)(Q:St->Hp->Prop),Inv X ol σ H s->RelV v u->t v σ H Q →
  wpAny (model X.prog X.w) X.A (assign target X.env u) (λ_ s'=>∃σ' H',Inv X ol σ' H' s'/\Q σ' H') X.xe s
def PGs(X:Cx)(ts:List ZG)(t:G4):Prop:=
 ∀(ol:V2)(s:NO)(σ:St)(H:Hp)(vs:List V)(us:List NK)(Q:St->Hp->Prop),Inv X ol σ H s->Vals vs us->t vs σ H Q →
  wpAny (model X.prog X.w) X.A (assignInOrder ((PB ts X.env).map (·.2)) us) (λ_ s'=>∃σ' H',Inv X ol σ' H' s'/\Q σ' H') X.xe s
variable{es:List ZG}{pos':Pos}{tg:ZG}
def DL(i:Nat):TG:=λv σ H Q=>Q (σ.set i (ZA v)) H
def F1(hN:X.N.Nodup)(hi:X.N[i]?=ZA x)(hx:Loc X.env.scope x)(hf:autoParam (X.fn x=ZC\/X.env.scope.names.lookup x=ZA .local) aqa._auto_1):PG X (.Name x pos) (DL i):=by
 intro ol s σ H v u Q I r h;exact Us (lN I hN hi hx r (λs' I'=>⟨_,H,I',h⟩) hf)
def gNil:G4:=λvs σ H Q=>vs=[]/\Q σ H
def Mh(t:TG)(u:G4):G4:=λvs σ H Q=>∃v r,vs=v::r/\t v σ H λσ' H'=>u r σ' H' Q
def F0:PGs X [] gNil:=by
 intro ol s σ H vs us Q I r h;obtain⟨e,h⟩:=h;subst e;cases r;exact assignInOrder_nil ⟨σ,H,I,h⟩
def CA{t:TG}{u:G4}(h1:PG X e t)(h2:PGs X es u)
  (hs:autoParam ((PB (e::es) X.env).map (·.2)=assign e X.env::(PB es X.env).map (·.2)) aqd._auto_1):PGs X (e::es) (Mh t u):=by
 intro ol s σ H vs us Q I r h;obtain⟨v,vr,e1,h⟩:=h;subst e1
 cases r with
 |cons r rr=>
  rw[hs];refine assignInOrder_cons (bU (h1 ol s σ H _ _ _ I r h) λ_ s1 hh_=>?_)
  obtain⟨σ1,H1,I1,q1⟩:=hh_;exact h2 ol s1 σ1 H1 _ _ Q I1 rr q1
def gTup(K:NI)(n:Nat)(t:G4):TG:=λv σ H Q=>∃a xs,v=.ref a/\SqT K H a xs/\xs.length=n/\t xs σ H Q
def IZ{t:G4}(hc:X.calm=ZC)(h:PGs X es t)
  (hn:autoParam ((PB es X.env).length=n) aqd._auto_1) (hst:autoParam ((PB es X.env).findIdx? (·.1)=ZB) aqd._auto_1):PG X (.Tuple es k pos) (gTup X.K n t):=by
 intro ol s σ H v u Q I r hw;obtain⟨a,xs,e1,hq,hl,hw⟩:=hw;subst e1;cases r;obtain⟨its,rv,ht,hz⟩:=I.tuple hq;refine assign_Tuple_tuple (I.ok.hd hc) ht (by simp[hn,<-hl,rv.length]) hst λh' hx=>?_
 have I1:Inv X ol σ H {s with heap:=h'}:=I.kept (t':=s.toks) λb o e=>hx b o (Pf (NY e)) e
 exact h ol _ σ H xs _ Q I1 (by simpa using rv) hw
def BP(te:TE)(g:TG):TS:=λD σ H=>te σ H λx H1=>g x σ H1 D.nx
def IX{g:TG}(he:PE X e te)(hg:PG X tg g)(hs:autoParam (T3 [tg] e pos.line X.env=pure ZD) aqd._auto_1)(hw:autoParam (T4 [tg] e X.env=pure ZB) aqd._auto_1)
  (h1:autoParam ((PB [tg] X.env).map (·.2)=[assign tg X.env]) aqd._auto_1):PS X (.Assign [tg] e pos) (BP te g):=by
 intro ol s σ H D I h;refine wpAny_Assign_stores (bU (he ol s σ H _ I h) λv s1 ⟨x,H1,I1,r1,q1⟩=>?_) hs hw
 rw[h1];exact bU (hg ol s1 σ H1 x v _ I1 r1 q1) λ_ s2 q=>q
def mL(hN:X.N.Nodup)(hi:X.N[i]?=ZA x)(hx:Loc X.env.scope x)(he:PE X e te)(hs:autoParam (OR e (ZA (.Name x pos')) pos.line X.env=pure ZD) aqd._auto_1)(hf:autoParam (X.fn x=ZC\/X.env.scope.names.lookup x=ZA .local) aqa._auto_1):
  PS X (.Assign [.Name x pos'] e pos) (BP te (DL i)):=by
 intro ol s σ H D I h;refine wpAny_Assign_Name (bU (he ol s σ H _ I h) λv s1 ⟨y,H1,I1,r1,q1⟩=>?_) hs
 exact lN I1 hN hi hx r1 (λs2 I2=>⟨_,H1,I2,q1⟩) hf
variable{body:List ZF}
def xK(c:TT)(tb:TS):TS:=λD σ H=>∃W:Nat->St->Hp->Prop,(∃m,W m σ H)/\∀m σ H,W m σ H →
 c σ H λb H1=>if b=ZC then ∃N:St->Hp->Prop,(∀σ' H',N σ' H'->∃m',m'<m/\W m' σ' H')/\tb {D with nx:=N,ct:=N,bk:=D.nx} σ H1 else D.nx σ H1
def Cv{tb:TS}(hp:PassesOwn (model X.prog X.w) X.A X.env X.xe)(hc:PT X c tc)(hb:PSs X body tb):PS X (.While c body [] pos) (xK tc tb):=by
 intro ol s σ H D I h;obtain⟨W,⟨m0,w0⟩,turn⟩:=h;refine wpAny_While (codeAny_whileLoop (λn s'=>∃σ' H',Inv X ol σ' H' s'/\W n σ' H') ?_ m0 ⟨σ,H,I,w0⟩)
 rintro n s1 ⟨σ1,H1,I1,w1⟩
 refine Vc hp (bU (hc ol s1 σ1 H1 _ I1 (turn n σ1 H1 w1)) λb s2 hh_=>?_)
 obtain⟨H2,I2,q2⟩:=hh_
 cases b with
 |true=>
  obtain⟨N,hN,q2⟩:=q2;rw[if_pos rfl];refine Vc hp (bU (hb ol s2 σ1 H2 _ I2 q2) λf s3 q3=>?_)
  cases f with
  |next=>
   obtain⟨σ3,H3,I3,n3⟩:=q3;obtain⟨m',hm,w3⟩:=hN σ3 H3 n3
   exact⟨m',hm,σ3,H3,I3,w3⟩
  |cont=>
   obtain⟨σ3,H3,I3,n3⟩:=q3;obtain⟨m',hm,w3⟩:=hN σ3 H3 n3
   exact⟨m',hm,σ3,H3,I3,w3⟩
  |brk=>exact q3
  |ret v=>exact q3
 |false=>
  rw[if_neg NZ];exact QC ⟨σ1,H2,I2,q2⟩
structure It where
 go:Nat->Hp->Prop
 yld:Nat->Hp->V->Hp->Prop
 stop:Nat->Hp->Prop
def qC(X:Cx)(ol:V2)(H:Hp)(b:ZE):Prop:=
 H b=ZB/\b≠X.env.locals/\b∉X.fs/\(b∈X.ex\/X.s₀.heap.objs.size<=b)/\(∀x c,X.env.cells.lookup x=ZA c->c≠b)/\∀p∈X.pn++ol,p.1≠b
def Inv.Ng(I:Inv X ol σ H s)(hb:s.heap.objs.size<=b)(hn:H' b=ZB):qC X ol H' b:=by
 refine⟨hn,R0 (N6 I.lt hb),I.ND hb,.inr (OB I.sz hb),λx c e z=>?_,λp hp z=>?_⟩
 ·obtain⟨v,q⟩:=I.cell x c e
  exact absurd (N6 q.lt (by rw[z];exact hb)) (Oo _)
 ·exact absurd (N6 (NY (I.pin p hp).1) (by rw[z];exact hb)) (Oo _)
structure Ez (P:N8)(w:OV)(K:NI)(tg:ZG)(J:It)(fp:List ZE)(it:ZE)(tn:Nat->ZH->Prop):Prop where
 mem:it∈fp
 obj:∀i h,tn i h->∀b∈fp,∃o,h.get? b=ZA o/\∀v,o.data≠ .cell v
 keep:∀i h h',tn i h->(∀b∈fp,∀o,h.get? b=ZA o->h'.get? b=ZA o)->tn i h'
 item:∀(X:Cx),X.prog=P->X.w=w->X.K=K->X.calm=ZC->∀(i:Nat)(ol:V2)(s:NO)(σ:St)(H:Hp)(E:V1),Inv X ol σ H s->(∀b∈fp,qC X ol H b)->tn i s.heap->J.go i H →
  wpAny (model P w) X.A (pyNext (.ref it)) (λr s1=>∃u,r=ZA u ∧
   wpAny (model P w) X.A (Rh tg (.ref it) u) (λ_ s2=>∃x H',Inv X ol σ H' s2/\RelV x u/\J.yld i H x H'/\tn (i+1) s2.heap/\∀b∈fp,H' b=ZB) E s1) E s
 done:∀(X:Cx),X.prog=P->X.w=w->X.K=K->X.calm=ZC->∀(i:Nat)(ol:V2)(s:NO)(σ:St)(H:Hp)(E:V1),Inv X ol σ H s->(∀b∈fp,qC X ol H b)->tn i s.heap->J.stop i H →
  wpAny (model P w) X.A (pyNext (.ref it)) (λr s1=>r=ZB/\Inv X ol σ H s1) E s
 self:∀(A:Oq)(i:Nat)(s:NO)(Q:V1)(E:V1),tn i s.heap->Q (.ref it) s->wpAny (model P w) A (pyIter (.ref it)) Q E s
abbrev TI:=St->Hp->(It->Hp->Prop)->Prop
def PIE(X:Cx)(ol:V2)(σ:St)(tg:ZG)(R:It->Hp->Prop)(itv:NK)(s2:NO):Prop:=
 ∃(it:ZE)(fp:List ZE)(tn:Nat->ZH->Prop)(J:It)(H':Hp),itv=.ref it/\Inv X ol σ H' s2/\Ez X.prog X.w X.K tg J fp it tn/\tn 0 s2.heap/\(∀b∈fp,qC X ol H' b)/\R J H'
def PI(X:Cx)(tg iter:ZG)(wi:TI):Prop:=
 ∀(ol:V2)(s:NO)(σ:St)(H:Hp)(R:It->Hp->Prop),Inv X ol σ H s->wi σ H R →
  wpAny (model X.prog X.w) X.A (eval iter X.env) (λv s1=>wpAny (model X.prog X.w) X.A (pyIter v) (PIE X ol σ tg R) X.xe s1) X.xe s
def DG{u:NK}{o:Obj}{n:String}{vs:Array NK}{Q:Unit->NO->Prop}(ho:s.heap.get? it=ZA o)(hc:o.cls=.type n)(hd:o.data=.fields vs)
  (hn:["enumerate","zip","dict_itemiterator","dict_reverseitemiterator","odict_iterator","itertools.zip_longest","itertools.pairwise"].contains n=ZD) (hQ:Q () s):wpAny M A (Rh tg (.ref it) u) Q E s:=by
 unfold Rh
 cases tg <;> first
  |exact N4 hQ
  | (cases u <;> first
    |exact N4 hQ
    | (refine NQ (wpAny_load ho ?_)
       rw[hc,hd]
       show wpAny M A (if (["enumerate","zip","dict_itemiterator","dict_reverseitemiterator","odict_iterator","itertools.zip_longest","itertools.pairwise"].contains n&&vs[0]? == ZA (rawInt _))=ZC then _ else _) Q E s
       rw[if_neg (by intro h;rw[hn,Bool.false_and]at h;cases h)]
       exact N4 hQ))
def Itl(K:NI)(a:ZE):It:=
 ⟨λi H=>∃xs x,SqL K H a xs/\xs[i]?=ZA x,λi H x H'=>H'=H/\∀xs,SqL K H a xs->xs[i]?=ZA x,λi H=>∃xs,SqL K H a xs/\xs.length<=i⟩
def Itt(K:NI)(a:ZE):It:=
 ⟨λi H=>∃xs x,SqT K H a xs/\xs[i]?=ZA x,λi H x H'=>H'=H/\∀xs,SqT K H a xs->xs[i]?=ZA x,λi H=>∃xs,SqT K H a xs/\xs.length<=i⟩
def Itr(lo:Int)(n:Nat):It:=⟨λi _=>i<n,λi H x H'=>H'=H/\x=.int (lo+i),λi _=>n<=i⟩
def Ap(a it:ZE):Ez P w K tg (Itl K a) [it] it (λi h=>h.IsListIter it a i) where
 mem:=by simp
 obj:=λi h st b hb=>by
  have e:b=it:=by simpa using hb
  subst e;obtain⟨o,e,c,d⟩:=st;exact⟨o,e,λv z=>by rw[d]at z;cases z⟩
 keep:=λi h h' st k=>st.at λo e=>k it (by simp) o e
 item:=by
  intro X hP hw hK hc i ol s σ H E I hf st hg;subst hP hw hK;obtain⟨xs,x,hq,hx⟩:=hg;obtain⟨its,rv,p,hz⟩:=I.list hq;obtain⟨u,hu,ru⟩:=rv.get hx;obtain⟨f0,f1,f2,f3,f4,f5⟩:=hf it (by simp)
  refine SH st p.isList (x:=u) (by simpa using hu) λh' st' sb=>?_
  have I1:Inv X ol σ H {s with heap:=h'}:=I.turned (t':=s.toks) (λb o hb e=>(sb.2 b hb).trans e) f0 f1 f3 f4 f5
  obtain⟨o,e,c,d⟩:=id st';exact⟨u,rfl,DG (s:={s with heap:=h'}) e c d (by decide) ⟨x,H,I1,ru,⟨rfl,λys hy=>by rw[I.Nc hy hq];exact hx⟩,st',λb hb=>(hf b hb).1⟩⟩
 done:=by
  intro X hP hw hK hc i ol s σ H E I hf st hg;subst hP hw hK;obtain⟨xs,hq,hx⟩:=hg;obtain⟨its,rv,p,hz⟩:=I.list hq;obtain⟨f0,f1,f2,f3,f4,f5⟩:=hf it (by simp)
  have hl:=rv.length;exact S1 (I.ok.hd hc) st p.isList (by simp;omega) λh' eb=>⟨rfl,I.turned (t':=s.toks) (λb o hb e=>eb b o hb e) f0 f1 f3 f4 f5⟩
 self:=λ_ _ _ _ _ st h=>wpAny_pyIter_listiter st h
def xI(a it:ZE):Ez P w K tg (Itt K a) [it] it (λi h=>h.IsTupleIter it a i) where
 mem:=by simp
 obj:=λi h st b hb=>by
  have e:b=it:=by simpa using hb
  subst e;obtain⟨o,e,c,d⟩:=st;exact⟨o,e,λv z=>by rw[d]at z;cases z⟩
 keep:=λi h h' st k=>st.at λo e=>k it (by simp) o e
 item:=by
  intro X hP hw hK hc i ol s σ H E I hf st hg;subst hP hw hK;obtain⟨xs,x,hq,hx⟩:=hg;obtain⟨its,rv,p,hz⟩:=I.tuple hq;obtain⟨u,hu,ru⟩:=rv.get hx;obtain⟨f0,f1,f2,f3,f4,f5⟩:=hf it (by simp)
  refine wpAny_pyNext_tuple_item st (show s.heap.IsTuple a its.toArray from p) (x:=u) (by simpa using hu) λh' st' sb=>?_
  have I1:Inv X ol σ H {s with heap:=h'}:=I.turned (t':=s.toks) (λb o hb e=>(sb.2 b hb).trans e) f0 f1 f3 f4 f5
  obtain⟨o,e,c,d⟩:=id st';exact⟨u,rfl,DG (s:={s with heap:=h'}) e c d (by decide) ⟨x,H,I1,ru,⟨rfl,λys hy=>by rw[I.M5 hy hq];exact hx⟩,st',λb hb=>(hf b hb).1⟩⟩
 done:=by
  intro X hP hw hK hc i ol s σ H E I hf st hg;subst hP hw hK;obtain⟨xs,hq,hx⟩:=hg;obtain⟨its,rv,p,hz⟩:=I.tuple hq;obtain⟨f0,f1,f2,f3,f4,f5⟩:=hf it (by simp)
  have hl:=rv.length;exact wpAny_pyNext_tuple_end (I.ok.hd hc) st (show s.heap.IsTuple a its.toArray from p) (by simp;omega) λh' eb=>⟨rfl,I.turned (t':=s.toks) (λb o hb e=>eb b o hb e) f0 f1 f3 f4 f5⟩
 self:=λ_ _ _ _ _ st h=>wpAny_pyIter_tupleiter st h
def xJ(it:ZE)(lo:Int)(n:Nat):Ez P w K tg (Itr lo n) [it] it (λi h=>IsRangeIter h it (lo+(i:Nat)*1) ((n:Int) - (i:Nat)) 1) where
 mem:=by simp
 obj:=λi h st b hb=>by
  have e:b=it:=by simpa using hb
  subst e
  exact⟨_,st,λv z=>by
   have z':Data.fields _=Data.cell v:=z;cases z'⟩
 keep:=λi h h' st k=>k it (by simp) _ st
 item:=by
  intro X hP hw hK hc i ol s σ H E I hf st hg;subst hP hw hK;obtain⟨f0,f1,f2,f3,f4,f5⟩:=hf it (by simp)
  have W:=Walks.range (prog:=X.prog) (w:=X.w) (I.ok.hd hc) it lo 1 n;refine W.item i s _ _ hg st λv h' tk hv st' kk=>?_
  obtain⟨t,rfl⟩:=hv
  have I1:Inv X ol σ H {s with heap:=h',toks:=tk}:=I.turned (λb o hb e=>kk b o (by simpa using hb) e) f0 f1 f3 f4 f5
  refine⟨_,rfl,DG (s:={s with heap:=h',toks:=tk}) (n:="range_iterator") st' rfl rfl (by decide) ⟨.int (lo+i),H,I1,⟨t,?_⟩,⟨rfl,rfl⟩,st',λb hb=>(hf b hb).1⟩⟩
  rw[Int.mul_one]
 done:=by
  intro X hP hw hK hc i ol s σ H E I hf st hg;subst hP hw hK;obtain⟨f0,f1,f2,f3,f4,f5⟩:=hf it (by simp)
  exact wpAny_pyNext_range_end (I.ok.hd hc) st (by have:n<=i:=hg;omega) λh' eb=>⟨rfl,I.turned (t':=s.toks) (λb o hb e=>eb b o hb e) f0 f1 f3 f4 f5⟩
 self:=λ_ _ _ _ _ st h=>wpAny_pyIter_rangeiter st h
variable{fp:List ZE}{l:ZG}{tl:TE}
def Mg(K:NI)(tl:TE):TI:=λσ H R=>tl σ H λx H1=>∃a,x=.ref a/\(∃xs,SqL K H1 a xs)/\R (Itl K a) H1
def iTup(K:NI)(tl:TE):TI:=λσ H R=>tl σ H λx H1=>∃a,x=.ref a/\(∃xs,SqT K H1 a xs)/\R (Itt K a) H1
def FY(hl:PE X l tl):PI X tg l (Mg X.K tl):=by
 intro ol s σ H R I h;refine bU (hl ol s σ H _ I h) λv s1 hh_=>?_
 obtain⟨x,H1,I1,r1,q1⟩:=hh_;obtain⟨a,e,⟨xs,hq⟩,q⟩:=q1;subst e;cases r1;obtain⟨its,rv,p,hz⟩:=I1.list hq;refine Sn p.isList ?_
 refine⟨s1.heap.objs.size,[s1.heap.objs.size],_,_,H1,rfl,I1.kept (t':=s1.toks) λb o e=>NV _ e,Ap a _,⟨_,Oa _ rfl,rfl,rfl⟩,λb hb=>?_,q⟩
 have e:b=s1.heap.objs.size:=by simpa using hb
 subst e;exact I1.Ng (N3 _) (I1.hok.fresh (N3 _))
def IY(hl:PE X l tl):PI X tg l (iTup X.K tl):=by
 intro ol s σ H R I h;refine bU (hl ol s σ H _ I h) λv s1 hh_=>?_
 obtain⟨x,H1,I1,r1,q1⟩:=hh_;obtain⟨a,e,⟨xs,hq⟩,q⟩:=q1;subst e;cases r1;obtain⟨its,rv,p,hz⟩:=I1.tuple hq;refine Ri (show s1.heap.IsTuple a its.toArray from p) ?_
 refine⟨s1.heap.objs.size,[s1.heap.objs.size],_,_,H1,rfl,I1.kept (t':=s1.toks) λb o e=>NV _ e,xI a _,⟨_,Oa _ rfl,rfl,rfl⟩,λb hb=>?_,q⟩
 have e:b=s1.heap.objs.size:=by simpa using hb
 subst e;exact I1.Ng (N3 _) (I1.hok.fresh (N3 _))
def l9{R:It->Hp->Prop}{lo hi:Int}{t u v:Tok}(I:Inv X ol σ H s)(h1 : -(2 ^ 62)<=lo)(h2:lo<2 ^ 62)(h3 : -(2 ^ 62)<=hi)(h4:hi<2 ^ 62)
  (q:R (Itr lo (hi - lo).toNat) H):wpAny (model X.prog X.w) X.A (pyIter (.ref s.heap.objs.size)) (PIE X ol σ tg R) E {s with heap:=s.heap.push {cls:=.type "range",data:=.fields #[.int lo t,.int hi u,.int 1 v]},toks:=tk}:=by
 refine wpAny_pyIter_range (IsRange.new ..) (small_one h1 h2 h3 h4) ?_
 have I1:Inv X ol σ H {s with heap:=s.heap.push {cls:=.type "range",data:=.fields #[.int lo t,.int hi u,.int 1 v]},toks:=tk}:=I.kept λb o e=>NV _ e
 refine⟨(s.heap.push {cls:=.type "range",data:=.fields #[.int lo t,.int hi u,.int 1 v]}).objs.size,[(s.heap.push {cls:=.type "range",data:=.fields #[.int lo t,.int hi u,.int 1 v]}).objs.size],_,_,H,rfl,
  I1.kept (t':=tk) λb o e=>NV _ e,xJ _ lo (hi - lo).toNat,?_,λb hb=>?_,q⟩
 ·have e1:lo+((0:Nat):Int)*1=lo:=by simp
  have e2:(((hi - lo).toNat:Nat):Int) - ((0:Nat):Int)=Builtin.Range.rangeSize lo hi 1:=by rw[rangeSize_one];split <;> omega
  show IsRangeIter _ _ (lo+((0:Nat):Int)*1) ((((hi - lo).toNat:Nat):Int) - ((0:Nat):Int)) 1
  rw[e1,e2];exact Oa _ rfl
 ·have e:b=(s.heap.push {cls:=.type "range",data:=.fields #[.int lo t,.int hi u,.int 1 v]}).objs.size:=by simpa using hb
  subst e;exact I1.Ng (N3 _) (I1.hok.fresh (N3 _))
def tFor(wi:TI)(g:TG)(tb:TS):TS:=λD σ H=>wi σ H λJ H1=>∃W:Nat->Nat->St->Hp->Prop,(∃m,W 0 m σ H1)/\∀i m σ H,W i m σ H →
 (J.stop i H/\D.nx σ H)\/(J.go i H/\∃N:St->Hp->Prop,(∀σ' H',N σ' H'->∃m',m'<m/\W (i+1) m' σ' H')/\∀x H',J.yld i H x H'->g x σ H' λσ2 H2=>tb {D with nx:=N,ct:=N,bk:=D.nx} σ2 H2)
def pf(fp:List ZE)(h:ZH):V2:=fp.filterMap λb=>(h.get? b).map λo=>(b,o)
def i7{o:Obj}(hb:b∈fp)(e:h.get? b=ZA o):(b,o)∈pf fp h:=R1.mpr ⟨b,hb,by rw[e];rfl⟩
def AG{p:ZE×Obj}(hp:p∈pf fp h):p.1∈fp/\h.get? p.1=ZA p.2:=by
 obtain⟨b,hb,e⟩:=R1.mp hp
 cases q:h.get? b with
 |none=>rw[q]at e;cases e
 |some o=>
  rw[q]at e
  have e':(b,o)=p:=Ou e;subst e';exact⟨hb,q⟩
def Inv.pinned(I:Inv X ol σ H s)(hf:∀b∈fp,qC X ol H b)(ho:∀b∈fp,∃o,s.heap.get? b=ZA o/\∀v,o.data≠ .cell v):Inv X (ol++pf fp s.heap) σ H s:=
 I.Nf λp hp=>(Og.mp hp).elim (λz=>I.pin p (Od _ z)) λz=>by
  obtain⟨hb,e⟩:=AG z;obtain⟨f0,f1,f2,_⟩:=hf p.1 hb;obtain⟨o,e',d⟩:=ho p.1 hb;rw[e]at e';cases e';exact⟨e,f0,f1,f2,d⟩
def Inv.MX{pl:V2}(I:Inv X (ol++pl) σ H s):Inv X ol σ H s:=I.Nf λp hp=>I.pin p (Od _ (Ol _ hp))
abbrev R2:=V->V->Hp->VK->Prop
def qG(X:Cx)(f:NK->NK->Sem NK)(r:R2):Prop:=
 ∀(ol:V2)(s:NO)(σ:St)(H:Hp)(x y:V)(v u:NK)(Q:VK),Inv X ol σ H s->RelV x v->RelV y u->r x y H Q →
  wpAny (model X.prog X.w) X.A (f v u) (EP X ol σ Q) X.xe s
def UnR(X:Cx)(f:NK->Sem NK)(r:V->Hp->VK->Prop):Prop:=
 ∀(ol:V2)(s:NO)(σ:St)(H:Hp)(x:V)(v:NK)(Q:VK),Inv X ol σ H s->RelV x v->r x H Q →
  wpAny (model X.prog X.w) X.A (f v) (EP X ol σ Q) X.xe s
def CallR(X:Cx)(f:NK)(r:List V->Hp->VK->Prop):Prop:=
 ∀(ol:V2)(s:NO)(σ:St)(H:Hp)(xs:List V)(us:List NK)(Q:VK),Inv X ol σ H s->Vals xs us->r xs H Q →
  wpAny (model X.prog X.w) X.A (call f us) (EP X ol σ Q) X.xe s
def tOp(r:R2)(ta tb:TE):TE:=λσ H Q=>ta σ H λx H1=>tb σ H1 λy H2=>r x y H2 Q
def tUn(r:V->Hp->VK->Prop)(ta:TE):TE:=λσ H Q=>ta σ H λx H1=>r x H1 Q
def rI(C:Int->Int->Prop)(g:Int->Int->V):R2:=λx y H Q=>∃i j,x=.int i/\y=.int j/\C i j/\Q (g i j) H
def Ir(g:Int->Int->V):R2:=λx y H Q=>∃i j,x=.int i/\y=.int j/\Q (g i j) H
def rU(g:Int->V):V->Hp->VK->Prop:=λx H Q=>∃i,x=.int i/\Q (g i) H
variable{f:NK->NK->Sem NK}{r:R2}
section
variable {a b:ZG}{tb tc:TE}
def binT(ha:PE X a ta)(hb:PE X b tb){R:V->V->Hp->Prop}(I:Inv X ol σ H s)
  (h:ta σ H λx H1=>tb σ H1 λy H2=>R x y H2)  
  (hf:∀v u s2 x y H2,Inv X ol σ H2 s2->RelV x v->RelV y u->R x y H2->wpAny (model X.prog X.w) X.A (f v u) Q X.xe s2):
  wpAny (model X.prog X.w) X.A (eval a X.env) (λv s₁=>wpAny (model X.prog X.w) X.A (eval b X.env) (λu s₂=>wpAny (model X.prog X.w) X.A (f v u) Q X.xe s₂) X.xe s₁) X.xe s:=by
 refine bU (ha ol s σ H _ I h) λv s1 hh_=>?_
 obtain⟨x,H1,I1,r1,q1⟩:=hh_;refine bU (hb ol s1 σ H1 _ I1 q1) λu s2 hh_=>?_
 obtain⟨y,H2,I2,r2,q2⟩:=hh_;exact hf v u s2 x y H2 I2 r1 r2 q2
def Ly{op:Operator}(ho:qG X (PH op) r)(ha:PE X a ta)(hb:PE X b tb):PE X (.BinOp a op b pos) (tOp r ta tb):=by
 intro ol s σ H Q I h;exact wpAny_BinOp (binT ha hb I h λv u s2 x y H2 I2 rx ry q=>ho ol s2 σ H2 x y v u Q I2 rx ry q)
def Lw{op:UnaryOp}{r:V->Hp->VK->Prop}(ho:UnR X (unaryOp op) r)(ha:PE X a ta):PE X (.UnaryOp op a pos) (tUn r ta):=by
 intro ol s σ H Q I h;exact UnaryOp_ (bU (ha ol s σ H _ I h) λv s1 ⟨x,H1,I1,r1,q1⟩=>ho ol s1 σ H1 x v Q I1 r1 q1)
def opI{C:Int->Int->Prop}
  (rule:∀(i j:Int)(t u:Tok)(s:NO)(Q:V1)(E:V1),C i j->Q (.int (g i j) s.toks) {s with toks:=s.toks+1}->wpAny (model X.prog X.w) X.A (f (.int i t) (.int j u)) Q E s):
  qG X f (rI C λi j=>.int (g i j)):=by
 intro ol s σ H x y v u Q I rx ry h;obtain⟨i,j,rfl,rfl,hc,q⟩:=h;obtain⟨t,rfl⟩:=rx;obtain⟨t',rfl⟩:=ry;exact rule i j t t' s _ _ hc ⟨.int (g i j),H,I.tok _,⟨_,rfl⟩,q⟩
def LC 
  (rule:∀(i j:Int)(t u:Tok)(s:NO)(Q:V1)(E:V1),Q (.int (g i j) s.toks) {s with toks:=s.toks+1}->wpAny (model X.prog X.w) X.A (f (.int i t) (.int j u)) Q E s):
  qG X f (Ir λi j=>.int (g i j)):=by
 intro ol s σ H x y v u Q I rx ry h;obtain⟨i,j,rfl,rfl,q⟩:=h;obtain⟨t,rfl⟩:=rx;obtain⟨t',rfl⟩:=ry;exact rule i j t t' s _ _ ⟨.int (g i j),H,I.tok _,⟨_,rfl⟩,q⟩
def LD{g:Int->Int->Bool}
  (rule:∀(i j:Int)(t u:Tok)(s:NO)(Q:V1)(E:V1),Q (.bool (g i j)) s->wpAny (model X.prog X.w) X.A (f (.int i t) (.int j u)) Q E s):
  qG X f (Ir λi j=>.bl (g i j)):=by
 intro ol s σ H x y v u Q I rx ry h;obtain⟨i,j,rfl,rfl,q⟩:=h;obtain⟨t,rfl⟩:=rx;obtain⟨t',rfl⟩:=ry;exact rule i j t t' s _ _ ⟨.bl (g i j),H,I,rfl,q⟩
def CDiv(i j:Int):Prop:=0<j/\j<1073741824
def CMul(i j:Int):Prop:=(-(2 ^ 64)<i/\i<2 ^ 64)\/(-(2 ^ 64)<j/\j<2 ^ 64)
def CMul.ok{i j:Int}(h:CMul i j):IntMulOk i j:=by
 rcases h with⟨h1,h2⟩|⟨h1,h2⟩
 ·exact .of_left (intBits_le_64 h1 h2)
 ·exact .of_right (intBits_le_64 h1 h2)
def Jm:qG X (PH .Add) (Ir λi j=>.int (i+j)):=LC λ_ _ _ _ _ _ _ q=>add_int q
def Jh:qG X (PH .Sub) (Ir λi j=>.int (i - j)):=LC λ_ _ _ _ _ _ _ q=>sub_int q
def Jj:qG X (PH .Mult) (rI CMul λi j=>.int (i*j)):=opI λ_ _ _ _ _ _ _ hc q=>mul_int q hc.ok
def F5:qG X (PH .FloorDiv) (rI CDiv λi j=>.int (i / j)):=opI λi j _ _ _ _ _ hc q=>by
 have h1:(0:Int)<j:=hc.1
 have h2:j<1073741824:=hc.2;exact floordiv_int (by omega) (by rw[Int.fdiv_eq_ediv_of_nonneg i (by omega)];exact q) (.inl (PyProof.noPylong_small (by omega)))
def Jk:qG X (PH .Mod) (rI (λ_ j=>0<j) λi j=>.int (i % j)):=opI λi j _ _ _ _ _ hc q=>by
 have h1:(0:Int)<j:=hc;exact mod_int' (by omega) (by rw[Int.fmod_eq_emod_of_nonneg i (by omega)];exact q)
def unI{f:NK->Sem NK}{g:Int->Int}
  (rule:∀(i:Int)(t:Tok)(s:NO)(Q:V1)(E:V1),Q (.int (g i) s.toks) {s with toks:=s.toks+1}->wpAny (model X.prog X.w) X.A (f (.int i t)) Q E s):
  UnR X f (rU λi=>.int (g i)):=by
 intro ol s σ H x v Q I rx h;obtain⟨i,rfl,q⟩:=h;obtain⟨t,rfl⟩:=rx;exact rule i t s _ _ ⟨.int (g i),H,I.tok _,⟨_,rfl⟩,q⟩
def HZ:UnR X (unaryOp .USub) (rU λi=>.int (-i)):=unI λ_ _ _ _ _ q=>neg_int q
end
def scal:V->V->Bool
 |.non,.non=>ZC|.non,.int _=>ZC|.int _,.non=>ZC|.non,.bl _=>ZC|.bl _,.non=>ZC|.non,.str _=>ZC|.str _,.non=>ZC
 |.int _,.int _=>ZC|.bl _,.bl _=>ZC|.str _,.str _=>ZC|.byt _,.byt _=>ZC
 |.int _,.str _=>ZC|.str _,.int _=>ZC|.bl _,.str _=>ZC|.str _,.bl _=>ZC
 |_,_=>ZD
def rNe:R2:=λx y H Q=>scal x y=ZC/\Q (.bl (!decide (x=y))) H
def GS{i j:Int}:decide (V.int i=V.int j)=(i == j):=by
 rw[Re];simp
def Kg{i j:Bool}:decide (V.bl i=V.bl j)=(i == j):=by
 rw[Re];simp
def GQ{i j:Str}:decide (V.str i=V.str j)=(i == j):=by
 rw[Re];simp
def GU{i j:Array UInt8}:decide (V.byt i=V.byt j)=(i.toList == j.toList):=by
 rw[Re];cases i;cases j;simp
section
variable {a b:ZG}{tb tc:TE}
def dU{Q:VK}{k k':Bool}(I:Inv X ol σ H s)(q:Q (.bl k) H)(e:k=k'):EP X ol σ Q (.bool k') s:=by
 subst e;exact⟨.bl k,H,I,rfl,q⟩
def Lz:qG X (OG .NotEq) rNe:=by
 intro ol s σ H x y v u Q I rx ry h;obtain⟨hs,q⟩:=h
 cases x with
 |non=>
  cases rx
  cases y with
  |non=>cases ry;exact PySem.EqNone.ne_none_none (dU I q (by simp))
  |bl j=>cases ry;exact PySem.EqNone.ne_none_bool (dU I q (by simp))
  |int j=>obtain⟨t',rfl⟩:=ry;exact PySem.EqNone.ne_none_int (dU I q (by simp))
  |str j=>obtain⟨t',rfl⟩:=ry;exact PySem.EqNone.ne_none_str (dU I q (by simp))
  |_=>exact absurd (show ZD=ZC from hs) NZ
 |bl i=>
  cases rx
  cases y with
  |non=>cases ry;exact PySem.EqNone.ne_bool_none (dU I q (by simp))
  |bl j=>cases ry;exact ne_bool (dU I q (congrArg not Kg))
  |str j=>obtain⟨t',rfl⟩:=ry;exact PySem.EqMixed.ne_bool_str (dU I q (by simp))
  |_=>exact absurd (show ZD=ZC from hs) NZ
 |int i=>
  obtain⟨t,rfl⟩:=rx
  cases y with
  |non=>cases ry;exact PySem.EqNone.ne_int_none (dU I q (by simp))
  |int j=>obtain⟨t',rfl⟩:=ry;exact ne_int (dU I q (congrArg not GS))
  |str j=>obtain⟨t',rfl⟩:=ry;exact PySem.EqMixed.ne_int_str (dU I q (by simp))
  |_=>exact absurd (show ZD=ZC from hs) NZ
 |str i=>
  obtain⟨t,rfl⟩:=rx
  cases y with
  |non=>cases ry;exact PySem.EqNone.ne_str_none (dU I q (by simp))
  |bl j=>cases ry;exact PySem.EqMixed.ne_str_bool (dU I q (by simp))
  |int j=>obtain⟨t',rfl⟩:=ry;exact PySem.EqMixed.ne_str_int (dU I q (by simp))
  |str j=>obtain⟨t',rfl⟩:=ry;exact ne_str (dU I q (congrArg not GQ))
  |_=>exact absurd (show ZD=ZC from hs) NZ
 |byt i=>
  obtain⟨t,rfl⟩:=rx
  cases y with
  |byt j=>obtain⟨t',rfl⟩:=ry;exact PySem.W.ne_bytes (dU I q (congrArg not GU))
  |_=>exact absurd (show ZD=ZC from hs) NZ
 |_=>cases y <;> exact absurd (show ZD=ZC from hs) NZ
def LA:qG X (OG .Lt) (Ir λi j=>.bl (decide (i<j))):=LD λ_ _ _ _ _ _ _ q=>lt_int q
def LB:qG X (OG .LtE) (Ir λi j=>.bl (decide (i<=j))):=LD λ_ _ _ _ _ _ _ q=>le_int q
def Jl:qG X (OG .Is) (λx y H Q=>y=.non/\Q (.bl (decide (x=.non))) H):=by
 intro ol s σ H x y v u Q I rx ry h;obtain⟨rfl,q⟩:=h;cases ry;refine is_none_gen (dU I q ?_)
 cases x <;> first
  | (cases rx;rfl)
  | (obtain⟨t,rfl⟩:=rx;rfl)
def F4:qG X (OG .IsNot) (λx y H Q=>y=.non/\Q (.bl (!decide (x=.non))) H):=by
 intro ol s σ H x y v u Q I rx ry h;obtain⟨rfl,q⟩:=h;cases ry;refine isnot_none_gen (dU I q ?_)
 cases x <;> first
  | (cases rx;rfl)
  | (obtain⟨t,rfl⟩:=rx;rfl)
def Jr(b:ZG)(h:autoParam (op≠ .In) aqb._auto_1)(h2:autoParam (op≠ .NotIn) aqb._auto_1):P9 op b=ZD:=by
 have e1:(op == CmpOp.In)=ZD:=by cases op <;> first|rfl|exact absurd rfl h
 have e2:(op == CmpOp.NotIn)=ZD:=by cases op <;> first|rfl|exact absurd rfl h2
 cases b <;> simp[P9,e1,e2]
def KO(t:TE):TT:=λσ H Q=>t σ H λx H'=>∃k,x=.bl k/\Q k H'
def FR(ho:qG X (OG op) r)(ha:PE X a ta)(hb:PE X b tb)(hm:P9 op b=ZD):PT X (.Compare a [op] [b] pos) (KO (tOp r ta tb)):=by
 intro ol s σ H Q I h
 refine RD (bU (ha ol s σ H _ I h) λv s1 ⟨x,H1,I1,r1,q1⟩=>bU (hb ol s1 σ H1 _ I1 q1) λu s2 ⟨y,H2,I2,r2,q2⟩=>
  bU (ho ol s2 σ H2 x y v u _ I2 r1 r2 q2) λc s3 ⟨z,H3,I3,r3,k,e,q3⟩=>?_) hm
 subst e;cases r3;exact OL ⟨H3,I3,q3⟩
def pQ:(sizeLine:Nat)<2 ^ 63:=by rw[QD];decide
def ya:qG X (PH .Add) (λx y H Q=>∃i j,x=.str i/\y=.str j/\i.length+j.length<=sizeLine/\Q (.str (i++j)) H):=by
 intro ol s σ H x y v u Q I rx ry h;obtain⟨i,j,rfl,rfl,hz,q⟩:=h;obtain⟨t,rfl⟩:=rx;obtain⟨t',rfl⟩:=ry;exact add_str (λt' tk=>⟨.str (i++j),H,I.tok _,⟨_,rfl⟩,q⟩) hz
def kO{x:V}(r:Vals [x] us):∃u,us=[u]/\RelV x u:=by
 cases r with
 |cons r1 r2=>cases r2;exact⟨_,rfl,r1⟩
def vj{x:V}(r:Vals [x,y] us):∃u w',us=[u,w']/\RelV x u/\RelV y w':=by
 cases r with
 |cons r1 r2=>
  cases r2 with
  |cons r3 r4=>cases r4;exact⟨_,_,rfl,r1,r3⟩
def Be(hc:X.calm=ZC):CallR X (.builtin "max") (λxs H Q=>∃i j,xs=[.int i,.int j]/\Q (.int (if j > i then j else i)) H):=by
 intro ol s σ H xs us Q I r h;obtain⟨i,j,rfl,q⟩:=h;obtain⟨u,w',rfl,⟨t,rfl⟩,⟨t',rfl⟩⟩:=vj r;refine max_two_ints (I.ok.hd hc) λh' tk k=>⟨_,H,I.kept k,?_,q⟩
 by_cases hj:j > i
 ·rw[if_pos hj,if_pos hj];exact⟨_,rfl⟩
 ·rw[if_neg hj,if_neg hj];exact⟨_,rfl⟩
def Bd(hc:X.calm=ZC):CallR X (.builtin "min") (λxs H Q=>∃i j,xs=[.int i,.int j]/\Q (.int (if j<i then j else i)) H):=by
 intro ol s σ H xs us Q I r h;obtain⟨i,j,rfl,q⟩:=h;obtain⟨u,w',rfl,⟨t,rfl⟩,⟨t',rfl⟩⟩:=vj r;refine min_two_ints (I.ok.hd hc) λh' tk k=>⟨_,H,I.kept k,?_,q⟩
 by_cases hj:j<i
 ·rw[if_pos hj,if_pos hj];exact⟨_,rfl⟩
 ·rw[if_neg hj,if_neg hj];exact⟨_,rfl⟩
def Bf:CallR X (.type "int") (λxs H Q=>(∃i,xs=[.int i]/\Q (.int i) H)\/∃k,xs=[.bl k]/\Q (.int (if k then 1 else 0)) H):=by
 intro ol s σ H xs us Q I r h;rcases h with⟨i,rfl,q⟩|⟨k,rfl,q⟩
 ·obtain⟨u,rfl,t,rfl⟩:=kO r
  exact call_int_int ⟨.int i,H,I,⟨_,rfl⟩,q⟩
 ·obtain⟨u,rfl,r1⟩:=kO r
  cases r1;exact call_int_bool ⟨.int (if k then 1 else 0),H,I.tok _,⟨_,rfl⟩,q⟩
end
structure ObjM (h:ZH)(x dx C:ZE)(mA:V0):Prop where
 obj:h.get? x=ZA (PU C dx)
 ns:h.Ns1 dx mA
 ne:dx≠x
variable{dx:ZE}{mA:V0}
def AO(n:h.Ns1 dx mA):∃od,h.get? dx=ZA od/\∀name,R6 name od=ZA (mA name):=by
 obtain⟨o,es,ep,ho,hd,hk,_,hm⟩:=n;refine⟨o,ho,λname=>?_⟩
 have e:=hm name;unfold nsFind findBy at e;rw[<-TK]at e
 unfold R6;rw[hd]
 dsimp only
 split
 ·rename_i y q
  rw[q]at e;exact congrArg ZA e
 ·rename_i q
  rw[q]at e
  have a:es.toList.any (·.refKey)=ZD:=by
   rw[Sh];intro y hy;obtain⟨z,t,hkey⟩:=hk y (Array.mem_toList_iff.mp hy);simp[DictEntry.refKey,hkey]
  have a':¬ es.toList.any (·.refKey)=ZC:=by rw[a];exact NZ
  rw[if_neg a'];exact congrArg ZA e
variable{C:ZE}
def ObjM.look{x:ZE}(I:ObjM h x dx C mA):∃od,PySem.W.InstAt h x (PU C dx) C (ZA od)/\∀name,R6 name od=ZA (mA name):=
 let ⟨od,ho,hl⟩:=AO I.ns
 ⟨od,⟨I.obj,rfl,rfl,ho⟩,hl⟩
variable{kw:List (Str×NK)}{name:Str}
section
variable {x f:ZE}{v:NK}
def kG(X:K.In s.heap)(I:ObjM s.heap x dx C mA)(hg:RE K C name=ZC)(hh:Sb K C=ZC)
  (ha:PD K (.ref C) name=ZA ZB) (hv:mA name=ZA v) (hv':UI v=ZC) (h:Q v {s with toks:=s.toks+1}):
  wpAny (model prog w) A (getAttr (.ref x) name expr) Q E s:=by
 obtain⟨od,J,hl⟩:=I.look;exact PySem.W.get_value X J (RM hg).1 (PySem.W.findObj_own hh ha rfl (by rw[hl,hv])) hv' h
def DH{pl:Sem Bool}{Q:NK×List NK->NO->Prop}(X:K.In s.heap)(I:ObjM s.heap x dx C mA)(hg:RE K C name=ZC)
  (hf:PD K (.ref C) name=ZA (ZA (.ref f))) (ht:Uw K (.ref f)=ZC) (hv:mA name=ZB) (h:Q (.ref f,[.ref x]) s):
  wpAny (model prog w) A (RS (.ref x) name pl) Q E s:=by
 obtain⟨od,J,hl⟩:=I.look;exact PySem.W.method_fn X J (RM hg).1 (RM hg).2 hf (beq_iff_eq.mp ht) (by show(R6 name od).map (·.isSome)=ZA ZD;rw[hl,hv];rfl) h
def Fh{ns:List Str}{Q:Unit->NO->Prop}(X:K.In s.heap)(I:ObjM s.heap x dx C mA)
  (hs:PD K (.ref C) "__setattr__" =ZA (ZA (.builtin "object.__setattr__"))) (hp:Ud K C=ZC) (ht:SL K C name=ZA ZB) (hh:Sb K C=ZC)
  (hw:Ux mA ns) (hsz:ns.length<=sizeLine)
  (h:∀h',ObjM h' x dx C (λy=>if y=name then ZA v else mA y)->Q7 dx s.heap h'->Q () {s with heap:=h',toks:=s.toks+2}):
  wpAny (model prog w) A (setAttr (.ref x) name v) Q E s:=by
 obtain⟨od,J,hl⟩:=I.look;refine PySem.W.set_plain X J hs (PySem.W.osa_open (s:={s with toks:=s.toks+1}) (r:=ZB) X J hp ht λb=>?_)
 obtain⟨cd,hc,hd'⟩:=PySem.W.any_some hh
 have hx:s.heap.get? x=ZA ⟨.ref C,ZA dx,.plain,#[]⟩:=I.obj;refine NQ (N4 (NQ (NQ (wpAny_loadPart hx (NQ (PySem.W.Looks.here (s:={s with toks:=s.toks+1}) (PySem.W.looks_clsIn X hc) ?_))))))
 rw[hd'];refine N4 (a:=ZA dx) (NQ (N4 (NQ ?_)))
 refine wpAny_nsSet1 (s:={s with toks:=s.toks+1}) I.ns λh' hn2 hs2=>?_
 obtain⟨oD,esD,epD,hoD,hdD,hcD⟩:=hn2.count (PySem.Within.cons name v hw);refine NQ (wpAny_lookBehind hoD (by rw[hdD];exact pastItsLine_dict (OB hcD (by rw[NS];omega))) ?_)
 exact N4 (h _ ⟨(hs2.2 _ (OZ I.ne)).trans I.obj,hn2,I.ne⟩ hs2)
def wH(X:K.In s.heap)(hm:UY K C=ZC)
  (hi:PD K (.ref C) "__init__" =ZA (ZA (.ref f))) (hf:PySem.W.typeIn K (.ref f)=ZA (.type "function"))
  (h:codeAny (model prog w) (A.under (.builtin "type.__call__" ⟨.ref C::vs,kw⟩)) (.call (.ref f) ⟨.ref (s.heap.objs.size+1)::vs,kw⟩) (PySem.W.InitBack (s.heap.objs.size+1) R)
   {s with heap:=(s.heap.push Pl).push (PU C s.heap.objs.size)}):
  codeAny (model prog w) A (.call (.ref C) ⟨vs,kw⟩) R s:=by
 obtain⟨hh,g,d,t,os⟩:=s;exact PySem.W.make_core (PySem.W.makes_of X hm) (PySem.W.looks_findIn X hi) (λself=>PySem.W.bind_fn X self hf) (.inl rfl) h
end
def putF(f:Str)(v:V):List (Str×V)->List (Str×V)
 |[] =>[(f,v)]
 | (g,x)::r=>if g=f then(g,v)::r else(g,x)::putF f v r
theorem nF(f g:Str)(v:V):∀fs:List (Str×V),(putF f v fs).lookup g=if g=f then ZA v else fs.lookup g
 |[] =>by
  show Px g [(f,v)]=_
  by_cases h:g=f
  ·have hb:(g == f)=ZC:=beq_iff_eq.mpr h
   simp only[Px,hb,if_pos h]
  ·have hb:(g == f)=ZD:=beq_eq_false_iff_ne.mpr h
   simp only[Px,hb,if_neg h]
 | (k,x)::r=>by
  have ih:=nF f g v r;rw[show putF f v ((k,x)::r)=(if k=f then(k,v)::r else(k,x)::putF f v r)from rfl]
  by_cases hk:k=f
  ·rw[if_pos hk]
   by_cases h:g=k
   ·have hb:(g == k)=ZC:=beq_iff_eq.mpr h
    simp only[Px,hb,if_pos (h.trans hk)]
   ·have hb:(g == k)=ZD:=beq_eq_false_iff_ne.mpr h
    simp only[Px,hb,if_neg (λe:g=f=>h (e.trans hk.symm))]
  ·rw[if_neg hk]
   by_cases h:g=k
   ·have hb:(g == k)=ZC:=beq_iff_eq.mpr h
    simp only[Px,hb,if_neg (λe:g=f=>hk (h.symm.trans e))]
   ·have hb:(g == k)=ZD:=beq_eq_false_iff_ne.mpr h
    simp only[Px,hb];exact ih
theorem mY(f:Str)(v:V):∀fs:List (Str×V),f∈(putF f v fs).map (·.1)/\∀g,g∈fs.map (·.1)->g∈(putF f v fs).map (·.1)
 |[] =>⟨by simp[putF],λg h=>by simp at h⟩
 | (k,x)::r=>by
  obtain⟨i1,i2⟩:=mY f v r;rw[show putF f v ((k,x)::r)=(if k=f then(k,v)::r else(k,x)::putF f v r)from rfl]
  by_cases hk:k=f
  ·rw[if_pos hk]
   subst hk;exact⟨by simp,λg h=>by simpa using h⟩
  ·rw[if_neg hk]
   refine⟨?_,λg h=>?_⟩
   ·rw[NM]
    exact NJ _ i1
   ·rw[NM]at h ⊢
    rcases NR.mp h with e|e
    ·exact NR.mpr (.inl e)
    ·exact NJ _ (i2 g e)
theorem nG(f:Str)(v:V):∀fs:List (Str×V),(putF f v fs).length<=fs.length+1
 |[] =>by simp[putF]
 | (k,x)::r=>by
  have ih:=nG f v r;rw[show putF f v ((k,x)::r)=(if k=f then(k,v)::r else(k,x)::putF f v r)from rfl]
  by_cases hk:k=f
  ·rw[if_pos hk,NS,NS];omega
  ·rw[if_neg hk,NS,NS];omega
def RelO.some_of{o:Option NK}(r:RelO (ZA v) o):∃u,o=ZA u/\RelV v u:=by
 cases o with
 |none=>exact(show False from r).elim
 |some u=>exact⟨u,rfl,r⟩
def RelO.none_of{o:Option NK}(r:RelO ZB o):o=ZB:=by
 cases o with
 |none=>rfl
 |some u=>exact(show False from r).elim
def A1{u:NK}(r:RelV v u):UI u=ZC:=by
 cases v with
 |non=>cases (show u=Ov from r);rfl
 |bl b=>cases (show u=OI b from r);rfl
 |int i=>obtain⟨t,e⟩:=(show ∃t,u=Pv i t from r);cases e;rfl
 |str x=>obtain⟨t,e⟩:=(show ∃t,u=Pw x t from r);cases e;rfl
 |byt b=>obtain⟨t,e⟩:=(show ∃t,u=Value.bytes b t from r);cases e;rfl
 |flt b=>obtain⟨t,e⟩:=(show ∃t,u=U0 b t from r);cases e;rfl
 |ref a=>cases (show u=N1 a from r);rfl
 |ty n=>cases (show u=Rn n from r);rfl
section
variable {fs fs':List (Str×V)}
def oA(hok:HOk P w H h)(e:H a=ZA (.ins C dx fs)):∃mA,ObjM h a dx C mA/\(∀f,RelO (fs.lookup f) (mA f))/\Ux mA (fs.map (·.1))/\fs.length<=1000/\H dx=ZA (.own a):=by
 obtain⟨d,z,ne,ob,mA,n,r,q⟩:=(show ObjOk P w H h a (.ins C dx fs)from hok a _ e)
 exact⟨mA,⟨ob,n,ne⟩,r,q,z,d⟩
end
structure Cls (K:NI)(C:ZE):Prop where
 pg:RE K C Str.empty=ZC
 hd:Sb K C=ZC
 po:Ud K C=ZC
 sa:PD K (.ref C) "__setattr__" =ZA (ZA (.builtin "object.__setattr__"))
def Cls.get(c:Cls K C)(f:Str):RE K C f=ZC:=c.pg
def NoAttr(K:NI)(C:ZE)(f:Str):Prop:=PD K (.ref C) f=ZA ZB
variable{f:Str}
def NoAttr.Nz(n:NoAttr K C f):SL K C f=ZA ZB:=by
 unfold SL;rw[show PD K (.ref C) f=ZA ZB from n]
 rfl
structure xp (K:NI)(C:ZE)(m:Str)(f:ZE):Prop where
 at_:PD K (.ref C) m=ZA (ZA (.ref f))
 fn:Uw K (.ref f)=ZC
 kp:PF K (.ref f)=ZC
variable{b:Bool}{m:Str}
section
variable {fs:List (Str×V)}
def yF(I:Inv X ol σ H s)(e:H a=ZA (.ins C dx fs))(c:Cls X.K C)(n:NoAttr X.K C f)(l:fs.lookup f=ZA v)
  (h:∀u s',Inv X ol σ H s'->RelV v u->Q u s'):wpAny (model X.prog X.w) A (getAttr (.ref a) f b) Q E s:=by
 obtain⟨mA,O,r,_,_,_⟩:=oA I.hok e;obtain⟨u,hu,ru⟩:=RelO.some_of (v:=v) (o:=mA f) (by rw[<-l];exact r f)
 exact kG I.kIn O (c.get f) c.hd n hu (A1 ru) (h u _ (I.tok _) ru)
def lC{g:ZE}{pl:Sem Bool}{Q:NK×List NK->NO->Prop}(I:Inv X ol σ H s)(e:H a=ZA (.ins C dx fs))(c:Cls X.K C)(k:xp X.K C m g)(l:fs.lookup m=ZB)
  (h:Q (.ref g,[.ref a]) s):wpAny (model X.prog X.w) A (RS (.ref a) m pl) Q E s:=by
 obtain⟨mA,O,r,_,_,_⟩:=oA I.hok e
 have hn:mA m=ZB:=RelO.none_of (by rw[<-l];exact r m)
 exact DH I.kIn O (c.get m) k.at_ k.fn hn h
def xR{u:NK}{Q:Unit->NO->Prop}(I:Inv X ol σ H s)(e:H a=ZA (.ins C dx fs))(c:Cls X.K C)(n:NoAttr X.K C f)(hl:fs.length<1000)(ry:RelV y u)
  (h:∀s',Inv X ol σ (upd H a (.ins C dx (putF f y fs))) s'->Q () s'):wpAny (model X.prog X.w) A (setAttr (.ref a) f u) Q E s:=by
 obtain⟨mA,O,r,wi,_,ho⟩:=oA I.hok e
 have hz:(fs.map (·.1)).length<=sizeLine:=by rw[NP,QD];omega
 refine Fh I.kIn O c.sa c.po n.Nz c.hd wi hz λh' O' sb=>h _ ?_
 have hd:∃o,h'.get? dx=ZA o:=let ⟨o,_,_,e',_⟩:=O'.ns;⟨o,e'⟩
 refine I.write (x:=a) (e:=dx) (by rw[e];exact Qm) (.inr ho) (λb q hb z=>(sb.2 b hb).trans z) hd ?_
 refine⟨by rw[aB O.ne];exact ho,?_,O.ne,O'.obj,_,O'.ns,λg=>?_,λg hg=>?_⟩
 ·have:=nG f y fs;omega
 ·show RelO ((putF f y fs).lookup g) (if g=f then ZA u else mA g)
  rw[nF]
  by_cases q:g=f
  ·rw[if_pos q,if_pos q];exact ry
  ·rw[if_neg q,if_neg q];exact r g
 ·by_cases q:g=f
  ·rw[q];exact(mY f y fs).1
  ·refine(mY f y fs).2 g (wi g λz=>hg ?_)
   show(if g=f then ZA u else mA g)=ZB
   rw[if_neg q];exact z
def Inv.made(I:Inv X ol σ H s):Inv X ol σ (upd (upd H s.heap.objs.size (.own (s.heap.objs.size+1))) (s.heap.objs.size+1) (.ins C s.heap.objs.size []))
  {s with heap:=(s.heap.push Pl).push (PU C s.heap.objs.size)}:=by
 have e1:(s.heap.push Pl).get? s.heap.objs.size=ZA Pl:=Oa s.heap rfl
 have e2:((s.heap.push Pl).push (PU C s.heap.objs.size)).get? (s.heap.objs.size+1)=ZA (PU C s.heap.objs.size):=by
  have:=Oa (s.heap.push Pl) (o:=PU C s.heap.objs.size) rfl
  rwa [Qe]at this
 have e3:(s.heap.push Pl).Ns s.heap.objs.size (λ_=>ZB):=⟨Pl,#[],_,e1,rfl,(λe he=>absurd he (by simp)),λ_=>rfl⟩
 have I1:=I.laid (a:=s.heap.objs.size) (o:=.own (s.heap.objs.size+1)) (h':=s.heap.push Pl) (t':=s.toks) (λb u q=>NV _ q) (N3 _) ⟨_,e1⟩
 refine I1.laid (a:=s.heap.objs.size+1) (o:=.ins C s.heap.objs.size []) (t':=s.toks) (λb u q=>NV _ q) (Rw (Qe _ _)) ?_
 have ne:s.heap.objs.size≠s.heap.objs.size+1:=Pf (SA _);refine⟨by rw[aB ne,aG],Qg _,ne,e2,λ_=>ZB,(Heap.Ns1.of_empty e3).at λo q=>NV _ q,λ_=>Qm,λy hy=>absurd rfl hy⟩
def G1{env:Env}(hb:On e f env (eval e env)=eval e env)
  (h:wpAny (model prog w) A (eval e env) (λo s₁=>wpAny (model prog w) A (getAttr o f ZC) Q E s₁) E s):wpAny (model prog w) A (eval (.Attribute e f pos) env) Q E s:=
 Attribute_any_ h (by rw[arm_eval_Attribute,hb])
end
def tFld(K:NI)(ta:TE)(f:Str):TE:=λσ H Q=>ta σ H λx H1=>∃a C dx fs v,x=.ref a/\H1 a=ZA (.ins C dx fs)/\Cls K C/\NoAttr K C f/\fs.lookup f=ZA v/\Q v H1
def sFld(K:NI)(ta tv:TE)(f:Str):TS:=λD σ H=>tv σ H λy H1=>ta σ H1 λx H2=>∃a C dx fs,x=.ref a/\H2 a=ZA (.ins C dx fs)/\Cls K C/\NoAttr K C f/\fs.length<1000 ∧
 D.nx σ (upd H2 a (.ins C dx (putF f y fs)))
section
variable {o value:ZG}{tpos:Pos}{tv:TE}
def x8(he:PE X e ta)(hb:On e f X.env (eval e X.env)=eval e X.env):PE X (.Attribute e f pos) (tFld X.K ta f):=by
 intro ol s σ H Q I h;refine G1 hb (bU (he ol s σ H _ I h) λu s1 hh_=>?_)
 obtain⟨x,H1,I1,rx,a,C,dx,fs,v,ex,ea,c,n,l,q⟩:=hh_;subst ex;obtain rfl:u=N1 a:=rx;exact yF I1 ea c n l λu' s2 I2 ru=>⟨v,H1,I2,ru,q⟩
def IW(ha:PE X o ta)(hv:PE X value tv)(hs:OR value (ZA (.Attribute o f pos')) pos.line X.env=pure ZD):PS X (.Assign [.Attribute o f pos'] value pos) (sFld X.K ta tv f):=by
 intro ol s σ H D I h;refine plainObj_wpAny_Assign_Attribute (bU (hv ol s σ H _ I h) λu s1 ⟨y,H1,I1,ry,q⟩=>bU (ha ol s1 σ H1 _ I1 q) λov s2 ⟨x,H2,I2,rx,a,C,dx,fs,ex,ea,c,n,l,q2⟩=>?_) hs
 subst ex;obtain rfl:ov=N1 a:=rx;exact xR I2 ea c n l ry λs3 I3=>⟨σ,_,I3,q2⟩
end
section
variable {c:NK}
inductive nh (K:NI) (H:Hp):V->NK->Prop where
 |non:nh K H .non (.type "NoneType")
 |bl (x:Bool):nh K H (.bl x) (.type "bool")
 |int (i:Int):nh K H (.int i) (.type "int")
 |str (x:Str):nh K H (.str x) (.type "str")
 |flt (x:UInt64):nh K H (.flt x) (.type "float")
 |lst {a:ZE} {xs:List V} (e:H a=ZA (.lst xs)):nh K H (.ref a) (.type "list")
 |frz {a:ZE} {o:Obj} {xs:List V} (e:H a=ZA (.frz o (.lst xs))):nh K H (.ref a) (.type "list")
 |tup {a:ZE} {xs:List V} (e:H a=ZA (.tup xs)):nh K H (.ref a) (.type "tuple")
 |dK {a:ZE} {kvs:List (Key×V)} (e:H a=ZA (.dK kvs)):nh K H (.ref a) (.type "dict")
 |dT {a:ZE} {kvs:List (List Key×V)} (e:H a=ZA (.dT kvs)):nh K H (.ref a) (.type "dict")
 |ins {a C dx:ZE} {fs:List (Str×V)} (e:H a=ZA (.ins C dx fs)) (cl:Cls K C) (ha:PD K (.ref C) "__class__" =ZA (ZA (.builtin "object.__class__")))
   (hn:PySem.W.specialIn K (.builtin "object.__class__") "__get__" =ZA (ZA (.builtin "getset_descriptor.__get__"))) (htk:PySem.W.takesIn K (.builtin "object.__class__")=ZA ZC)
   (hm:PySem.W.mroIn K C (.type "object")=ZA ZC):nh K H (.ref a) (.ref C)
def AX{x:V}{u t:NK}(I:Inv X ol σ H s)(rx:RelV x u)(ty:nh X.K H x t)(e:PySem.W.kitOne X.K t c=ZA b)(h:∀tk,Q (.bool b) {s with toks:=tk}):
  wpAny (model X.prog X.w) A (call (.builtin "isinstance") [u,c]) Q E s:=by
 cases ty with
 |non=>cases (show u=Ov from rx);exact Pj PySem.W.kitx_none I.kIn Qm e (λz=>nomatch z) h
 |bl y=>cases (show u=OI y from rx);exact Pj PySem.W.kitx_bool I.kIn Qm e (λz=>nomatch z) h
 |int i=>obtain⟨t,q⟩:=(show ∃t,u=Pv i t from rx);cases q;exact Pj PySem.W.kitx_int I.kIn Qm e (λz=>nomatch z) h
 |str y=>obtain⟨t,q⟩:=(show ∃t,u=Pw y t from rx);cases q;exact Pj PySem.W.kitx_str I.kIn Qm e (λz=>nomatch z) h
 |flt y=>obtain⟨t,q⟩:=(show ∃t,u=U0 y t from rx);cases q;exact Pj PySem.W.kitx_float I.kIn Qm e (λz=>nomatch z) h
 |@lst a xs ea=>
  cases (show u=N1 a from rx)
  obtain⟨_,_,n,_,h1⟩:=(show ObjOk X.prog X.w H s.heap a (.lst xs)from I.hok a _ ea)
  exact Pj Ue I.kIn ⟨_,h1,rfl⟩ e (λz=>nomatch z) h
 |@frz a ob xs ea=>
  cases (show u=N1 a from rx)
  obtain⟨_,_,_,n,_,h1⟩:=(show ObjOk X.prog X.w H s.heap a (.frz ob (.lst xs))from I.hok a _ ea)
  exact Pj Ue I.kIn ⟨_,h1,rfl⟩ e (λz=>nomatch z) h
 |@tup a xs ea=>
  cases (show u=N1 a from rx)
  obtain⟨_,_,_,p⟩:=(show ObjOk X.prog X.w H s.heap a (.tup xs)from I.hok a _ ea)
  obtain⟨o,h1,h2,_⟩:=p
  exact Pj PySem.W.kitx_tuple I.kIn ⟨o,h1,h2⟩ e (λz=>nomatch z) h
 |@dK a kvs ea=>
  cases (show u=N1 a from rx)
  obtain⟨_,_,vs,_,p⟩:=(show ObjOk X.prog X.w H s.heap a (.dK kvs)from I.hok a _ ea)
  obtain⟨o,es,ep,h1,h2,_⟩:=p
  exact Pj Ug I.kIn ⟨o,h1,h2.1⟩ e (λz=>nomatch z) h
 |@dT a kvs ea=>
  cases (show u=N1 a from rx)
  obtain⟨_,_,xs,_,o,es,ep,h1,h2,_⟩:=(show ObjOk X.prog X.w H s.heap a (.dT kvs)from I.hok a _ ea)
  exact Pj Ug I.kIn ⟨o,h1,h2.1⟩ e (λz=>nomatch z) h
 |@ins a C dx fs ea cl ha hn htk hm=>
  cases (show u=N1 a from rx)
  obtain⟨mA,O,_⟩:=oA I.hok ea;obtain⟨od,J,_⟩:=O.look;exact Pj (PySem.W.kitx_own (cl.get _) cl.hd ha hn htk hm) I.kIn J e (λz=>nomatch z) h
end
structure Room (k:Nat)(A:Oq):Prop where
 hd:A.handled=ZB
 dp:A.depth+3*k+5<Q1
 un:A.units+16*k+200<cLine
def Room.mono(r:Room k A)(h:j<=k):Room j A:=⟨r.hd,by have:=r.dp;omega,by have:=r.un;omega⟩
def Room.deeper(r:Room (k+1) A)(env:Env):Room k (A.deeper env):=
 ⟨r.hd,by have:=r.dp;show A.depth+1+3*k+5<_;omega,by have:=r.un;show A.units+3+16*k+200<_;omega⟩
def yk:(A.under (.builtin "type.__call__" ⟨.ref C::us,kw⟩)).depth=A.depth+1:=by
 first|rfl|simp[Uy,Code.weight,Code.isCreation,Code.isGuard,Code.isCaller,Code.frames,Uz,guardIds]
def yj:(A.under (.builtin "type.__call__" ⟨.ref C::us,kw⟩)).units=A.units+1:=by
 first|rfl|simp[Uy,Code.cUnits,Code.frames,Uz]
def Room.make(r:Room (k+1) A)(C:ZE)(us:List NK)(kw:List (Str×NK)):Room k (A.under (.builtin "type.__call__" ⟨.ref C::us,kw⟩)):=
 ⟨r.hd,by have:=r.dp;rw[yk];omega,by have:=r.un;rw[yj];omega⟩
def Room.depth(r:Room k A):A.depth<Q1:=by have:=r.dp;omega
def vA:TA:=λ_ H Q=>Q [] H
def hV(ta:TE)(tr:TA):TA:=λσ H Q=>ta σ H λx H1=>tr σ H1 λxs H2=>Q (x::xs) H2
section
variable {t:TA}
def dH:PA X [] vA:=λ_ _ _ _ H Q I h=>Ro ⟨[],H,I,.nil,h⟩
def br(ha:PE X e te)(hr:PA X es t)(hs:autoParam (NW (e::es) X.env=(ZD,eval e X.env)::NW es X.env) aqd._auto_1):PA X (e::es) (hV te t):=by
 intro pos ol s σ H Q I h;rw[hs]
 show wpAny _ _ (spliced ((ZD,eval e X.env)::backTo pos (NW es X.env))) _ _ s
 refine Rf (bU (ha ol s σ H _ I h) λu s1 hh_=>?_)
 obtain⟨x,H1,I1,r1,q1⟩:=hh_;exact bU (hr pos ol s1 σ H1 _ I1 q1) λus s2 ⟨xs,H2,I2,r2,q2⟩=>⟨x::xs,H2,I2,.cons r1 r2,q2⟩
def Fb(t:TA):TE:=λσ H Q=>t σ H λxs H1=>xs.length<=sizeLine/\∀p,H1 p=ZB->Q (.ref p) (upd H1 p (.tup xs))
def tLst(t:TA):TE:=λσ H Q=>t σ H λxs H1=>xs.length<=sizeLine/\∀p,H1 p=ZB->Q (.ref p) (upd H1 p (.lst xs))
def tS{x1}(h:PA X es t):PE X (.Tuple es x1 pos) (Fb t):=by
 intro ol s σ H Q I hq;refine wpAny_Tuple_spliced (bU (h pos ol s σ H _ I hq) λus s1 ⟨xs,H1,I1,r,z,q⟩=>⟨by rw[<-r.length];exact z,?_⟩)
 have hf:H1 s1.heap.objs.size=ZB:=I1.hok.fresh (N3 _);refine⟨.ref s1.heap.objs.size,upd H1 s1.heap.objs.size (.tup xs),I1.laid (t':=s1.toks) (λb u e=>NV _ e) (N3 _) ?_,rfl,q _ hf⟩
 exact⟨z,us,r,⟨_,Oa _ rfl,rfl,_,rfl⟩⟩
def x6(h:PA X es t):PE X (.List es pos) (tLst t):=by
 intro ol s σ H Q I hq;refine T5 (bU (h pos ol s σ H _ I hq) λus s1 ⟨xs,H1,I1,r,z,q⟩=>⟨by rw[<-r.length];exact z,?_⟩)
 have hf:H1 s1.heap.objs.size=ZB:=I1.hok.fresh (N3 _);refine⟨.ref s1.heap.objs.size,upd H1 s1.heap.objs.size (.lst xs),I1.laid (t':=s1.toks) (λb u e=>NV _ e) (N3 _) ?_,rfl,q _ hf⟩
 exact⟨z,us,0,r,Oa _ rfl⟩
end
abbrev Sp:=List V->Hp->VK->XK->Prop
abbrev Bu:=List Env->Hp->NO->XK->V1
structure Env0 (P:N8)(w:OV)(K:NI)(mg:V0)(base:ZH)(A:Oq)(outer:List Env)(s:NO)(H:Hp):Prop where
 frames:A.frames=ZA outer
 mod:Mod K mg base
 bs:∀b o,base.get? b=ZA o->s.heap.get? b=ZA o/\H b=ZB
 bsz:base.objs.size<=s.heap.objs.size
 funs:s.heap.FunFrames base outer
 frf:∀b∈m6 outer,H b=ZB
 hok:HOk P w H s.heap
 bare:Sy s.gens
def CE(outer:List Env)(P:N8)(w:OV)(H:Hp)(s:NO)(Q:VK)(u:NK)(s':NO):Prop:=
 ∃v H',s'.os=s.os/\Sy s'.gens/\Un (m6 outer) [] H H' s.heap s'.heap/\HOk P w H' s'.heap/\RelV v u/\Q v H'
def CR(CX:Bu)(outer:List Env)(P:N8)(w:OV)(H:Hp)(s:NO)(Q:VK)(E:XK)(r:Th)(s':NO):Prop:=
 match r with
 |.ok (.ret u)=>CE outer P w H s Q u s'
 |.ok _=>False
 |.error e=>CX outer H s E e s'
structure FnOk (P:N8)(w:OV)(K:NI)(mg:V0)(base:ZH)(CX:Bu)(k:Nat)(f:ZE)(fd:Ot)(ps:List Str)(sp:Sp):Prop where
 len:∀vs H Q E,sp vs H Q E->vs.length=ps.length
 run:∀(A:Oq)(outer:List Env)(s:NO)(H:Hp)(args:Args)(us:List NK)(vs:List V)(Q:VK)(E:XK),Room k A->Env0 P w K mg base A outer s H->R7 s fd args (ps.zip us)->Vals vs us->sp vs H Q E →
  codeAny (model P w) A (.call (.ref f) args) (CR CX outer P w H s Q E) s
variable{CX:Bu}{f:ZE}{mg:V0}{ps:List Str}{sp:Sp}
theorem FnOk.mono{base:ZH}(F:FnOk P w K mg base CX j f fd ps sp)(h:j<=k):
  FnOk P w K mg base CX k f fd ps sp:=⟨F.len,λA outer s H args us vs Q E hr=>F.run A outer s H args us vs Q E (hr.mono h)⟩
def FnOk.imp{base:ZH}{sp':Sp}(F:FnOk P w K mg base CX k f fd ps sp)
  (h:∀vs H Q E,sp' vs H Q E->sp vs H Q E):FnOk P w K mg base CX k f fd ps sp':=
 ⟨λvs H Q E q=>F.len vs H Q E (h _ _ _ _ q),λA outer s H args us vs Q E hr he hb hv hs=>F.run A outer s H args us vs Q E hr he hb hv (h _ _ _ _ hs)⟩
variable{outer:List Env}
def Env0.make{base:ZH}(e:Env0 P w K mg base A outer s H)(C:ZE)(us:List NK)(kw:List (Str×NK)):
  Env0 P w K mg base (A.under (.builtin "type.__call__" ⟨.ref C::us,kw⟩)) outer s H:=⟨by first|exact e.frames| (simpa [Uy,Code.envs,Uz,pushEnvs]using e.frames),e.mod,e.bs,e.bsz,e.funs,e.frf,e.hok,e.bare⟩
variable{Q:VK}
def Inv.Na(I:Inv X ol σ H s):Env0 X.prog X.w X.K X.mg X.base X.A X.stack s H:=
 ⟨I.ok.frames,I.ok.mod,I.bs,OB I.ok.bsz I.sz,I.stack,I.KM,I.hok,I.bare⟩
def Inv.after{u:NK}(I:Inv X ol σ H s)(h:CE X.stack X.prog X.w H s Q u s'):EP X ol σ Q u s':=by
 obtain⟨v,H',os,bare,un,hok,r,q⟩:=h;obtain⟨hh,g,d,t,os'⟩:=s';obtain rfl:os'=s.os:=os;exact⟨v,H',I.call (h':=hh) (g':=g) (d':=d) (t':=t) (ch:=[]) un hok bare (λb z=>absurd z (by simp)),r,q⟩
def KZ(sp:Sp)(dvs:List V)(E:XK)(t:TA):TE:=λσ H Q=>t σ H λvs H1=>sp (vs++dvs) H1 Q E
def Binds(K:NI)(fd:Ot)(ps:List Str)(ds:List NK):Prop:=
 ∀(s:NO)(us:List NK),K.In s.heap->(us++ds).length=ps.length->R7 s fd ⟨us,[]⟩ (ps.zip (us++ds))
def Binds.all(h:∀us:List NK,us.length=ps.length->UX fd ⟨us,[]⟩=pure (ps.zip us)):Binds K fd ps []:=λs us _ hl=>by
 rw[Oi]at hl ⊢;exact .of_eq (h us hl)
def yV(CX:Bu)(X:Cx)(E:XK):Prop:=∀(ol:V2)(σ:St)(H:Hp)(s:NO)(e:NK)(s':NO),Inv X ol σ H s->CX X.stack H s E e s'->X.xe e s'
variable{E:XK}{vs:List V}
section
variable {dvs:List V}{ds:List NK}{p apos:Pos}{o:ZG}{t:TA}
def tI(F:FnOk X.prog X.w X.K X.mg X.base CX k f fd ps sp)(hr:Room k X.A)(hb:Binds X.K fd ps ds)(hd:Vals dvs ds)(hx:yV CX X E)
  (I:Inv X ol σ H s) (r:Vals vs us) (h:sp (vs++dvs) H Q E):wpAny (model X.prog X.w) X.A (call (.ref f) us) (EP X ol σ Q) X.xe s:=by
 have r2:Vals (vs++dvs) (us++ds):=r.append hd
 have hl:(us++ds).length=ps.length:=by rw[<-r2.length];exact F.len _ _ _ _ h
 refine Rp (Qa (F.run X.A X.stack s H ⟨us,[]⟩ (us++ds) (vs++dvs) Q E hr I.Na (hb s us I.kIn hl) r2 h) λr s' hq=>?_)
 cases r with
 |error e=>exact hx ol σ H s e s' I hq
 |ok fl=>
  cases fl with
  |ret u=>exact I.after hq
  |next=>exact P4 hq
  |brk=>exact P4 hq
  |cont=>exact P4 hq
def zq(F:FnOk X.prog X.w X.K X.mg X.base CX k f fd ps sp)(hr:Room k X.A)(hg:Gl X x)(hm:X.mg x=ZA (.ref f))(hk:PF X.K (.ref f)=ZC)(hb:Binds X.K fd ps ds)(hd:Vals dvs ds)(hx:yV CX X E)
  (ha:PA X (e::es) t) (hdb:autoParam ((x == ("__debug__" : Str))=ZD) aqb._auto_1) (he:autoParam (NW (e::es) X.env=(ZD,eval e X.env)::NW es X.env) aqd._auto_1) (hpl:autoParam ((backTo pos (NW es X.env)).any (·.1)=ZD) aqd._auto_1):
  PE X (.Call (.Name x p) (e::es) [] pos) (KZ sp dvs E t):=by
 intro ol s σ H Q I h;refine Oz (fR I hg hm ?_ hdb)
 refine PK (h₀:=X.base) I.ok.mod.kin hk (bU (ha pos ol s σ H _ I h) λus s1 ⟨vs,H1,I1,r,q⟩=>⟨I1.kIn,?_⟩) he hpl
 exact tI F hr hb hd hx I1 r q
structure Mk (K:NI)(C f:ZE):Prop where
 makes:UY K C=ZC
 init:PD K (.ref C) "__init__" =ZA (ZA (.ref f))
 fn:Uw K (.ref f)=ZC
 kp:PF K (.ref C)=ZC
end
structure aA (N P:List Str)(sc:Q4):Prop where
 kind:sc.kind=.function
 co:sc.isCoroutine=ZD
 gen:sc.isGenerator=ZD
 nd:N.Nodup
 pre:N.take P.length=P
 par:∀x∈P,sc.names.lookup x=ZA .local\/sc.names.lookup x=ZA .cell
 nofree:∀y∈sc.names,y.2≠ .free
variable{kindOf:Str->Option QQ}
theorem sA:∀{binds:List (Str×NK)}{m:V0},(∀v,(x,v)∉binds)->bindL kindOf binds m x=m x
 |[],_,_=>rfl
 | (n,v)::r,m,h=>by
  unfold bindL;rw[sA λw hw=>h w (NJ _ hw)]
  split
  ·have:x≠n:=by rintro rfl;exact h v NN
   simp[this]
  ·rfl
theorem sG:∀{binds:List (Str×NK)}{m:V0},(∀v,(x,v)∉binds)->bindC kindOf binds m x=m x
 |[],_,_=>rfl
 | (n,v)::r,m,h=>by
  unfold bindC;rw[sG λw hw=>h w (NJ _ hw)]
  split
  ·rfl
  ·have:x≠n:=by rintro rfl;exact h v NN
   simp[this]
variable{v:NK}
theorem sC:∀{P:List Str}{vs:List NK}{i:Nat}{m:V0},P.Nodup->P[i]?=ZA x->vs[i]?=ZA v->kindOf x=ZA .local →
  bindL kindOf (P.zip vs) m x=ZA v
 |[],_,_,_,_,h,_,_=>by simp at h
 |_::_,[],_,_,_,_,h,_=>by simp at h
 |p::P,w::vs,0,m,nd,h1,h2,hk=>by
  simp at h1 h2;subst h1;subst h2
  show bindL kindOf ((p,w)::P.zip vs) m p=_
  unfold bindL;rw[sA λv hv=>(Oe.mp nd).1 (Qy hv).1,if_pos hk]
  simp
 |p::P,w::vs,i+1,m,nd,h1,h2,hk=>by
  show bindL kindOf ((p,w)::P.zip vs) m x=_
  unfold bindL;exact sC (i:=i) (Oe.mp nd).2 (by simpa using h1) (by simpa using h2) hk
theorem sH:∀{P:List Str}{vs:List NK}{i:Nat}{m:V0},P.Nodup->P[i]?=ZA x->vs[i]?=ZA v->kindOf x≠ZA .local →
  bindC kindOf (P.zip vs) m x=ZA v
 |[],_,_,_,_,h,_,_=>by simp at h
 |_::_,[],_,_,_,_,h,_=>by simp at h
 |p::P,w::vs,0,m,nd,h1,h2,hk=>by
  simp at h1 h2;subst h1;subst h2
  show bindC kindOf ((p,w)::P.zip vs) m p=_
  unfold bindC;rw[sG λv hv=>(Oe.mp nd).1 (Qy hv).1,if_neg hk]
  simp
 |p::P,w::vs,i+1,m,nd,h1,h2,hk=>by
  show bindC kindOf ((p,w)::P.zip vs) m x=_
  unfold bindC;exact sH (i:=i) (Oe.mp nd).2 (by simpa using h1) (by simpa using h2) hk
def start(N:List Str)(vs:List V):St:=vs.map ZA++N9 (N.length - vs.length) ZB
def gn(CX:Bu)(P:N8)(w:OV)(K:NI)(mg:V0)(base:ZH)(N:List Str)(qual:Str)(scope:Q4)(f:ZE)(cd:NK)(A:Oq)(outer:List Env)(s:NO)(H:Hp)(E:XK):Cx where
 prog:=P
 w:=w
 K:=K
 mg:=mg
 base:=base
 A:=A.deeper (envOfC qual scope s.heap.objs.size f cd)
 N:=N
 s₀:=s
 H₀:=H
 env:=envOfC qual scope s.heap.objs.size f cd
 outer:=outer
 stack:=envOfC qual scope s.heap.objs.size f cd::outer
 ex:=[]
 calm:=ZC
 fn:=λ_=>ZC
 pn:=[]
 xe:=λe s'=>wpAny (model P w) (A.deeper (envOfC qual scope s.heap.objs.size f cd)) (leaving (envOfC qual scope s.heap.objs.size f cd) e) (λ_ s''=>CX outer H s E e s'') (λe' s''=>CX outer H s E e' s'') s'
def xm(h:sc.names.lookup x=ZA .cell):∃c,(PX n sc.names []).lookup x=ZA c:=by
 have q:=PZ sc.names n [] (.inl h);exact Q9.mp q
variable{qual:Str}
def kE{base:ZH}
  (S:aA N ps scope) (hd:A.handled=ZB) (e0:Env0 P w K mg base A outer s H) (hl:vs.length=ps.length) (r:Vals vs us)
  (x:InCallC s s.heap.objs.size (bindL (envOfC qual scope s.heap.objs.size f cd).kindOf (ps.zip us) λ_=>ZB) (PX (s.heap.objs.size+1) scope.names []) (bindC (envOfC qual scope s.heap.objs.size f cd).kindOf (ps.zip us) λ_=>ZB) s1):
  Inv (gn CX P w K mg base N qual scope f cd A outer s H E) [] (start N vs) H s1:=by
 have hpl:ps.length<=N.length:=by have:=congrArg O0 S.pre;rw[OS]at this;omega
 obtain⟨h1,tk,rfl,hk⟩:=x.done
 have noA:∀b:ZE,b∉(gn CX P w K mg base N qual scope f cd A outer s H E).ex:=λb z=>absurd (show b∈([]:List ZE)from z) (by simp)
 refine⟨⟨e0.mod,S.kind,rfl,rfl,N3 _,λy z c h1 h2=>?_,λy hy=>?_,λy c _ h=>?_,λ_=>hd,Ta e0.frames,.inr ⟨rfl,rfl⟩,λb z=>absurd z (noA b),e0.bs,e0.bsz,λb _ _=>noA b,λb z=>absurd z (noA b),e0.funs,e0.frf⟩,
  rfl,e0.bare,Un.kept hk,⟨_,x.toInCall.ns,λi y v h1 h2 h3=>?_⟩,λy c h=>⟨_,x.cell y c h⟩,e0.hok.fresh (N3 _),λy c h=>?_,λp hp=>absurd (show p∈([]:V2)from hp) (by simp),e0.hok.kept hk,?_⟩
 ·exact name_of_addr x.apart (PV h1) (PV h2)
 ·have hy:scope.names.lookup y=ZA .cell\/scope.names.lookup y=ZA .free:=hy
  rcases hy with hy|hy
  ·exact xm hy
  ·exact absurd rfl (S.nofree _ (PV hy))
 ·exact Q8 (x.above y c (PV h))
 ·have hi:i<vs.length:=by
   unfold start at h2
   by_cases hi:i<vs.length
   ·exact hi
   ·rw[Pu (by simpa using hi)]at h2
    rw[Pd]at h2
    split at h2 <;> cases h2
  have ha:vs[i]?=ZA v:=by
   unfold start at h2;rw[O5 (by simpa using hi),Oc]at h2
   cases e:vs[i]? with
   |none=>rw[e]at h2;cases h2
   |some a=>rw[e]at h2;cases h2;rfl
  obtain⟨u,hu,rv⟩:=r.get ha
  have hp:ps[i]?=ZA y:=by
   rw[<-S.pre,List.getElem?_take_of_lt (by omega)];exact h1
  have ndP:ps.Nodup:=by rw[<-S.pre];exact S.nd.sublist (List.take_sublist _ _)
  refine⟨u,rv,?_⟩
  rcases S.par y (Qk hp)with k|k
  ·exact .inl ⟨k,sC ndP hp hu k⟩
  ·obtain⟨c,e⟩:=xm (n:=s.heap.objs.size+1) k
   refine .inr ⟨.inl k,c,e,?_⟩
   have q:=x.cell y c e;rw[sH ndP hp hu (by show scope.names.lookup y≠_;rw[k];decide)]at q
   exact q
 ·exact e0.hok.fresh (Q8 (x.above y c (PV h)))
 ·unfold start
  show _=N.length
  rw[NT,NP,List.length_replicate];omega
def Mo{base:ZH}{params:S0}{dV kV doc pm cdv ct oc:NK}{an od:Option ZE}
  {osl:Array (Option NK)}   (lk:K.lookup f=ZA ⟨oc,od,.func (Rt name qual params body scope dV kV doc pm an cdv ct),osl⟩) (hcd:Tg K cdv qual=ZC) (S:aA N ps scope)
  (len:∀vs H Q E,sp vs H Q E->vs.length=ps.length)
  (hbody:∀(A:Oq)(outer:List Env)(s:NO)(H:Hp)(vs:List V)(Q:VK)(E:XK),Room k (A.deeper (envOfC qual scope s.heap.objs.size f cdv))->sp vs H Q E →
   ∃t,PSs (gn CX P w K mg base N qual scope f cdv A outer s H E) body t/\t {nx:=λ_ H'=>Q .non H',rt:=Q} (start N vs) H):
  FnOk P w K mg base CX (k+1) f (Rt name qual params body scope dV kV doc pm an cdv ct) ps sp:=by
 refine⟨len,λA outer s H args us vs Q E hr e0 hb r hsp=>?_⟩
 have hl:=len _ _ _ _ hsp
 have KX:K.In s.heap:=e0.mod.kin.keeps λb o e=>(e0.bs b o e).1
 have lim:s.heap.NoLimit:=e0.mod.nolimit.keeps λb o e=>(e0.bs b o e).1
 have hkind:∀y∈ps.zip us,scope.names.lookup y.1=ZA .local\/(scope.names.lookup y.1=ZA .cell/\((PX (s.heap.objs.size+1) scope.names []).lookup y.1).isSome=ZC):=λ⟨n,v⟩ hy=>by
  rcases S.par n (Qy hy).1 with q|q
  ·exact .inl q
  ·exact .inr ⟨q,PZ _ _ _ (.inl q)⟩
 refine QF hr.depth (KX _ _ lk) rfl S.co S.gen rfl (Ra KX hcd) (hb _ _ _ _ ?_)
 refine P3 S.kind hkind λenv he s1 x=>?_
 subst he;refine⟨lim.keeps x.toInCall.keep,S2 ?_⟩
 obtain⟨t,ht,hq⟩:=hbody A outer s H vs Q E (hr.deeper _) hsp
 have I:Inv (gn CX P w K mg base N qual scope f cdv A outer s H E) [] (start N vs) H s1:=kE S hr.hd e0 hl r x;refine Pr (ht [] s1 (start N vs) H _ I hq) (λfl s' hs=>?_) λe s' hs=>hs
 have fin:∀{σ':St}{H':Hp}{v:V}{u:NK},Inv (gn CX P w K mg base N qual scope f cdv A outer s H E) [] σ' H' s'->RelV v u->Q v H'->CE outer P w H s Q u s':=
  λ{σ' H' v u} J rv q=>⟨v,H',J.os,J.bare,J.base,J.hok,rv,q⟩
 cases fl with
 |ret u=>
  obtain⟨v,σ',H',J,rv,q⟩:=hs
  exact fin J rv q
 |next=>
  obtain⟨σ',H',J,q⟩:=hs
  exact fin (v:=V.non) (u:=Ov) J rfl q
 |brk=>
  obtain⟨_,_,_,q⟩:=hs
  exact P4 q
 |cont=>
  obtain⟨_,_,_,q⟩:=hs;exact P4 q
end L2
namespace HT
open PySem PyProof.Rows
def cat_tup{t b:ZE}{ws:List NK}(ht:Vj s.heap t vs.toArray)(hb:Vj s.heap b ws.toArray)(hv:vs≠ [])
  (h1:ws=[]->Q (.ref t) s) (h2:ws≠ []->Q (.ref s.heap.objs.size) {s with heap:=s.heap.push {cls:=.type "tuple",data:=.seq (vs++ws).toArray}})
  (hsz:vs.length+ws.length<=sizeLine):wpAny (model prog w) A (PH .Add (.ref t) (.ref b)) Q E s:=by
 obtain⟨⟨cls,dd,data,sl⟩,ho,hc,n,hd⟩:=id ht;obtain⟨⟨cls2,dd2,data2,sl2⟩,ho2,hc2,n2,hd2⟩:=id hb;simp only at hc hd hc2 hd2;subst hc hd hc2 hd2
 have e:vs.toArray++ws.toArray=(vs++ws).toArray:=by simp
 by_cases hw:ws=[]
 ·exact UH ⟨_,ho,rfl⟩ ⟨_,ho2,rfl⟩ SE T6 Rl Rb (Q5 _ _)
   (tuple_addW1 t b vs.toArray ws.toArray n n2 dd dd2 sl sl2 (by simpa using hv) (by simp[hw])) ⟨ho,ho2,h1 hw⟩
 ·refine UH ⟨_,ho,rfl⟩ ⟨_,ho2,rfl⟩ SE T6 Rl Rb (Q5 _ _)
   (tuple_addW2 t b vs.toArray ws.toArray n n2 dd dd2 sl sl2 (by simpa using hv) (by simpa using hw) (by rw[N5,N5];exact hsz)) ⟨ho,ho2,?_⟩
  rw[e];exact h2 hw
def sIx(n d:Nat):Option Int->Nat
 |none=>d
 |some v=>if v<0 then(v+(n:Int)).toNat else min v.toNat n
def sIx_none(n d:Nat):sIx n d ZB=d:=rfl
def sIx_nat(n d k:Nat):sIx n d (ZA (k:Int))=min k n:=by
 show(if (k:Int)<0 then((k:Int)+(n:Int)).toNat else min (k:Int).toNat n)=min k n
 rw[if_neg (by omega),Py]
def Il(n d:Nat)(hd:d<=n)(o:Option Int):sIx n d o<=n:=by
 cases o with
 |none=>exact hd
 |some v=>
  show(if v<0 then(v+(n:Int)).toNat else min v.toNat n)<=n
  by_cases hv:v<0
  ·rw[if_pos hv];omega
  ·rw[if_neg hv];exact Nat.min_le_right _ _
def Ab(v:Int)(n d:Nat):(if v<0 then max (v+(n:Int)) 0 else min v (n:Int))=((sIx n d (ZA v):Nat):Int):=by
 show(if v<0 then max (v+(n:Int)) 0 else min v (n:Int))=(((if v<0 then(v+(n:Int)).toNat else min v.toNat n):Nat):Int)
 by_cases hv:v<0
 ·simp only[if_pos hv];omega
 ·simp only[if_neg hv];omega
def yT(lo hi:Option Int)(n:Nat):QY lo hi 1 (n:Int)=(((sIx n 0 lo:Nat):Int),((sIx n n hi:Nat):Int)):=by
 have h1:¬ ((1:Int)<0):=by omega
 unfold QY;simp only[h1,if_false];refine Prod.ext ?_ ?_
 ·cases lo with
  |none=>rfl
  |some v=>exact Ab v n 0
 ·cases hi with
  |none=>rfl
  |some v=>exact Ab v n n
def x5(i j:Nat):Qc (i:Int) (j:Int) 1=j - i:=by
 unfold Qc
 have h1:(1:Int) > 0:=by omega
 simp only[h1,if_true,Int.ediv_one]
 split <;> omega
def oX{o:Option Int}{Q:Option Int->NO->Prop}(p:T7 v o)(h:Q o s):wpAny (model prog w) A (UW v) Q E s:=by
 cases p with
 |none=>exact slicePart_none h
 |int i t=>exact slicePart_int h
def iM{sl:ZE}{Q:Int×Int×Nat->NO->Prop}(hs:s.heap.IsSliceOf sl vl vu .none)(pl:T7 vl lo)(pu:T7 vu hi)
  (h:Q (((sIx n 0 lo:Nat):Int),1,sIx n n hi - sIx n 0 lo) s):wpAny (model prog w) A (RT (.ref sl) (pure (n:Int))) Q E s:=by
 obtain⟨os,hos,hcs,hds⟩:=id hs;unfold RT Builtin.Slice.sliceFields;refine NQ (NQ (Qj hos hds (x:=vl) rfl (NQ (Qj hos hds (x:=vu) rfl (NQ (Qj hos hds (x:=.none) rfl (N4 ?_)))))))
 refine NQ (slicePart_none ?_)
 show wpAny _ _ (if ((1:Int) == 0)=ZC then _ else _) _ _ s
 rw[if_neg (by decide)]
 refine NQ (oX pl (NQ (oX pu (NQ (N4 ?_)))))
 show wpAny _ _ (match QY lo hi 1 (n:Int)with| (lo,hi)=>pure (lo,(1:Int),Qc lo hi 1)) _ _ s
 rw[yT lo hi n]
 show wpAny _ _ (pure (((sIx n 0 lo:Nat):Int),(1:Int),Qc ((sIx n 0 lo:Nat):Int) ((sIx n n hi:Nat):Int) 1)) _ _ s
 rw[x5];exact N4 h
def Cz(xs:Array NK)(i k:Nat):((OQ k).filterMap λ(m:Nat)=>xs[((i:Int)+(m:Int)*1).toNat]?).toArray=((xs.toList.drop i).take k).toArray:=by
 have e:(λ(m:Nat)=>xs[((i:Int)+(m:Int)*1).toNat]?)=λm=>xs[i+m]?:=by
  funext m
  have:((i:Int)+(m:Int)*1).toNat=i+m:=by omega
  rw[this]
 rw[e]
 have:=pick_run xs i k;rw[List.filterMap_map]at this
 have e2:((λx=>xs[x]?)∘λx=>i+x)=λm=>xs[i+m]?:=rfl
 rw[e2]at this;rw[this]
def getItem_tuple_cut{t sl:ZE}{items:Array NK}(ht:Vj s.heap t items)(hs:s.heap.IsSliceOf sl vl vu .none)(pl:T7 vl lo)(pu:T7 vu hi)
  (hw:¬ (sIx items.size 0 lo=0/\sIx items.size items.size hi=items.size))
  (h:Q (.ref s.heap.objs.size) {s with heap:=s.heap.push {cls:=.type "tuple",data:=.seq ((items.toList.drop (sIx items.size 0 lo)).take (sIx items.size items.size hi - sIx items.size 0 lo)).toArray}})
  (hsz:items.size<=sizeLine):wpAny (model prog w) A (getItem (.ref t) (.ref sl)) Q E s:=by
 have htake:sizeOk (.seq ((items.toList.drop (sIx items.size 0 lo)).take (sIx items.size items.size hi - sIx items.size 0 lo)).toArray):=by
  show((items.toList.drop (sIx items.size 0 lo)).take (sIx items.size items.size hi - sIx items.size 0 lo)).toArray.size<=sizeLine
  rw[N5,OS,Qt,O9];omega
 have hj:sIx items.size items.size hi<=items.size:=Il _ _ (N3 _) hi;obtain⟨os,hos,hcs,hds⟩:=id hs
 have hTs:s.TypeIs (.ref sl) "slice":=⟨os,hos,hcs⟩;unfold getItem
 try with_reducible refine Sz ?_
 first|refine NQ (N4 ?_)|skip
 refine NQ (Ut ht.typeIs (by decide) ?_)
 refine NQ (PQ (name:=NX "__getitem__") ht.typeIs OU
  (Q3 OU ht.typeIs TB ?_ (T8 _ _)))
 show wpAny _ _ (RU (.ref t) >>= _) _ _ s
 refine NQ (T9 ht ?_)
 refine NQ (R4 hTs ?_)
 rw[if_pos (by decide)]
 refine NQ (iM hs pl pu ?_)
 have hno:¬ ((((sIx items.size 0 lo:Nat):Int) == 0&&(1:Int) == 1&&(sIx items.size items.size hi - sIx items.size 0 lo) == items.size)=ZC):=by
  intro q;rw[NL,NL]at q
  have q1:((sIx items.size 0 lo:Nat):Int)=0:=eq_of_beq q.1.1
  have q2:sIx items.size items.size hi - sIx items.size 0 lo=items.size:=eq_of_beq q.2;exact hw ⟨by omega,by omega⟩
 show wpAny _ _ (if (((sIx items.size 0 lo:Nat):Int) == 0&&(1:Int) == 1&&(sIx items.size items.size hi - sIx items.size 0 lo) == items.size)=ZC then _ else _) _ _ s
 rw[if_neg hno,Cz]
 first
  |exact NQ (m:=PL _) (PC (N4 ⟨_,rfl,N4 h⟩) htake)
  |exact NQ (m:=PL _) (PC (NQ (N4 (N4 ⟨_,rfl,N4 h⟩))) htake)
  |exact NQ (NQ (m:=PL _) (PC (N4 (N4 ⟨_,rfl,N4 h⟩)) htake))
  |exact NQ (NQ (m:=PL _) (PC (N4 ⟨_,rfl,N4 h⟩) htake))
end HT
variable{i:Int}
namespace L2
open PySem PySem.Spec PyProof.Rows
abbrev TO:=St->Hp->(Option Int->Hp->Prop)->Prop
def PO(X:Cx)(e:Option ZG)(t:TO):Prop:=
 ∀(ol:V2)(s:NO)(σ:St)(H:Hp)(Q:Option Int->Hp->Prop),Inv X ol σ H s->t σ H Q →
  wpAny (model X.prog X.w) X.A (evalPart e X.env) (λu s'=>∃o H',Inv X ol σ H' s'/\T7 u o/\Q o H') X.xe s
def Fc:TO:=λ_ H Q=>Q ZB H
def KP(t:TE):TO:=λσ H Q=>t σ H λx H1=>∃i,x=.int i/\Q (ZA i) H1
def yC:∀{us:List NK},Vals (ns.map V.int) us->RG us ns:=by
 induction ns with
 |nil=>intro us r;rw[SN]at r;cases r;exact .nil
 |cons n ns ih=>
  intro us r;rw[NM]at r
  cases r with
  |cons r1 r2=>
   obtain⟨t,e⟩:=r1;subst e;exact .cons n t (ih r2)
variable{X:Cx}{e:ZG}{pos:Pos}{r:V->Option Int->Option Int->Hp->VK->Prop}{xs:List V}
section
variable {te:TE}{lo hi:Option ZG}{tl th:TO}{p2:Pos}
def FW:PO X ZB Fc:=by
 intro ol s σ H Q I h;rw[evalPart_none];exact N4 ⟨ZB,H,I,.none,h⟩
def FV(h:PE X e te):PO X (ZA e) (KP te):=by
 intro ol s σ H Q I hw;rw[evalPart_some];refine bU (h ol s σ H _ I hw) λu s1 hh_=>?_
 obtain⟨x,H1,I1,r1,q1⟩:=hh_;obtain⟨i,rfl,q⟩:=q1;obtain⟨t,rfl⟩:=r1;exact⟨ZA i,H1,I1,.int i t,q⟩
def SlR(X:Cx)(r:V->Option Int->Option Int->Hp->VK->Prop):Prop:=
 ∀(ol:V2)(s:NO)(σ:St)(H:Hp)(x:V)(v vl vu:NK)(lo hi:Option Int)(sl:ZE)(Q:VK),Inv X ol σ H s->RelV x v->s.heap.IsSliceOf sl vl vu .none->T7 vl lo->T7 vu hi->r x lo hi H Q →
  ∃T id,Rq (.type T) "__getitem__" =pure (ZA (.builtin id))/\s.TypeIs v T/\wpAny (model X.prog X.w) X.A (getItem v (.ref sl)) (EP X ol σ Q) X.xe s
def SlR.or{r':V->Option Int->Option Int->Hp->VK->Prop}(h:SlR X r)(h':SlR X r'):SlR X (λx lo hi H Q=>r x lo hi H Q\/r' x lo hi H Q):=by
 intro ol s σ H x v vl vu lo hi sl Q I rx hs pl pu q;rcases q with q|q
 ·exact h ol s σ H x v vl vu lo hi sl Q I rx hs pl pu q
 ·exact h' ol s σ H x v vl vu lo hi sl Q I rx hs pl pu q
def tSl(r:V->Option Int->Option Int->Hp->VK->Prop)(te:TE)(tl th:TO):TE:=λσ H Q=>te σ H λx H1=>tl σ H1 λl H2=>th σ H2 λu H3=>r x l u H3 Q
def CC(hr:SlR X r)(he:PE X e te)(hl:PO X lo tl)(hu:PO X hi th):PE X (.Subscript e (.Slice lo hi ZB p2) pos) (tSl r te tl th):=by
 intro ol s σ H Q I h;refine Subscript_ (bU (he ol s σ H _ I h) λv s1 hh_=>?_)
 obtain⟨x,H1,I1,r1,q1⟩:=hh_;refine wpAny_Slice (bU (hl ol s1 σ H1 _ I1 q1) λvl s2 ⟨l,H2,I2,pl,q2⟩=>bU (hu ol s2 σ H2 _ I2 q2) λvu s3 hh_=>?_)
 obtain⟨u,H3,I3,pu,q3⟩:=hh_;rw[evalPart_none];refine N4 ?_
 have I4:Inv X ol σ H3 {s3 with heap:=s3.heap.push {cls:=.type "slice",data:=.fields #[vl,vu,.none]}}:=I3.kept (t':=s3.toks) λb ob q=>NV _ q
 obtain⟨T,id,hT,ht,hg⟩:=hr ol {s3 with heap:=s3.heap.push {cls:=.type "slice",data:=.fields #[vl,vu,.none]}} σ H3 x v vl vu l u s3.heap.objs.size Q I4 r1 (Heap.IsSliceOf.new ..) pl pu q3
 show wpAny (model X.prog X.w) X.A (Ua e (.Slice lo hi ZB p2) v (.ref s3.heap.objs.size)) (EP X ol σ Q) X.xe {s3 with heap:=s3.heap.push {cls:=.type "slice",data:=.fields #[vl,vu,.none]}}
 exact tail_any (ops:=[.ref s3.heap.objs.size,v]) ht hT hg (by with_unfolding_all rfl)
def xj(xs:List V)(lo hi:Option Int):List V:=(xs.drop (HT.sIx xs.length 0 lo)).take (HT.sIx xs.length xs.length hi - HT.sIx xs.length 0 lo)
def nK(xs:List V)(lo hi:Option Int):(xj xs lo hi).length<=xs.length:=by
 unfold xj;rw[OS,Qt];omega
def rSlT(K:NI):V->Option Int->Option Int->Hp->VK->Prop:=λx lo hi H Q=>∃a xs,x=.ref a/\SqT K H a xs ∧
 ¬(HT.sIx xs.length 0 lo=0/\HT.sIx xs.length xs.length hi=xs.length)/\∀p,H p=ZB->Q (.ref p) (upd H p (.tup (xj xs lo hi)))
def sl_tup:SlR X (rSlT X.K):=by
 intro ol s σ H x v vl vu lo hi sl Q I rx hs pl pu h;obtain⟨a,xs,rfl,hx,hw,q⟩:=h;cases rx;obtain⟨its,r,ht,hz⟩:=I.tuple hx
 have hlen:its.toArray.size=xs.length:=by rw[N5];exact r.length.symm
 refine⟨"tuple",_,OU.lookup,ht.typeIs,?_⟩
 refine HT.getItem_tuple_cut ht hs pl pu (by rw[hlen];exact hw) ?_ (by rw[hlen];exact hz)
 rw[hlen];refine⟨.ref s.heap.objs.size,_,I.laid (t':=s.toks) (o:=.tup (xj xs lo hi)) (λb ob q=>NV _ q) (N3 _) ?_,rfl,q _ (I.hok.fresh (N3 _))⟩
 exact⟨OB (nK xs lo hi) hz,_,(r.drop (HT.sIx xs.length 0 lo)).take (HT.sIx xs.length xs.length hi - HT.sIx xs.length 0 lo),U1 _ _⟩
def K8(K:NI):R2:=λx y H Q=>∃a b xs ys,x=.ref a/\y=.ref b/\SqT K H a xs/\SqT K H b ys/\xs≠ []/\xs.length+ys.length<=sizeLine ∧
 (ys=[]->Q (.ref a) H)/\(ys≠ []->∀p,H p=ZB->Q (.ref p) (upd H p (.tup (xs++ys))))
def Vals.Da(r:Vals xs us):us=[] ↔xs=[]:=by
 cases r with
 |nil=>simp
 |cons _ _=>simp
def F6:qG X (PH .Add) (K8 X.K):=by
 intro ol s σ H x y v u Q I rx ry h;obtain⟨a,b,xs,ys,rfl,rfl,ha,hb,hx,hz,q1,q2⟩:=h;cases rx;cases ry;obtain⟨its,r1,p1,_⟩:=I.tuple ha;obtain⟨its2,r2,p2,_⟩:=I.tuple hb;refine HT.cat_tup p1 p2 (λz=>hx (r1.Da.mp z)) (λz=>⟨.ref a,H,I,rfl,q1 (r2.Da.mp z)⟩) (λz=>?_) (by rw[<-r1.length,<-r2.length];exact hz)
 refine⟨.ref s.heap.objs.size,_,I.laid (t':=s.toks) (o:=.tup (xs++ys)) (λb ob q=>NV _ q) (N3 _) ?_,rfl,q2 (λw=>z (r2.Da.mpr w)) _ (I.hok.fresh (N3 _))⟩
 exact⟨by rw[NT];exact hz,_,r1.append r2,U1 _ _⟩
end
def ixN(n:Nat)(i:Int):Option Nat:=if 0<=i then(if i<n then ZA i.toNat else ZB)else if -(n:Int)<=i then ZA (i+n).toNat else ZB
def atI{α:Type}(xs:List α)(i:Int):Option α:=(ixN xs.length i).bind λj=>xs[j]?
def Gx(h:ixN n i=ZA j):seqIndex? i n=ZA j/\j<n/\-(n:Int)<=i/\i<n:=by
 unfold ixN at h
 by_cases h0:0<=i
 ·rw[if_pos h0]at h
  by_cases h1:i<n
  ·rw[if_pos h1]at h
   have e:i.toNat=j:=Ou h;exact⟨by rw[seqIndex_of h0 h1,e],by omega,by omega,h1⟩
  ·rw[if_neg h1]at h;cases h
 ·rw[if_neg h0]at h
  by_cases h1 : -(n:Int)<=i
  ·rw[if_pos h1]at h
   have e:(i+n).toNat=j:=Ou h;exact⟨by rw[seqIndex_neg (by omega) h1,e],by omega,h1,by omega⟩
  ·rw[if_neg h1]at h;cases h
def u7{xs:List α}{v:α}(h:atI xs i=ZA v):∃j,seqIndex? i xs.length=ZA j/\xs[j]?=ZA v/\j<xs.length/\-(xs.length:Int)<=i/\i<xs.length:=by
 unfold atI at h
 cases e:ixN xs.length i with
 |none=>rw[e]at h;cases h
 |some j=>
  rw[e]at h;obtain⟨h1,h2,h3,h4⟩:=Gx e;exact⟨j,h1,h,h2,h3,h4⟩
def Ah(b:ZG):Prop:=∀o i,TC b ZD o i=operate [o,i] (getItem o i)
def IxR(X:Cx)(r:R2):Prop:=
 ∀(value slice:ZG)(ol:V2)(s:NO)(σ:St)(H:Hp)(x y:V)(v u:NK)(Q:VK),Inv X ol σ H s->RelV x v->RelV y u->r x y H Q →
  TC slice ZD v u=operate [v,u] (getItem v u)->wpAny (model X.prog X.w) X.A (Ua value slice v u) (EP X ol σ Q) X.xe s
def MT(X:Cx)(id:String)(r:V->List V->Hp->VK->Prop):Prop:=
 ∀(ol:V2)(s:NO)(σ:St)(H:Hp)(x:V)(xs:List V)(v:NK)(us:List NK)(Q:VK),Inv X ol σ H s->RelV x v->Vals xs us->r x xs H Q →
  wpAny (model X.prog X.w) X.A (call (.builtin id) (v::us)) (EP X ol σ Q) X.xe s
variable{H:Hp}{ol:V2}{σ:St}
section
variable {a b:ZG}{ta tb:TE}
def IxR.or{r r':R2}(h:IxR X r)(h':IxR X r'):IxR X (λx y H Q=>r x y H Q\/r' x y H Q):=by
 intro value slice ol s σ H x y v u Q I rx ry q hs;rcases q with q|q
 ·exact h value slice ol s σ H x y v u Q I rx ry q hs
 ·exact h' value slice ol s σ H x y v u Q I rx ry q hs
def K7(K:NI):R2:=λx y H Q=>∃p xs i v,x=.ref p/\y=.int i/\SqL K H p xs/\atI xs i=ZA v/\Q v H
def K5(K:NI):R2:=λx y H Q=>∃p xs i v,x=.ref p/\y=.int i/\SqT K H p xs/\atI xs i=ZA v/\Q v H
def K6:R2:=λx y H Q=>∃z i c,x=.str z/\y=.int i/\z.length<=sizeLine/\atI z.cps.toList i=ZA c/\Q (.str ⟨#[c]⟩) H
def ix_list:IxR X (K7 X.K):=by
 intro value slice ol s σ H x y v u Q I rx ry h hs;obtain⟨p,xs,i,z,rfl,rfl,hq,he,q⟩:=h;cases rx;obtain⟨t,rfl⟩:=ry;obtain⟨its,r,pl,hz⟩:=I.list hq;obtain⟨j,h1,h2,h3,h4,h5⟩:=u7 he;obtain⟨w,ew,rw'⟩:=r.get h2
 have hl:=r.length
 have hn:=pQ
 have fin:EP X ol σ Q w s:=⟨z,H,I,rw',q⟩
 by_cases h0:0<=i
 ·have hj:i.toNat=j:=by
   rw[seqIndex_of h0 h5]at h1;exact Ou h1
  exact item_listR pl.isList h0 (by omega) (by rw[hj];simpa using ew) fin hs
 ·have hj:(i+(its.toArray.size:Int)).toNat=j:=by
   rw[seqIndex_neg (by omega) h4]at h1
   rw[N5,<-hl];exact Ou h1
  exact SI (x:=w) pl.isList.typeIs slot_list_getitem.lookup
   (wpAny_getItem_list_neg (Q:=λr s'=>r=w/\EP X ol σ Q r s') pl.isList (by omega) (by rw[N5] <;> omega) (by omega) (by rw[hj];simpa using ew) ⟨rfl,fin⟩) hs
def ix_tup:IxR X (K5 X.K):=by
 intro value slice ol s σ H x y v u Q I rx ry h hs;obtain⟨p,xs,i,z,rfl,rfl,hq,he,q⟩:=h;cases rx;obtain⟨t,rfl⟩:=ry;obtain⟨its,r,pl,hz⟩:=I.tuple hq;obtain⟨j,h1,h2,h3,h4,h5⟩:=u7 he;obtain⟨w,ew,rw'⟩:=r.get h2
 have hl:=r.length
 have hn:=pQ
 have fin:EP X ol σ Q w s:=⟨z,H,I,rw',q⟩
 exact SI (x:=w) pl.typeIs slot_tuple_getitem.lookup
  (getItem_tuple (j:=j) (Q:=λr s'=>r=w/\EP X ol σ Q r s') pl (by omega) (by omega) (by rw[N5,<-hl];exact h1) (by simpa using ew) ⟨rfl,fin⟩) hs
def JU:IxR X K6:=by
 intro value slice ol s σ H x y v u Q I rx ry h hs;obtain⟨z,i,c,rfl,rfl,hz,he,q⟩:=h;obtain⟨t,rfl⟩:=rx;obtain⟨t',rfl⟩:=ry;obtain⟨j,h1,h2,h3,h4,h5⟩:=u7 he
 have hl:z.cps.toList.length=z.length:=by simp[Str.length]
 rw[hl]at h1 h4 h5
 have hn:=pQ
 exact tail_any (typeIs_str s z t) slot_str_getitem.lookup (getItem_str (c:=c) (by
  have e1:decide (i< -(2 ^ 63:Int))=ZD:=decide_eq_false (by omega)
  have e2:decide (i ≥ 2 ^ 63)=ZD:=decide_eq_false (by omega)
  rw[e1,e2,Bool.or_false]) (by rw[h1];simpa using h2) ⟨.str ⟨#[c]⟩,H,I.tok _,⟨_,rfl⟩,q⟩) hs
def rIx(K:NI):R2:=λx y H Q=>K7 K x y H Q\/K5 K x y H Q\/K6 x y H Q
def JV:IxR X (rIx X.K):=ix_list.or (ix_tup.or JU)
def sX(lo hi:Option Int)(n:Nat):(Rr lo hi ZB n).1=((HT.sIx n 0 lo:Nat):Int)/\(Rr lo hi ZB n).2.1=((HT.sIx n n hi:Nat):Int)/\(Rr lo hi ZB n).2.2=1:=by
 refine⟨?_,?_,rfl⟩
 ·cases lo with
  |none=>simp[Rr,HT.sIx]
  |some i=>
   simp only[Rr,HT.sIx,UJ,show(1:Int) > 0 by decide,if_true]
   by_cases h:i<0
   ·simp only[h,if_true] <;> omega
   ·simp only[h,if_false] <;> omega
 ·cases hi with
  |none=>simp[Rr,HT.sIx]
  |some i=>
   simp only[Rr,HT.sIx,UJ,show(1:Int) > 0 by decide,if_true]
   by_cases h:i<0
   ·simp only[h,if_true] <;> omega
   ·simp only[h,if_false] <;> omega
def qH(its:List NK)(lo hi:Option Int):slicePick its.toArray lo hi ZB=((its.drop (HT.sIx its.length 0 lo)).take (HT.sIx its.length its.length hi - HT.sIx its.length 0 lo)).toArray:=by
 obtain⟨h1,h2,h3⟩:=sX lo hi its.toArray.size;unfold slicePick;rw[h1,h2,h3];simp only[sliceRange_one,pick_run,N5] <;> rfl
def rSlL(K:NI):V->Option Int->Option Int->Hp->VK->Prop:=λx lo hi H Q=>∃a xs,x=.ref a/\SqL K H a xs/\∀p,H p=ZB->Q (.ref p) (upd H p (.lst (xj xs lo hi)))
def Ff:SlR X (rSlL X.K):=by
 intro ol s σ H x v vl vu lo hi sl Q I rx hs pl pu h;obtain⟨a,xs,rfl,hx,q⟩:=h;cases rx;obtain⟨its,r,ht,hz⟩:=I.list hx
 have hlen:=r.length;refine⟨"list",_,slot_list_getitem.lookup,ht.isList.typeIs,?_⟩
 refine wpAny_getItem_list_slice ht.isList hs pl pu .none (by simp) ?_ (by rw[N5] <;> omega)
 rw[qH,<-hlen];refine⟨.ref s.heap.objs.size,_,I.laid (t':=s.toks) (o:=.lst (xj xs lo hi)) (λb ob q=>NV _ q) (N3 _) ?_,rfl,q _ (I.hok.fresh (N3 _))⟩
 exact⟨OB (nK xs lo hi) hz,_,0,(r.drop (HT.sIx xs.length 0 lo)).take (HT.sIx xs.length xs.length hi - HT.sIx xs.length 0 lo),Oa _ rfl⟩
def call_len_seq:CallR X (.builtin "len") (λxs H Q=>∃p ys,xs=[.ref p]/\(SqL X.K H p ys\/SqT X.K H p ys)/\Q (.int ys.length) H):=by
 intro ol s σ H xs us Q I r h;obtain⟨p,ys,rfl,hq,q⟩:=h;obtain⟨u,rfl,rx⟩:=kO r;cases rx
 have hn:=pQ;rcases hq with hq|hq
 ·obtain⟨its,r',pl,hz⟩:=I.list hq
  have hlen:=r'.length;exact Calls.call_len_list pl.isList (by simp only[N5] <;> omega) ⟨.int ys.length,H,I.tok _,⟨s.toks+1,by rw[N5,hlen]⟩,q⟩
 ·obtain⟨its,r',pl,hz⟩:=I.tuple hq
  have hlen:=r'.length;exact len_tuple pl (by simp only[N5] <;> omega) ⟨.int ys.length,H,I.tok _,⟨s.toks+1,by rw[N5,hlen]⟩,q⟩
def u4:CallR X (.builtin "len") (λxs H Q=>∃z,xs=[.str z]/\z.length<=sizeLine/\Q (.int z.length) H):=by
 intro ol s σ H xs us Q I r h;obtain⟨z,rfl,hz,q⟩:=h;obtain⟨u,rfl,t,rfl⟩:=kO r
 have hn:=pQ;exact len_str (by omega) ⟨.int z.length,H,I.tok _,⟨_,rfl⟩,q⟩
def CallR.or{r r':List V->Hp->VK->Prop}(h:CallR X f r)(h':CallR X f r'):CallR X f (λxs H Q=>r xs H Q\/r' xs H Q):=by
 intro ol s σ H xs us Q I rs q;rcases q with q|q
 ·exact h ol s σ H xs us Q I rs q
 ·exact h' ol s σ H xs us Q I rs q
def ri:CallR X (.type "tuple") (λxs H Q=>∃p ys,xs=[.ref p]/\((SqL X.K H p ys/\∀l,H l=ZB->Q (.ref l) (upd H l (.tup ys)))\/(SqT X.K H p ys/\Q (.ref p) H))):=by
 intro ol s σ H xs us Q I r h;obtain⟨p,ys,rfl,h⟩:=h;obtain⟨u,rfl,rx⟩:=kO r;cases rx;rcases h with⟨hq,q⟩|⟨hq,q⟩
 ·obtain⟨its,r',pl,hz⟩:=I.list hq
  have hlen:=r'.length;refine call_tuple_list pl.isList (λh' kp=>?_) (by simp only[N5] <;> omega)
  have I1:Inv X ol σ H {s with heap:=h'}:=I.kept (t':=s.toks) kp
  have I2:Inv X ol σ (upd H h'.objs.size (.tup ys)) {s with heap:=h'.push {cls:=.type "tuple",data:=.seq its.toArray}}:=
   I1.laid (t':=s.toks) (λb o e=>NV _ e) (N3 _) (show ObjOk X.prog X.w _ _ _ (.tup ys)from⟨hz,its,r',U1 _ _⟩)
  exact⟨.ref h'.objs.size,_,I2,rfl,q _ (I1.hok.fresh (N3 _))⟩
 ·obtain⟨its,r',pl,hz⟩:=I.tuple hq
  exact call_tuple_same pl ⟨.ref p,H,I,rfl,q⟩
def tyV(K:NI)(T:String)(x:V)(H:Hp):Prop:=match x with
 |.str _=>T= "str"
 |.int _=>T= "int"
 |.ref p=>(T= "list"/\∃xs,SqL K H p xs)\/(T= "tuple"/\∃o,K.lookup p=ZA o/\o.cls=.type "tuple"/\o.dict=ZB) ∨
   (T= "dict"/\((∃kvs,H p=ZA (.dK kvs))\/∃kvs,H p=ZA (.dT kvs)))\/(T= "set"/\∃S n,H p=ZA (.set S n))
 |_=>False
def xH{T:String}{x:V}(I:Inv X ol σ H s)(r:RelV x v)(ty:tyV X.K T x H):
  s.TypeIs v T/\∀a,v=.ref a->∃ob,s.heap.get? a=ZA ob/\ob.dict=ZB:=by
 cases x with
 |str z=>
  obtain⟨t,rfl⟩:=r;cases (show T= "str" from ty)
  exact⟨typeIs_str s z t,λ_ e=>nomatch e⟩
 |int i=>
  obtain⟨t,rfl⟩:=r;cases (show T= "int" from ty)
  exact⟨S9 s i t,λ_ e=>nomatch e⟩
 |ref p=>
  cases r;rcases ty with⟨rfl,xs,hq⟩|⟨rfl,o,hk,hc,hd⟩|⟨rfl,hk⟩|⟨rfl,S,n,hk⟩
  ·obtain⟨its,_,pl,_⟩:=I.list hq
   refine⟨pl.isList.typeIs,λa e=>?_⟩
   cases e;obtain⟨o,n,e,c,hd,_⟩:=pl;exact⟨o,e,hd⟩
  ·refine⟨⟨o,I.kIn p o hk,hc⟩,λa e=>?_⟩
   cases e;exact⟨o,I.kIn _ o hk,hd⟩
  ·have z:∃o,s.heap.get? p=ZA o/\o.ExactDict:=by
    rcases hk with⟨kvs,hk⟩|⟨kvs,hk⟩
    ·obtain⟨_,_,_,_,o,_,_,e,ex,_⟩:=I.hok p _ hk
     exact⟨o,e,ex⟩
    ·obtain⟨_,_,_,_,o,_,_,e,ex,_⟩:=I.hok p _ hk
     exact⟨o,e,ex⟩
   obtain⟨o,e,ex⟩:=z;refine⟨⟨o,e,ex.1⟩,λa e2=>?_⟩
   cases e2;exact⟨o,e,ex.2.1⟩
  ·obtain⟨o,_,_,_,e,ex,_⟩:=I.hok p _ hk
   refine⟨⟨o,e,ex.1⟩,λa e2=>?_⟩
   cases e2
   exact⟨o,e,ex.2.1⟩
 |_=>exact P4 ty
def tBM0(K:NI)(T:String)(r:V->List V->Hp->VK->Prop)(to:TE):TE:=λσ H Q=>to σ H λx H1=>tyV K T x H1/\r x [] H1 Q
def tBM(K:NI)(T:String)(r:V->List V->Hp->VK->Prop)(to:TE)(t:TA):TE:=λσ H Q=>to σ H λx H1=>tyV K T x H1/\t σ H1 λxs H2=>r x xs H2 Q
variable {o:ZG}{es:List ZG}{to:TE}{t:TA}{name:Str}{apos cpos:Pos}{T id:String}{r:V->List V->Hp->VK->Prop}
def Je(pa:PlainAttrs T)(slot:Slot T name id)(hty:typeOf (.builtin id)=pure (.type "method_descriptor"))(hm:MT X id r)(ho:PE X o to)
  (hbase:autoParam (On o name X.env (eval o X.env)=eval o X.env) aqd._auto_1) (hline:autoParam ((apos.endLine == cpos.line)=ZC) aqd._auto_1):PE X (.Call (.Attribute o name apos) [] [] cpos) (tBM0 X.K T r to):=by
 intro ol s σ H Q I h;refine wpAny_Call_method0_late hbase hline (bU (ho ol s σ H _ I h) λv s1 hh_=>?_)
 obtain⟨x,H1,I1,r1,ty,q1⟩:=hh_;obtain⟨h1,h2⟩:=xH I1 r1 ty;exact⟨T,id,pa,slot,hty,h1,h2,Qv rfl (PySem.evalArgs_none (hm ol s1 σ H1 x [] v [] Q I1 r1 .nil q1))⟩
def vY(pa:PlainAttrs T)(slot:Slot T name id)(hty:typeOf (.builtin id)=pure (.type "method_descriptor"))(hm:MT X id r)(ho:PE X o to)(ha:PA X (e::es) t)
  (hbase:autoParam (On o name X.env (eval o X.env)=eval o X.env) aqd._auto_1)
  (hfew:((backTo cpos (NW (e::es) X.env)).all (λx=>!x.1)&&(R5 cpos (QH [] X.env)).all (λx=>x.1.isSome)
   &&decide ((e::es).length+([]:List Vd).length+(if ([]:List Vd).isEmpty then 0 else 1)<30))=ZC:=by rfl)
  (hline:autoParam ((apos.endLine == cpos.line)=ZC) aqd._auto_1) (hs:autoParam (NW (e::es) X.env=(ZD,eval e X.env)::NW es X.env) aqd._auto_1) (hplain:autoParam ((backTo cpos (NW es X.env)).any (·.1)=ZD) aqd._auto_1):
  PE X (.Call (.Attribute o name apos) (e::es) [] cpos) (tBM X.K T r to t):=by
 intro ol s σ H Q I h;refine SJ hbase hfew hline rfl (bU (ho ol s σ H _ I h) λv s1 hh_=>?_)
 obtain⟨x,H1,I1,r1,ty,q1⟩:=hh_;obtain⟨h1,h2⟩:=xH I1 r1 ty;refine⟨T,id,pa,slot,hty,h1,h2,?_⟩
 have hA:=ha cpos ol s1 σ H1 _ I1 q1;rw[hs]at hA ⊢;refine Qv (by show(ZD||(backTo cpos (NW es X.env)).any (·.1))=ZD;rw[hplain] <;> rfl) (QV ?_)
 exact bU hA λus s2 ⟨vs,H2,I2,r2,q2⟩=>hm ol s2 σ H2 x vs v us Q I2 r1 r2 q2
end
def MtM(X:Cx)(id:String)(r:V->List V->Hp->VK->Prop):Prop:=
 ∀(ol:V2)(s:NO)(σ:St)(H:Hp)(x:V)(xs:List V)(v:NK)(us:List NK)(Q:VK),Inv X ol σ H s->RelV x v->Vals xs us->r x xs H Q →
  wpAny (model X.prog X.w) X.A (call (.builtin id) (v::us)) (EP X ol σ Q) X.xe s
theorem Vals.one:∀{x:V}{us:List NK},Vals [x] us->∃u,us=[u]/\RelV x u
 |_,_,.cons r .nil=>⟨_,rfl,r⟩
theorem Vals.zero:∀{us:List NK},Vals [] us->us=[]
 |_,.nil=>rfl
def Vals.dropLast(h:Vals xs us):Vals xs.dropLast us.dropLast:=by
 induction h with
 |nil=>exact .nil
 |cons r t ih=>
  cases t with
  |nil=>exact .nil
  |cons q t'=>exact .cons r ih
theorem Vals.rep(h:Vals xs us):∀k:Nat,Vals (N9 k xs).flatten (N9 k us).flatten
 |0=>.nil
 |k+1=>by
  rw[Pz,Pz,Qn,Qn];exact Vals.append h (Vals.rep h k)
def yJ(l:List α):l.eraseIdx (l.length - 1)=l.dropLast:=by
 induction l with
 |nil=>rfl
 |cons a r ih=>
  cases r with
  |nil=>rfl
  |cons b r=>
   have e:(a::b::r).length - 1=((b::r).length - 1)+1:=by
    have h1:(a::b::r).length=r.length+2:=rfl
    have h2:(b::r).length=r.length+1:=rfl;omega
   rw[e,List.eraseIdx_cons_succ,ih]
   all_goals rfl
theorem foldl_rep(its:List NK):∀(k:Nat)(acc:List NK),
  Si (λx1 x2=>x1++x2) acc.toArray (N9 k its.toArray)=(acc++(N9 k its).flatten).toArray
 |0,acc=>by simp
 |k+1,acc=>by
  have e:acc.toArray++its.toArray=(acc++its).toArray:=by simp
  have e2:(acc++its)++(N9 k its).flatten=acc++(N9 (k+1) its).flatten:=by
   rw[Pz,Qn,Om]
  rw[<-e2,<-foldl_rep its k (acc++its),<-e,Pz,U2]
section
variable {l b:ZE}{ys zs:List V}
def Inv.Nt{its':List NK}{f:Array NK->Array NK}(I:Inv X ol σ H s)(hH:H l=ZA (.lst xs))
  (e:s.heap.get? l=ZA {cls:=.type "list",data:=.seq its.toArray n}) (hf:f its.toArray=its'.toArray) (hv:Vals ys its') (hz:ys.length<=sizeLine):
  Inv X ol σ (upd H l (.lst ys)) {s with heap:=s.heap.update l (Obj.mapSeq f),toks:=t'}:=by
 have q:=PySem.IsL.update e f;rw[hf]at q;refine I.write (x:=l) (e:=l) (by rw[hH];exact trivial) (.inl rfl) (λb' u hb hu=>(Qw s.heap (Obj.mapSeq f) (OZ hb)).trans hu) ⟨_,q⟩ ?_
 exact⟨hz,its',_,hv,q⟩
def Inv.Nr(I:Inv X ol σ H s)(hv:Vals ys its)(hz:ys.length<=sizeLine):
  Inv X ol σ (upd H s.heap.objs.size (.lst ys)) {s with heap:=s.heap.push {cls:=.type "list",data:=.seq its.toArray},toks:=t'}:=
 I.laid (λ_ _ q=>NV _ q) (N3 _) ⟨hz,its,0,hv,Oa _ rfl⟩
theorem Inv.fresh(I:Inv X ol σ H s):H s.heap.objs.size=ZB:=I.hok.fresh (N3 _)
def Inv.MZ(I:Inv X ol σ H s)(hH:H l=ZA (.lst xs)):xs.length<=sizeLine/\∃(its:List NK)(n:Nat),Vals xs its/\xs.length=its.length/\s.heap.get? l=ZA {cls:=.type "list",data:=.seq its.toArray n}:=by
 obtain⟨z,its,n,r,e⟩:=I.hok l _ hH;exact⟨z,its,n,r,r.length,e⟩
def wc(h:n<=sizeLine):Ql n=ZD:=by
 unfold Ql;exact decide_eq_false (by omega)
end
def Ft:V->List V->Hp->VK->Prop:=λx vs H Q=>∃l xs y,x=.ref l/\vs=[y]/\H l=ZA (.lst xs)/\xs.length<sizeLine/\Q .non (upd H l (.lst (xs++[y])))
def mV:MtM X "list.append" Ft:=by
 intro ol s σ H x vs v us Q I rx rv h;obtain⟨l,xs,y,rfl,rfl,hH,hz,q⟩:=h;cases rx;obtain⟨u,rfl,ru⟩:=rv.one;obtain⟨z,its,n,r,hl,e⟩:=I.MZ hH;refine QU F.slot_list_append ⟨_,e,rfl⟩ F.entry_list_append (F.args_list_append_2 _ _) (PySem.list_append l its.toArray n u (by rw[N5];omega)) ⟨e,?_⟩
 refine⟨.non,_,I.Nt (its':=its++[u]) hH e (by simp) (r.append (.cons ru .nil)) ?_,rfl,q⟩
 rw[NT,Pm];omega
def Fq:V->List V->Hp->VK->Prop:=λx vs H Q=>∃l b xs zs,x=.ref l/\vs=[.ref b]/\H l=ZA (.lst xs)/\H b=ZA (.lst zs)/\xs.length+zs.length<=sizeLine/\Q .non (upd H l (.lst (xs++zs)))
def AL:MtM X "list.extend" Fq:=by
 intro ol s σ H x vs v us Q I rx rv h;obtain⟨l,b,xs,zs,rfl,rfl,hH,hB,hz,q⟩:=h;cases rx;obtain⟨u,rfl,ru⟩:=rv.one;cases ru;obtain⟨z,its,n,r,hl,e⟩:=I.MZ hH;obtain⟨z2,its2,n2,r2,hl2,e2⟩:=I.MZ hB
 have hsz:its.toArray.size+its2.toArray.size<=sizeLine:=by rw[N5,N5];omega
 have hlong:¬ (!its.toArray.isEmpty&&Ql (its.toArray.size+its2.toArray.size))=ZC:=by
  rw[wc hsz,Bool.and_false];exact NZ
 refine QU F.slot_list_extend ⟨_,e,rfl⟩ F.entry_list_extend (F.args_list_extend_2 _ _)
  (AutoSeq1.list_extend_list_list_0 l its.toArray n b its2.toArray n2 hlong (by rw[N5];omega) (by omega)) ⟨e,e2,?_⟩
 refine⟨.non,_,I.Nt (its':=its++its2) hH e (by simp) (r.append r2) ?_,rfl,q⟩
 rw[NT];omega
def rPop:V->List V->Hp->VK->Prop:=λx vs H Q=>∃l xs y,x=.ref l/\vs=[]/\H l=ZA (.lst xs)/\xs[xs.length - 1]?=ZA y/\Q y (upd H l (.lst xs.dropLast))
def Jw:MtM X "list.pop" rPop:=by
 intro ol s σ H x vs v us Q I rx rv h;obtain⟨l,xs,y,rfl,rfl,hH,hy,q⟩:=h;cases rx
 have hus:=rv.zero;subst hus;obtain⟨z,its,n,r,hl,e⟩:=I.MZ hH;obtain⟨u,hu,ru⟩:=r.get hy
 have hy':its.toArray[its.toArray.size - 1]?=ZA u:=by
  show its.toArray[its.length - 1]?=ZA u
  rw[<-Array.getElem?_toList,<-hl]
  exact hu
 refine QU F.slot_list_pop ⟨_,e,rfl⟩ F.entry_list_pop (F.args_list_pop_1 _) (MeetsSeq.list_pop_last l its.toArray n u hy' (by rw[N5];omega)) ⟨e,?_⟩
 refine⟨y,_,I.Nt (its':=its.dropLast) hH e ?_ r.dropLast ?_,ru,q⟩
 ·show its.toArray.eraseIdxIfInBounds (its.toArray.size - 1)=its.dropLast.toArray
  rw[N5,List.eraseIdxIfInBounds_toArray,yJ]
 ·rw[List.length_dropLast]
  omega
def rCat:R2:=λx y H Q=>∃l b xs zs,x=.ref l/\y=.ref b/\H l=ZA (.lst xs)/\H b=ZA (.lst zs)/\xs.length+zs.length<=sizeLine/\∀p,H p=ZB->Q (.ref p) (upd H p (.lst (xs++zs)))
def CO:qG X (PH .Add) rCat:=by
 intro ol s σ H x y v u Q I rx ry h;obtain⟨l,b,xs,zs,rfl,rfl,hH,hB,hz,q⟩:=h;cases rx;cases ry;obtain⟨z,its,n,r,hl,e⟩:=I.MZ hH;obtain⟨z2,its2,n2,r2,hl2,e2⟩:=I.MZ hB;refine PySem.P.add_list e e2 ?_ (by rw[N5,N5];omega)
 have ea:its.toArray++its2.toArray=(its++its2).toArray:=by simp
 rw[ea];exact⟨.ref _,_,I.Nr (t':=s.toks) (r.append r2) (by rw[NT];omega),rfl,q _ I.fresh⟩
def rRep:R2:=λx y H Q=>∃l k xs,x=.ref l/\y=.int k/\H l=ZA (.lst xs)/\-(2 ^ 63)<=k/\k<2 ^ 63/\xs.length*k.toNat<=sizeLine ∧
 ∀p,H p=ZB->Q (.ref p) (upd H p (.lst (N9 k.toNat xs).flatten))
def len_rep(xs:List α)(k:Nat):(N9 k xs).flatten.length=k*xs.length:=by
 induction k with
 |zero=>simp
 |succ k ih=>rw[Pz,Qn,NT,ih,Nat.succ_mul,UA]
def Ji:qG X (PH .Mult) rRep:=by
 intro ol s σ H x y v u Q I rx ry h;obtain⟨l,k,xs,rfl,rfl,hH,h1,h2,hz,q⟩:=h;cases rx;obtain⟨t,rfl⟩:=ry;obtain⟨z,its,n,r,hl,e⟩:=I.MZ hH
 have hlen:its.toArray.size*k.toNat<=sizeLine:=by rw[N5,<-hl];exact hz
 have hcap:¬ its.toArray.size*k.toNat > (2 ^ 63 - 1) / 8:=by
  have:(sizeLine:Nat)<=(2 ^ 63 - 1) / 8:=by decide
  omega
 have hfit:¬ (!Builtin.List.listFitsIndex k)=ZC:=by
  rw[fitsIndex_both h1 h2];exact NZ
 have hlong:¬ Ql (its.toArray.size*k.toNat)=ZC:=by
  rw[wc hlen];exact NZ
 have hnew:Si (λx1 x2=>x1++x2) #[] (N9 (if its.toArray.isEmpty=ZC then 0 else k.toNat) its.toArray)=(N9 k.toNat its).flatten.toArray:=by
  have f0:∀m:Nat,Si (λx1 x2=>x1++x2) #[] (N9 m its.toArray)=(N9 m its).flatten.toArray:=λm=>by
   have:=foldl_rep its m [];rw[Po]at this;exact this
  rw[f0]
  cases its with
  |nil=>simp
  |cons a r'=>rw[if_neg (by simp)]
 refine R8 (T:="list") (U:="int") (by decide) ⟨_,e,rfl⟩ (λs'=>S9 s' k t) noFill_list_mul U3 RN repeat_list UK.lookup
  (QU RN (S9 s k t) UL (Uh _ _) (int___rmul___int_list k t l its.toArray n)
   ⟨e,rfl,⟨_,e,rfl⟩,QU F.slot_list_mul ⟨_,e,rfl⟩ F.entry_list_mul (F.args_list_mul_2 _ _) (TL l its.toArray n k t hfit hcap hlong) ⟨e,?_⟩⟩)
 rw[hnew];exact⟨.ref _,_,I.Nr (t':=s.toks) (r.rep k.toNat) (by rw[len_rep,UB];exact hz),rfl,q _ I.fresh⟩
end L2
namespace Att
open PySem PySem.W PySem.Calls PyProof.Rows
variable{P:Params}{h:ZH}
def nX:∀(ns:List Int)(vs:List NK),WellAll P h vs (ns.map WData.int)->RG vs ns:=by
 intro ns
 induction ns with
 |nil=>
  intro vs w;rw[SN]at w;cases w
  exact .nil
 |cons n ns ih=>
  intro vs w;rw[NM]at w
  cases w with
  |cons a b=>
   cases a;exact .cons _ _ (ih _ b)
variable{l:OpenLaw}
def Av(hn:l.most=ZA n){args:List WData}{vals:List NK}
  (hpre:l.row.toRowW.claim.pre args=ZC) (hwl:WellAll P h vals args):
  ∃a vs ns,vals=[N1 a]/\args=[WData.list (ns.map WData.int)]/\h.get? a=ZA {cls:=.type "list",data:=.seq vs.toArray}/\RG vs ns/\ns.length<=n:=by
 have hsh:WShape.hasAll [] args [.list .int]=ZC:=(pre_splitW hpre).1
 have hc:l.pre.holds [] {args:=args}=ZC:=(pre_splitW hpre).2;obtain⟨d,r,rfl,h1,h2⟩:=hasAllW_cons hsh;obtain rfl:=hasAllW_nil h2;obtain⟨xs,rfl,h3⟩:=hasW_list h1;obtain⟨ns,rfl⟩:=items_int h3
 have hlen:ns.length<=n:=by
  unfold OpenLaw.pre at hc
  have h4:(WTm.not (.lt (.lit (.int (n:Int))) (.len (.arg 0)))).holds [] {args:=[.list (ns.map .int)]}=ZC:=by
   have h4:=(holds_andW hc).1;rw[hn]at h4;exact h4
  have h5:=condW_of h4 (w_not (w_lt w_lit (w_len_list (w_arg rfl))));rw[NP]at h5;refine Nat.le_of_not_lt λq=>?_
  have q':(n:Int)<((ns.length:Nat):Int):=by omega
  first
   | (rw[decide_eq_true q']at h5;exact absurd h5 (by decide))
   | (simp at h5;omega)
 cases hwl with
 |cons w1 w2=>
  cases w2
  cases w1 with
  |list ho hall=>exact⟨_,_,ns,rfl,rfl,ho,nX ns _ hall,hlen⟩
def AB(l:OpenLaw)(args:List WData):l.row.toRowW.claim.post args (.bool ZC) args=ZC:=
 postW_of (r:=l.row.toRowW) (X:=(ZC == ZC))
  (show WShape.has [] (.bool ZC) .bool=ZC by first|rfl|decide|simp[WShape.has,WShape.arms,WShape.armsAll])
  (show(WTm.eq .res (.lit (.bool ZC))).value [] {args:=args,res:=ZA (.bool ZC),after:=args}=ZA (.bool (ZC == ZC))from w_eq_bool (w_res rfl) w_lit) rfl
def attach_call{loose:List Str}{XP:(V0)->ZH->Prop}{YP:OV->ZH->Prop}{d:DefRec}
  (hn:l.most=ZA n) (hdf:d.params.defaults=[])
  (call:∀(w:OV)(s₀ s₁:NO)(mg mb:V0)(fa:ZE)(o:Obj)(pm cd doc:NK)(a:ZE)(vs:List NK)(ns:List Int),
   Ground q loose [] XP w s₀ mg mb s₁.heap->YP w s₁.heap →
   s₁.heap.get? fa=ZA o->o.data=.func (docDef d.name d.params d.body d.scope pm cd doc)->s₁.heap.CodeRec cd d.name->mg d.name=ZA (.ref fa) →
   s₁.heap.get? a=ZA {cls:=.type "list",data:=.seq vs.toArray}->RG vs ns->ns.length<=n->s₁.gens= #[] →
   codeAny (model l.prog w) callerA (.call (.ref fa) ⟨[.ref a],[]⟩) (λr s'=>r=.ok (.ret (.bool ZC))/\OldK s₁.heap s'.heap/\s'.os=s₁.os/\Sy s'.gens) s₁):
  WalkO q loose XP YP l.row.toRowW d [] (λf vs=>PySem.call f vs):=by
 intro w s₀ s₁ mg mb G Y fa o pm cd doc dV kV ho hd hcd hD hmg hg args vals as hpre hlay hrd hwl hlo;obtain rfl:dV=.none:=Dflts.none hD hdf;obtain rfl:kV=.none:=Dflts.noKw hD;obtain⟨a,vs,ns,rfl,rfl,hobj,hints,hlen⟩:=Av hn hpre hwl;refine enter_call (Qa (call w s₀ s₁ mg mb fa o pm cd doc a vs ns G Y ho (fd_plain hd) hcd hmg hobj hints hlen hg) λr s' hq=>?_)
 obtain⟨rfl,h2,h3,h4⟩:=hq;exact⟨.inl ⟨.bool ZC,.bool ZC,[],rfl,λ_=>rfl,.bool ZC,AB l _,λ_=>⟨List.Pairwise.nil,λ_ hm=>(nomatch hm)⟩⟩,h2,h3,h4⟩
end Att
namespace L2
open PySem PySem.Spec PyProof.Rows
theorem rC:∀{vs:List NK}{ns:List Int},RG vs ns->Vals (ns.map V.int) vs
 |_,_,.nil=>.nil
 |_,_,.cons n t h=>.cons ⟨t,rfl⟩ (rC h)
def Ku(H:Hp):Prop:=∀b,H b=ZB\/∃o xs,H b=ZA (.frz o (.lst xs))
variable{mg:V0}{sp:Sp}{x:Str}
def Dg{mb:V0}{CX:Bu}{fa a:ZE}{s₁:NO}
  (KX:K.In s₁.heap) (hns:s₁.heap.Ns Ox mg) (hb:s₁.heap.Ns Sk mb) (hbb:∀x:Str,x≠ "__name__"->mb x=OF x) (hlim:s₁.heap.NoLimit) (hg:s₁.gens= #[])
  (ha:s₁.heap.get? a=ZA {cls:=.type "list",data:=.seq vs.toArray}) (hi:RG vs ns) (hl:ns.length<=sizeLine) (hr:Room k callerA)
  (F:∀base:ZH,K.In base->base.Ns Ox mg->FnOk P w K mg base CX k fa fd [x] sp) (hbind:∀(s:NO)(u:NK),R7 s fd ⟨[u],[]⟩ [(x,u)])
  (hsp:∀H:Hp,Ku H->SqL K H a (ns.map V.int)->sp [.ref a] H (λv _=>v=.bl ZC) λ_ _ _=>False)
  (hCX:∀H e s',CX [] H s₁ (λ_ _ _=>False) e s'->False):
  codeAny (model P w) callerA (.call (.ref fa) ⟨[.ref a],[]⟩) (λr s'=>r=.ok (.ret (.bool ZC))/\OldK s₁.heap s'.heap/\s'.os=s₁.os/\Sy s'.gens) s₁:=by
 have rv:=rC hi
 have lenV:=hi.length
 -- from an abstract heap in which nothing but the script may be tracked
 have core:∀H:Hp,Ku H->SqL K H a (ns.map V.int)->HOk P w H s₁.heap->(∀b,H b≠ZB->b=a)->(H a≠ZB->K.lookup a=ZB) →
   codeAny (model P w) callerA (.call (.ref fa) ⟨[.ref a],[]⟩) (λr s'=>r=.ok (.ret (.bool ZC))/\OldK s₁.heap s'.heap/\s'.os=s₁.os/\Sy s'.gens) s₁:=by
  intro H hO hS hok hA hK
  have base_of:∀{b:ZE}{o:Obj},s₁.heap.get? b=ZA o->H b=ZB->(uR s₁.heap H).get? b=ZA o:=λe n=>DF e n
  have noA:∀{b:ZE}{o:Obj}{es:Array DictEntry}{ep:Nat},s₁.heap.get? b=ZA o->o.data=.dict es ep->H b=ZB:=λ{b o es ep} e d=>by
   cases q:H b with
   |none=>rfl
   |some u=>
    have e':b=a:=hA b (by rw[q];simp)
    subst e';rw[ha]at e;cases e
    have d':Data.seq vs.toArray _=Data.dict es ep:=d;cases d'
  have nsK:∀{b:ZE}{m:V0},s₁.heap.Ns b m->(uR s₁.heap H).Ns b m:=λ{b m} ⟨o,es,ep,e,d,r⟩=>⟨o,es,ep,base_of e (noA e d),d,r⟩
  have hKb:K.In (uR s₁.heap H):=λb o e=>base_of (KX b o e) (by
   cases q:H b with
   |none=>rfl
   |some u=>
    have e':b=a:=hA b (by rw[q];simp)
    subst e';rw[hK (by rw[q];simp)]at e;cases e)
  have hM:Mod K mg (uR s₁.heap H):=⟨hKb,nsK hns,⟨mb,nsK hb,hbb⟩,let ⟨mc,h1,h2⟩:=hlim;⟨mc,nsK h1,h2⟩⟩
  have e0:Env0 P w K mg (uR s₁.heap H) callerA [] s₁ H:=⟨rfl,hM,λb o e=>F7 e,Rw (A0 _ _),trivial,λb hb=>absurd (show b∈([]:List ZE)from hb) (by simp),hok,.of_eq hg⟩
  refine Qa ((F _ hKb (nsK hns)).run callerA [] s₁ H ⟨[.ref a],[]⟩ [.ref a] [.ref a] _ _ hr e0 (hbind s₁ (.ref a)) (.cons rfl .nil) (hsp H hO hS)) λr s' h=>?_
  cases r with
  |error e=>exact(hCX H e s' h).elim
  |ok fl=>
   cases fl with
   |next=>exact P4 h
   |brk=>exact P4 h
   |cont=>exact P4 h
   |ret u=>
    obtain⟨v,H',os,bare,un,hok',r',q⟩:=h
    have q':v=.bl ZC:=q;subst q';obtain rfl:u=OI ZC:=r';refine⟨rfl,OldK.of_keep λb o e=>?_,os,bare⟩
    cases q:H b with
    |none=>exact un.keep b o e q (by intro z;exact absurd (show b∈([]:List ZE)from z) (by simp)) (by simp)
    |some u=>
     rcases hO b with z|⟨ob,xs,z⟩
     ·rw[q]at z;cases z
     ·have z2:=un.frzs b ob _ z
      obtain⟨e1,_⟩:=hok b _ z;obtain⟨e2,_⟩:=hok' b _ z2;rw[e]at e1;cases e1;exact e2
 cases hk:K.lookup a with
 |some o=>
  -- the script is one of the module's own objects
  have e:=KX a o hk;rw[ha]at e;cases e
  refine core (λ_=>ZB) (λ_=>.inl rfl) (.inr ⟨_,vs.toArray,_,hk,rfl,rfl,rfl,by rw[N5,lenV];exact hl,by simpa using rv⟩) (λb u z=>by have z':(ZB:Option HO)=ZA u:=z;cases z') (λb z=>absurd rfl z) λz=>absurd rfl z
 |none=>
  refine core (λb=>if b=a then ZA (.frz {cls:=.type "list",data:=.seq vs.toArray} (.lst (ns.map V.int)))else ZB) (λb=>?_) (.inl (.inr ⟨{cls:=.type "list",data:=.seq vs.toArray},if_pos rfl⟩)) (λb u z=>?_) (λb z=>?_) λ_=>hk
  ·by_cases hb:b=a
   ·exact .inr ⟨_,_,if_pos hb⟩
   ·exact .inl (if_neg hb)
  ·by_cases hb:b=a
   ·have z':=(if_pos hb).symm.trans z
    cases z';subst hb;exact⟨ha,by rw[NP];exact hl,vs,_,rv,ha⟩
   ·have z':=(if_neg hb).symm.trans z
    cases z'
  ·by_cases hb:b=a
   ·exact hb
   ·exact absurd (if_neg hb) z
abbrev CX0:Bu:=λ_ _ _ _ _ _=>False
abbrev E0:XK:=λ_ _ _=>False
variable{X:Cx}
def vZ:yV CX0 X E0:=λ_ _ _ _ _ _ _ h=>h.elim
structure Fun (K:NI)(x qual:Str)(st:ZF)(f:ZE)(fd:Ot):Prop where
 ex:∃(oc:NK)(od:Option ZE)(kV doc pm:NK)(an:Option ZE)(cdv ct:NK)(osl:Array (Option NK)),
  fd=Rt x qual (gD st) (bD st) (aj st) .none kV doc pm an cdv ct/\K.lookup f=ZA ⟨oc,od,.func fd,osl⟩/\Tg K cdv qual=ZC
 kp:PF K (.ref f)=ZC
variable{f:ZE}{ps:List Str}{qual:Str}{st:ZF}
section
variable {base:ZH}
def Fun.ok{N:List Str}(F:Fun K x qual st f fd)(S:aA N ps (aj st))(len:∀vs H Q E,sp vs H Q E->vs.length=ps.length)
  (hbody:∀(cdv:NK)(A:Oq)(outer:List Env)(s:NO)(H:Hp)(vs:List V)(Q:VK)(E:XK),Room k (A.deeper (envOfC qual (aj st) s.heap.objs.size f cdv))->sp vs H Q E →
   ∃t,PSs (gn CX0 P w K mg base N qual (aj st) f cdv A outer s H E).nox (bD st) t/\t {nx:=λ_ H'=>Q .non H',rt:=Q} (start N vs) H):FnOk P w K mg base CX0 (k+1) f fd ps sp:=by
 obtain⟨oc,od,kV,doc,pm,an,cdv,ct,osl,rfl,lk,hcd⟩:=F.ex;refine Mo lk hcd S len λA outer s H vs Q E hr hsp=>?_
 obtain⟨t,h,q⟩:=hbody cdv A outer s H vs Q E hr hsp;exact⟨t,h.nox,q⟩
def Fun.binds(F:Fun K x qual st f fd)
  (h:∀(kV doc pm:NK)(an:Option ZE)(cdv ct:NK)(us:List NK),us.length=ps.length->UX (Rt x qual (gD st) (bD st) (aj st) .none kV doc pm an cdv ct) ⟨us,[]⟩=pure (ps.zip us)):Binds K fd ps []:=by
 obtain⟨oc,od,kV,doc,pm,an,cdv,ct,osl,rfl,lk,hcd⟩:=F.ex;exact .all (h kV doc pm an cdv ct)
def DM{oc:NK}{od an:Option ZE}{osl:Array (Option NK)}{kV doc pm cdv ct:NK}(l:K.lookup f=ZA ⟨oc,od,.func (Rt x qual (gD st) (bD st) (aj st) .none kV doc pm an cdv ct),osl⟩)
  (c:Tg K cdv qual=ZC) (k:PF K (.ref f)=ZC):Fun K x qual st f (Rt x qual (gD st) (bD st) (aj st) .none kV doc pm an cdv ct):=⟨⟨oc,od,kV,doc,pm,an,cdv,ct,osl,rfl,l,c⟩,k⟩
end
variable{pos:Pos}
def pv(i:Nat)(hN:autoParam (X.N[i]?=ZA x) aqd._auto_1)(hv:autoParam (lJ X.env.scope x) aqe._auto_1)(hd:autoParam ((x == ("__debug__" : Str))=ZD) aqb._auto_1)
  (hcd:autoParam ((x == ("__classdict__" : Str))=ZD) aqb._auto_1):PE X (.Name x pos) (oQ i):=eF hN hv hd hcd
def iteF{A B:Prop}(h:B):if ZD=ZC then A else B:=by
 rw[if_neg NZ];exact h
def iteT{A B:Prop}(h:A):if ZC=ZC then A else B:=by
 rw[if_pos rfl];exact h
def Same(H H':Hp):Prop:=∀b o,H b=ZA o->H' b=ZA o
def Same.refl(H:Hp):Same H H:=λ_ _ h=>h
def Same.trans{H H1 H2:Hp}(a:Same H H1)(b:Same H1 H2):Same H H2:=λc o h=>b c o (a c o h)
variable{env:Env}
theorem lG:∀(names:List (Str×QQ))(acc:List (Str×ZE)),
  (∀x,(x,OA)∈names->∃c,env.cells.lookup x=ZA c) →
  (∀x c,acc.lookup x=ZA c->env.cells.lookup x=ZA c) →
  ∃cl,(forIn (m:=Sem) names acc (λx cs=>(if (x.2 == OA)=ZC then do let a <-cellOf env x.1;pure (Qz ((x.1,a)::cs))else pure (Qz cs))))=pure cl ∧
   (∀x c,cl.lookup x=ZA c->env.cells.lookup x=ZA c) ∧
   (∀x,(x,OA)∈names->∃c,cl.lookup x=ZA c)/\(∀x c,acc.lookup x=ZA c->∃c',cl.lookup x=ZA c')
 |[],acc,_,h=>⟨acc,rfl,h,λx hx=>by simp at hx,λx c e=>⟨c,e⟩⟩
 | (n,k)::r,acc,hf,h=>by
  by_cases hk:k=OA
  ·subst hk
   obtain⟨c,hc⟩:=hf n (by simp)
   have h':∀x c',((n,c)::acc).lookup x=ZA c'->env.cells.lookup x=ZA c':=λx c' e=>by
    rw[OJ]at e
    cases q:x == n with
    |true=>
     rw[q]at e
     have e2:c=c':=Ou e
     have e3:x=n:=by simpa using q
     rw[<-e2,e3];exact hc
    |false=>rw[q]at e;exact h x c' e
   obtain⟨cl,e1,e2,e3,e4⟩:=lG r ((n,c)::acc) (λx hx=>hf x (NJ _ hx)) h'
   refine⟨cl,?_,e2,λx hx=>?_,λx c' e=>?_⟩
   ·rw[U4]
    simp only[beq_self_eq_true,if_true,cellOf,hc,pure_bind];exact e1
   ·rcases NR.mp hx with z|z
    ·have z1:x=n:=by injection z
     subst z1;exact e4 x c (by simp[OJ])
    ·exact e3 x z
   ·cases q:x == n with
    |true=>exact e4 x c (by simp[OJ,q])
    |false=>exact e4 x c' (by simp[OJ,q,e])
  ·have hb:(k == OA)=ZD:=by simpa using hk
   obtain⟨cl,e1,e2,e3,e4⟩:=lG r acc (λx hx=>hf x (NJ _ hx)) h
   refine⟨cl,?_,e2,λx hx=>?_,e4⟩
   ·rw[U4]
    simp only[hb,TM,if_false,pure_bind];exact e1
   ·rcases NR.mp hx with z|z
    ·have z1:OA=k:=by injection z
     exact absurd z1.symm hk
    ·exact e3 x z
def yP(hf:∀x,(x,OA)∈scope.names->∃c,env.cells.lookup x=ZA c):
  ∃cl,closureFor scope env=pure cl/\(∀x c,cl.lookup x=ZA c->env.cells.lookup x=ZA c)/\(∀x,(x,OA)∈scope.names->∃c,cl.lookup x=ZA c):=by
 obtain⟨cl,e1,e2,e3,_⟩:=lG scope.names [] hf (λx c e=>by simp at e)
 refine⟨cl,?_,e2,e3⟩
 unfold closureFor;refine Eq.trans ?_ (congrArg (λz=>z >>= pure) e1|>.trans (by simp))
 rfl
variable{tg:ZG}
def uZ{pr:N8}{wd:OV}{Ar:Oq}{Rz:Th->NO->Prop}{s0:NO}{el it0:ZG}{cs:List ZG}{ps:Pos}{itv av:NK}{ev:Env}(W:Nat->NO->Prop)
  (go:∀k st,W k st->wpAny (model pr wd) Ar (pyNext itv) (λr s1=>match r with
   |none=>Rz (.ok .next) s1
   |some v=>wpAny (model pr wd) Ar (Rh tg itv v) (λ_ s2=>wpAny (model pr wd) Ar (assign tg ev v) (λ_ s3=>
     wpAny (model pr wd) Ar (forIn cs ZC λc b=>if b=ZC then do let z <-isTrue c ev (eval c ev);pure (Qz z)else pure (Qz b)) (λz s4=>
      if z=ZC then wpAny (model pr wd) Ar (eval el ev) (λy s5=>
       wpAny (model pr wd) Ar (call (.builtin "list.append") [av,y]) (λ_ s6=>∃m,m<k/\W m s6) (λ_ _=>False) s5) (λ_ _=>False) s4
      else ∃m,m<k/\W m s4) (λ_ _=>False) s3) (λ_ _=>False) s2) (λ_ _=>False) s1) (λ_ _=>False) st)
  (k:Nat) (hk:W k s0):codeAny (model pr wd) Ar (.compLoop (.ListComp el [⟨tg,it0,cs,0⟩] sc ps) 0 itv av ev) Rz s0:=by
 refine codeAny_loop rfl W (λk st hw=>?_) k hk
 show wpAny (model pr wd) Ar ((compTurn (.ListComp el [⟨tg,it0,cs,0⟩] sc ps) 0 itv av ev).onRaise (λz=>do Ve z ev;theTreesLotGoes z)) _ _ st
 refine wpAny_noted ?_
 rw[compTurn_list]
 have no:∀{α:Type}{t:Sem α}{Q Q':α->NO->Prop}{E':V1}{x:NO},wpAny (model pr wd) Ar t Q (λ_ _=>False) x->(∀y z,Q y z->Q' y z)->wpAny (model pr wd) Ar t Q' E' x:=λh f=>Pr h f λ_ _ z=>z.elim
 refine NQ (wpAny_standAt (NQ (no (go k st hw) λr s1 g1=>?_)))
 cases r with
 |none=>exact N4 g1
 |some v=>
  refine NQ (no g1 λ_ s2 g2=>NQ (no g2 λ_ s3 g3=>NQ (no g3 λz s4 g4=>?_)))
  cases z with
  |false=>exact N4 (And.intro rfl g4)
  |true=>exact NQ (NQ (no g4 λy s5 g5=>NQ (no g5 λ_ s6 g6=>N4 (N4 (And.intro rfl g6)))))
def cm(X:Cx)(scope:Q4)(cl:List (Str×ZE))(N':List Str)(C:ZE)(s₀:NO)(H₀:Hp)(fp:List ZE):Cx:=
 {X with N:=N',s₀:=s₀,H₀:=H₀,env:=compEnvC scope cl C X.env,outer:=X.stack,stack:=X.stack,ex:=fp,fn:=λx=>scope.names.lookup x == ZA .cell,xe:=λ_ _=>False}
def gC(src:List (Option Nat))(σ:St):St:=src.map λo=>match o with
 |some i=>(σ[i]?).join
 |none=>ZB
theorem jS{env:Env}:∀{names:List (Str×QQ)}{x:Str}{k:QQ},
  (names.map λ(n,k)=>if (k == OA&&env.scope.kind == .function&&env.kindOf n == ZA .cell)then(n,Pp)else(n,k)).lookup x=ZA k →
  ∃k',names.lookup x=ZA k'/\(k=k'\/k'=.free)
 |[],_,_,h=>by simp at h
 | (n,k0)::r,x,k,h=>by
  have ih:=@jS env r x k
  have h':Px x ((if (k0 == OA&&env.scope.kind == .function&&env.kindOf n == ZA .cell)=ZC then(n,Pp)else(n,k0))::(r.map λ(n,k)=>if (k == OA&&env.scope.kind == .function&&env.kindOf n == ZA .cell)then(n,Pp)else(n,k)))=ZA k:=h
  by_cases hc:(k0 == OA&&env.scope.kind == .function&&env.kindOf n == ZA .cell)=ZC
  ·rw[if_pos hc]at h'
   rw[OJ]at h' ⊢
   cases hx:x == n with
   |true=>
    refine⟨k0,rfl,.inr ?_⟩
    have:=O6.mp hc|>.1
    have:=O6.mp this|>.1
    simpa using this
   |false=>rw[hx]at h';exact ih h'
  ·rw[if_neg hc]at h'
   rw[OJ]at h' ⊢
   cases hx:x == n with
   |true=>rw[hx]at h';exact⟨k0,rfl,.inl (Ou h').symm⟩
   |false=>rw[hx]at h';exact ih h'
def kB{names:List (Str×QQ)}{k:QQ}(h:names.lookup x=ZA k):(x,k)∈names:=PV h
theorem ju{env:Env}:∀{names:List (Str×QQ)}{x:Str},names.lookup x=ZA .free →
  (names.map λ(n,k)=>if (k == OA&&env.scope.kind == .function&&env.kindOf n == ZA .cell)then(n,Pp)else(n,k)).lookup x=ZA .cell ∨
  (names.map λ(n,k)=>if (k == OA&&env.scope.kind == .function&&env.kindOf n == ZA .cell)then(n,Pp)else(n,k)).lookup x=ZA .free
 |[],_,h=>by simp at h
 | (n,k0)::r,x,h=>by
  have ih:=@ju env r x
  show Px x ((if (k0 == OA&&env.scope.kind == .function&&env.kindOf n == ZA .cell)=ZC then(n,Pp)else(n,k0))::_)=_\/Px x ((if (k0 == OA&&env.scope.kind == .function&&env.kindOf n == ZA .cell)=ZC then(n,Pp)else(n,k0))::_)=_
  rw[OJ]at h
  by_cases hc:(k0 == OA&&env.scope.kind == .function&&env.kindOf n == ZA .cell)=ZC
  ·rw[if_pos hc]
   rw[OJ]
   cases hx:x == n with
   |true=>exact .inl rfl
   |false=>rw[hx]at h;exact ih h
  ·rw[if_neg hc]
   rw[OJ]
   cases hx:x == n with
   |true=>rw[hx]at h;exact .inr h
   |false=>rw[hx]at h;exact ih h
variable{N':List Str}{elt iter:ZG}{g:TG}{ifs:List ZG}{tc:TT}{te:TE}{wi:TI}
structure LcScope (X:Cx)(scope:Q4)(N':List Str)(src:List (Option Nat)):Prop where
 kind:scope.kind=.function
 cel:∀y∈scope.names,y.2=.cell->scope.names.lookup y.1=ZA .cell
 loc:∀y∈scope.names,y.2=.local->scope.names.lookup y.1=ZA .local
 len:src.length=N'.length
 from_:∀(j i:Nat)(x:Str),src[j]?=ZA (ZA i)->N'[j]?=ZA x->X.N[i]?=ZA x/\scope.names.lookup x=ZA .free
 free:∀x,(x,OA)∈scope.names->X.env.kindOf x=ZA .cell\/X.env.kindOf x=ZA .free
def Ih(K:NI)(wi:TI)(src:List (Option Nat))(g:TG)(tc:TT)(te:TE):TE:=λσ H Q=>wi σ H λJ H1=>∀D,H1 D=ZB->K.lookup D=ZB →
 ∃W:Nat->Nat->St->List V->Hp->Prop,(∃m,W 0 m (gC src σ) [] (upd H1 D (.lst [])))/\∀i m σ ys H,W i m σ ys H->H D=ZA (.lst ys) ∧
  ((J.stop i H/\Q (.ref D) H)\/(J.go i H/\ys.length<sizeLine/\∀x H',J.yld i H x H'->g x σ H' λσ2 H2=>tc σ2 H2 λb H3=>
   if b=ZC then te σ2 H3 λv H4=>H4 D=ZA (.lst ys)/\∃m',m'<m/\W (i+1) m' σ2 (ys++[v]) (upd H4 D (.lst (ys++[v])))else ∃m',m'<m/\W (i+1) m' σ2 ys H3))
def Bt(X:Cx)(ifs:List ZG)(t:TT):Prop:=
 ∀(ol:V2)(s:NO)(σ:St)(H:Hp)(Q:Bool->Hp->Prop),Inv X ol σ H s->t σ H Q →
  wpAny (model X.prog X.w) X.A (forIn ifs ZC λc r=>if r=ZC then do let ok <-isTrue c X.env (eval c X.env);pure (Qz ok)else pure (Qz r)) (TP X ol σ Q) X.xe s
def vt:TT:=λ_ H Q=>Q ZC H
def tR:Bt X [] vt:=λ_ _ _ H _ I h=>wpAny_tests_nil ⟨H,I,h⟩
def FX{c:ZG}{t:TT}(h:PT X c t):Bt X [c] t:=λol s σ H Q I q=>wpAny_tests_one (h ol s σ H Q I q)
theorem m7:∀(names:List (Str×QQ))(h:ZH)(acc:List (Str×ZE)),(∀x y c,acc.lookup x=ZA c->acc.lookup y=ZA c->x=y)->(∀x c,acc.lookup x=ZA c->c<h.objs.size) →
  (∀x c,(PX h.objs.size names acc).lookup x=ZA c->acc.lookup x=ZA c\/(h.objs.size<=c/\(S3 h names).IsCell c ZB)) ∧
  (∀x y c,(PX h.objs.size names acc).lookup x=ZA c->(PX h.objs.size names acc).lookup y=ZA c->x=y) ∧
  (∀x,(x,Pp)∉names->(PX h.objs.size names acc).lookup x=acc.lookup x) ∧
  (∀x,((x,Pp)∈names\/∃c,acc.lookup x=ZA c)->∃c,(PX h.objs.size names acc).lookup x=ZA c) ∧
  (∀x c,(x,Pp)∈names->(PX h.objs.size names acc).lookup x=ZA c->h.objs.size<=c)
 |[],h,acc,hi,_=>⟨λ_ _ e=>.inl e,hi,λ_ _=>rfl,λx e=>e.elim (λz=>absurd z Pk) id,λ_ _ z=>absurd z Pk⟩
 | (n,k)::r,h,acc,hi,hl=>by
  unfold PX S3
  by_cases hk:k=.cell
  ·subst hk
   rw[if_pos (by rfl),if_pos (by rfl)]
   have hz:(h.push {cls:=.type "cell",data:=.cell ZB}).objs.size=h.objs.size+1:=Qe ..
   have lk:∀x,((n,h.objs.size)::acc).lookup x=if x=n then ZA h.objs.size else acc.lookup x:=λx=>by
    rw[OJ]
    by_cases e:x=n
    ·rw[if_pos e,beq_iff_eq.mpr e]
    ·rw[if_neg e,beq_eq_false_iff_ne.mpr e]
   obtain⟨c1,c2,c3,c4,c5⟩:=m7 r (h.push {cls:=.type "cell",data:=.cell ZB}) ((n,h.objs.size)::acc) (λx y c e1 e2=>by
     rw[lk]at e1 e2
     by_cases q1:x=n
     ·by_cases q2:y=n
      ·rw[q1,q2]
      ·rw[if_pos q1]at e1;rw[if_neg q2]at e2
       cases e1;exact absurd (hl _ _ e2) (Oo _)
     ·rw[if_neg q1]at e1
      by_cases q2:y=n
      ·rw[if_pos q2]at e2
       cases e2;exact absurd (hl _ _ e1) (Oo _)
      ·rw[if_neg q2]at e2;exact hi x y c e1 e2) (λx c e=>by
     rw[lk]at e;rw[hz]
     by_cases q:x=n
     ·rw[if_pos q]at e;cases e;exact SA _
     ·rw[if_neg q]at e;exact Ui (hl x c e))
   rw[hz]at c1 c2 c3 c4 c5;refine⟨λx c e=>?_,c2,λx hx=>?_,λx hx=>?_,λx c hx e=>?_⟩
   ·rcases c1 x c e with z|z
    ·rw[lk]at z
     by_cases q:x=n
     ·rw[if_pos q]at z;cases z
      exact .inr ⟨N3 _,_,S4 r _ _ _ (Oa _ rfl),rfl⟩
     ·rw[if_neg q]at z;exact .inl z
    ·exact .inr ⟨Sj z.1,z.2⟩
   ·rw[c3 x λz=>hx (NJ _ z),lk,if_neg λz=>hx (by rw[z];exact NN)]
   ·refine c4 x ?_
    rcases hx with hx|hx
    ·rcases NR.mp hx with z|z
     ·cases z
      exact .inr ⟨_,by rw[lk,if_pos rfl]⟩
     ·exact .inl z
    ·by_cases q:x=n
     ·exact .inr ⟨_,by rw[lk,if_pos q]⟩
     ·exact .inr (by rw[lk,if_neg q];exact hx)
   ·rcases NR.mp hx with z|z
    ·have q:x=n:=(UZ z).1
     rcases c1 x c e with y|y
     ·rw[lk,if_pos q]at y;cases y;exact N3 _
     ·exact Sj y.1
    ·exact Sj (c5 x c z e)
  ·have hb:¬ (k == Pp)=ZC:=λz=>hk (by simpa using z)
   rw[if_neg hb,if_neg hb];obtain⟨c1,c2,c3,c4,c5⟩:=m7 r h acc hi hl;exact⟨c1,c2,λx hx=>c3 x λz=>hx (NJ _ z),λx hx=>c4 x (hx.imp (λz=>(NR.mp z).resolve_left λz=>hk (UZ z).2.symm) id),λx c hx=>c5 x c ((NR.mp hx).resolve_left λz=>hk (UZ z).2.symm)⟩
def AI{globals:ZE}{cl:List (Str×ZE)}{Q:Env->NO->Prop}
  (q:Q (newEnv scope s.heap.objs.size globals (PX (s.heap.objs.size+1) scope.names cl) qual ZB .none (ZA env) Sk) {s with heap:=S3 (s.heap.push {cls:=.type "dict",data:=.dict #[]}) scope.names}):
  wpAny M A (newFunctionEnv scope globals cl [] qual ZB .none (ZA env)) Q E s:=by
 simp only[newFunctionEnv,TN,if_true];refine NQ (wpAny_alloc (NQ (wpAny_layCells _ (λname kind cells=>by cases hkc:kind == Pp <;> simp[hkc]) _ _ _ _ ?_)))
 rw[show({s with heap:=s.heap.push {cls:=.type "dict",data:=.dict #[]}}:NO).heap.objs.size=s.heap.objs.size+1 from Qe ..]
 rw[List.forIn_nil];exact NQ (N4 (N4 q))
def zG{fpos:Pos}{src:List (Option Nat)}{use:Option (NK->Sem Unit)}{Qf:V1}
  {ol:V2}  {σ:St} {H:Hp} {Q:VK}
  (hc:X.calm=ZC) (S:LcScope X scope N' src) (hi:PI X tg iter wi)
  (block:∀cl C s₀ H₀ fp,PG (cm X scope cl N' C s₀ H₀ fp) tg g/\Bt (cm X scope cl N' C s₀ H₀ fp) ifs tc/\PE (cm X scope cl N' C s₀ H₀ fp) elt te)
  (hs:∀x,OM iter X.env x=pure x) (I:Inv X ol σ H s) (h:Ih X.K wi src g tc te σ H Q)
  (hend:∀(D C:ZE)(H':Hp)(s':NO),(∃m,s'.heap.Ns C m)->(∀h',Q7 C s'.heap h'->Inv X ol σ H' {s' with heap:=h'})->(H' C=ZB/\C≠X.env.locals/\X.s₀.heap.objs.size<=C/\(∀x c,X.env.cells.lookup x=ZA c->c≠C)/\∀p∈X.pn++ol,p.1≠C)->Q (.ref D) H' →
   compPost (model X.prog X.w) X.A X.xe use Qf (.ref D) C (.ok .next) s'):
  wpAny (model X.prog X.w) X.A (comprehension (.ListComp elt [⟨tg,iter,ifs,0⟩] scope pos) scope X.env fpos (newList []) ZD (eval iter X.env) use) Qf X.xe s:=by
 have hcell:∀x,(x,OA)∈scope.names->∃c,X.env.cells.lookup x=ZA c:=λx hx=>I.ok.has x (S.free x hx)
 obtain⟨cl0,hcl,cl01,cl02⟩:=yP (env:=X.env) (scope:=scope) hcell;refine wpAny_comprehension_free (use:=use) rfl hs hcl S.kind S.loc (bU (hi ol s σ H _ I h) λv s1 h1=>bU h1 λitv s2 h2=>?_)
 obtain⟨it,fp,tn,J,H2,e,I2,T,st2,f2,hq⟩:=h2;subst e
 -- the new list
 refine PC ?_
 have hD:H2 s2.heap.objs.size=ZB:=I2.hok.fresh (N3 _)
 have hDK:X.K.lookup s2.heap.objs.size=ZB:=by
  cases q:X.K.lookup s2.heap.objs.size with
  |none=>rfl
  |some o=>exact absurd (NY (I2.kIn _ o q)) (Oo _)
 obtain⟨W,⟨m0,w0⟩,turn⟩:=hq s2.heap.objs.size hD hDK
 have I3:=I2.Nr (its:=[]) (ys:=[]) (t':=s2.toks) .nil (Qg _)
 generalize hs3:({s2 with heap:=s2.heap.push {cls:=.type "list",data:=.seq ([]:List NK).toArray},toks:=s2.toks}:NO)=s3 at I3
 generalize hH3:upd H2 s2.heap.objs.size (.lst [])=H3 at I3 w0
 have hDsz:s2.heap.objs.size<s3.heap.objs.size:=by rw[<-hs3];simp[Qe]
 have fr3:∀b∈fp,H3 b=ZB:=λb hb=>by
  obtain⟨o,eo,_⟩:=T.obj _ _ st2 b hb;rw[<-hH3,aB (Pf (NY eo))];exact(f2 b hb).1
 have st3:tn 0 s3.heap:=T.keep _ _ _ st2 λb hb o e=>by rw[<-hs3];exact NV _ e
 have f3:∀b∈fp,qC X ol H3 b:=λb hb=>⟨fr3 b hb,(f2 b hb).2⟩
 have D3:H3 s2.heap.objs.size=ZA (.lst []):=by rw[<-hH3];exact aG
 generalize s2.heap.objs.size=D at*
 clear hs3 hH3 hD hDK
 -- the block's frame
 refine AI ?_
 have old:∀b o,s3.heap.get? b=ZA o->(S3 (s3.heap.push {cls:=.type "dict",data:=.dict #[]}) scope.names).get? b=ZA o:=λb o e=>S4 _ _ b o (NV _ e)
 have hns₁:(S3 (s3.heap.push {cls:=.type "dict",data:=.dict #[]}) scope.names).Ns s3.heap.objs.size (λ_=>ZB):=(Heap.Ns.new s3.heap (.type "dict")).keeps (S4 _ _)
 have hz3:(s3.heap.push {cls:=.type "dict",data:=.dict #[]}).objs.size=s3.heap.objs.size+1:=Qe ..
 have lt0:∀x c,cl0.lookup x=ZA c->c<s3.heap.objs.size:=λx c e=>let ⟨_,ic⟩:=I3.cell x c (cl01 x c e);ic.lt
 obtain⟨c1,c2,c3,c4,c5⟩:=m7 scope.names (s3.heap.push {cls:=.type "dict",data:=.dict #[]}) cl0 (λx y c e1 e2=>I3.ok.inj x y c (cl01 x c e1) (cl01 y c e2)) λx c e=>by rw[hz3];exact Ui (lt0 x c e)
 rw[hz3]at c1 c2 c3 c4 c5
 generalize hcl':PX (s3.heap.objs.size+1) scope.names cl0=cl at*
 generalize hh₁:S3 (s3.heap.push {cls:=.type "dict",data:=.dict #[]}) scope.names=h₁ at*
 have below:∀b o,s3.heap.get? b=ZA o->b≠s3.heap.objs.size:=λb o e=>Pf (NY e)
 -- a cell of the block's: one from around,or a new one
 have cl1:∀x c,cl.lookup x=ZA c->X.env.cells.lookup x=ZA c\/(s3.heap.objs.size<c/\h₁.IsCell c ZB):=λx c e=>(c1 x c e).imp (cl01 x c) id
 generalize hC:s3.heap.objs.size=C at*
 have stk:∀b,b≠X.env.locals->b∉X.fs->b∉m6 X.stack:=λb h1 h2 z=>(NR.mp (I3.Nd b z)).elim h1 h2
 have apart:∀b∈fp,∀x c,cl.lookup x=ZA c->c≠b:=λb hb x c e=>by
  rcases cl1 x c e with z|z
  ·exact(f3 b hb).2.2.2.2.1 x c z
  ·obtain⟨o,eo,_⟩:=T.obj _ _ st3 b hb
   have h1:=NY eo;rw[hC]at h1;exact R0 (Nat.lt_trans h1 z.1)
 have I4:Inv (cm X scope cl N' C s3 H3 fp) ol (gC src σ) H3 {s3 with heap:=h₁}:=by
  refine⟨⟨I3.ok.mod,S.kind,I3.ok.glob,I3.ok.blt,Rw hC,c2,λx hx=>?_,λx c hx e=>Q8 (hC▸c5 x c (kB (beq_iff_eq.mp hx)) e),I3.ok.hd,I3.ok.frames,.inl rfl,
    λb hb=>⟨?_,λx c e=>apart b hb x c e⟩,I3.bs,OB I3.ok.bsz I3.sz,λb o e z=>?_,λb hb=>stk b (f3 b hb).2.1 (f3 b hb).2.2.1,I3.stack,I3.KM⟩,
   rfl,I3.bare,Un.kept old,⟨_,hns₁,λj x v e1 e2 e3=>?_⟩,λx c e=>?_,I3.hok.fresh (Rw hC),λx c e=>(cl1 x c e).elim (I3.freeC x c) λz=>I3.hok.fresh (by rw[hC];exact Q8 z.1),λp hp=>?_,I3.hok.kept old,?_⟩
  ·have key:∀k,(relabel scope X.env).names.lookup x=ZA k->(k=.cell\/k=.free)->∃c,cl.lookup x=ZA c:=λk e hk=>by
    obtain⟨k',e',z⟩:=jS e
    have hk':k'=.cell\/k'=.free:=z.elim (λz=>z▸hk) .inr
    rcases hk' with q|q
    ·exact c4 x (.inl (q▸kB e'))
    ·exact c4 x (.inr (cl02 x (q▸kB e')))
   rcases hx with hx|hx
   ·exact key _ hx (.inl rfl)
   ·exact key _ hx (.inr rfl)
  ·obtain⟨o,eo,_⟩:=T.obj _ _ st3 b hb
   show b≠C
   exact below b o eo
  ·have z':b∈fp:=z
   obtain⟨_,_,_,z1,_⟩:=f3 b z';rcases z1 with z1|z1
   ·exact I3.ok.noex b o e z1
   ·exact absurd (N6 (NY (I3.ok.bs b o e).1) z1) (Oo _)
  ·unfold gC at e2
   rw[Oc]at e2
   cases q:src[j]? with
   |none=>rw[q]at e2;simp at e2
   |some o=>
    rw[q]at e2
    cases o with
    |none=>simp at e2
    |some i=>
     have e2':(σ[i]?).join=ZA v:=by simpa using e2
     have e2'':σ[i]?=ZA (ZA v):=by
      cases q2:σ[i]? with
      |none=>rw[q2]at e2';simp at e2'
      |some z=>rw[q2]at e2';simp at e2';rw[e2']
     obtain⟨hN,hfree⟩:=S.from_ j i x q e1
     have hm:=kB hfree
     have hk:=S.free x hm;obtain⟨m,hn,hl⟩:=I3.loc
     have hv:lJ X.env.scope x:=by
      rcases hk with z|z
      ·exact .inr (.inl z)
      ·exact .inr (.inr z)
     obtain⟨u,r,l⟩:=hl i x v hN e2'' hv;refine⟨u,r,.inr ⟨?_,?_⟩⟩
     ·exact ju hfree
     ·rcases l with⟨z,_⟩|⟨_,c,ec,ic⟩
      ·rcases hk with z'|z' <;> rw[z']at z <;> cases z
      ·obtain⟨c',ec0⟩:=cl02 x hm
       have ec':cl.lookup x=ZA c':=(c3 x λz=>by have:=S.cel _ z rfl;rw[hfree]at this;cases this).trans ec0
       have:=cl01 x c' ec0;rw[ec]at this;cases this;obtain⟨o,ho,hd⟩:=ic;exact⟨c,ec',o,old _ _ ho,hd⟩
  ·rcases cl1 x c e with z|z
   ·obtain⟨v,o,ho,hd⟩:=I3.cell x c z
    exact⟨v,o,old _ _ ho,hd⟩
   ·exact⟨ZB,z.2⟩
  ·obtain⟨e,n,ne,nf,d⟩:=I3.pin p hp
   exact⟨old _ _ e,n,below _ _ e,stk _ ne nf,d⟩
  ·show(gC src σ).length=N'.length
   unfold gC;rw[NP];exact S.len
 obtain⟨bG,bI,bE⟩:=block cl C s3 H3 fp
 have stat:∀{H':Hp},(∀b∈fp,H' b=ZB)->∀b∈fp,qC (cm X scope cl N' C s3 H3 fp) ol H' b:=λhn b hb=>by
  obtain⟨o,eo,_⟩:=T.obj _ _ st3 b hb;exact⟨hn b hb,below b o eo,stk b (f3 b hb).2.1 (f3 b hb).2.2.1,.inl hb,apart b hb,(f3 b hb).2.2.2.2.2⟩
 have st4:tn 0 h₁:=T.keep _ _ _ st3 λb hb o e=>old b o e
 -- behind the block
 have after:∀(H':Hp)(s':NO)(σ':St),Inv (cm X scope cl N' C s3 H3 fp) ol σ' H' s'->Q (.ref D) H' →
   compPost (model X.prog X.w) X.A X.xe use Qf (.ref D) C (.ok .next) s':=λH' s' σ' I' q=>by
  obtain⟨m,hn,_⟩:=id I'.loc
  have fC:X.s₀.heap.objs.size<=C:=by rw[<-hC];exact I3.sz
  have ltC:∀b o,s3.heap.get? b=ZA o->b<C:=λb o e=>by rw[<-hC];exact NY e
  refine hend D C H' s' ⟨m,hn⟩ (λh' hsb=>?_) ⟨I'.free,?_,fC,λx c e z=>?_,λp hp z=>?_⟩ q
  rotate_left
  ·have:=I3.lt;rw[hC]at this;exact R0 this
  ·obtain⟨v,ic⟩:=I3.cell x c e
   have:=ic.lt;rw[hC,z]at this;exact Oo _ this
  ·have:=ltC _ _ (I3.pin p hp).1;rw[z]at this;exact Oo _ this
  have u:Un (m6 X.stack) fp H3 H' s3.heap s'.heap:=I'.base
  have lift:∀b o,s3.heap.get? b=ZA o->∀o',s'.heap.get? b=ZA o'->h'.get? b=ZA o':=λb o e o' e'=>hsb.extBut b o' (below b o e) e'
  have u':Un (m6 X.stack) fp H3 H' s3.heap h':=
   ⟨λb o e n hb hx=>lift b o e o (u.keep b o e n hb hx),λb o e n hb hx=>by
     obtain⟨sl,z⟩:=u.slot b o e n hb hx;exact⟨sl,lift b o e _ z⟩,u.free,λb o e hx=>by
     obtain⟨o',z⟩:=u.there b o e hx;exact⟨o',lift b o e _ z⟩,u.tups,u.frzs,u.tbls⟩
  have hCn:H' C=ZB:=I'.free
  have hok':HOk X.prog X.w H' h':=λb ob e=>by
   refine(I'.hok b ob e).M0 (λc w' hc' q'=>(hsb.2 c ?_).trans q') (λ_ q=>q) λ_ _ q=>q
   rintro rfl
   rcases hc' with rfl|hc'
   ·rw[hCn]at e;cases e
   ·rw[hCn]at hc';cases hc'
  have I5:Inv X ol σ H' {s' with heap:=h'}:=I3.M6 (s':={s' with heap:=h'}) (ch:=fp) I'.os u' hok' I'.bare λb hb=>⟨(f3 b hb).2.2.2.1,(f3 b hb).2.1,(f3 b hb).2.2.2.2.1,(f3 b hb).2.2.2.2.2⟩
  exact I5
 have loop:codeAny (model X.prog X.w) X.A (.compLoop (.ListComp elt [⟨tg,iter,ifs,0⟩] scope pos) 0 (.ref it) (.ref D) (compEnvC scope cl C X.env))
   (compPost (model X.prog X.w) X.A X.xe use Qf (.ref D) C) {s3 with heap:=h₁}:=by
  refine uZ (λn s'=>∃i σ' ys H',Inv (cm X scope cl N' C s3 H3 fp) ol σ' H' s'/\tn i s'.heap/\(∀b∈fp,H' b=ZB)/\W i n σ' ys H') ?_ m0 ⟨0,_,[],H3,I4,st4,fr3,w0⟩
  rintro n s5 ⟨i,σ5,ys,H5,I5,st5,fr5,w5⟩
  obtain⟨hDl,alt⟩:=turn i n σ5 ys H5 w5;rcases alt with⟨stop,qn⟩|⟨go,hlen,step⟩
  ·refine bU (T.done (cm X scope cl N' C s3 H3 fp) rfl rfl rfl hc i ol s5 σ5 H5 _ I5 (stat fr5) st5 stop) λr s6 ⟨hr,I6⟩=>?_
   subst hr;exact after H5 s6 σ5 I6 qn
  ·refine bU (T.item (cm X scope cl N' C s3 H3 fp) rfl rfl rfl hc i ol s5 σ5 H5 _ I5 (stat fr5) st5 go) λr s6 ⟨u,hr,h6⟩=>?_
   subst hr;refine bU h6 λ_ s7 hh_=>?_
   obtain⟨x,H7,I7,r7,y7,st7,fr7⟩:=hh_
   have I7':=I7.pinned (stat fr7) (T.obj _ _ st7);refine bU (bG _ s7 σ5 H7 x u _ I7' r7 (step x H7 y7)) λ_ s8 hh_=>?_
   obtain⟨σ8,H8,I8,q8⟩:=hh_;refine bU (bI _ s8 σ8 H8 _ I8 q8) λok s9 hh_=>?_
   obtain⟨H9,I9,q9⟩:=hh_
   have again:∀{σx:St}{Hx:Hp}{sx:NO}{ys':List V},Inv (cm X scope cl N' C s3 H3 fp) (ol++pf fp s7.heap) σx Hx sx->(∃m',m'<n/\W (i+1) m' σx ys' Hx) →
     ∃m,m<n/\∃i σ' ys H',Inv (cm X scope cl N' C s3 H3 fp) ol σ' H' sx/\tn i sx.heap/\(∀b∈fp,H' b=ZB)/\W i m σ' ys H':=λ{σx Hx sx ys'} Ix nx=>by
    obtain⟨m',hm,wx⟩:=nx;refine⟨m',hm,i+1,σx,ys',Hx,Ix.MX,T.keep _ _ _ st7 λb hb o e=>(Ix.pin (b,o) (Od _ (Od _ (i7 hb e)))).1,λb hb=>?_,wx⟩
    obtain⟨o,e,d⟩:=T.obj _ _ st7 b hb;exact(Ix.pin (b,o) (Od _ (Od _ (i7 hb e)))).2.1
   cases ok with
   |false=>
    rw[if_neg NZ]at q9 ⊢
    exact again I9 q9
   |true=>
    rw[if_pos rfl]at q9 ⊢;refine bU (bE _ s9 σ8 H9 _ I9 q9) λv s10 hh_=>?_
    obtain⟨y,H10,I10,r10,hD10,q10⟩:=hh_;refine bU (mV _ s10 σ8 H10 (.ref D) [y] (.ref D) [v] (λ_ H'=>H'=upd H10 D (.lst (ys++[y]))) I10 rfl (.cons r10 .nil) ⟨D,ys,y,rfl,rfl,hD10,hlen,rfl⟩) λ_ s11 hh_=>?_
    obtain⟨_,H11,I11,_,e11⟩:=hh_;subst e11;exact again I11 q10
 exact codeAny_compStart_list loop (T.self _ 0 _ _ _ st4 loop)
def vV{src:List (Option Nat)}
  (hc:X.calm=ZC) (S:LcScope X scope N' src) (hi:PI X tg iter wi)
  (block:∀cl C s₀ H₀ fp,PG (cm X scope cl N' C s₀ H₀ fp) tg g/\Bt (cm X scope cl N' C s₀ H₀ fp) ifs tc/\PE (cm X scope cl N' C s₀ H₀ fp) elt te)
  (hs:autoParam (∀x,OM iter X.env x=pure x) aqc._auto_1):
  PE X (.ListComp elt [⟨tg,iter,ifs,0⟩] scope pos) (Ih X.K wi src g tc te):=by
 intro ol s σ H Q I h;rw[eval_ListComp];exact zG (use:=ZB) hc S hi block hs I h λD C H' s' ⟨m,hn⟩ inv _ q=>⟨m,hn,λh' hsb=>⟨.ref D,H',inv h' hsb,rfl,q⟩⟩
def Lv{py spos:Pos}{src:List (Option Nat)}{i:Nat}{y:Str}
  (hc:X.calm=ZC) (S:LcScope X scope N' src) (hi:PI X tg iter wi)
  (block:∀cl C s₀ H₀ fp,PG (cm X scope cl N' C s₀ H₀ fp) tg g/\Bt (cm X scope cl N' C s₀ H₀ fp) ifs tc/\PE (cm X scope cl N' C s₀ H₀ fp) elt te)
  (hN:X.N.Nodup) (hiy:X.N[i]?=ZA y) (hy:Loc X.env.scope y) (hsw:OR (.ListComp elt [⟨tg,iter,ifs,0⟩] scope pos) (ZA (.Name y py)) spos.line X.env=pure ZC)
  (hf:X.fn y=ZC\/X.env.scope.names.lookup y=ZA .local) (hs:autoParam (∀x,OM iter X.env x=pure x) aqc._auto_1):
  PS X (.Assign [.Name y py] (.ListComp elt [⟨tg,iter,ifs,0⟩] scope pos) spos) (BP (Ih X.K wi src g tc te) (DL i)):=by
 intro ol s σ H D I h;rw[exec_Assign_Name_used _ _ _ _ hsw];refine NQ (wpAny_standAt (NQ ?_))
 show wpAny (model X.prog X.w) X.A (do let _ <-comprehension (.ListComp elt [⟨tg,iter,ifs,0⟩] scope pos) scope X.env _ (newList []) ZD (eval iter X.env) (ZA (assign (.Name y py) X.env))) _ _ s
 refine NQ (bU (zG (use:=ZA (assign (.Name y py) X.env)) (Qf:=λ_ s'=>SP X ol D .next s') (Q:=λv H'=>D.nx (σ.set i (ZA v)) H') hc S hi block hs I h λL C H' s' ⟨m,hn⟩ inv ⟨c0,c1,c2,c3,c4⟩ q=>?_) λ_ s' hq=>N4 (N4 hq))
 have I0:Inv X ol σ H' s':=inv s'.heap (Heap.SameBut.refl ..)
 show wpAny (model X.prog X.w) X.A (assign (.Name y py) X.env (.ref L)) _ _ s'
 refine Us (rE I0 hN hiy hy (v:=.ref L) rfl (λs2 I2 ⟨b,sb,hb⟩=>?_) hf)
 have hbC:C≠b:=by
  rcases hb with z|z
  ·rw[z];exact c1
  ·exact λw=>c3 y b z w.symm
 refine⟨m,hn.sameBut sb hbC,λh' hsb=>?_⟩
 exact⟨_,H',I2.turned (t':=s2.toks) (λb' o hb' e=>(hsb.2 b' hb').trans e) c0 c1 (.inr c2) c3 c4,q⟩
end L2
namespace Tr
open PySem PySem.Spec PyProof.Rows L2
def bO(K:NI)(c:Str):ZE:=match Q6 K Ox c with
 |some (ZA (.ref C))=>C
 |_=>0
def Hq:T->Option Key
 |.int i=>ZA (.inl i)
 |.str x=>ZA (.inr x)
 |_=>ZB
def pY:List T->Option (List Key)
 |[] =>ZA []
 |t::l=>match Hq t,pY l with
  |some k,ZA r=>ZA (k::r)
  |_,_=>ZB
def keyOf:T->Option (List Key)
 |.tup l=>pY l
 |_=>ZB
inductive Rs (α:Type) where
 |ok (a:α)|err (c:Str)|bad
def Rs.bind{α β:Type}(x:Rs α)(f:α->Rs β):Rs β:=match x with
 |.ok a=>f a
 |.err c=>.err c
 |.bad=>.bad
instance:Monad Rs where
 pure:=Rs.ok
 bind:=Rs.bind
@[simp] theorem ay {α β:Type} (a:α) (f:α->Rs β):(Rs.ok a >>= f)=f a:=rfl
@[simp] theorem MG {α:Type} (a:α):(pure a:Rs α)=Rs.ok a:=rfl
@[simp] theorem Mx {α β:Type} (f:α->Rs β):((Rs.bad:Rs α) >>= f)=.bad:=rfl
@[simp] theorem Mr {α β:Type} (c:Str) (f:α->Rs β):((Rs.err c:Rs α) >>= f)=.err c:=rfl
abbrev Ow:=ZE->Prop
mutual
def Rep(K:NI)(O:Ow)(H:Hp):T->V->Prop
 |.non,v=>v=.non
 |.bl b,v=>v=.bl b
 |.int i,v=>v=.int i
 |.str x,v=>v=.str x
 |.tup l,v=>∃a vs,v=.ref a/\¬ O a/\H a=ZA (.tup vs)/\Reps K O H l vs
 |.lst l,v=>∃a vs,v=.ref a/\¬ O a/\H a=ZA (.lst vs)/\Reps K O H l vs
 |.scr l,v=>∃a,v=.ref a/\¬ O a/\SqL K H a (l.map V.int)
 |.dct ks ts,v=>∃a kvs,v=.ref a/\¬ O a/\Rd H a (.dT kvs)/\ks.map keyOf=kvs.map (λp=>ZA p.1)/\Reps K O H ts (kvs.map (·.2))
 |.ob C ns ts,v=>∃a dx fs,v=.ref a/\¬ O a/\H a=ZA (.ins (bO K C) dx fs)/\fs.map (·.1)=ns/\Reps K O H ts (fs.map (·.2))
def Reps(K:NI)(O:Ow)(H:Hp):List T->List V->Prop
 |[],vs=>vs=[]
 |t::r,vs=>∃v ws,vs=v::ws/\Rep K O H t v/\Reps K O H r ws
end
def SameO(P:Ow)(H H':Hp):Prop:=∀b o,H b=ZA o->¬ P b->H' b=ZA o
variable{H H':Hp}{P:Ow}
def SameO.of(h:Same H H'):SameO P H H':=λb o e _=>h b o e
variable{a:ZE}
def Rd.Nn{u:HO}(h:SameO P H H')(n:¬ P a)(q:Rd H a u):Rd H' a u:=q.elim (λe=>.inl (h _ _ e n)) λ⟨o,e⟩=>.inr ⟨o,h _ _ e n⟩
variable{vs:List V}
def SqL.keep(h:SameO P H H')(n:¬ P a)(q:SqL K H a vs):SqL K H' a vs:=by
 rcases q with(q|⟨o,q⟩)|q
 ·exact .inl (.inl (h _ _ q n))
 ·exact .inl (.inr ⟨o,h _ _ q n⟩)
 ·exact .inr q
mutual
theorem Rep.keep{K:NI}{O P:Ow}{H H':Hp}(h:SameO P H H')(sub:∀a,P a->O a):∀{t:T}{v:V},Rep K O H t v->Rep K O H' t v
 |.non,_,r=>by unfold Rep at r ⊢;exact r
 |.bl _,_,r=>by unfold Rep at r ⊢;exact r
 |.int _,_,r=>by unfold Rep at r ⊢;exact r
 |.str _,_,r=>by unfold Rep at r ⊢;exact r
 |.tup l,_,r=>by
  unfold Rep at r ⊢;obtain⟨a,vs,e,n,q,z⟩:=r
  exact⟨a,vs,e,n,h _ _ q (λp=>n (sub a p)),Reps.keep h sub z⟩
 |.lst l,_,r=>by
  unfold Rep at r ⊢;obtain⟨a,vs,e,n,q,z⟩:=r
  exact⟨a,vs,e,n,h _ _ q (λp=>n (sub a p)),Reps.keep h sub z⟩
 |.scr l,_,r=>by
  unfold Rep at r ⊢;obtain⟨a,e,n,q⟩:=r
  exact⟨a,e,n,SqL.keep h (λp=>n (sub a p)) q⟩
 |.dct ks ts,_,r=>by
  unfold Rep at r ⊢;obtain⟨a,kvs,e,n,q,k,z⟩:=r
  exact⟨a,kvs,e,n,Rd.Nn h (λp=>n (sub a p)) q,k,Reps.keep h sub z⟩
 |.ob C ns ts,_,r=>by
  unfold Rep at r ⊢;obtain⟨a,dx,fs,e,n,q,k,z⟩:=r;exact⟨a,dx,fs,e,n,h _ _ q (λp=>n (sub a p)),k,Reps.keep h sub z⟩
theorem Reps.keep{K:NI}{O P:Ow}{H H':Hp}(h:SameO P H H')(sub:∀a,P a->O a):∀{l:List T}{vs:List V},Reps K O H l vs->Reps K O H' l vs
 |[],_,r=>by unfold Reps at r ⊢;exact r
 |t::l,_,r=>by
  unfold Reps at r ⊢;obtain⟨v,ws,e,p,q⟩:=r;exact⟨v,ws,e,Rep.keep h sub p,Reps.keep h sub q⟩
end
mutual
theorem Rep.less{K:NI}{O O':Ow}{H:Hp}(sub:∀a,O' a->O a):∀{t:T}{v:V},Rep K O H t v->Rep K O' H t v
 |.non,_,r=>by unfold Rep at r ⊢;exact r
 |.bl _,_,r=>by unfold Rep at r ⊢;exact r
 |.int _,_,r=>by unfold Rep at r ⊢;exact r
 |.str _,_,r=>by unfold Rep at r ⊢;exact r
 |.tup l,_,r=>by
  unfold Rep at r ⊢;obtain⟨a,vs,e,n,q,z⟩:=r
  exact⟨a,vs,e,λp=>n (sub a p),q,Reps.less sub z⟩
 |.lst l,_,r=>by
  unfold Rep at r ⊢;obtain⟨a,vs,e,n,q,z⟩:=r
  exact⟨a,vs,e,λp=>n (sub a p),q,Reps.less sub z⟩
 |.scr l,_,r=>by
  unfold Rep at r ⊢;obtain⟨a,e,n,z⟩:=r
  exact⟨a,e,λp=>n (sub a p),z⟩
 |.dct ks ts,_,r=>by
  unfold Rep at r ⊢;obtain⟨a,kvs,e,n,q,k,z⟩:=r
  exact⟨a,kvs,e,λp=>n (sub a p),q,k,Reps.less sub z⟩
 |.ob C ns ts,_,r=>by
  unfold Rep at r ⊢;obtain⟨a,dx,fs,e,n,q,k,z⟩:=r;exact⟨a,dx,fs,e,λp=>n (sub a p),q,k,Reps.less sub z⟩
theorem Reps.less{K:NI}{O O':Ow}{H:Hp}(sub:∀a,O' a->O a):∀{l:List T}{vs:List V},Reps K O H l vs->Reps K O' H l vs
 |[],_,r=>by unfold Reps at r ⊢;exact r
 |t::l,_,r=>by
  unfold Reps at r ⊢;obtain⟨v,ws,e,p,q⟩:=r;exact⟨v,ws,e,Rep.less sub p,Reps.less sub q⟩
end
variable{O:Ow}{l ts:List T}{v:V}
section
variable {t:T}
def Rep.same(h:Same H H')(r:Rep K O H t v):Rep K O H' t v:=Rep.keep (P:=λ_=>False) (SameO.of h) (λ_ z=>z.elim) r
def Reps.same(h:Same H H')(r:Reps K O H l vs):Reps K O H' l vs:=Reps.keep (P:=λ_=>False) (SameO.of h) (λ_ z=>z.elim) r
def Rep.Ni:Rep K O H .non .non:=by unfold Rep;rfl
def Rep.bl_(b:Bool):Rep K O H (.bl b) (.bl b):=by unfold Rep;rfl
def Rep.Gc(i:Int):Rep K O H (.int i) (.int i):=by unfold Rep;rfl
def Rep.Np(x:Str):Rep K O H (.str x) (.str x):=by unfold Rep;rfl
def Rep.Fk:Rep K O H (.tup l) v↔ ∃a vs,v=.ref a/\¬ O a/\H a=ZA (.tup vs)/\Reps K O H l vs:=by unfold Rep;exact Rg
def Rep.Do:Rep K O H (.lst l) v↔ ∃a vs,v=.ref a/\¬ O a/\H a=ZA (.lst vs)/\Reps K O H l vs:=by unfold Rep;exact Rg
def Rep.KB{ks:List T}:Rep K O H (.dct ks ts) v↔ ∃a kvs,v=.ref a/\¬ O a/\Rd H a (.dT kvs)/\ks.map keyOf=kvs.map (λp=>ZA p.1)/\Reps K O H ts (kvs.map (·.2)):=by unfold Rep;exact Rg
def Rep.M8{C:Str}{ns:List Str}:Rep K O H (.ob C ns ts) v↔ ∃a dx fs,v=.ref a/\¬ O a/\H a=ZA (.ins (bO K C) dx fs)/\fs.map (·.1)=ns/\Reps K O H ts (fs.map (·.2)):=by unfold Rep;exact Rg
def Rep.AC:Rep K O H (.int i) v↔v=.int i:=by unfold Rep;exact Rg
def Rep.FM:Rep K O H (.bl b) v↔v=.bl b:=by unfold Rep;exact Rg
def Rep.GM{b:Str}:Rep K O H (.str b) v↔v=.str b:=by unfold Rep;exact Rg
def Rep.IR:Rep K O H .non v↔v=.non:=by unfold Rep;exact Rg
def Reps.GE:Reps K O H [] []:=by unfold Reps;rfl
def Reps.FS(r:Rep K O H t v)(q:Reps K O H l vs):Reps K O H (t::l) (v::vs):=by unfold Reps;exact⟨v,vs,rfl,r,q⟩
def Reps.Da:Reps K O H [] vs↔vs=[]:=by unfold Reps;exact Rg
def Reps.me:Reps K O H (t::l) vs↔ ∃v ws,vs=v::ws/\Rep K O H t v/\Reps K O H l ws:=by
 constructor
 ·intro h;unfold Reps at h;exact h
 ·intro h;unfold Reps;exact h
end
theorem Reps.length:∀{l:List T}{vs:List V},Reps K O H l vs->l.length=vs.length
 |[],vs,r=>by rw[Reps.Da.mp r];rfl
 |t::l,vs,r=>by
  obtain⟨v,ws,rfl,_,q⟩:=Reps.me.mp r;simp[q.length]
theorem Reps.get:∀{l:List T}{vs:List V}{i:Nat}{t:T},Reps K O H l vs->l[i]?=ZA t->∃v,vs[i]?=ZA v/\Rep K O H t v
 |[],_,_,_,_,e=>by simp at e
 |t::l,vs,i,u,r,e=>by
  obtain⟨v,ws,rfl,p,q⟩:=Reps.me.mp r
  cases i with
  |zero=>simp at e;subst e;exact⟨v,rfl,p⟩
  |succ i=>
   obtain⟨z,e1,e2⟩:=q.get (i:=i) (t:=u) (by simpa using e)
   exact⟨z,by simpa using e1,e2⟩
theorem Reps.append:∀{l m:List T}{vs ws:List V},Reps K O H l vs->Reps K O H m ws->Reps K O H (l++m) (vs++ws)
 |[],_,vs,_,r,s=>by rw[Reps.Da.mp r];exact s
 |t::l,m,vs,ws,r,s=>by
  obtain⟨v,us,rfl,p,q⟩:=Reps.me.mp r;exact Reps.FS p (q.append s)
theorem Reps.take:∀{l:List T}{vs:List V}(n:Nat),Reps K O H l vs->Reps K O H (l.take n) (vs.take n)
 |_,_,0,_=>Reps.GE
 |[],vs,n+1,r=>by rw[Reps.Da.mp r];exact Reps.GE
 |t::l,vs,n+1,r=>by
  obtain⟨v,us,rfl,p,q⟩:=Reps.me.mp r;exact Reps.FS p (q.take n)
theorem Reps.drop:∀{l:List T}{vs:List V}(n:Nat),Reps K O H l vs->Reps K O H (l.drop n) (vs.drop n)
 |_,_,0,r=>r
 |[],vs,n+1,r=>by rw[Reps.Da.mp r];exact Reps.GE
 |t::l,vs,n+1,r=>by
  obtain⟨v,us,rfl,p,q⟩:=Reps.me.mp r;exact q.drop n
theorem Reps.ints:∀{ns:List Int},Reps K O H (ns.map T.int) (ns.map V.int)
 |[] =>Reps.GE
 |n::r=>Reps.FS (Rep.Gc n) Reps.ints
def RowsR(K:NI)(O:Ow)(H:Hp):List (List T×List T)->List ZE->Prop
 |[],as=>as=[]
 |r::rs,as=>∃b bs kvs,as=b::bs/\H b=ZA (.dT kvs)/\r.1.map keyOf=kvs.map (λp=>ZA p.1)/\Reps K O H r.2 (kvs.map (·.2))/\RowsR K O H rs bs
def LsR(K:NI)(O:Ow)(H:Hp):List (List T)->List ZE->Prop
 |[],as=>as=[]
 |l::ls,as=>∃b bs vs,as=b::bs/\H b=ZA (.lst vs)/\Reps K O H l vs/\LsR K O H ls bs
def ORep(K:NI)(O M:Ow)(H:Hp):OT->V->Prop
 |.lst l,v=>∃a vs,v=.ref a/\(∀b,M b↔b=a)/\H a=ZA (.lst vs)/\Reps K O H l vs
 |.dct ks ts,v=>∃a kvs,v=.ref a/\(∀b,M b↔b=a)/\H a=ZA (.dT kvs)/\ks.map keyOf=kvs.map (λp=>ZA p.1)/\Reps K O H ts (kvs.map (·.2))
 |.dd ks rows,v=>∃a kvs as,v=.ref a/\(∀b,M b↔b=a\/b∈as)/\a∉as/\as.Nodup/\H a=ZA (.dT kvs)/\ks.map keyOf=kvs.map (λp=>ZA p.1)/\kvs.map (·.2)=as.map V.ref/\RowsR K O H rows as
 |.ob C ns ls,v=>∃a dx as,v=.ref a/\(∀b,M b↔b=a\/b=dx\/b∈as)/\(a∉as/\dx∉as/\dx≠a/\as.Nodup)/\H a=ZA (.ins (bO K C) dx (ns.zip (as.map V.ref)))/\H dx=ZA (.own a)/\ns.length=as.length/\ns.Nodup/\LsR K O H ls as
inductive Sl where
 |em|va (t:T)|ow (o:OT)
abbrev En:=List Sl
abbrev V6:=En->Rs Bool
abbrev V5:=En->Rs T
abbrev V3:=En->Rs (List T)
abbrev Mn:=Nat->Ow
def Mn.u(M:Mn):Ow:=λa=>∃i,M i a
def isO:HO->Bool
 |.ins _ _ _=>ZC
 |.own _=>ZC
 |_=>ZD
def Mtb(H:Hp)(a:ZE):Prop:=(∃vs,H a=ZA (.lst vs))\/(∃kvs,H a=ZA (.dT kvs))\/∃o,H a=ZA o/\isO o=ZC
def Mtb.some(h:Mtb H a):∃o,H a=ZA o:=by
 rcases h with⟨_,e⟩|⟨_,e⟩|⟨_,e,_⟩ <;> exact⟨_,e⟩
def Mtb.at(s:∀o,H a=OH o->H' a=OH o)(h:Mtb H a):Mtb H' a:=by
 rcases h with⟨vs,e⟩|⟨k,e⟩|⟨o,e,q⟩
 ·exact .inl ⟨vs,s _ e⟩
 ·exact .inr (.inl ⟨k,s _ e⟩)
 ·exact .inr (.inr ⟨o,s _ e,q⟩)
def Mtb.same(s:Same H H')(h:Mtb H a):Mtb H' a:=h.at λo e=>s a o e
structure EnvM (K:NI)(O:Ow)(M:Mn)(H:Hp)(Z:En)(σ:L2.St):Prop where
 len:Z.length=σ.length
 val:∀(i:Nat)(t:T),Z[i]?=ZA (.va t)->∃v,σ[i]?=ZA (ZA v)/\Rep K O H t v
 own:∀(i:Nat)(o:OT),Z[i]?=ZA (.ow o)->∃v,σ[i]?=ZA (ZA v)/\ORep K O (M i) H o v
 sub:∀(i:Nat)(a:ZE),M i a->O a
 dis:∀(i j:Nat)(a:ZE),M i a->M j a->i=j
 trk:∀(a:ZE),O a->Mtb H a
theorem RowsR.same(h:Same H H'):∀{rs:List (List T×List T)}{as:List ZE},RowsR K O H rs as->RowsR K O H' rs as
 |[],_,r=>r
 |_::_,_,⟨b,bs,kvs,e1,e2,e3,e4,e5⟩=>⟨b,bs,kvs,e1,h _ _ e2,e3,e4.same h,e5.same h⟩
theorem LsR.same(h:Same H H'):∀{ls:List (List T)}{as:List ZE},LsR K O H ls as->LsR K O H' ls as
 |[],_,r=>r
 |_::_,_,⟨b,bs,vs,e1,e2,e3,e4⟩=>⟨b,bs,vs,e1,h _ _ e2,e3.same h,e4.same h⟩
theorem ORep.same{M:Ow}(h:Same H H'){o:OT}(r:ORep K O M H o v):ORep K O M H' o v:=by
 cases o with
 |lst l=>obtain⟨a,vs,e1,e2,e3,e4⟩:=r;exact⟨a,vs,e1,e2,h _ _ e3,e4.same h⟩
 |dct ks ts=>obtain⟨a,kvs,e1,e2,e3,e4,e5⟩:=r;exact⟨a,kvs,e1,e2,h _ _ e3,e4,e5.same h⟩
 |dd ks rows=>obtain⟨a,kvs,as,e1,e2,e3,e4,e5,e6,e7,e8⟩:=r;exact⟨a,kvs,as,e1,e2,e3,e4,h _ _ e5,e6,e7,e8.same h⟩
 |ob C ns ls=>obtain⟨a,dx,as,e1,e2,e3,e4,e5,e6,e7,e8⟩:=r;exact⟨a,dx,as,e1,e2,e3,h _ _ e4,h _ _ e5,e6,e7,e8.same h⟩
variable{Z:En}{σ:L2.St}
theorem EnvM.same{M:Mn}(h:Same H H')(e:EnvM K O M H Z σ):EnvM K O M H' Z σ where
 len:=e.len
 val:=λi t q=>let ⟨v,e1,e2⟩:=e.val i t q;⟨v,e1,e2.same h⟩
 own:=λi o q=>let ⟨v,e1,e2⟩:=e.own i o q;⟨v,e1,e2.same h⟩
 sub:=e.sub
 dis:=e.dis
 trk:=λa q=>(e.trk a q).same h
def EnvO(K:NI)(O:Ow)(H:Hp)(Z:En)(σ:L2.St):Prop:=∃M,EnvM K O M H Z σ
variable{p:ZE}
theorem EnvO.val(e:EnvO K O H Z σ)(i:Nat)(t:T)(q:Z[i]?=ZA (.va t)):∃v,σ[i]?=ZA (ZA v)/\Rep K O H t v:=e.elim λ_ e=>e.val i t q
def EnvO.mtb(e:EnvO K O H Z σ):∀a,O a->Mtb H a:=e.elim λ_ e=>e.trk
def EnvO.trk(e:EnvO K O H Z σ)(a:ZE)(z:O a):∃o,H a=ZA o:=(e.mtb a z).some
theorem EnvO.same(h:Same H H')(e:EnvO K O H Z σ):EnvO K O H' Z σ:=e.elim λM e=>⟨M,e.same h⟩
def EnvO.fresh(e:EnvO K O H Z σ)(h:H p=ZB):¬ O p:=λz=>by
 obtain⟨o,q⟩:=e.trk p z;rw[h]at q;cases q
def MB(h:ZH)(C e:ZE):Option ZE->Prop
 |none=>∃oe vs,h.get? e=ZA oe/\oe.cls=.ref C/\oe.data=.fields vs/\vs[1]?=ZA .none
 |some T=>T≠e/\∃oe vs,h.get? e=ZA oe/\oe.cls=.ref C/\oe.data=.fields vs/\vs[1]?=ZA (.ref T)/\∃oT ts,h.get? T=ZA oT/\oT.data=.fields ts/\ts[3]?=ZA .none
def RzP(X:Cx)(ol:V2)(P:Ow)(H:Hp)(c:Str)(ev:NK)(s':NO):Prop:=
 ∃e T C σ' H',ev=.ref e/\X.mg c=ZA (.ref C)/\Inv X ol σ' H' s'/\SameO P H H'/\H' e=ZB/\(X.ex=[]->X.s₀.heap.get? e=ZB)/\MB s'.heap C e T/\(∀t,T=ZA t->H' t=ZB/\(X.ex=[]->X.s₀.heap.get? t=ZB))/\∀p∈X.pn++ol,p.1≠e/\T≠ZA p.1
def Nw(K:NI)(H:Hp):Ow:=λa=>H a=ZB/\K.lookup a=ZB
variable{H1:Hp}
def gy(h:SameO P H H1)(n:Nw K H1 a):P a\/Nw K H a:=by
 by_cases hp:P a
 ·exact .inl hp
 ·refine .inr ⟨?_,n.2⟩
  cases q:H a with
  |none=>rfl
  |some o=>have:=h a o q hp;rw[n.1]at this;cases this
def SameO.trans{P1:Ow}{H2:Hp}(h:SameO P H H1)(h1:SameO P1 H1 H2)(sub:∀a,P1 a->P a\/Nw K H a):SameO P H H2:=λb o e n=>
 h1 b o (h b o e n) λz=>(sub b z).elim n λw=>by rw[w.1]at e;cases e
def XA(X:Cx)(P:Ow)(H:Hp)(c:Str):Prop:=∀ol ev s',RzP X ol P H c ev s'->X.xe ev s'
variable{X:Cx}
def XA.later{P1:Ow}{c:Str}(h:XA X P H c)(s:SameO P H H1)(sub:∀a,P1 a->P a\/Nw X.K H a):XA X P1 H1 c:=λol ev s' ⟨e,T,C,σ',H',a1,a2,a3,a4,a5⟩=>
 h ol ev s' ⟨e,T,C,σ',H',a1,a2,a3,s.trans a4 sub,a5⟩
abbrev kY:Ow:=λ_=>False
def Post{α:Type}(X:Cx)(H:Hp)(r:Rs α)(k:α->Hp->Prop):Prop:=match r with
 |.ok t=>∀H',Same H H'->k t H'
 |.err c=>XA X kY H c
 |.bad=>False
def Post.mono{r:Rs α}{k k':α->Hp->Prop}(h:Post X H r k)(f:∀t H',Same H H'->k t H'->k' t H'):Post X H r k':=by
 cases r with
 |ok t=>exact λH' s=>f t H' s (h H' s)
 |err c=>exact h
 |bad=>exact h
theorem Post.later{r:Rs α}{k:α->Hp->Prop}(h:Post X H r k)(s:Same H H1):Post X H1 r k:=by
 cases r with
 |ok t=>exact λH' s'=>h H' (s.trans s')
 |err c=>exact XA.later h (SameO.of s) λ_ z=>z.elim
 |bad=>exact h
def Post.bind{r:Rs α}{f:α->Rs β}{k:β->Hp->Prop}(h:Post X H (r >>= f) k):Post X H r λt H'=>Post X H' (f t) k:=by
 cases r with
 |ok t=>exact λH' s=>Post.later h s
 |err c=>exact h
 |bad=>exact h
def tP(X:Cx)(f:V5):TE:=λσ H Q=>∃Z O,EnvO X.K O H Z σ/\Post X H (f Z) λt H'=>∀v,Rep X.K O H' t v->Q v H'
def tPA(X:Cx)(f:V3):TA:=λσ H Q=>∃Z O,EnvO X.K O H Z σ/\Post X H (f Z) λt H'=>∀v,Reps X.K O H' t v->Q v H'
def BN(X:Cx)(f:V6):TT:=λσ H Q=>∃Z O,EnvO X.K O H Z σ/\Post X H (f Z) λb H'=>Q b H'
abbrev cy(X:Cx)(e:ZG)(f:V5):Prop:=PE X e (tP X f)
abbrev qB(X:Cx)(e:List ZG)(f:V3):Prop:=PA X e (tPA X f)
abbrev rk(X:Cx)(e:ZG)(f:V6):Prop:=PT X e (BN X f)
variable{e:ZG}
def PE.imp{t t':TE}(h:PE X e t)(w:∀σ H Q,t' σ H Q->t σ H Q):PE X e t':=λol s σ H Q I q=>h ol s σ H Q I (w σ H Q q)
def PA.imp{e:List ZG}{t t':TA}(h:PA X e t)(w:∀σ H Q,t' σ H Q->t σ H Q):PA X e t':=λpos ol s σ H Q I q=>h pos ol s σ H Q I (w σ H Q q)
def PT.imp{t t':TT}(h:PT X e t)(w:∀σ H Q,t' σ H Q->t σ H Q):PT X e t':=λol s σ H Q I q=>h ol s σ H Q I (w σ H Q q)
def PS.imp{e:ZF}{t t':TS}(h:PS X e t)(w:∀D σ H,t' D σ H->t D σ H):PS X e t':=λol s σ H D I q=>h ol s σ H D I (w D σ H q)
def PSs.imp{e:List ZF}{t t':TS}(h:PSs X e t)(w:∀D σ H,t' D σ H->t D σ H):PSs X e t':=λol s σ H D I q=>h ol s σ H D I (w D σ H q)
variable{es:List ZG}{f:V3}{pos:Pos}{x:Str}
def a9{f:V5}{k:T->Rs α}{Q:α->Hp->Prop}(E:EnvO X.K O H Z σ)(h:Post X H (f Z >>= k) Q):
  tP X f σ H λv H'=>∃t,Rep X.K O H' t v/\Same H H'/\EnvO X.K O H' Z σ/\Post X H' (k t) Q:=
 ⟨Z,O,E,Post.mono h.bind λt H' s q v r=>⟨t,r,s,E.same s,q⟩⟩
def gK{k:List T->Rs α}{Q:α->Hp->Prop}(E:EnvO X.K O H Z σ)(h:Post X H (f Z >>= k) Q):
  tPA X f σ H λv H'=>∃t,Reps X.K O H' t v/\Same H H'/\EnvO X.K O H' Z σ/\Post X H' (k t) Q:=
 ⟨Z,O,E,Post.mono h.bind λt H' s q v r=>⟨t,r,s,E.same s,q⟩⟩
def lM{f:V6}{k:Bool->Rs α}{Q:α->Hp->Prop}(E:EnvO X.K O H Z σ)(h:Post X H (f Z >>= k) Q):
  BN X f σ H λb H'=>Same H H'/\EnvO X.K O H' Z σ/\Post X H' (k b) Q:=
 ⟨Z,O,E,Post.mono h.bind λt H' s q=>⟨s,E.same s,q⟩⟩
noncomputable def vr(i:Nat)(Z:En):Rs T:=match Z[i]? with
 |some (.va t)=>.ok t
 |_=>.bad
def cn(t:T)(_:En):Rs T:=.ok t
def Lf(i:Nat)(hN:autoParam (X.N[i]?=ZA x) aqd._auto_1)(hv:autoParam (lJ X.env.scope x) aqe._auto_1)(hd:autoParam ((x == ("__debug__" : Str))=ZD) aqb._auto_1)
  (hcd:autoParam ((x == ("__classdict__" : Str))=ZD) aqb._auto_1):cy X (.Name x pos) (vr i):=PE.imp (eF hN hv hd hcd) λσ H Q hh_=>by
 obtain⟨Z,O,E,h⟩:=hh_;unfold vr at h
 split at h
 ·rename_i t e
  obtain⟨v,e1,e2⟩:=E.val i t e;exact⟨v,e1,h H (Same.refl H) v e2⟩
 ·exact h.elim
def Lo{i j pos}:cy X (.Constant (.int i) j pos) (cn (.int i)):=PE.imp CF λσ H Q ⟨Z,O,E,h⟩=>h H (Same.refl H) _ (Rep.Gc i)
def q_bl{i j pos}:cy X (.Constant (.bool i) j pos) (cn (.bl i)):=PE.imp CI λσ H Q ⟨Z,O,E,h⟩=>h H (Same.refl H) _ (Rep.bl_ i)
def Lk{j pos}:cy X (.Constant .none j pos) (cn .non):=PE.imp CD λσ H Q ⟨Z,O,E,h⟩=>h H (Same.refl H) _ Rep.Ni
def Lh{i j pos}:cy X (.Constant (.str i) j pos) (cn (.str i)):=PE.imp CB λσ H Q ⟨Z,O,E,h⟩=>h H (Same.refl H) _ (Rep.Np i)
def IQ{u:NK}(hm:X.mg x=ZA u)(r:RelV (.int i) u)(hg:autoParam (Gl X x) aqd._auto_1)(hd:autoParam ((x == ("__debug__" : Str))=ZD) aqb._auto_1):cy X (.Name x pos) (cn (.int i)):=
 PE.imp (zo hg hm r hd) λσ H Q ⟨Z,O,E,h⟩=>h H (Same.refl H) _ (Rep.Gc i)
def ai(_:En):Rs (List T):=.ok []
def ae(f:V5)(g:V3)(Z:En):Rs (List T):=do
 let t <-f Z
 let r <-g Z
 .ok (t::r)
def IP:qB X [] ai:=PA.imp dH λσ H Q ⟨Z,O,E,h⟩=>h H (Same.refl H) _ Reps.GE
def FJ{f:V5}{g:V3}(he:cy X e f)(hr:qB X es g)(hs:autoParam (NW (e::es) X.env=(ZD,eval e X.env)::NW es X.env) aqd._auto_1):qB X (e::es) (ae f g):=by
 intro pos ol s σ H Q I h;obtain⟨Z,O,E,h⟩:=h;refine br he hr hs pos ol s σ H Q I ?_
 obtain⟨Z1,O1,E1,h1⟩:=a9 E h;refine⟨Z1,O1,E1,Post.mono h1 λt H' s q v r=>?_⟩
 obtain⟨t',r',s',E',q'⟩:=q v r;refine⟨Z,O,E',Post.mono q'.bind λts H2 s2 q2 vs rs=>?_⟩
 exact q2 H2 (Same.refl H2) _ (Reps.FS (r'.same s2) rs)
variable{g:T->T->Rs T}
section
def la(l:List T):Rs T:=if l.length<=sizeLine then .ok (.tup l)else .bad
def lb(l:List T):Rs T:=if l.length<=sizeLine then .ok (.lst l)else .bad
def aK(f:V3)(Z:En):Rs T:=f Z >>= la
def fz(f:V3)(Z:En):Rs T:=f Z >>= lb
def bj(h:H p=ZB)(o:HO):Same H (upd H p o):=λb u q=>by rw[aB (cw q h)];exact q
def iN(h:H p=ZB)(n:¬ O p)(r:Reps K O H l vs):Rep K O (upd H p (.tup vs)) (.tup l) (.ref p):=
 Rep.Fk.mpr ⟨p,vs,rfl,n,aG,r.same (bj h _)⟩
def l8(h:H p=ZB)(n:¬ O p)(r:Reps K O H l vs):Rep K O (upd H p (.lst vs)) (.lst l) (.ref p):=
 Rep.Do.mpr ⟨p,vs,rfl,n,aG,r.same (bj h _)⟩
def Lg{pos:Pos}(h:qB X es f):cy X (.Tuple es x1 pos) (aK f):=by
 intro ol s σ H Q I ⟨Z,O,E,hq⟩;refine tS h ol s σ H Q I ?_
 obtain⟨Z1,O1,E1,h1⟩:=gK E hq;refine⟨Z1,O1,E1,Post.mono h1 λts H1 s1 q vs r=>?_⟩
 obtain⟨t',r',s',E',q'⟩:=q vs r;unfold la at q'
 split at q'
 ·rename_i hz
  refine⟨by rw[<-r'.length];exact hz,λp hp=>?_⟩
  exact q' _ (bj hp _) _ (iN hp (E'.fresh hp) r')
 ·exact q'.elim
def Lm{pos:Pos}(h:qB X es f):cy X (.List es pos) (fz f):=by
 intro ol s σ H Q I ⟨Z,O,E,hq⟩;refine x6 h ol s σ H Q I ?_
 obtain⟨Z1,O1,E1,h1⟩:=gK E hq;refine⟨Z1,O1,E1,Post.mono h1 λts H1 s1 q vs r=>?_⟩
 obtain⟨t',r',s',E',q'⟩:=q vs r;unfold lb at q'
 split at q'
 ·rename_i hz
  refine⟨by rw[<-r'.length];exact hz,λp hp=>?_⟩
  exact q' _ (bj hp _) _ (l8 hp (E'.fresh hp) r')
 ·exact q'.elim
def OpT(X:Cx)(f:NK->NK->Sem NK)(g:T->T->Rs T):Prop:=
 ∀(ol:V2)(s:NO)(σ:L2.St)(H:Hp)(O:Ow)(x y:T)(vx vy:V)(ux uy:NK)(Q:VK),Inv X ol σ H s->(∀p,H p=ZB->¬ O p)->Rep X.K O H x vx->Rep X.K O H y vy->RelV vx ux->RelV vy uy →
  Post X H (g x y) (λt H'=>∀v,Rep X.K O H' t v->Q v H')->wpAny (model X.prog X.w) X.A (f ux uy) (EP X ol σ Q) X.xe s
def o2(g:T->T->Rs T)(fa fb:V5)(Z:En):Rs T:=do
 let x <-fa Z
 let y <-fb Z
 g x y
variable {a b c:ZG}{fa fb fc:V5}
def Ls{op:Operator}(ho:OpT X (PH op) g)(ha:cy X a fa)(hb:cy X b fb):cy X (.BinOp a op b pos) (o2 g fa fb):=by
 intro ol s σ H Q I ⟨Z,O,E,hq⟩
 have h1:=a9 E hq;refine wpAny_BinOp (bU (ha ol s σ H _ I h1) λv s1 hh_=>?_)
 obtain⟨x,H1,I1,r1,t,rt,s',E',q1⟩:=hh_
 have h2:=a9 (f:=fb) E' q1;refine bU (hb ol s1 σ H1 _ I1 h2) λu s2 hh_=>?_
 obtain⟨y,H2,I2,r2,t2,rt2,s'',E'',q2⟩:=hh_;exact ho ol s2 σ H2 O t t2 x y v u Q I2 (λp=>E''.fresh) (rt.same s'') rt2 r1 r2 q2
def Lr(ho:OpT X (OG op) g)(ha:cy X a fa)(hb:cy X b fb)(hm:autoParam (P9 op b=ZD) aqd._auto_1):cy X (.Compare a [op] [b] pos) (o2 g fa fb):=by
 intro ol s σ H Q I ⟨Z,O,E,hq⟩
 have h1:=a9 E hq;refine wpAny_Compare1 (bU (ha ol s σ H _ I h1) λv s1 ⟨x,H1,I1,r1,t,rt,s',E',q1⟩=>?_) hm
 have h2:=a9 (f:=fb) E' q1;refine bU (hb ol s1 σ H1 _ I1 h2) λu s2 hh_=>?_
 obtain⟨y,H2,I2,r2,t2,rt2,s'',E'',q2⟩:=hh_;exact ho ol s2 σ H2 O t t2 x y v u Q I2 (λp=>E''.fresh) (rt.same s'') rt2 r1 r2 q2
def OpT.of{f:NK->NK->Sem NK}{r:R2}(h:qG X f r)
  (w:∀(H:Hp)(O:Ow)(x y:T)(vx vy:V)(Q:VK),(∀p,H p=ZB->¬ O p)->Rep X.K O H x vx->Rep X.K O H y vy->Post X H (g x y) (λt H'=>∀v,Rep X.K O H' t v->Q v H')->r vx vy H Q):OpT X f g:=
 λol s σ H O x y vx vy ux uy Q I hf rx ry r1 r2 hp=>h ol s σ H vx vy ux uy Q I r1 r2 (w H O x y vx vy Q hf rx ry hp)
def cZ:T->T->Rs T
 |.int i,.int j=>.ok (.int (i - j))
 |_,_=>.bad
def cV:OpT X (PH .Sub) cZ:=OpT.of Jh λH O x y vx vy Q hf rx ry hp=>by
 unfold cZ at hp
 split at hp
 ·exact⟨_,_,Rep.AC.mp rx,Rep.AC.mp ry,hp H (Same.refl H) _ (Rep.Gc _)⟩
 ·exact hp.elim
def mx:T->T->Rs T
 |.int i,.int j=>if 0<j/\j<1073741824 then .ok (.int (i / j))else .bad
 |_,_=>.bad
def mj:T->T->Rs T
 |.int i,.int j=>if 0<j then .ok (.int (i % j))else .bad
 |_,_=>.bad
def om:OpT X (PH .FloorDiv) mx:=OpT.of F5 λH O x y vx vy Q hf rx ry hp=>by
 unfold mx at hp
 split at hp
 ·split at hp
  ·rename_i h
   exact⟨_,_,Rep.AC.mp rx,Rep.AC.mp ry,h,hp H (Same.refl H) _ (Rep.Gc _)⟩
  ·exact hp.elim
 ·exact hp.elim
def lr:OpT X (PH .Mod) mj:=OpT.of Jk λH O x y vx vy Q hf rx ry hp=>by
 unfold mj at hp
 split at hp
 ·split at hp
  ·rename_i h
   exact⟨_,_,Rep.AC.mp rx,Rep.AC.mp ry,h,hp H (Same.refl H) _ (Rep.Gc _)⟩
  ·exact hp.elim
 ·exact hp.elim
def CN:qG X (PH .Add) (λx y H Q=>∃a b ys,x=.ref a/\y=.ref b/\SqT X.K H a []/\SqT X.K H b ys/\Q (.ref b) H):=by
 intro ol s σ H x y v u Q I rx ry h;obtain⟨a,b,ys,rfl,rfl,ha,hb,q⟩:=h;cases rx;cases ry;obtain⟨its,r1,p1,_⟩:=I.tuple ha;obtain⟨its2,r2,p2,_⟩:=I.tuple hb;obtain⟨⟨cls,dd,data,sl⟩,ho,hc,n,hd⟩:=id p1;obtain⟨⟨cls2,dd2,data2,sl2⟩,ho2,hc2,n2,hd2⟩:=id p2;simp only at hc hd hc2 hd2;subst hc hd hc2 hd2
 have e:its=[]:=by cases r1;rfl
 subst e;exact HT_concat0 ho ho2 ⟨.ref b,H,I,rfl,q⟩
where
 HT_concat0 {prog:N8} {w:OV} {A:Oq} {E:V1} {s:NO} {t b:ZE} {ws:Array NK} {n n2:Nat} {dd dd2:Option ZE} {sl sl2:Array (Option NK)} {Q:V1}
   (ho:s.heap.get? t=ZA {cls:=.type "tuple",dict:=dd,data:=.seq (([]:List NK).toArray) n,slots:=sl}) (ho2:s.heap.get? b=ZA {cls:=.type "tuple",dict:=dd2,data:=.seq ws n2,slots:=sl2}) (h:Q (.ref b) s):
   wpAny (model prog w) A (PH .Add (.ref t) (.ref b)) Q E s:=
  UH ⟨_,ho,rfl⟩ ⟨_,ho2,rfl⟩ SE T6 Rl Rb (Q5 _ _)
   (tuple_addW0 t b _ _ n n2 dd dd2 sl sl2 (by simp)) ⟨ho,ho2,h⟩
def aP:T->T->Rs T
 |.int i,.int j=>.ok (.int (i+j))
 |.str i,.str j=>if i.length+j.length<=sizeLine then .ok (.str (i++j))else .bad
 |.tup l,.tup m=>la (l++m)
 |.lst l,.lst m=>lb (l++m)
 |_,_=>.bad
def aN:OpT X (PH .Add) aP:=by
 intro ol s σ H O x y vx vy ux uy Q I hf rx ry r1 r2 hp;unfold aP at hp
 split at hp
 ·exact Jm ol s σ H vx vy ux uy Q I r1 r2 ⟨_,_,Rep.AC.mp rx,Rep.AC.mp ry,hp H (Same.refl H) _ (Rep.Gc _)⟩
 ·split at hp
  ·rename_i h
   exact ya ol s σ H vx vy ux uy Q I r1 r2 ⟨_,_,Rep.GM.mp rx,Rep.GM.mp ry,h,hp H (Same.refl H) _ (Rep.Np _)⟩
  ·exact hp.elim
 ·rename_i l m
  unfold la at hp
  split at hp
  ·rename_i h
   obtain⟨a,vs,e1,n1,q1,z1⟩:=Rep.Fk.mp rx;obtain⟨b,ws,e2,n2,q2,z2⟩:=Rep.Fk.mp ry
   have hl1:=z1.length
   have hl2:=z2.length;rw[NT]at h
   cases vs with
   |nil=>
    have e:l=[]:=by cases l with
     |nil=>rfl
     |cons _ _=>simp at hl1
    subst e
    exact CN ol s σ H vx vy ux uy Q I r1 r2 ⟨a,b,ws,e1,e2,SqT.of q1,SqT.of q2,hp H (Same.refl H) _ (Rep.Fk.mpr ⟨b,ws,rfl,n2,q2,z2⟩)⟩
   |cons v0 vr=>
    refine F6 ol s σ H vx vy ux uy Q I r1 r2 ⟨a,b,v0::vr,ws,e1,e2,SqT.of q1,SqT.of q2,by simp,by omega,λhw=>?_,λ_ p hpn=>?_⟩
    ·subst hw
     have e:m=[]:=by cases m with
      |nil=>rfl
      |cons _ _=>simp at hl2
     subst e;rw[Oi]at hp;exact hp H (Same.refl H) _ (Rep.Fk.mpr ⟨a,_,rfl,n1,q1,z1⟩)
    ·exact hp _ (bj hpn _) _ (iN hpn (hf p hpn) (z1.append z2))
  ·exact hp.elim
 ·rename_i l m
  unfold lb at hp
  split at hp
  ·rename_i h
   obtain⟨a,vs,e1,n1,q1,z1⟩:=Rep.Do.mp rx;obtain⟨b,ws,e2,n2,q2,z2⟩:=Rep.Do.mp ry
   have hl1:=z1.length
   have hl2:=z2.length;rw[NT]at h;exact CO ol s σ H vx vy ux uy Q I r1 r2 ⟨a,b,vs,ws,e1,e2,q1,q2,by omega,λp hpn=>hp _ (bj hpn _) _ (l8 hpn (hf p hpn) (z1.append z2))⟩
  ·exact hp.elim
 ·exact hp.elim
def yi:T->T->Rs T
 |.int i,.int j=>if (-(2 ^ 64)<i/\i<2 ^ 64)\/(-(2 ^ 64)<j/\j<2 ^ 64)then .ok (.int (i*j))else .bad
 |.lst l,.int k=>if -(2 ^ 63)<=k/\k<2 ^ 63/\l.length*k.toNat<=sizeLine then .ok (.lst (N9 k.toNat l).flatten)else .bad
 |_,_=>.bad
theorem Reps.rep(h:Reps K O H l vs):∀k:Nat,Reps K O H (N9 k l).flatten (N9 k vs).flatten
 |0=>Reps.GE
 |k+1=>by rw[Pz,Pz,Qn,Qn];exact h.append (h.rep k)
def Jg:OpT X (PH .Mult) yi:=by
 intro ol s σ H O x y vx vy ux uy Q I hf rx ry r1 r2 hp;unfold yi at hp
 split at hp
 ·split at hp
  ·rename_i h
   exact Jj ol s σ H vx vy ux uy Q I r1 r2 ⟨_,_,Rep.AC.mp rx,Rep.AC.mp ry,h,hp H (Same.refl H) _ (Rep.Gc _)⟩
  ·exact hp.elim
 ·split at hp
  ·rename_i l k h
   obtain⟨a,vs,e1,n1,q1,z1⟩:=Rep.Do.mp rx
   have hl1:=z1.length;exact Ji ol s σ H vx vy ux uy Q I r1 r2 ⟨a,k,vs,e1,Rep.AC.mp ry,q1,h.1,h.2.1,by rw[<-hl1];exact h.2.2,λp hpn=>hp _ (bj hpn _) _ (l8 hpn (hf p hpn) (z1.rep _))⟩
  ·exact hp.elim
 ·exact hp.elim
def jP:T->Rs T
 |.int i=>.ok (.int (-i))
 |_=>.bad
def o1(g:T->Rs T)(fa:V5)(Z:En):Rs T:=fa Z >>= g
def Ll(ha:cy X a fa):cy X (.UnaryOp .USub a pos) (o1 jP fa):=by
 intro ol s σ H Q I ⟨Z,O,E,hq⟩;refine Lw HZ ha ol s σ H Q I ?_
 obtain⟨Z1,O1,E1,h1⟩:=a9 E hq;refine⟨Z1,O1,E1,Post.mono h1 λts H1 s1 q vs r=>?_⟩
 obtain⟨t',r',s',E',q'⟩:=q vs r;unfold jP at q'
 split at q'
 ·exact⟨_,Rep.AC.mp r',q' H1 (Same.refl H1) _ (Rep.Gc _)⟩
 ·exact q'.elim
def yO(p:Int->Int->Bool):T->T->Rs T
 |.int i,.int j=>.ok (.bl (p i j))
 |_,_=>.bad
def zv{p:Int->Int->Bool}(h:qG X (OG op) (Ir λi j=>.bl (p i j))):OpT X (OG op) (yO p):=OpT.of h λH O x y vx vy Q hf rx ry hp=>by
 unfold yO at hp
 split at hp
 ·exact⟨_,_,Rep.AC.mp rx,Rep.AC.mp ry,hp H (Same.refl H) _ (Rep.bl_ _)⟩
 ·exact hp.elim
abbrev pP:=yO λi j=>decide (i<j)
abbrev Bq:=yO λi j=>decide (i<=j)
def nE:OpT X (OG .Lt) pP:=zv LA
def rN:OpT X (OG .LtE) Bq:=zv LB
def T.isN:T->Bool
 |.non=>ZC
 |_=>ZD
def Rep.isN{t:T}(r:Rep K O H t v):decide (v=.non)=t.isN:=by
 cases t with
 |non=>rw[Rep.IR.mp r];rfl
 |bl _=>rw[Rep.FM.mp r];rfl
 |int _=>rw[Rep.AC.mp r];rfl
 |str _=>rw[Rep.GM.mp r];rfl
 |tup _=>obtain⟨a,vs,e,_⟩:=Rep.Fk.mp r;rw[e];rfl
 |lst _=>obtain⟨a,vs,e,_⟩:=Rep.Do.mp r;rw[e];rfl
 |scr _=>unfold Rep at r;obtain⟨a,e,_⟩:=r;rw[e];rfl
 |dct _ _=>obtain⟨a,_,e,_⟩:=Rep.KB.mp r;rw[e];rfl
 |ob _ _ _=>obtain⟨a,_,_,e,_⟩:=Rep.M8.mp r;rw[e];rfl
def jX:T->T->Rs T
 |x,.non=>.ok (.bl x.isN)
 |_,_=>.bad
def dw:T->T->Rs T
 |x,.non=>.ok (.bl (!x.isN))
 |_,_=>.bad
def rO:OpT X (OG .Is) jX:=OpT.of Jl λH O x y vx vy Q hf rx ry hp=>by
 unfold jX at hp
 split at hp
 ·exact⟨Rep.IR.mp ry,hp H (Same.refl H) _ (by rw[rx.isN];exact Rep.bl_ _)⟩
 ·exact hp.elim
def fg:OpT X (OG .IsNot) dw:=OpT.of F4 λH O x y vx vy Q hf rx ry hp=>by
 unfold dw at hp
 split at hp
 ·exact⟨Rep.IR.mp ry,hp H (Same.refl H) _ (by rw[rx.isN];exact Rep.bl_ _)⟩
 ·exact hp.elim
end
end Tr
namespace Tr
open PySem PySem.Spec PyProof.Rows L2
open PySem.SeqAt
mutual
def ReV(s:NO):T->NK->Prop
 |.non,u=>u=.none
 |.bl b,u=>u=.bool b
 |.int i,u=>∃t,u=.int i t
 |.str x,u=>∃t,u=.str x t
 |.tup l,u=>∃a its,u=.ref a/\s.heap.IsTuple a (UC its)/\ReVs s l its
 |.lst l,u=>∃a its,u=.ref a/\s.heap.IsList a (UC its)/\ReVs s l its
 |.scr l,u=>∃a its,u=.ref a/\s.heap.IsList a (UC its)/\RG its l
 |.dct _ _,_=>False
 |.ob _ _ _,_=>False
def ReVs(s:NO):List T->List NK->Prop
 |[],us=>us=[]
 |t::r,us=>∃u ws,us=u::ws/\ReV s t u/\ReVs s r ws
end
def ReVs.Da:ReVs s [] us↔us=[]:=by unfold ReVs;exact Rg
variable{l:List T}
def ReVs.me{t:T}:ReVs s (t::l) us↔ ∃u ws,us=u::ws/\ReV s t u/\ReVs s l ws:=by
 constructor
 ·intro h;unfold ReVs at h;exact h
 ·intro h;unfold ReVs;exact h
theorem ReVs.length:∀{l:List T}{us:List NK},ReVs s l us->l.length=us.length
 |[],us,r=>by rw[ReVs.Da.mp r];rfl
 |t::l,us,r=>by
  obtain⟨v,ws,rfl,_,q⟩:=ReVs.me.mp r;simp[q.length]
theorem ReVs.get:∀{l:List T}{us:List NK}{i:Nat}{t:T},ReVs s l us->l[i]?=ZA t->∃v,us[i]?=ZA v/\ReV s t v
 |[],_,_,_,_,e=>by simp at e
 |t::l,vs,i,u,r,e=>by
  obtain⟨v,ws,rfl,p,q⟩:=ReVs.me.mp r
  cases i with
  |zero=>simp at e;subst e;exact⟨v,rfl,p⟩
  |succ i=>
   obtain⟨z,e1,e2⟩:=q.get (i:=i) (t:=u) (by simpa using e)
   exact⟨z,by simpa using e1,e2⟩
mutual
def T.nd:T->Bool
 |.dct _ _=>ZD
 |.ob _ _ _=>ZD
 |.tup l=>nds l
 |.lst l=>nds l
 |_=>ZC
def nds:List T->Bool
 |[] =>ZC
 |t::l=>t.nd&&nds l
end
def wz{t:T}(h:nds (t::l)=ZC):t.nd=ZC/\nds l=ZC:=by unfold nds at h;exact O6.mp h
theorem yh:∀{l:List T},(∀t∈l,t.nd=ZC)->nds l=ZC
 |[],_=>rfl
 |t::l,h=>by unfold nds;rw[h t NN,yh λu hu=>h u (NJ _ hu)];rfl
variable{X:Cx}
section
variable {ol:V2}{σ:L2.St}{H:Hp}{O:Ow}
mutual
theorem Rep.val(I:Inv X ol σ H s):∀{t:T}{v:V}{u:NK},t.nd=ZC->Rep X.K O H t v->RelV v u->ReV s t u
 |.non,v,u,hn,r,q=>by cases Rep.IR.mp r;unfold ReV;exact q
 |.bl b,v,u,hn,r,q=>by cases Rep.FM.mp r;unfold ReV;exact q
 |.int b,v,u,hn,r,q=>by cases Rep.AC.mp r;unfold ReV;exact q
 |.str b,v,u,hn,r,q=>by cases Rep.GM.mp r;unfold ReV;exact q
 |.tup l,v,u,hn,r,q=>by
  obtain⟨a,vs,rfl,_,z,w⟩:=Rep.Fk.mp r;cases q;obtain⟨its,rv,p,_⟩:=I.tuple (SqT.of z);unfold ReV
  exact⟨a,its,rfl,p,Reps.val I (by unfold T.nd at hn;exact hn) w rv⟩
 |.lst l,v,u,hn,r,q=>by
  obtain⟨a,vs,rfl,_,z,w⟩:=Rep.Do.mp r;cases q;obtain⟨its,rv,p,_⟩:=I.list (SqL.of z);unfold ReV
  exact⟨a,its,rfl,p.isList,Reps.val I (by unfold T.nd at hn;exact hn) w rv⟩
 |.scr l,v,u,hn,r,q=>by
  unfold Rep at r;obtain⟨a,rfl,_,z⟩:=r;cases q;obtain⟨its,rv,p,_⟩:=I.list z;unfold ReV
  exact⟨a,its,rfl,p.isList,yC rv⟩
 |.dct _ _,v,u,hn,r,q=>by cases hn
 |.ob _ _ _,v,u,hn,r,q=>by cases hn
theorem Reps.val(I:Inv X ol σ H s):∀{l:List T}{vs:List V}{us:List NK},nds l=ZC->Reps X.K O H l vs->Vals vs us->ReVs s l us
 |[],vs,us,hn,r,q=>by
  cases Reps.Da.mp r;cases q
  exact ReVs.Da.mpr rfl
 |t::l,vs,us,hn,r,q=>by
  obtain⟨v,ws,rfl,p,z⟩:=Reps.me.mp r
  cases q with
  |cons q1 q2=>exact ReVs.me.mpr ⟨_,_,rfl,Rep.val I (wz hn).1 p q1,Reps.val I (wz hn).2 z q2⟩
end
end
mutual
def T.dep:T->Nat
 |.tup l=>deps l+1
 |.lst l=>deps l+1
 |.scr _=>1
 |_=>0
def deps:List T->Nat
 |[] =>0
 |t::l=>max t.dep (deps l)
end
def GX(i:Int):T->Bool
 |.int j=>i == j
 |.bl b=>i == (if b then 1 else 0)
 |_=>ZD
def lg:List Int->List T->Bool
 |[],[] =>ZC
 |i::r,t::l=>GX i t&&lg r l
 |_,_=>ZD
mutual
def bo:T->T->Bool
 |.non,.non=>ZC
 |.bl a,.bl b=>a == b
 |.bl a,.int b=>(if a then 1 else 0) == b
 |.int a,.bl b=>a == (if b then 1 else 0)
 |.int a,.int b=>a == b
 |.str a,.str b=>a == b
 |.tup l,.tup m=>beqTs l m
 |.lst l,.lst m=>beqTs l m
 |.lst l,.scr m=>beqTs l (m.map .int)
 |.scr l,.lst m=>lg l m
 |.scr l,.scr m=>l == m
 |_,_=>ZD
def beqTs:List T->List T->Bool
 |[],[] =>ZC
 |t::l,u::m=>bo t u&&beqTs l m
 |_,_=>ZD
end
def qA(n:Nat)(e:Nat->Bool):(OQ (n+1)).all e=(e 0&&(OQ n).all λj=>e (j+1)):=by
 rw[List.range_succ_eq_map,List.all_cons,List.all_map];rfl
theorem m9:∀(l m:List T)(e:Nat->Bool),(∀(j:Nat) t u,l[j]?=ZA t->m[j]?=ZA u->e j=bo t u) →
  beqTs l m=((OQ (min l.length m.length)).all e&&l.length == m.length)
 |[],[],_,_=>by simp[beqTs]
 |[],_::_,_,_=>by simp[beqTs]
 |_::_,[],_,_=>by simp[beqTs]
 |t::l,u::m,e,h=>by
  have ih:=m9 l m (λj=>e (j+1)) λj t' u' h1 h2=>h (j+1) t' u' (by simpa using h1) (by simpa using h2)
  rw[beqTs,ih]
  have h0:=h 0 t u rfl rfl;simp only[NS];rw[Nat.succ_min_succ,qA,h0,Bool.and_assoc]
  congr 2
  simp
theorem sI:∀{l m:List T},l.length≠m.length->beqTs l m=ZD
 |[],[],h=>absurd rfl h
 |[],_::_,_=>by simp[beqTs]
 |_::_,[],_=>by simp[beqTs]
 |t::l,u::m,h=>by
  rw[beqTs,sI (l:=l) (m:=m) (by intro z;exact h (by simp[z]))]
  simp
theorem j9:∀{l:List T}{i:Nat}{t:T},l[i]?=ZA t->t.dep<=deps l
 |[],_,_,e=>by simp at e
 |t::l,0,u,e=>by simp at e;subst e;unfold deps;exact Nat.le_max_left _ _
 |t::l,i+1,u,e=>by
  have:=j9 (l:=l) (i:=i) (t:=u) (by simpa using e)
  unfold deps;exact OB this (Nat.le_max_right _ _)
variable{a:ZE}
def jW{x y:List NK}(h:s.heap.IsTuple a x.toArray)(h':s.heap.IsTuple a y.toArray):x=y:=by
 obtain⟨o,e,_,n,d⟩:=h;obtain⟨o',e',_,n',d'⟩:=h';rw[e]at e';cases e';rw[d]at d';injection d' with d1 _
 simpa using congrArg SM d1
def dk{x y:List NK}(h:s.heap.IsList a x.toArray)(h':s.heap.IsList a y.toArray):x=y:=by
 obtain⟨o,e,_,n,d⟩:=h;obtain⟨o',e',_,n',d'⟩:=h';rw[e]at e';cases e';rw[d]at d';injection d' with d1 _
 simpa using congrArg SM d1
variable{k:Tok}
def Bg{t:T}(r:ReV s t (.int i k)):GX i t=ZC:=by
 cases t with
 |non=>unfold ReV at r;cases r
 |bl b=>unfold ReV at r;cases r
 |int j=>unfold ReV at r;obtain⟨t,e⟩:=r;injection e with e1 _;subst e1;simp[GX]
 |str x=>unfold ReV at r;obtain⟨t,e⟩:=r;cases e
 |tup l=>unfold ReV at r;obtain⟨a,its,e,_⟩:=r;cases e
 |lst l=>unfold ReV at r;obtain⟨a,its,e,_⟩:=r;cases e
 |scr l=>unfold ReV at r;obtain⟨a,its,e,_⟩:=r;cases e
 |dct _ _=>unfold ReV at r;exact r.elim
 |ob _ _ _=>unfold ReV at r;exact r.elim
theorem qz:∀{ns:List Int}{us:List NK}{l:List T},RG us ns->ReVs s l us->lg ns l=ZC
 |[],us,l,h,r=>by
  cases h
  cases l with
  |nil=>rfl
  |cons t l=>obtain⟨_,_,e,_⟩:=ReVs.me.mp r;cases e
 |n::ns,us,l,h,r=>by
  cases h with
  |cons a b hh=>
   cases l with
   |nil=>have:=ReVs.Da.mp r;cases this
   |cons t l=>
    obtain⟨u,ws,e,p,q⟩:=ReVs.me.mp r;injection e with e1 e2
    subst e1 e2;rw[lg,Bg p,qz hh q];rfl
theorem eK:∀{us:List NK}{ns:List Int},RG us ns->ReVs s (ns.map T.int) us
 |_,_,.nil=>ReVs.Da.mpr rfl
 |_,_,.cons n t h=>ReVs.me.mpr ⟨_,_,rfl,by unfold ReV;exact⟨_,rfl⟩,eK h⟩
theorem jY:∀{us:List NK}{ns ms:List Int},RG us ns->RG us ms->ns=ms
 |_,_,_,.nil,.nil=>rfl
 |_,_,_,.cons n t h,.cons _ _ h'=>by rw[jY h h']
mutual
theorem ReV.refl{s:NO}:∀{t u:T}{v:NK},ReV s t v->ReV s u v->bo t u=ZC
 |.non,u,v,r,q=>by
  unfold ReV at r;subst r
  cases u <;> (unfold ReV at q) <;> first|rfl| (cases q;done)| (obtain⟨_,e⟩:=q;cases e;done)| (obtain⟨_,_,e,_⟩:=q;cases e;done)
 |.bl b,u,v,r,q=>by
  unfold ReV at r;subst r
  cases u <;> (unfold ReV at q) <;> first| (cases q;done)| (cases q;simp[bo];done)| (obtain⟨_,e⟩:=q;cases e;done)| (obtain⟨_,_,e,_⟩:=q;cases e;done)
 |.int b,u,v,r,q=>by
  unfold ReV at r;obtain⟨k,rfl⟩:=r
  cases u <;> (unfold ReV at q) <;> first| (cases q;done)| (obtain⟨_,e⟩:=q;cases e;simp[bo];done)| (obtain⟨_,e⟩:=q;cases e;done)| (obtain⟨_,_,e,_⟩:=q;cases e;done)
 |.str b,u,v,r,q=>by
  unfold ReV at r;obtain⟨k,rfl⟩:=r
  cases u <;> (unfold ReV at q) <;> first| (cases q;done)| (obtain⟨_,e⟩:=q;cases e;simp[bo];done)| (obtain⟨_,e⟩:=q;cases e;done)| (obtain⟨_,_,e,_⟩:=q;cases e;done)
 |.tup l,u,v,r,q=>by
  unfold ReV at r;obtain⟨a,its,rfl,h1,h2⟩:=r
  cases u with
  |non=>unfold ReV at q;cases q
  |dct _ _=>unfold ReV at q;exact q.elim
  |ob _ _ _=>unfold ReV at q;exact q.elim
  |bl _=>unfold ReV at q;cases q
  |int _=>unfold ReV at q;obtain⟨_,e⟩:=q;cases e
  |str _=>unfold ReV at q;obtain⟨_,e⟩:=q;cases e
  |tup m=>
   unfold ReV at q;obtain⟨a',its',e,h1',h2'⟩:=q;injection e with e;subst e
   have:=jW h1 h1';subst this;unfold bo
   exact ReVs.refl h2 h2'
  |lst m=>unfold ReV at q;obtain⟨a',its',e,h1',h2'⟩:=q;injection e with e;subst e;exact absurd rfl (ne_of_list_tuple h1' h1)
  |scr m=>unfold ReV at q;obtain⟨a',its',e,h1',h2'⟩:=q;injection e with e;subst e;exact absurd rfl (ne_of_list_tuple h1' h1)
 |.lst l,u,v,r,q=>by
  unfold ReV at r;obtain⟨a,its,rfl,h1,h2⟩:=r
  cases u with
  |non=>unfold ReV at q;cases q
  |dct _ _=>unfold ReV at q;exact q.elim
  |ob _ _ _=>unfold ReV at q;exact q.elim
  |bl _=>unfold ReV at q;cases q
  |int _=>unfold ReV at q;obtain⟨_,e⟩:=q;cases e
  |str _=>unfold ReV at q;obtain⟨_,e⟩:=q;cases e
  |lst m=>
   unfold ReV at q;obtain⟨a',its',e,h1',h2'⟩:=q;injection e with e;subst e
   have:=dk h1 h1';subst this;unfold bo
   exact ReVs.refl h2 h2'
  |tup m=>unfold ReV at q;obtain⟨a',its',e,h1',h2'⟩:=q;injection e with e;subst e;exact absurd rfl (ne_of_list_tuple h1 h1')
  |scr m=>
   unfold ReV at q;obtain⟨a',its',e,h1',h2'⟩:=q;injection e with e;subst e
   have:=dk h1 h1';subst this;unfold bo
   exact ReVs.refl h2 (eK h2')
 |.scr l,u,v,r,q=>by
  unfold ReV at r;obtain⟨a,its,rfl,h1,h2⟩:=r
  cases u with
  |non=>unfold ReV at q;cases q
  |dct _ _=>unfold ReV at q;exact q.elim
  |ob _ _ _=>unfold ReV at q;exact q.elim
  |bl _=>unfold ReV at q;cases q
  |int _=>unfold ReV at q;obtain⟨_,e⟩:=q;cases e
  |str _=>unfold ReV at q;obtain⟨_,e⟩:=q;cases e
  |lst m=>
   unfold ReV at q;obtain⟨a',its',e,h1',h2'⟩:=q;injection e with e;subst e
   have:=dk h1 h1';subst this;unfold bo
   exact qz h2 h2'
  |tup m=>unfold ReV at q;obtain⟨a',its',e,h1',h2'⟩:=q;injection e with e;subst e;exact absurd rfl (ne_of_list_tuple h1 h1')
  |scr m=>
   unfold ReV at q;obtain⟨a',its',e,h1',h2'⟩:=q;injection e with e;subst e
   have:=dk h1 h1';subst this;unfold bo
   have:=jY h2 h2'
   simp[this]
 |.dct _ _,u,v,r,q=>by unfold ReV at r;exact r.elim
 |.ob _ _ _,u,v,r,q=>by unfold ReV at r;exact r.elim
theorem ReVs.refl{s:NO}:∀{l m:List T}{us:List NK},ReVs s l us->ReVs s m us->beqTs l m=ZC
 |[],m,us,r,q=>by
  cases ReVs.Da.mp r
  cases m with
  |nil=>simp[beqTs]
  |cons _ _=>obtain⟨_,_,e,_⟩:=ReVs.me.mp q;cases e
 |t::l,m,us,r,q=>by
  obtain⟨v,ws,rfl,p,z⟩:=ReVs.me.mp r
  cases m with
  |nil=>cases ReVs.Da.mp q
  |cons u m=>
   obtain⟨v',ws',e,p',z'⟩:=ReVs.me.mp q;injection e with e1 e2
   subst e1 e2;rw[beqTs,ReV.refl p p',ReVs.refl z z'];rfl
end
theorem qy:∀(l:List Int)(m:List T),lg l m=beqTs (l.map T.int) m
 |[],[] =>by simp[lg,beqTs]
 |[],_::_=>by simp[lg,beqTs]
 |_::_,[] =>by simp[lg,beqTs]
 |i::l,t::m=>by
  rw[lg,NM,beqTs,qy l m]
  congr 1
  cases t <;> simp[GX,bo]
theorem sZ:∀(l m:List Int),(l == m)=beqTs (l.map T.int) (m.map T.int)
 |[],[] =>by simp[beqTs]
 |[],_::_=>by simp[beqTs]
 |_::_,[] =>by simp[beqTs]
 |i::l,t::m=>by
  rw[NM,NM,beqTs,<-sZ l m];simp[bo]
theorem gG:∀(l:List Int),deps (l.map T.int)=0
 |[] =>rfl
 |i::l=>by rw[NM,deps,gG l];simp[T.dep]
def kz:T->T->Prop
 |.tup _,.tup _=>False
 |.lst _,.lst _=>False
 |.lst _,.scr _=>False
 |.scr _,.lst _=>False
 |.scr _,.scr _=>False
 |_,_=>True
def w6(A:Oq)(s:NO)(x y:T)(u v:NK)(hn:kz x y)(hu:A.units<cLine)(rx:ReV s x u)(ry:ReV s y v):EqAt A s u v (bo x y)/\RcAt A s u v (bo x y)/\RcNeAt A s u v (!bo x y):=by
 match x,y,hn,rx,ry with
 |.dct _ _,_,_,rx,_=>exact(by unfold ReV at rx;exact rx:False).elim
 |.ob _ _ _,_,_,rx,_=>exact(by unfold ReV at rx;exact rx:False).elim
 |_,.dct _ _,_,_,ry=>exact(by unfold ReV at ry;exact ry:False).elim
 |_,.ob _ _ _,_,_,ry=>exact(by unfold ReV at ry;exact ry:False).elim
 |.non,.non,hn,rx,ry=>
  obtain rfl:u=Ov:=by unfold ReV at rx;exact rx
  obtain rfl:v=Ov:=by unfold ReV at ry;exact ry
  exact⟨EqAt.same _,RcAt.none_none ,RcNeAt.none_none ⟩
 |.non,.bl b2,hn,rx,ry=>
  obtain rfl:u=Ov:=by unfold ReV at rx;exact rx
  obtain rfl:v=OI b2:=by unfold ReV at ry;exact ry
  exact⟨EqAt.none_bool b2,RcAt.none_bool b2,RcNeAt.none_bool b2⟩
 |.non,.int i2,hn,rx,ry=>
  obtain rfl:u=Ov:=by unfold ReV at rx;exact rx
  obtain⟨k2,rfl⟩:∃k,v=Pv i2 k:=by unfold ReV at ry;exact ry
  exact⟨EqAt.none_int i2 k2,RcAt.none_int i2 k2,RcNeAt.none_int i2 k2⟩
 |.non,.str x2,hn,rx,ry=>
  obtain rfl:u=Ov:=by unfold ReV at rx;exact rx
  obtain⟨k2,rfl⟩:∃k,v=Pw x2 k:=by unfold ReV at ry;exact ry
  exact⟨EqAt.none_str x2 k2,RcAt.none_str x2 k2,RcNeAt.none_str x2 k2⟩
 |.non,.tup l2,hn,rx,ry=>
  obtain rfl:u=Ov:=by unfold ReV at rx;exact rx
  unfold ReV at ry;obtain⟨a2,us2,rfl,h2,q2⟩:=ry
  exact⟨EqAt.none_tuple h2 hu,RcAt.none_tuple h2 hu,RcNeAt.none_tuple h2 hu⟩
 |.non,.lst l2,hn,rx,ry=>
  obtain rfl:u=Ov:=by unfold ReV at rx;exact rx
  unfold ReV at ry;obtain⟨a2,us2,rfl,h2,q2⟩:=ry
  exact⟨EqAt.none_list h2 hu,RcAt.none_list h2 hu,RcNeAt.none_list h2 hu⟩
 |.non,.scr l2,hn,rx,ry=>
  obtain rfl:u=Ov:=by unfold ReV at rx;exact rx
  unfold ReV at ry;obtain⟨a2,us2,rfl,h2,q2⟩:=ry
  exact⟨EqAt.none_list h2 hu,RcAt.none_list h2 hu,RcNeAt.none_list h2 hu⟩
 |.bl b1,.non,hn,rx,ry=>
  obtain rfl:u=OI b1:=by unfold ReV at rx;exact rx
  obtain rfl:v=Ov:=by unfold ReV at ry;exact ry
  exact⟨EqAt.bool_none b1,RcAt.bool_none b1,RcNeAt.bool_none b1⟩
 |.bl b1,.bl b2,hn,rx,ry=>
  obtain rfl:u=OI b1:=by unfold ReV at rx;exact rx
  obtain rfl:v=OI b2:=by unfold ReV at ry;exact ry
  exact⟨EqAt.bool_bool b1 b2,RcAt.bool_bool b1 b2,RcNeAt.bool_bool b1 b2⟩
 |.bl b1,.int i2,hn,rx,ry=>
  obtain rfl:u=OI b1:=by unfold ReV at rx;exact rx
  obtain⟨k2,rfl⟩:∃k,v=Pv i2 k:=by unfold ReV at ry;exact ry
  exact⟨EqAt.bool_int b1 i2 k2,RcAt.bool_int b1 i2 k2,RcNeAt.bool_int b1 i2 k2⟩
 |.bl b1,.str x2,hn,rx,ry=>
  obtain rfl:u=OI b1:=by unfold ReV at rx;exact rx
  obtain⟨k2,rfl⟩:∃k,v=Pw x2 k:=by unfold ReV at ry;exact ry
  exact⟨EqAt.bool_str b1 x2 k2,RcAt.bool_str b1 x2 k2,RcNeAt.bool_str b1 x2 k2⟩
 |.bl b1,.tup l2,hn,rx,ry=>
  obtain rfl:u=OI b1:=by unfold ReV at rx;exact rx
  unfold ReV at ry;obtain⟨a2,us2,rfl,h2,q2⟩:=ry
  exact⟨EqAt.bool_tuple b1 h2 hu,RcAt.bool_tuple b1 h2 hu,RcNeAt.bool_tuple b1 h2 hu⟩
 |.bl b1,.lst l2,hn,rx,ry=>
  obtain rfl:u=OI b1:=by unfold ReV at rx;exact rx
  unfold ReV at ry;obtain⟨a2,us2,rfl,h2,q2⟩:=ry
  exact⟨EqAt.bool_list b1 h2 hu,RcAt.bool_list b1 h2 hu,RcNeAt.bool_list b1 h2 hu⟩
 |.bl b1,.scr l2,hn,rx,ry=>
  obtain rfl:u=OI b1:=by unfold ReV at rx;exact rx
  unfold ReV at ry;obtain⟨a2,us2,rfl,h2,q2⟩:=ry
  exact⟨EqAt.bool_list b1 h2 hu,RcAt.bool_list b1 h2 hu,RcNeAt.bool_list b1 h2 hu⟩
 |.int i1,.non,hn,rx,ry=>
  obtain⟨k1,rfl⟩:∃k,u=Pv i1 k:=by unfold ReV at rx;exact rx
  obtain rfl:v=Ov:=by unfold ReV at ry;exact ry
  exact⟨EqAt.int_none i1 k1,RcAt.int_none i1 k1,RcNeAt.int_none i1 k1⟩
 |.int i1,.bl b2,hn,rx,ry=>
  obtain⟨k1,rfl⟩:∃k,u=Pv i1 k:=by unfold ReV at rx;exact rx
  obtain rfl:v=OI b2:=by unfold ReV at ry;exact ry
  exact⟨EqAt.int_bool i1 k1 b2,RcAt.int_bool i1 k1 b2,RcNeAt.int_bool i1 k1 b2⟩
 |.int i1,.int i2,hn,rx,ry=>
  obtain⟨k1,rfl⟩:∃k,u=Pv i1 k:=by unfold ReV at rx;exact rx
  obtain⟨k2,rfl⟩:∃k,v=Pv i2 k:=by unfold ReV at ry;exact ry
  exact⟨EqAt.int_int i1 k1 i2 k2,RcAt.int_int i1 k1 i2 k2,RcNeAt.int_int i1 k1 i2 k2⟩
 |.int i1,.str x2,hn,rx,ry=>
  obtain⟨k1,rfl⟩:∃k,u=Pv i1 k:=by unfold ReV at rx;exact rx
  obtain⟨k2,rfl⟩:∃k,v=Pw x2 k:=by unfold ReV at ry;exact ry
  exact⟨EqAt.int_str i1 k1 x2 k2,RcAt.int_str i1 k1 x2 k2,RcNeAt.int_str i1 k1 x2 k2⟩
 |.int i1,.tup l2,hn,rx,ry=>
  obtain⟨k1,rfl⟩:∃k,u=Pv i1 k:=by unfold ReV at rx;exact rx
  unfold ReV at ry;obtain⟨a2,us2,rfl,h2,q2⟩:=ry
  exact⟨EqAt.int_tuple i1 k1 h2 hu,RcAt.int_tuple i1 k1 h2 hu,RcNeAt.int_tuple i1 k1 h2 hu⟩
 |.int i1,.lst l2,hn,rx,ry=>
  obtain⟨k1,rfl⟩:∃k,u=Pv i1 k:=by unfold ReV at rx;exact rx
  unfold ReV at ry;obtain⟨a2,us2,rfl,h2,q2⟩:=ry
  exact⟨EqAt.int_list i1 k1 h2 hu,RcAt.int_list i1 k1 h2 hu,RcNeAt.int_list i1 k1 h2 hu⟩
 |.int i1,.scr l2,hn,rx,ry=>
  obtain⟨k1,rfl⟩:∃k,u=Pv i1 k:=by unfold ReV at rx;exact rx
  unfold ReV at ry;obtain⟨a2,us2,rfl,h2,q2⟩:=ry
  exact⟨EqAt.int_list i1 k1 h2 hu,RcAt.int_list i1 k1 h2 hu,RcNeAt.int_list i1 k1 h2 hu⟩
 |.str x1,.non,hn,rx,ry=>
  obtain⟨k1,rfl⟩:∃k,u=Pw x1 k:=by unfold ReV at rx;exact rx
  obtain rfl:v=Ov:=by unfold ReV at ry;exact ry
  exact⟨EqAt.str_none x1 k1,RcAt.str_none x1 k1,RcNeAt.str_none x1 k1⟩
 |.str x1,.bl b2,hn,rx,ry=>
  obtain⟨k1,rfl⟩:∃k,u=Pw x1 k:=by unfold ReV at rx;exact rx
  obtain rfl:v=OI b2:=by unfold ReV at ry;exact ry
  exact⟨EqAt.str_bool x1 k1 b2,RcAt.str_bool x1 k1 b2,RcNeAt.str_bool x1 k1 b2⟩
 |.str x1,.int i2,hn,rx,ry=>
  obtain⟨k1,rfl⟩:∃k,u=Pw x1 k:=by unfold ReV at rx;exact rx
  obtain⟨k2,rfl⟩:∃k,v=Pv i2 k:=by unfold ReV at ry;exact ry
  exact⟨EqAt.str_int x1 k1 i2 k2,RcAt.str_int x1 k1 i2 k2,RcNeAt.str_int x1 k1 i2 k2⟩
 |.str x1,.str x2,hn,rx,ry=>
  obtain⟨k1,rfl⟩:∃k,u=Pw x1 k:=by unfold ReV at rx;exact rx
  obtain⟨k2,rfl⟩:∃k,v=Pw x2 k:=by unfold ReV at ry;exact ry
  exact⟨EqAt.str_str x1 k1 x2 k2,RcAt.str_str x1 k1 x2 k2,RcNeAt.str_str x1 k1 x2 k2⟩
 |.str x1,.tup l2,hn,rx,ry=>
  obtain⟨k1,rfl⟩:∃k,u=Pw x1 k:=by unfold ReV at rx;exact rx
  unfold ReV at ry;obtain⟨a2,us2,rfl,h2,q2⟩:=ry
  exact⟨EqAt.str_tuple x1 k1 h2 hu,RcAt.str_tuple x1 k1 h2 hu,RcNeAt.str_tuple x1 k1 h2 hu⟩
 |.str x1,.lst l2,hn,rx,ry=>
  obtain⟨k1,rfl⟩:∃k,u=Pw x1 k:=by unfold ReV at rx;exact rx
  unfold ReV at ry;obtain⟨a2,us2,rfl,h2,q2⟩:=ry
  exact⟨EqAt.str_list x1 k1 h2 hu,RcAt.str_list x1 k1 h2 hu,RcNeAt.str_list x1 k1 h2 hu⟩
 |.str x1,.scr l2,hn,rx,ry=>
  obtain⟨k1,rfl⟩:∃k,u=Pw x1 k:=by unfold ReV at rx;exact rx
  unfold ReV at ry;obtain⟨a2,us2,rfl,h2,q2⟩:=ry
  exact⟨EqAt.str_list x1 k1 h2 hu,RcAt.str_list x1 k1 h2 hu,RcNeAt.str_list x1 k1 h2 hu⟩
 |.tup l1,.non,hn,rx,ry=>
  unfold ReV at rx;obtain⟨a1,us1,rfl,h1,q1⟩:=rx;obtain rfl:v=Ov:=by unfold ReV at ry;exact ry
  exact⟨EqAt.tuple_none h1 hu,RcAt.tuple_none h1 hu,RcNeAt.tuple_none h1 hu⟩
 |.tup l1,.bl b2,hn,rx,ry=>
  unfold ReV at rx;obtain⟨a1,us1,rfl,h1,q1⟩:=rx;obtain rfl:v=OI b2:=by unfold ReV at ry;exact ry
  exact⟨EqAt.tuple_bool b2 h1 hu,RcAt.tuple_bool b2 h1 hu,RcNeAt.tuple_bool b2 h1 hu⟩
 |.tup l1,.int i2,hn,rx,ry=>
  unfold ReV at rx;obtain⟨a1,us1,rfl,h1,q1⟩:=rx;obtain⟨k2,rfl⟩:∃k,v=Pv i2 k:=by unfold ReV at ry;exact ry
  exact⟨EqAt.tuple_int i2 k2 h1 hu,RcAt.tuple_int i2 k2 h1 hu,RcNeAt.tuple_int i2 k2 h1 hu⟩
 |.tup l1,.str x2,hn,rx,ry=>
  unfold ReV at rx;obtain⟨a1,us1,rfl,h1,q1⟩:=rx;obtain⟨k2,rfl⟩:∃k,v=Pw x2 k:=by unfold ReV at ry;exact ry
  exact⟨EqAt.tuple_str x2 k2 h1 hu,RcAt.tuple_str x2 k2 h1 hu,RcNeAt.tuple_str x2 k2 h1 hu⟩
 |.tup _,.tup _,hn,_,_=>exact hn.elim
 |.tup l1,.lst l2,hn,rx,ry=>
  unfold ReV at rx;obtain⟨a1,us1,rfl,h1,q1⟩:=rx;unfold ReV at ry;obtain⟨a2,us2,rfl,h2,q2⟩:=ry
  exact⟨EqAt.tuple_list h1 h2 hu,RcAt.tuple_list h1 h2 hu,RcNeAt.tuple_list h1 h2 hu⟩
 |.tup l1,.scr l2,hn,rx,ry=>
  unfold ReV at rx;obtain⟨a1,us1,rfl,h1,q1⟩:=rx;unfold ReV at ry;obtain⟨a2,us2,rfl,h2,q2⟩:=ry
  exact⟨EqAt.tuple_list h1 h2 hu,RcAt.tuple_list h1 h2 hu,RcNeAt.tuple_list h1 h2 hu⟩
 |.lst l1,.non,hn,rx,ry=>
  unfold ReV at rx;obtain⟨a1,us1,rfl,h1,q1⟩:=rx;obtain rfl:v=Ov:=by unfold ReV at ry;exact ry
  exact⟨EqAt.list_none h1 hu,RcAt.list_none h1 hu,RcNeAt.list_none h1 hu⟩
 |.lst l1,.bl b2,hn,rx,ry=>
  unfold ReV at rx;obtain⟨a1,us1,rfl,h1,q1⟩:=rx;obtain rfl:v=OI b2:=by unfold ReV at ry;exact ry
  exact⟨EqAt.list_bool b2 h1 hu,RcAt.list_bool b2 h1 hu,RcNeAt.list_bool b2 h1 hu⟩
 |.lst l1,.int i2,hn,rx,ry=>
  unfold ReV at rx;obtain⟨a1,us1,rfl,h1,q1⟩:=rx;obtain⟨k2,rfl⟩:∃k,v=Pv i2 k:=by unfold ReV at ry;exact ry
  exact⟨EqAt.list_int i2 k2 h1 hu,RcAt.list_int i2 k2 h1 hu,RcNeAt.list_int i2 k2 h1 hu⟩
 |.lst l1,.str x2,hn,rx,ry=>
  unfold ReV at rx;obtain⟨a1,us1,rfl,h1,q1⟩:=rx;obtain⟨k2,rfl⟩:∃k,v=Pw x2 k:=by unfold ReV at ry;exact ry
  exact⟨EqAt.list_str x2 k2 h1 hu,RcAt.list_str x2 k2 h1 hu,RcNeAt.list_str x2 k2 h1 hu⟩
 |.lst l1,.tup l2,hn,rx,ry=>
  unfold ReV at rx;obtain⟨a1,us1,rfl,h1,q1⟩:=rx;unfold ReV at ry;obtain⟨a2,us2,rfl,h2,q2⟩:=ry
  exact⟨EqAt.list_tuple h1 h2 hu,RcAt.list_tuple h1 h2 hu,RcNeAt.list_tuple h1 h2 hu⟩
 |.lst _,.lst _,hn,_,_=>exact hn.elim
 |.lst _,.scr _,hn,_,_=>exact hn.elim
 |.scr l1,.non,hn,rx,ry=>
  unfold ReV at rx;obtain⟨a1,us1,rfl,h1,q1⟩:=rx;obtain rfl:v=Ov:=by unfold ReV at ry;exact ry
  exact⟨EqAt.list_none h1 hu,RcAt.list_none h1 hu,RcNeAt.list_none h1 hu⟩
 |.scr l1,.bl b2,hn,rx,ry=>
  unfold ReV at rx;obtain⟨a1,us1,rfl,h1,q1⟩:=rx;obtain rfl:v=OI b2:=by unfold ReV at ry;exact ry
  exact⟨EqAt.list_bool b2 h1 hu,RcAt.list_bool b2 h1 hu,RcNeAt.list_bool b2 h1 hu⟩
 |.scr l1,.int i2,hn,rx,ry=>
  unfold ReV at rx;obtain⟨a1,us1,rfl,h1,q1⟩:=rx;obtain⟨k2,rfl⟩:∃k,v=Pv i2 k:=by unfold ReV at ry;exact ry
  exact⟨EqAt.list_int i2 k2 h1 hu,RcAt.list_int i2 k2 h1 hu,RcNeAt.list_int i2 k2 h1 hu⟩
 |.scr l1,.str x2,hn,rx,ry=>
  unfold ReV at rx;obtain⟨a1,us1,rfl,h1,q1⟩:=rx;obtain⟨k2,rfl⟩:∃k,v=Pw x2 k:=by unfold ReV at ry;exact ry
  exact⟨EqAt.list_str x2 k2 h1 hu,RcAt.list_str x2 k2 h1 hu,RcNeAt.list_str x2 k2 h1 hu⟩
 |.scr l1,.tup l2,hn,rx,ry=>
  unfold ReV at rx;obtain⟨a1,us1,rfl,h1,q1⟩:=rx;unfold ReV at ry;obtain⟨a2,us2,rfl,h2,q2⟩:=ry
  exact⟨EqAt.list_tuple h1 h2 hu,RcAt.list_tuple h1 h2 hu,RcNeAt.list_tuple h1 h2 hu⟩
 |.scr _,.lst _,hn,_,_=>exact hn.elim
 |.scr _,.scr _,hn,_,_=>exact hn.elim
def GC:∀(n:Nat)(A:Oq)(s:NO)(x y:T)(u v:NK),(x.dep<=n\/y.dep<=n)->A.units+n<cLine->ReV s x u->ReV s y v->EqAt A s u v (bo x y)/\RcAt A s u v (bo x y)/\RcNeAt A s u v (!bo x y):=by
 intro n
 induction n with
 |zero=>
  intro A s x y u v hd hu rx ry
  exact w6 A s x y u v (by cases x <;> cases y <;> simp_all [kz,T.dep]) (by omega) rx ry
 |succ n ih=>
  intro A s x y u v hd hu rx ry
  have hin:A.in1.units+n<cLine:=by show A.units+1+n<cLine;omega
  have items:∀(l m:List T)(us vs:List NK),(deps l<=n\/deps m<=n)->ReVs s l us->ReVs s m vs->∃e:Nat->Bool,(∀j (h1:j<us.toArray.size) (h2:j<vs.toArray.size),EqAt A.in1 s us.toArray[j] vs.toArray[j] (e j)) ∧
    (∀(j:Nat) t u,l[j]?=ZA t->m[j]?=ZA u->e j=bo t u):=λl m us vs hd r1 r2=>by
   refine⟨λj=>bo (l.getD j .non) (m.getD j .non),λj h1 h2=>?_,λj t u e1 e2=>by simp[List.getD,e1,e2]⟩
   have l1:=r1.length
   have l2:=r2.length
   have h1':j<l.length:=by rw[l1];simpa using h1
   have h2':j<m.length:=by rw[l2];simpa using h2
   have e1:l[j]?=ZA l[j]:=by simp
   have e2:m[j]?=ZA m[j]:=by simp
   obtain⟨u1,z1,w1⟩:=r1.get e1;obtain⟨u2,z2,w2⟩:=r2.get e2
   have q1:us.toArray[j]=u1:=by
    have:us[j]?=ZA us.toArray[j]:=by simp
    rw[z1]at this;exact(Ou this).symm
   have q2:vs.toArray[j]=u2:=by
    have:vs[j]?=ZA vs.toArray[j]:=by simp
    rw[z2]at this;exact(Ou this).symm
   rw[q1,q2]
   have g1:l.getD j .non=l[j]:=by simp[List.getD,e1]
   have g2:m.getD j .non=m[j]:=by simp[List.getD,e2]
   show EqAt A.in1 s u1 u2 (bo (l.getD j .non) (m.getD j .non))
   rw[g1,g2];refine(ih A.in1 s l[j] m[j] u1 u2 ?_ hin w1 w2).1
   rcases hd with hd|hd
   ·exact .inl (OB (j9 e1) hd)
   ·exact .inr (OB (j9 e2) hd)
  have lists:∀(l m:List T)(a b:ZE)(us vs:List NK),(deps l<=n\/deps m<=n)->ReVs s l us->ReVs s m vs->s.heap.IsList a us.toArray->s.heap.IsList b vs.toArray →
    EqAt A s (.ref a) (.ref b) (beqTs l m)/\RcAt A s (.ref a) (.ref b) (beqTs l m)/\RcNeAt A s (.ref a) (.ref b) (!beqTs l m):=λl m a b us vs hd r1 r2 h1 h2=>by
   have l1:=r1.length
   have l2:=r2.length
   have key:RcAt A s (.ref a) (.ref b) (beqTs l m)/\RcNeAt A s (.ref a) (.ref b) (!beqTs l m):=by
    by_cases hl:l.length=m.length
    ·obtain⟨e,he,hb⟩:=items l m us vs hd r1 r2
     have q:=m9 l m e hb
     have q2:beqTs l m=(OQ us.toArray.size).all e:=by
      rw[q,hl,Nat.min_self];simp[l2.symm,hl.symm,l1]
     rw[q2]
     have hsz:us.toArray.size=vs.toArray.size:=by simp;omega
     exact⟨RcAt.lists h1 h2 hsz (by omega) he,RcNeAt.lists h1 h2 hsz (by omega) he⟩
    ·rw[sI hl]
     have hsz:(us.toArray.size != vs.toArray.size)=ZC:=by simp;omega
     exact⟨RcAt.lists_lengths h1 h2 hsz (by omega),RcNeAt.lists_lengths h1 h2 hsz (by omega)⟩
   refine⟨?_,key⟩
   by_cases hab:a=b
   ·subst hab
    have:=dk h1 h2;subst this;rw[ReVs.refl r1 r2];exact EqAt.same _
   ·exact EqAt.of_refs hab key.1
  cases x with
  |tup l=>
   cases y with
   |tup m=>
    unfold ReV at rx ry;obtain⟨a,us,rfl,h1,r1⟩:=rx;obtain⟨b,vs,rfl,h2,r2⟩:=ry
    have hd':deps l<=n\/deps m<=n:=by
     simp only[T.dep]at hd;omega
    have l1:=r1.length
    have l2:=r2.length;obtain⟨e,he,hb⟩:=items l m us vs hd' r1 r2
    have q:=m9 l m e hb
    have q2:beqTs l m=((OQ (min us.toArray.size vs.toArray.size)).all e&&us.toArray.size == vs.toArray.size):=by
     rw[q];simp[l1,l2]
    have key:RcAt A s (.ref a) (.ref b) (beqTs l m)/\RcNeAt A s (.ref a) (.ref b) (!beqTs l m):=by
     rw[q2];exact⟨RcAt.tuples h1 h2 (by omega) he,RcNeAt.tuples h1 h2 (by omega) he⟩
    unfold bo;refine⟨?_,key⟩
    by_cases hab:a=b
    ·subst hab
     have:=jW h1 h2;subst this;rw[ReVs.refl r1 r2];exact EqAt.same _
    ·exact EqAt.of_refs hab key.1
   |_=>exact w6 A s _ _ u v (by simp[kz]) (by omega) rx ry
  |lst l=>
   cases y with
   |lst m=>
    unfold ReV at rx ry;obtain⟨a,us,rfl,h1,r1⟩:=rx;obtain⟨b,vs,rfl,h2,r2⟩:=ry;unfold bo
    exact lists l m a b us vs (by simp only[T.dep]at hd;omega) r1 r2 h1 h2
   |scr m=>
    unfold ReV at rx ry;obtain⟨a,us,rfl,h1,r1⟩:=rx;obtain⟨b,vs,rfl,h2,r2⟩:=ry;unfold bo
    exact lists l (m.map T.int) a b us vs (by rw[gG];omega) r1 (eK r2) h1 h2
   |_=>exact w6 A s _ _ u v (by simp[kz]) (by omega) rx ry
  |scr l=>
   cases y with
   |lst m=>
    unfold ReV at rx ry;obtain⟨a,us,rfl,h1,r1⟩:=rx;obtain⟨b,vs,rfl,h2,r2⟩:=ry;unfold bo;rw[qy]
    exact lists (l.map T.int) m a b us vs (by rw[gG];omega) (eK r1) r2 h1 h2
   |scr m=>
    unfold ReV at rx ry;obtain⟨a,us,rfl,h1,r1⟩:=rx;obtain⟨b,vs,rfl,h2,r2⟩:=ry;unfold bo;rw[sZ]
    exact lists (l.map T.int) (m.map T.int) a b us vs (by rw[gG];omega) (eK r1) (eK r2) h1 h2
   |_=>exact w6 A s _ _ u v (by simp[kz]) (by omega) rx ry
  |_=>exact w6 A s _ _ u v (by simp[kz]) (by omega) rx ry
mutual
def T.nf:T->T
 |.tup l=>.tup (nfs l)
 |.lst l=>.lst (nfs l)
 |.scr l=>.lst (l.map .int)
 |.non=>.non
 |.bl b=>.bl b
 |.int b=>.int b
 |.str b=>.str b
 |.dct a b=>.dct a b
 |.ob a b c=>.ob a b c
def nfs:List T->List T
 |[] =>[]
 |t::l=>t.nf::nfs l
end
theorem wu:∀(l:List Int),nfs (l.map T.int)=l.map T.int
 |[] =>rfl
 |i::l=>by rw[NM,nfs,wu l];simp[T.nf]
mutual
theorem mE:∀(t x:T),bo t.nf x=bo t x
 |.non,x=>by simp[T.nf]
 |.bl _,x=>by simp[T.nf]
 |.int _,x=>by simp[T.nf]
 |.str _,x=>by simp[T.nf]
 |.tup l,x=>by cases x <;> simp[T.nf,bo,beqTs_nf l]
 |.lst l,x=>by cases x <;> simp[T.nf,bo,beqTs_nf l]
 |.scr l,x=>by cases x <;> simp[T.nf,bo,qy,sZ]
 |.dct _ _,x=>by simp[T.nf]
 |.ob _ _ _,x=>by simp[T.nf]
theorem beqTs_nf:∀(l m:List T),beqTs (nfs l) m=beqTs l m
 |[],m=>by simp[nfs]
 |t::l,m=>by cases m <;> simp[nfs,beqTs,mE t,beqTs_nf l]
end
def JX{t:T}(r:ReV s t (.int i k)):t.nf=.int i:=by
 cases t with
 |non=>unfold ReV at r;cases r
 |bl b=>unfold ReV at r;cases r
 |int j=>unfold ReV at r;obtain⟨t,e⟩:=r;injection e with e1 _;subst e1;rfl
 |str x=>unfold ReV at r;obtain⟨t,e⟩:=r;cases e
 |tup l=>unfold ReV at r;obtain⟨a,its,e,_⟩:=r;cases e
 |lst l=>unfold ReV at r;obtain⟨a,its,e,_⟩:=r;cases e
 |scr l=>unfold ReV at r;obtain⟨a,its,e,_⟩:=r;cases e
 |dct _ _=>unfold ReV at r;exact r.elim
 |ob _ _ _=>unfold ReV at r;exact r.elim
theorem zR:∀{l:List T}{us:List NK}{ns:List Int},ReVs s l us->RG us ns->nfs l=ns.map T.int
 |[],us,ns,r,h=>by cases ReVs.Da.mp r;cases h;rfl
 |t::l,us,ns,r,h=>by
  obtain⟨u,ws,rfl,p,q⟩:=ReVs.me.mp r
  cases h with
  |cons a b hh=>rw[nfs,JX p,zR q hh];rfl
mutual
theorem ReV.nf{s:NO}:∀{t u:T}{v:NK},ReV s t v->ReV s u v->t.nf=u.nf
 |.non,u,v,r,q=>by
  unfold ReV at r;subst r
  cases u <;> (unfold ReV at q) <;> first|rfl| (cases q;done)| (obtain⟨_,e⟩:=q;cases e;done)| (obtain⟨_,_,e,_⟩:=q;cases e;done)
 |.bl b,u,v,r,q=>by
  unfold ReV at r;subst r
  cases u <;> (unfold ReV at q) <;> first| (cases q;done)| (cases q;rfl)| (obtain⟨_,e⟩:=q;cases e;done)| (obtain⟨_,_,e,_⟩:=q;cases e;done)
 |.int b,u,v,r,q=>by
  unfold ReV at r;obtain⟨k,rfl⟩:=r
  cases u <;> (unfold ReV at q) <;> first| (cases q;done)| (obtain⟨_,e⟩:=q;cases e;done)| (obtain⟨_,e⟩:=q;cases e;rfl)| (obtain⟨_,_,e,_⟩:=q;cases e;done)
 |.str b,u,v,r,q=>by
  unfold ReV at r;obtain⟨k,rfl⟩:=r
  cases u <;> (unfold ReV at q) <;> first| (cases q;done)| (obtain⟨_,e⟩:=q;cases e;done)| (obtain⟨_,e⟩:=q;cases e;rfl)| (obtain⟨_,_,e,_⟩:=q;cases e;done)
 |.tup l,u,v,r,q=>by
  unfold ReV at r;obtain⟨a,its,rfl,h1,h2⟩:=r
  cases u with
  |non=>unfold ReV at q;cases q
  |dct _ _=>unfold ReV at q;exact q.elim
  |ob _ _ _=>unfold ReV at q;exact q.elim
  |bl _=>unfold ReV at q;cases q
  |int _=>unfold ReV at q;obtain⟨_,e⟩:=q;cases e
  |str _=>unfold ReV at q;obtain⟨_,e⟩:=q;cases e
  |tup m=>
   unfold ReV at q;obtain⟨a',its',e,h1',h2'⟩:=q;injection e with e;subst e
   have:=jW h1 h1';subst this;unfold T.nf
   rw[ReVs.nf h2 h2']
  |lst m=>unfold ReV at q;obtain⟨a',its',e,h1',h2'⟩:=q;injection e with e;subst e;exact absurd rfl (ne_of_list_tuple h1' h1)
  |scr m=>unfold ReV at q;obtain⟨a',its',e,h1',h2'⟩:=q;injection e with e;subst e;exact absurd rfl (ne_of_list_tuple h1' h1)
 |.lst l,u,v,r,q=>by
  unfold ReV at r;obtain⟨a,its,rfl,h1,h2⟩:=r
  cases u with
  |non=>unfold ReV at q;cases q
  |dct _ _=>unfold ReV at q;exact q.elim
  |ob _ _ _=>unfold ReV at q;exact q.elim
  |bl _=>unfold ReV at q;cases q
  |int _=>unfold ReV at q;obtain⟨_,e⟩:=q;cases e
  |str _=>unfold ReV at q;obtain⟨_,e⟩:=q;cases e
  |lst m=>
   unfold ReV at q;obtain⟨a',its',e,h1',h2'⟩:=q;injection e with e;subst e
   have:=dk h1 h1';subst this;unfold T.nf
   rw[ReVs.nf h2 h2']
  |tup m=>unfold ReV at q;obtain⟨a',its',e,h1',h2'⟩:=q;injection e with e;subst e;exact absurd rfl (ne_of_list_tuple h1 h1')
  |scr m=>
   unfold ReV at q;obtain⟨a',its',e,h1',h2'⟩:=q;injection e with e;subst e
   have:=dk h1 h1';subst this;unfold T.nf
   rw[ReVs.nf h2 (eK h2'),wu]
 |.scr l,u,v,r,q=>by
  unfold ReV at r;obtain⟨a,its,rfl,h1,h2⟩:=r
  cases u with
  |non=>unfold ReV at q;cases q
  |dct _ _=>unfold ReV at q;exact q.elim
  |ob _ _ _=>unfold ReV at q;exact q.elim
  |bl _=>unfold ReV at q;cases q
  |int _=>unfold ReV at q;obtain⟨_,e⟩:=q;cases e
  |str _=>unfold ReV at q;obtain⟨_,e⟩:=q;cases e
  |lst m=>
   unfold ReV at q;obtain⟨a',its',e,h1',h2'⟩:=q;injection e with e;subst e
   have:=dk h1 h1';subst this
   have z:=zR h2' h2;unfold T.nf
   rw[z]
  |tup m=>unfold ReV at q;obtain⟨a',its',e,h1',h2'⟩:=q;injection e with e;subst e;exact absurd rfl (ne_of_list_tuple h1 h1')
  |scr m=>
   unfold ReV at q;obtain⟨a',its',e,h1',h2'⟩:=q;injection e with e;subst e
   have:=dk h1 h1';subst this
   rw[jY h2 h2']
 |.dct _ _,u,v,r,q=>by unfold ReV at r;exact r.elim
 |.ob _ _ _,u,v,r,q=>by unfold ReV at r;exact r.elim
theorem ReVs.nf{s:NO}:∀{l m:List T}{us:List NK},ReVs s l us->ReVs s m us->nfs l=nfs m
 |[],m,us,r,q=>by
  cases ReVs.Da.mp r
  cases m with
  |nil=>rfl
  |cons _ _=>obtain⟨_,_,e,_⟩:=ReVs.me.mp q;cases e
 |t::l,m,us,r,q=>by
  obtain⟨v,ws,rfl,p,z⟩:=ReVs.me.mp r
  cases m with
  |nil=>cases ReVs.Da.mp q
  |cons u m=>
   obtain⟨v',ws',e,p',z'⟩:=ReVs.me.mp q;injection e with e1 e2
   subst e1 e2;rw[nfs,nfs,ReV.nf p p',ReVs.nf z z']
end
variable{e:ZG}{x y:T}
section
variable {a b c:ZG}{fa fb fc:V5}{pos:Pos}
def g8(x y:T):Bool:=(decide (x.dep<=60)||decide (y.dep<=60))&&(x.nd&&y.nd)
def kN(x y:T):Rs T:=if g8 x y=ZC then .ok (.bl (bo x y))else .bad
def pM(x y:T):Rs T:=if g8 x y=ZC then .ok (.bl (!bo x y))else .bad
def j0(h:x.dep<=60)(hx:x.nd=ZC)(hy:y.nd=ZC):g8 x y=ZC:=by unfold g8;rw[decide_eq_true h,hx,hy];rfl
def DU(h:y.dep<=60)(hx:x.nd=ZC)(hy:y.nd=ZC):g8 x y=ZC:=by unfold g8;rw[decide_eq_true h,hx,hy,UD];rfl
def kI(h:g8 x y=ZC):x.nd=ZC/\y.nd=ZC:=by
 unfold g8 at h;exact O6.mp (O6.mp h).2
def sh(h:g8 x y=ZC):x.dep<=60\/y.dep<=60:=by
 unfold g8 at h
 replace h:=(O6.mp h).1
 rcases Bool.or_eq_true_iff.mp h with h|h
 ·exact .inl (of_decide_eq_true h)
 ·exact .inr (of_decide_eq_true h)
def jr(hu:X.A.units+60<cLine):OpT X (OG .Eq) kN:=by
 intro ol s σ H O x y vx vy ux uy Q I hf rx ry r1 r2 hp;unfold kN at hp
 split at hp
 ·rename_i h
  have z:=GC 60 X.A s x y ux uy (sh h) hu (Rep.val I (kI h).1 rx r1) (Rep.val I (kI h).2 ry r2);exact z.2.1 _ _ _ _ ⟨.bl _,H,I,rfl,hp H (Same.refl H) _ (Rep.bl_ _)⟩
 ·exact hp.elim
def rM(hu:X.A.units+60<cLine):OpT X (OG .NotEq) pM:=by
 intro ol s σ H O x y vx vy ux uy Q I hf rx ry r1 r2 hp;unfold pM at hp
 split at hp
 ·rename_i h
  have z:=GC 60 X.A s x y ux uy (sh h) hu (Rep.val I (kI h).1 rx r1) (Rep.val I (kI h).2 ry r2);exact z.2.2 _ _ _ _ ⟨.bl _,H,I,rfl,hp H (Same.refl H) _ (Rep.bl_ _)⟩
 ·exact hp.elim
def T.items:T->Option (List T)
 |.tup l=>ZA l
 |.lst l=>ZA l
 |.scr l=>ZA (l.map T.int)
 |_=>ZB
def fE(x:T)(l:List T):Bool:=l.any λy=>bo y x
def AZ(x y:T):Rs T:=match y.items with
 |some l=>if (x.dep<=60\/deps l<=60)/\x.nd=ZC/\y.nd=ZC then .ok (.bl (fE x l))else .bad
 |none=>.bad
def Gf(rx:ReV s x ux)(hu:A.units+60<cLine)(hd:x.dep<=60\/deps l<=60)(r:ReVs s l us):
  ∃e:NK->Bool,(∀y∈us,EqAt A s y ux (e y))/\us.any e=fE x l:=by
 classical
 have ex:∀y∈us,∃t∈l,ReV s t y:=λy hy=>by
  obtain⟨i,hi,rfl⟩:=Qs hy
  have hl:=r.length
  have e1:l[i]?=ZA l[i]:=by simp
  obtain⟨u,q1,q2⟩:=r.get e1
  have:us[i]?=ZA us[i]:=by simp
  rw[this]at q1;cases q1;exact⟨l[i],Pt _,q2⟩
 let e:NK->Bool:=λy=>decide (∃t∈l,ReV s t y/\bo t x=ZC)
 have dep:∀t∈l,t.dep<=60\/x.dep<=60:=λt ht=>by
  rcases hd with h|h
  ·exact .inr h
  ·obtain⟨i,hi,rfl⟩:=Qs ht
   exact .inl (OB (j9 (i:=i) (by simp)) h)
 have uniq:∀y t t',ReV s t y->ReV s t' y->bo t x=bo t' x:=λy t t' z z'=>by
  rw[<-mE t,<-mE t',ReV.nf z z']
 have agree:∀y t,t∈l->ReV s t y->e y=bo t x:=λy t h z=>by
  show decide (∃t∈l,ReV s t y/\bo t x=ZC)=bo t x
  cases q:bo t x with
  |true=>exact decide_eq_true ⟨t,h,z,q⟩
  |false=>
   refine decide_eq_false ?_
   rintro ⟨t',h',z',q'⟩
   rw[<-uniq y t t' z z',q]at q';cases q'
 refine⟨e,λy hy=>?_,?_⟩
 ·obtain⟨t,h,z⟩:=ex y hy
  rw[agree y t h z];exact(GC 60 A s t x y ux (dep t h) hu z rx).1
 ·have go:∀(l':List T)(us':List NK),(∀t∈l',t∈l)->ReVs s l' us'->us'.any e=l'.any λy=>bo y x:=by
   intro l'
   induction l' with
   |nil=>intro us' _ r';rw[ReVs.Da.mp r'];rfl
   |cons t l' ih=>
    intro us' sub r';obtain⟨u,ws,rfl,p,q⟩:=ReVs.me.mp r';rw[P5,P5,ih ws (λt ht=>sub t (NJ _ ht)) q,agree u t (sub t NN) p]
  exact go l us (λ_ h=>h) r
def AW{u:NK}(r:ReV s y u)(h:y.items=ZA l):∃a us,u=.ref a/\ReVs s l us/\(s.heap.IsTuple a us.toArray\/s.heap.IsList a us.toArray):=by
 cases y with
 |tup m=>cases h;unfold ReV at r;obtain⟨a,us,e,h1,h2⟩:=r;exact⟨a,us,e,h2,.inl h1⟩
 |lst m=>cases h;unfold ReV at r;obtain⟨a,us,e,h1,h2⟩:=r;exact⟨a,us,e,h2,.inr h1⟩
 |scr m=>cases h;unfold ReV at r;obtain⟨a,us,e,h1,h2⟩:=r;exact⟨a,us,e,eK h2,.inr h1⟩
 |_=>cases h
def CM(hu:X.A.units+61<cLine):OpT X (OG .In) AZ:=by
 intro ol s σ H O x y vx vy ux uy Q I hf rx ry r1 r2 hp;unfold AZ at hp
 split at hp
 ·rename_i l hl
  split at hp
  ·rename_i hd3
   obtain⟨hd,hnx,hny⟩:=hd3;obtain⟨a,us,rfl,rs,hh⟩:=AW (Rep.val I hny ry r2) hl;obtain⟨e,he,ha⟩:=Gf (A:=X.A.in1) (Rep.val I hnx rx r1) (by show X.A.units+1+60<cLine;omega) hd rs
   have q:=hp H (Same.refl H) _ (Rep.bl_ (fE x l))
   have he':∀y,y∈us.toArray->EqAt X.A.in1 s y ux (e y):=λy hy=>he y (by simpa using hy)
   have ha':us.toArray.any e=fE x l:=by simpa using ha
   rcases hh with hh|hh
   ·exact in_tupleAt e hh he' (by rw[ha'];exact⟨.bl _,H,I,rfl,q⟩)
   ·exact in_listAt e hh he' (by rw[ha'];exact⟨.bl _,H,I,rfl,q⟩)
  ·exact hp.elim
 ·exact hp.elim
def ch(g g':T->T->Rs T)(fa fb fc:V5)(Z:En):Rs T:=do
 let x <-fa Z
 let y <-fb Z
 let z <-g x y
 match z with
 |.bl ZC=>do
  let w <-fc Z
  g' y w
 |.bl ZD=>.ok (.bl ZD)
 |_=>.bad
def FN{g g':T->T->Rs T}(ho:OpT X (OG op) g)(ho':OpT X (OG op') g')(ha:cy X a fa)(hb:cy X b fb)(hc:cy X c fc)
  (hm:autoParam (Vf [op,op'] [b,c]=ZD) aqf._auto_1):cy X (.Compare a [op,op'] [b,c] pos) (ch g g' fa fb fc):=by
 intro ol s σ H Q I ⟨Z,O,E,hq⟩
 have h1:=a9 E hq;refine Compare_chain (bU (ha ol s σ H _ I h1) λv s1 ⟨x,H1,I1,r1,t,rt,s',E',q1⟩=>chain_link ?_) hm
 have h2:=a9 (f:=fb) E' q1;refine bU (hb ol s1 σ H1 _ I1 h2) λu s2 hh_=>?_
 obtain⟨y,H2,I2,r2,t2,rt2,s'',E'',q2⟩:=hh_
 refine bU (ho ol s2 σ H2 O t t2 x y v u (λv' H'=>∃t',Rep X.K O H' t' v'/\Same H2 H'/\Post X H' (match t' with
  |.bl ZC=>fc Z >>= λw=>g' t2 w
  |.bl ZD=>.ok (.bl ZD)
  |_=>.bad) (λt H'=>∀v,Rep X.K O H' t v->Q v H')) I2 (λp=>E''.fresh) (rt.same s'') rt2 r1 r2 (Post.mono q2.bind λt' H' s3 q v rv=>⟨t',rv,s3,q⟩)) λd s3 ⟨z,H3,I3,r3,t3,rt3,sm3,q3⟩=>?_
 have E3:=E''.same sm3
 split at q3
 ·cases Rep.FM.mp rt3
  cases r3;refine OL (ite_tt (chain_last ?_))
  have h4:=a9 (f:=fc) E3 q3;refine bU (hc ol s3 σ H3 _ I3 h4) λw' s4 ⟨z',H4,I4,r4,t4,rt4,s4',E4,q4⟩=>?_
  exact ho' ol s4 σ H4 O t2 t4 y z' u w' Q I4 (λp=>E4.fresh) ((rt2.same sm3).same s4') rt4 r2 r4 q4
 ·cases Rep.FM.mp rt3
  cases r3;refine OL (ite_ff ⟨.bl ZD,H3,I3,rfl,q3 H3 (Same.refl H3) _ (Rep.bl_ ZD)⟩)
 ·exact q3.elim
def tb(f:V5)(Z:En):Rs Bool:=do
 let x <-f Z
 match x with
 |.bl k=>.ok k
 |_=>.bad
def bt(f:V6)(Z:En):Rs T:=do
 let k <-f Z
 .ok (.bl k)
def Iw{f:V5}(h:cy X e f)(he:autoParam (∀whole,isTrue e X.env whole=(do let v <-whole;standAt e.pos;holding [v] (truthy v))) aqc._auto_1):rk X e (tb f):=by
 intro ol s σ H Q I ⟨Z,O,E,hq⟩;refine Ct h he ol s σ H Q I ?_
 obtain⟨Z1,O1,E1,h1⟩:=a9 E hq;refine⟨Z1,O1,E1,Post.mono h1 λts H1 s1 q vs r=>?_⟩
 obtain⟨t',r',s',E',q'⟩:=q vs r
 split at q'
 ·exact⟨_,Rep.FM.mp r',q' H1 (Same.refl H1)⟩
 ·exact q'.elim
def Iz{g:T->T->Rs T}(ho:OpT X (OG op) g)(ha:cy X a fa)(hb:cy X b fb)(hm:autoParam (P9 op b=ZD) aqd._auto_1):rk X (.Compare a [op] [b] pos) (tb (o2 g fa fb)):=by
 intro ol s σ H Q I ⟨Z,O,E,hq⟩
 have hq':Post X H (o2 g fa fb Z) λt H'=>∀v,Rep X.K O H' t v->∃k,v=.bl k/\Q k H':=Post.mono hq.bind λt H' s' q v r=>by
  split at q
  ·exact⟨_,Rep.FM.mp r,q H' (Same.refl H')⟩
  ·exact q.elim
 have h1:=a9 E hq';refine RD (bU (ha ol s σ H _ I h1) λv s1 ⟨x,H1,I1,r1,t,rt,s',E',q1⟩=>?_) hm
 have h2:=a9 (f:=fb) E' q1;refine bU (hb ol s1 σ H1 _ I1 h2) λu s2 hh_=>?_
 obtain⟨y,H2,I2,r2,t2,rt2,s'',E'',q2⟩:=hh_;refine bU (ho ol s2 σ H2 O t t2 x y v u _ I2 (λp=>E''.fresh) (rt.same s'') rt2 r1 r2 q2) λd s3 hh_=>?_
 obtain⟨z,H3,I3,r3,k,e,q3⟩:=hh_;subst e;cases r3;exact OL ⟨H3,I3,q3⟩
def Cf{g g':T->T->Rs T}(ho:OpT X (OG op) g)(ho':OpT X (OG op') g')(ha:cy X a fa)(hb:cy X b fb)(hc:cy X c fc)
  (hm:autoParam (Vf [op,op'] [b,c]=ZD) aqf._auto_1):rk X (.Compare a [op,op'] [b,c] pos) (tb (ch g g' fa fb fc)):=by
 intro ol s σ H Q I ⟨Z,O,E,hq⟩
 have hq':Post X H (ch g g' fa fb fc Z) λt H'=>∀v,Rep X.K O H' t v->∃k,v=.bl k/\Q k H':=Post.mono hq.bind λt H' s' q v r=>by
  split at q
  ·exact⟨_,Rep.FM.mp r,q H' (Same.refl H')⟩
  ·exact q.elim
 have h1:=a9 E hq';refine isTrue_chain (bU (ha ol s σ H _ I h1) λv s1 ⟨x,H1,I1,r1,t,rt,s',E',q1⟩=>test_link ?_) hm
 have h2:=a9 (f:=fb) E' q1;refine bU (hb ol s1 σ H1 _ I1 h2) λu s2 hh_=>?_
 obtain⟨y,H2,I2,r2,t2,rt2,s'',E'',q2⟩:=hh_
 refine bU (ho ol s2 σ H2 O t t2 x y v u (λv' H'=>∃t',Rep X.K O H' t' v'/\Same H2 H'/\Post X H' (match t' with
  |.bl ZC=>fc Z >>= λw=>g' t2 w
  |.bl ZD=>.ok (.bl ZD)
  |_=>.bad) (λt H'=>∀v,Rep X.K O H' t v->∃k,v=.bl k/\Q k H')) I2 (λp=>E''.fresh) (rt.same s'') rt2 r1 r2 (Post.mono q2.bind λt' H' s3 q v rv=>⟨t',rv,s3,q⟩)) λd s3 ⟨z,H3,I3,r3,t3,rt3,sm3,q3⟩=>?_
 have E3:=E''.same sm3
 split at q3
 ·cases Rep.FM.mp rt3
  cases r3;refine OL (ite_tt (test_last ?_))
  have h4:=a9 (f:=fc) E3 q3;refine bU (hc ol s3 σ H3 _ I3 h4) λw' s4 ⟨z',H4,I4,r4,t4,rt4,s4',E4,q4⟩=>?_
  refine bU (ho' ol s4 σ H4 O t2 t4 y z' u w' _ I4 (λp=>E4.fresh) ((rt2.same sm3).same s4') rt4 r2 r4 q4) λd' s5 ⟨z2,H5,I5,r5,k2,e2,q5⟩=>?_
  subst e2;cases r5;exact OL ⟨H5,I5,q5⟩
 ·cases Rep.FM.mp rt3
  cases r3;obtain⟨k,e,q⟩:=q3 H3 (Same.refl H3) _ (Rep.bl_ ZD);cases e;exact OL (ite_ff ⟨H3,I3,q⟩)
 ·exact q3.elim
def lI(f g:V6)(Z:En):Rs Bool:=do
 let k <-f Z
 if k then g Z else .ok ZD
def nR(f g:V6)(Z:En):Rs Bool:=do
 let k <-f Z
 if k then .ok ZC else g Z
def cH(f:V6)(Z:En):Rs Bool:=do
 let k <-f Z
 .ok (!k)
variable {f g:V6}{bV:List ZG}
abbrev HF(X:Cx)(e:ZG)(f:V6):Prop:=PW X e (BN X f)
def Fu(ha:rk X a f):HF X (.BoolOp .And [a] pos) f:=FP ha
def Iu(ha:rk X a f):HF X (.BoolOp .Or [a] pos) f:=xY ha
def Iv(ha:rk X a f)(hb:HF X (.BoolOp .And (b::bV) pos) g):HF X (.BoolOp .And (a::b::bV) pos) (lI f g):=by
 intro wh ol s σ H Q I ⟨Z,O,E,hq⟩;refine IU ha hb wh ol s σ H Q I ?_
 obtain⟨Z1,O1,E1,h1⟩:=lM E hq;refine⟨Z1,O1,E1,Post.mono h1 λk H1 s1 q=>?_⟩
 obtain⟨s',E',q'⟩:=q
 cases k with
 |true=>rw[if_pos rfl];exact⟨Z,O,E',by simpa using q'⟩
 |false=>rw[if_neg NZ];exact q' H1 (Same.refl H1)
def K9(ha:rk X a f)(hb:HF X (.BoolOp .Or (b::bV) pos) g):HF X (.BoolOp .Or (a::b::bV) pos) (nR f g):=by
 intro wh ol s σ H Q I ⟨Z,O,E,hq⟩;refine Cp ha hb wh ol s σ H Q I ?_
 obtain⟨Z1,O1,E1,h1⟩:=lM E hq;refine⟨Z1,O1,E1,Post.mono h1 λk H1 s1 q=>?_⟩
 obtain⟨s',E',q'⟩:=q
 cases k with
 |true=>rw[if_pos rfl];exact q' H1 (Same.refl H1)
 |false=>rw[if_neg NZ];exact⟨Z,O,E',by simpa using q'⟩
def qt_w(h:HF X e f):rk X e f:=h.pt
def Iy(ha:rk X a f):rk X (.UnaryOp .Not a pos) (cH f):=by
 intro ol s σ H Q I ⟨Z,O,E,hq⟩;refine Cu ha ol s σ H Q I ?_
 obtain⟨Z1,O1,E1,h1⟩:=lM E hq;exact⟨Z1,O1,E1,Post.mono h1 λk H1 s1 ⟨s',E',q'⟩=>q' H1 (Same.refl H1)⟩
def dt(f g:V5)(Z:En):Rs T:=do
 let x <-f Z
 match x with
 |.bl ZC=>g Z
 |.bl ZD=>.ok (.bl ZD)
 |_=>.bad
def EJ(f g:V5)(Z:En):Rs T:=do
 let x <-f Z
 match x with
 |.bl ZC=>.ok (.bl ZC)
 |.bl ZD=>g Z
 |_=>.bad
def Ga:T->Rs T
 |.bl k=>.ok (.bl (!k))
 |_=>.bad
def Li{op}(h:cy X a fa):cy X (.BoolOp op [a] pos) fa:=Jb h
def Lu(ha:cy X a fa)(hb:cy X (.BoolOp .And (b::bV) pos) fb):cy X (.BoolOp .And (a::b::bV) pos) (dt fa fb):=by
 intro ol s σ H Q I ⟨Z,O,E,hq⟩;refine Jf ha hb ol s σ H Q I ?_
 obtain⟨Z1,O1,E1,h1⟩:=a9 E hq;refine⟨Z1,O1,E1,Post.mono h1 λts H1 s1 q vs r=>?_⟩
 obtain⟨t',r',s',E',q'⟩:=q vs r
 split at q'
 ·exact⟨ZC,Rep.FM.mp r',by rw[if_pos rfl];exact⟨Z,O,E',q'⟩⟩
 ·exact⟨ZD,Rep.FM.mp r',by rw[if_neg NZ];exact q' H1 (Same.refl H1) _ (Rep.bl_ ZD)⟩
 ·exact q'.elim
def q_or(ha:cy X a fa)(hb:cy X (.BoolOp .Or (b::bV) pos) fb):cy X (.BoolOp .Or (a::b::bV) pos) (EJ fa fb):=by
 intro ol s σ H Q I ⟨Z,O,E,hq⟩;refine Lx ha hb ol s σ H Q I ?_
 obtain⟨Z1,O1,E1,h1⟩:=a9 E hq;refine⟨Z1,O1,E1,Post.mono h1 λts H1 s1 q vs r=>?_⟩
 obtain⟨t',r',s',E',q'⟩:=q vs r
 split at q'
 ·exact⟨ZC,Rep.FM.mp r',by rw[if_pos rfl];exact q' H1 (Same.refl H1) _ (Rep.bl_ ZC)⟩
 ·exact⟨ZD,Rep.FM.mp r',by rw[if_neg NZ];exact⟨Z,O,E',q'⟩⟩
 ·exact q'.elim
def Lj(ha:cy X a fa):cy X (.UnaryOp .Not a pos) (o1 Ga fa):=by
 intro ol s σ H Q I ⟨Z,O,E,hq⟩;refine Jc ha ol s σ H Q I ?_
 obtain⟨Z1,O1,E1,h1⟩:=a9 E hq;refine⟨Z1,O1,E1,Post.mono h1 λts H1 s1 q vs r=>?_⟩
 obtain⟨t',r',s',E',q'⟩:=q vs r;unfold Ga at q'
 split at q'
 ·exact⟨_,Rep.FM.mp r',q' H1 (Same.refl H1) _ (Rep.bl_ _)⟩
 ·exact q'.elim
def yD(f:V6)(fa fb:V5)(Z:En):Rs T:=do
 let k <-f Z
 if k then fa Z else fb Z
def q_if(hc:rk X c f)(ha:cy X a fa)(hb:cy X b fb):cy X (.IfExp c a b pos) (yD f fa fb):=by
 intro ol s σ H Q I ⟨Z,O,E,hq⟩;refine vW hc ha hb ol s σ H Q I ?_
 obtain⟨Z1,O1,E1,h1⟩:=lM E hq;refine⟨Z1,O1,E1,Post.mono h1 λk H1 s1 q=>?_⟩
 obtain⟨s',E',q'⟩:=q
 cases k with
 |true=>rw[if_pos rfl];exact⟨Z,O,E',by simpa using q'⟩
 |false=>rw[if_neg NZ];exact⟨Z,O,E',by simpa using q'⟩
end
end Tr
namespace HT
open PySem PyProof.Rows
def kP{t:ZE}{items:Array NK}{Q:Bool->NO->Prop}(ht:Vj s.heap t items)(h:Q ZC s):wpAny (model prog w) A (RV (.ref t)) Q E s:=by
 unfold RV;refine NQ (R4 ht.typeIs (N4 ?_))
 exact h
def getItem_tuple_whole{t sl:ZE}{items:Array NK}(ht:Vj s.heap t items)(hs:s.heap.IsSliceOf sl vl vu .none)(pl:T7 vl lo)(pu:T7 vu hi)
  (hw:sIx items.size 0 lo=0/\sIx items.size items.size hi=items.size) (h:Q (.ref t) s):wpAny (model prog w) A (getItem (.ref t) (.ref sl)) Q E s:=by
 obtain⟨os,hos,hcs,hds⟩:=id hs
 have hTs:s.TypeIs (.ref sl) "slice":=⟨os,hos,hcs⟩;unfold getItem
 try with_reducible refine Sz ?_
 first|refine NQ (N4 ?_)|skip
 refine NQ (Ut ht.typeIs (by decide) ?_)
 refine NQ (PQ (name:=NX "__getitem__") ht.typeIs OU
  (Q3 OU ht.typeIs TB ?_ (T8 _ _)))
 show wpAny _ _ (RU (.ref t) >>= _) _ _ s
 refine NQ (T9 ht ?_)
 refine NQ (R4 hTs ?_)
 rw[if_pos (by decide)]
 refine NQ (iM hs pl pu ?_)
 have hyes:(((sIx items.size 0 lo:Nat):Int) == 0&&(1:Int) == 1&&(sIx items.size items.size hi - sIx items.size 0 lo) == items.size)=ZC:=by
  rw[hw.1,hw.2];simp
 show wpAny _ _ (if (((sIx items.size 0 lo:Nat):Int) == 0&&(1:Int) == 1&&(sIx items.size items.size hi - sIx items.size 0 lo) == items.size)=ZC then _ else _) _ _ s
 rw[if_pos hyes]
 first
  |refine NQ (kP ht ?_)
  |refine kP ht ?_
 try rw[if_pos rfl]
 first
  |exact NQ (Uu (N4 ⟨_,rfl,N4 h⟩))
  |exact NQ (Uu (NQ (N4 (N4 ⟨_,rfl,N4 h⟩))))
end HT
variable{i:Nat}
namespace Tr
open PySem PySem.Spec PyProof.Rows L2
variable{H:Hp}{O:Ow}{X:Cx}{Z:En}{e:ZG}{es:List ZG}{fa fb fc:V5}{l:List T}{p pos:Pos}{v:V}{vs:List V}{x:Str}{σ:L2.St}
section
variable {a b c:ZG}
theorem Reps.atI{i:Int}{t:T}(r:Reps K O H l vs)(e:L2.atI l i=ZA t):∃v,L2.atI vs i=ZA v/\Rep K O H t v:=by
 unfold L2.atI at e ⊢;rw[r.length]at e
 cases q:ixN vs.length i with
 |none=>rw[q]at e;cases e
 |some j=>
  rw[q]at e;obtain⟨v,e1,e2⟩:=r.get (i:=j) (t:=t) e;exact⟨v,e1,e2⟩
def aV(x y:T):Rs T:=match x.items,y with
 |some l,.int i=>match L2.atI l i with
  |some t=>.ok t
  |none=>.bad
 |_,_=>.bad
def q_ix(ha:cy X a fa)(hb:cy X b fb)(hs:autoParam (Ah b) aqg._auto_1):cy X (.Subscript a b pos) (o2 aV fa fb):=by
 intro ol s σ H Q I ⟨Z,O,E,hq⟩
 have h1:=a9 E hq;refine Subscript_ (bU (ha ol s σ H _ I h1) λv s1 hh_=>?_)
 obtain⟨x,H1,I1,r1,t,rt,s',E',q1⟩:=hh_
 have h2:=a9 (f:=fb) E' q1;refine bU (hb ol s1 σ H1 _ I1 h2) λu s2 hh_=>?_
 obtain⟨y,H2,I2,r2,t2,rt2,s'',E'',q2⟩:=hh_
 have rt':=rt.same s'';unfold aV at q2
 split at q2
 ·rename_i l i hl
  split at q2
  ·rename_i z hz
   have hy:=Rep.AC.mp rt2;refine JV a b ol s2 σ H2 x y v u Q I2 r1 r2 ?_ (hs _ _)
   cases t with
   |tup m=>
    cases hl;obtain⟨p,vs,e,n,q,rr⟩:=Rep.Fk.mp rt';obtain⟨w,ew,rw'⟩:=rr.atI hz
    exact .inr (.inl ⟨p,vs,i,w,e,hy,SqT.of q,ew,q2 H2 (Same.refl H2) _ rw'⟩)
   |lst m=>
    cases hl;obtain⟨p,vs,e,n,q,rr⟩:=Rep.Do.mp rt';obtain⟨w,ew,rw'⟩:=rr.atI hz
    exact .inl ⟨p,vs,i,w,e,hy,SqL.of q,ew,q2 H2 (Same.refl H2) _ rw'⟩
   |scr m=>
    cases hl;unfold Rep at rt';obtain⟨p,e,n,q⟩:=rt';obtain⟨w,ew,rw'⟩:=(Reps.ints (K:=X.K) (O:=O) (H:=H2) (ns:=m)).atI hz
    exact .inl ⟨p,_,i,w,e,hy,q,ew,q2 H2 (Same.refl H2) _ rw'⟩
   |_=>cases hl
  ·exact q2.elim
 ·exact q2.elim
def n8(l:List T)(lo hi:Option Int):List T:=(l.drop (HT.sIx l.length 0 lo)).take (HT.sIx l.length l.length hi - HT.sIx l.length 0 lo)
def Reps.cut(r:Reps K O H l vs)(lo hi:Option Int):Reps K O H (n8 l lo hi) (xj vs lo hi):=by
 unfold n8 xj;rw[r.length];exact(r.drop _).take _
def A9(h:HT.sIx l.length 0 lo=0/\HT.sIx l.length l.length hi=l.length):n8 l lo hi=l:=by
 unfold n8;rw[h.1,h.2];simp
def sl_tup_whole:SlR X (λx lo hi H Q=>∃a xs,x=.ref a/\SqT X.K H a xs/\(HT.sIx xs.length 0 lo=0/\HT.sIx xs.length xs.length hi=xs.length)/\Q (.ref a) H):=by
 intro ol s σ H x v vl vu lo hi sl Q I rx hs pl pu h;obtain⟨a,xs,rfl,hx,hw,q⟩:=h;cases rx;obtain⟨its,r,ht,hz⟩:=I.tuple hx
 have hlen:its.toArray.size=xs.length:=by rw[N5];exact r.length.symm
 refine⟨"tuple",_,OU.lookup,ht.typeIs,?_⟩
 exact HT.getItem_tuple_whole ht hs pl pu (by rw[hlen];exact hw) ⟨.ref a,H,I,rfl,q⟩
def pN(_:En):Rs (Option Int):=.ok ZB
def pS(f:V5)(Z:En):Rs (Option Int):=do
 let x <-f Z
 match x with
 |.int i=>.ok (ZA i)
 |_=>.bad
def tPO(X:Cx)(f:En->Rs (Option Int)):TO:=λσ H Q=>∃Z O,EnvO X.K O H Z σ/\Post X H (f Z) λb H'=>Q b H'
abbrev Mz(X:Cx)(e:Option ZG)(f:En->Rs (Option Int)):Prop:=PO X e (tPO X f)
def FD:Mz X ZB pN:=by
 intro ol s σ H Q I ⟨Z,O,E,hq⟩;exact FW ol s σ H Q I (hq H (Same.refl H))
def FC(ha:cy X a fa):Mz X (ZA a) (pS fa):=by
 intro ol s σ H Q I ⟨Z,O,E,hq⟩;refine FV ha ol s σ H Q I ?_
 obtain⟨Z1,O1,E1,h1⟩:=a9 E hq;refine⟨Z1,O1,E1,Post.mono h1 λts H1 s1 q vs r=>?_⟩
 obtain⟨t',r',s',E',q'⟩:=q vs r
 split at q'
 ·exact⟨_,Rep.AC.mp r',q' H1 (Same.refl H1)⟩
 ·exact q'.elim
def slT(x:T)(lo hi:Option Int):Rs T:=match x with
 |.tup l=>.ok (.tup (n8 l lo hi))
 |.lst l=>.ok (.lst (n8 l lo hi))
 |_=>.bad
def sl(fe:V5)(fl fu:En->Rs (Option Int))(Z:En):Rs T:=do
 let x <-fe Z
 let l <-fl Z
 let u <-fu Z
 slT x l u
def vz{f:En->Rs (Option Int)}{k:Option Int->Rs α}{Q:α->Hp->Prop}(E:EnvO X.K O H Z σ)(h:Post X H (f Z >>= k) Q):
  tPO X f σ H λb H'=>Same H H'/\EnvO X.K O H' Z σ/\Post X H' (k b) Q:=
 ⟨Z,O,E,Post.mono h.bind λt H' s q=>⟨s,E.same s,q⟩⟩
def FK{lo hi:Option ZG}{p2:Pos}{fl fu:En->Rs (Option Int)}(ha:cy X a fa)(hl:Mz X lo fl)(hu:Mz X hi fu):cy X (.Subscript a (.Slice lo hi ZB p2) pos) (sl fa fl fu):=by
 intro ol s σ H Q I ⟨Z,O,E,hq⟩;refine CC (sl_tup.or (sl_tup_whole.or Ff)) ha hl hu ol s σ H Q I ?_
 obtain⟨Z1,O1,E1,h1⟩:=a9 E hq;refine⟨Z1,O1,E1,Post.mono h1 λts H1 s1 q vs r=>?_⟩
 obtain⟨t',r',s',E',q'⟩:=q vs r;obtain⟨Z2,O2,E2,h2⟩:=vz E' q';refine⟨Z2,O2,E2,Post.mono h2 λo1 H2 s2 q=>?_⟩
 obtain⟨s2',E2',q2⟩:=q;obtain⟨Z3,O3,E3,h3⟩:=vz E2' q2;refine⟨Z3,O3,E3,Post.mono h3 λo2 H3 s3 q=>?_⟩
 obtain⟨s3',E3',q3⟩:=q
 have rt:=(r'.same s2').same s3';unfold slT at q3
 split at q3
 ·rename_i l
  obtain⟨p,ws,e,n,q,rr⟩:=Rep.Fk.mp rt
  have hlen:=rr.length
  by_cases hw:HT.sIx ws.length 0 o1=0/\HT.sIx ws.length ws.length o2=ws.length
  ·refine .inr (.inl ⟨p,ws,e,SqT.of q,hw,?_⟩)
   rw[<-hlen]at hw;refine q3 H3 (Same.refl H3) _ ?_
   rw[A9 hw];exact Rep.Fk.mpr ⟨p,ws,rfl,n,q,rr⟩
  ·exact .inl ⟨p,ws,e,SqT.of q,hw,λp' hp=>q3 _ (bj hp _) _ (iN hp (E3'.fresh hp) (rr.cut o1 o2))⟩
 ·rename_i l
  obtain⟨p,ws,e,n,q,rr⟩:=Rep.Do.mp rt;exact .inr (.inr ⟨p,ws,e,SqL.of q,λp' hp=>q3 _ (bj hp _) _ (l8 hp (E3'.fresh hp) (rr.cut o1 o2))⟩)
 ·exact q3.elim
def CallT(X:Cx)(f:NK)(g:List T->Rs T):Prop:=
 ∀(ol:V2)(s:NO)(σ:L2.St)(H:Hp)(O:Ow)(ts:List T)(vs:List V)(us:List NK)(Q:VK),Inv X ol σ H s->(∀p,H p=ZB->¬ O p)->Reps X.K O H ts vs->Vals vs us →
  Post X H (g ts) (λt H'=>∀v,Rep X.K O H' t v->Q v H')->wpAny (model X.prog X.w) X.A (call f us) (EP X ol σ Q) X.xe s
def CallT.of{r:List V->Hp->VK->Prop}(h:CallR X f r){g:List T->Rs T}
  (w:∀(H:Hp)(O:Ow)(ts:List T)(vs:List V)(Q:VK),(∀p,H p=ZB->¬ O p)->Reps X.K O H ts vs->Post X H (g ts) (λt H'=>∀v,Rep X.K O H' t v->Q v H')->r vs H Q):CallT X f g:=
 λol s σ H O ts vs us Q I hf rs rv hp=>h ol s σ H vs us Q I rv (w H O ts vs Q hf rs hp)
def cl(g:List T->Rs T)(fs:V3)(Z:En):Rs T:=fs Z >>= g
variable {fs:V3}{id:String}{g:List T->Rs T}
def FO(hc:CallT X (.builtin id) g)(hm:X.mg x=ZB)(hv:OF x=ZA (.builtin id))(ha:qB X (e::es) fs)(hg:autoParam (Gl X x) aqd._auto_1)(hn:autoParam (x≠ "__name__") aqb._auto_1)(hdb:autoParam ((x == ("__debug__" : Str))=ZD) aqb._auto_1)
  (he:autoParam (NW (e::es) X.env=(ZD,eval e X.env)::NW es X.env) aqd._auto_1) (hpl:autoParam ((backTo pos (NW es X.env)).any (·.1)=ZD) aqd._auto_1):cy X (.Call (.Name x p) (e::es) [] pos) (cl g fs):=by
 intro ol s σ H Q I ⟨Z,O,E,hq⟩;refine Oz (gU I hg hm hv ?_ hn hdb)
 have h1:=gK E hq;exact PJ (bU (ha pos ol s σ H _ I h1) λus s1 ⟨vs,H1,I1,r1,ts,rs,s',E',q1⟩=>hc ol s1 σ H1 O ts vs us Q I1 (λp=>E'.fresh) rs r1 q1) he hpl
def Co(hc:CallT X (.type Ty) g)(hm:X.mg x=ZB)(hv:OF x=ZA (.type Ty))(ha:qB X (e::es) fs)(hg:autoParam (Gl X x) aqd._auto_1)(hn:autoParam (x≠ "__name__") aqb._auto_1)(hdb:autoParam ((x == ("__debug__" : Str))=ZD) aqb._auto_1)
  (he:autoParam (NW (e::es) X.env=(ZD,eval e X.env)::NW es X.env) aqd._auto_1) (hpl:autoParam ((backTo pos (NW es X.env)).any (·.1)=ZD) aqd._auto_1):cy X (.Call (.Name x p) (e::es) [] pos) (cl g fs):=by
 intro ol s σ H Q I ⟨Z,O,E,hq⟩;refine Oz (gU I hg hm hv ?_ hn hdb)
 have h1:=gK E hq;exact O7 (bU (ha pos ol s σ H _ I h1) λus s1 ⟨vs,H1,I1,r1,ts,rs,s',E',q1⟩=>hc ol s1 σ H1 O ts vs us Q I1 (λp=>E'.fresh) rs r1 q1) he hpl
def Reps.one{t:T}(r:Reps K O H [t] vs):∃v,vs=[v]/\Rep K O H t v:=by
 obtain⟨v,ws,rfl,p,q⟩:=Reps.me.mp r;cases Reps.Da.mp q;exact⟨v,rfl,p⟩
def Rep.sq{t:T}(r:Rep K O H t v)(h:t.items=ZA l):∃a vs,v=.ref a/\¬ O a/\Reps K O H l vs/\(SqL K H a vs\/SqT K H a vs):=by
 cases t with
 |tup m=>cases h;obtain⟨a,vs,e,n,q,z⟩:=Rep.Fk.mp r;exact⟨a,vs,e,n,z,.inr (SqT.of q)⟩
 |lst m=>cases h;obtain⟨a,vs,e,n,q,z⟩:=Rep.Do.mp r;exact⟨a,vs,e,n,z,.inl (SqL.of q)⟩
 |scr m=>cases h;unfold Rep at r;obtain⟨a,e,n,q⟩:=r;exact⟨a,_,e,n,Reps.ints,.inl q⟩
 |_=>cases h
def bP:List T->Rs T
 |[.str x] =>if x.length<=sizeLine then .ok (.int x.length)else .bad
 |[x] =>match x.items with
  |some l=>.ok (.int l.length)
  |none=>.bad
 |_=>.bad
def bX:CallT X (.builtin "len") bP:=CallT.of (call_len_seq.or u4) λH O ts vs Q hf rs hp=>by
 unfold bP at hp
 split at hp
 ·obtain⟨v,rfl,r⟩:=rs.one
  split at hp
  ·rename_i h
   exact .inr ⟨_,by rw[Rep.GM.mp r],h,hp H (Same.refl H) _ (Rep.Gc _)⟩
  ·exact hp.elim
 ·obtain⟨v,rfl,r⟩:=rs.one
  split at hp
  ·rename_i l hl
   obtain⟨a,vs,rfl,n,z,q⟩:=r.sq hl;exact .inl ⟨a,vs,rfl,q,hp H (Same.refl H) _ (by rw[<-z.length];exact Rep.Gc _)⟩
  ·exact hp.elim
 ·exact hp.elim
def iZ:List T->Rs T
 |[.tup l] =>.ok (.tup l)
 |[.lst l] =>.ok (.tup l)
 |_=>.bad
def ke:CallT X (.type "tuple") iZ:=CallT.of ri λH O ts vs Q hf rs hp=>by
 unfold iZ at hp
 split at hp
 ·obtain⟨v,rfl,r⟩:=rs.one
  obtain⟨a,ws,rfl,n,q,z⟩:=Rep.Fk.mp r;exact⟨a,ws,rfl,.inr ⟨SqT.of q,hp H (Same.refl H) _ (Rep.Fk.mpr ⟨a,ws,rfl,n,q,z⟩)⟩⟩
 ·obtain⟨v,rfl,r⟩:=rs.one
  obtain⟨a,ws,rfl,n,q,z⟩:=Rep.Do.mp r;exact⟨a,ws,rfl,.inl ⟨SqL.of q,λl hl=>hp _ (bj hl _) _ (iN hl (hf l hl) z)⟩⟩
 ·exact hp.elim
def wU:List T->Rs T
 |[.int i] =>.ok (.int i)
 |[.bl k] =>.ok (.int (if k then 1 else 0))
 |_=>.bad
def Ek:CallT X (.type "int") wU:=CallT.of Bf λH O ts vs Q hf rs hp=>by
 unfold wU at hp
 split at hp
 ·obtain⟨v,rfl,r⟩:=rs.one
  exact .inl ⟨_,by rw[Rep.AC.mp r],hp H (Same.refl H) _ (Rep.Gc _)⟩
 ·obtain⟨v,rfl,r⟩:=rs.one
  exact .inr ⟨_,by rw[Rep.FM.mp r],hp H (Same.refl H) _ (Rep.Gc _)⟩
 ·exact hp.elim
def qx:List T->Option (List Bool)
 |[] =>ZA []
 |.bl k::r=>(qx r).map (k:: ·)
 |_=>ZB
def rj:List T->Rs T
 |[.lst l] =>match qx l with
  |some ks=>.ok (.bl (ks.all λk=>k))
  |none=>.bad
 |_=>.bad
theorem qw:∀{l:List T}{ks:List Bool}{vs:List V}{us:List NK},qx l=ZA ks->Reps K O H l vs->Vals vs us->us=ks.map OI
 |[],ks,vs,us,e,r,v=>by cases e;cases Reps.Da.mp r;cases v;rfl
 |t::l,ks,vs,us,e,r,v=>by
  obtain⟨w,ws,rfl,p,q⟩:=Reps.me.mp r
  cases t with
  |bl k=>
   unfold qx at e
   cases z:qx l with
   |none=>rw[z]at e;cases e
   |some ks'=>
    rw[z]at e;cases e
    cases v with
    |cons v1 v2=>
     cases Rep.FM.mp p;cases v1
     rw[qw z q v2];rfl
  |_=>cases e
def uY(hc:X.calm=ZC):CallT X (.builtin "all") rj:=by
 intro ol s σ H O ts vs us Q I hf rs rv hp;unfold rj at hp
 split at hp
 ·obtain⟨v,rfl,r⟩:=rs.one
  split at hp
  ·rename_i ks hk
   obtain⟨a,ws,rfl,n,q,z⟩:=Rep.Do.mp r;obtain⟨u,rfl,ru⟩:=kO rv;cases ru;obtain⟨its,r',pl,hz⟩:=I.list (SqL.of q)
   have hits:=qw hk z r';refine call_all_walk (Sn pl.isList ?_)
   have hne:a≠s.heap.objs.size:=λe=>by
    obtain⟨o,ho,_⟩:=pl.isList;rw[e]at ho;exact absurd (NY ho) (Oo _)
   refine⟨s.heap.objs.size,_,_,_,_,_,λi=>(ks[i]?).getD ZC,rfl,Walks.list (A:=X.A.in1) (I.ok.hd hc) s.heap.objs.size a hne its.toArray,⟨⟨_,Oa _ rfl,rfl,rfl⟩,?_⟩,?_,?_⟩
   ·obtain⟨o,ho,hh⟩:=pl.isList
    exact⟨o,NV _ ho,hh⟩
   ·intro i v s' Q' E' hP hQ'
    subst hits
    dsimp only at hQ'
    have hP':(ks.map OI)[i]?=ZA v:=by simpa using hP
    rw[Oc]at hP'
    cases e:ks[i]? with
    |none=>rw[e]at hP';cases hP'
    |some k=>
     rw[e]at hP' hQ';cases hP';exact OL hQ'
   ·intro h' tk hk'
    have hlen:its.toArray.size=ks.length:=by rw[hits];simp
    have e:((OQ its.toArray.size).all λi=>(ks[i]?).getD ZC)=(ks.all λk=>k):=by
     rw[hlen];rw[Re,Ob,Ob]
     constructor
     ·intro h x hx
      obtain⟨i,hi,rfl⟩:=Qs hx
      have:=h i (Pn.mpr hi)
      simpa [hi]using this
     ·intro h i hi
      have hi':=Pn.mp hi
      have:=h ks[i] (Pt hi')
      simpa [hi']using this
    rw[e]
    have I1:Inv X ol σ H {s with heap:=s.heap.push {cls:=.type "list_iterator",data:=.fields #[.ref a,.int 0 0]}}:=I.kept (t':=s.toks) λb o e=>NV _ e
    have I2:Inv X ol σ H {s with heap:=h',toks:=tk}:=by
     have:=I1.turned (h':=h') (t':=tk) (it:=s.heap.objs.size) (λb o hb e=>hk' b o (by simpa using hb) e) (I.hok.fresh (N3 _))
      (R0 I.lt) (.inr I.sz) (λx c e z=>?_) (λp hp z=>?_)
     ·exact this
     ·obtain⟨v,q⟩:=I.cell x c e
      exact absurd (N6 q.lt (Rw z.symm)) (Oo _)
     ·exact absurd (N6 (NY (I.pin p hp).1) (Rw z.symm)) (Oo _)
    exact⟨.bl _,H,I2,rfl,hp H (Same.refl H) _ (Rep.bl_ _)⟩
  ·exact hp.elim
 ·exact hp.elim
end
def T.ty:T->Option String
 |.non=>ZA "NoneType"
 |.bl _=>ZA "bool"
 |.int _=>ZA "int"
 |.str _=>ZA "str"
 |.tup _=>ZA "tuple"
 |.lst _=>ZA "list"
 |.scr _=>ZB
 |.dct _ _=>ZB
 |.ob _ _ _=>ZB
def wY(i b t l s:Bool)(Ty:String):Option Bool:=match Ty with
 | "int" =>ZA i| "bool" =>ZA b| "tuple" =>ZA t| "list" =>ZA l| "str" =>ZA s
 |_=>ZB
def zP(n Ty:String):Option Bool:=match n with
 | "NoneType" =>wY ZD ZD ZD ZD ZD Ty
 | "bool" =>wY ZC ZC ZD ZD ZD Ty
 | "int" =>wY ZC ZD ZD ZD ZD Ty
 | "str" =>wY ZD ZD ZD ZD ZC Ty
 | "tuple" =>wY ZD ZD ZC ZD ZD Ty
 | "list" =>wY ZD ZD ZD ZC ZD Ty
 |_=>ZB
def AY(K:NI){n:String}(h:zP n Ty=ZA b):PySem.W.kitOne K (.type n) (.type Ty)=ZA b:=by
 unfold zP at h
 split at h <;> first| (cases h;done)| (unfold wY at h;split at h <;> first| (cases h;done)| (cases h;kernel_rfl))
def Gz(Ty:String)(t:T):Rs T:=match t.ty with
 |some n=>match zP n Ty with
  |some b=>.ok (.bl b)
  |none=>.bad
 |none=>.bad
def Rep.NG{t:T}{n:String}(r:Rep K O H t v)(h:t.ty=ZA n):nh K H v (.type n):=by
 cases t with
 |non=>cases h;cases Rep.IR.mp r;exact .non
 |bl b=>cases h;cases Rep.FM.mp r;exact .bl b
 |int b=>cases h;cases Rep.AC.mp r;exact .int b
 |str b=>cases h;cases Rep.GM.mp r;exact .str b
 |tup l=>cases h;obtain⟨a,vs,rfl,_,q,_⟩:=Rep.Fk.mp r;exact .tup q
 |lst l=>cases h;obtain⟨a,vs,rfl,_,q,_⟩:=Rep.Do.mp r;exact .lst q
 |scr l=>cases h
 |dct _ _=>cases h
 |ob _ _ _=>cases h
variable{H':Hp}{M:Mn}{O':Ow}{g:T->En->Rs En}{gs:List T->En->Rs En}{iter tg:ZG}{ol:V2}{ps:List Str}
section
variable {a b c:ZG}{fs:V3}{p2:Pos}
def gp:OF "isinstance" =ZA (.builtin "isinstance"):=by decide+kernel
def Ln{tn:Str}(hm:X.mg "isinstance" =ZB)(hmt:X.mg tn=ZB)(hv:OF tn=ZA (.type Ty))(ha:cy X a fa)(hg:autoParam (Gl X "isinstance") aqd._auto_1)(hgt:autoParam (Gl X tn) aqd._auto_1)
  (hn:autoParam (tn≠ "__name__") aqb._auto_1) (hd:autoParam ((tn == ("__debug__" : Str))=ZD) aqb._auto_1)
  (he:autoParam (NW [a,.Name tn p2] X.env=(ZD,eval a X.env)::NW [.Name tn p2] X.env) aqd._auto_1) (hpl:autoParam ((backTo pos (NW [.Name tn p2] X.env)).any (·.1)=ZD) aqd._auto_1)
  (hs:autoParam (NW [.Name tn p2] X.env=(ZD,eval (.Name tn p2) X.env)::NW [] X.env) aqd._auto_1):
  cy X (.Call (.Name "isinstance" p) [a,.Name tn p2] [] pos) (o1 (Gz Ty) fa):=by
 intro ol s σ H Q I ⟨Z,O,E,hq⟩;refine Oz (gU I hg hm gp ?_ (by decide) (by decide))
 have hA:PA X [a,.Name tn p2] (hV (tP X fa) (hV (tC (.ty Ty)) vA)):=br ha (br (zr (v:=.ty Ty) hgt hmt hv rfl hn hd) dH hs) he;obtain⟨Z1,O1,E1,h1⟩:=a9 E hq;refine PJ (bU (hA pos ol s σ H (λvs H'=>∃v t,vs=[v,.ty Ty]/\Rep X.K O H' t v/\Post X H' (Gz Ty t) (λt H'=>∀v,Rep X.K O H' t v->Q v H')) I ?_) λus s1 ⟨vs,H1,I1,r1,v,t,e1,rt,q⟩=>?_) he hpl
 ·refine⟨Z1,O1,E1,Post.mono h1 λts H1 s1 q vs r=>?_⟩
  obtain⟨t',r',s',E',q'⟩:=q vs r;exact⟨vs,t',rfl,r',q'⟩
 ·subst e1
  obtain⟨u,w',rfl,ru,rw'⟩:=vj r1;cases rw';unfold Gz at q
  split at q
  ·rename_i n hn'
   split at q
   ·rename_i bb hb
    exact AX I1 ru (rt.NG hn') (AY _ hb) λtk=>⟨.bl bb,H1,I1.tok _,rfl,q H1 (Same.refl H1) _ (Rep.bl_ _)⟩
   ·exact q.elim
  ·exact q.elim
def spP(K:NI)(n:Nat)(g:List T->Rs T):Sp:=λvs H Q _=>∃ts O,Reps K O H ts vs/\(∀a,O a->Mtb H a)/\ts.length=n ∧
 match g ts with
 |.ok t=>∀v H',Same H H'->Rep K O H' t v->Q v H'
 |_=>False
def ML(P:N8)(w:OV)(mg:V0)(outer:List Env)(H:Hp)(s:NO)(c:Str)(ev:NK)(s':NO):Prop:=
 ∃e T C H',ev=.ref e/\mg c=ZA (.ref C)/\s'.os=s.os/\Sy s'.gens/\Un (m6 outer) [] H H' s.heap s'.heap/\HOk P w H' s'.heap/\Same H H'/\H' e=ZB/\s.heap.get? e=ZB/\MB s'.heap C e (ZA T)/\H' T=ZB/\s.heap.get? T=ZB
def FnX(P:N8)(w:OV)(K:NI)(mg:V0)(base:ZH)(k:Nat)(f:ZE)(fd:Ot)(ps:List Str)(n:Nat)(g:List T->Rs T):Prop:=
 ∀(A:Oq)(outer:List Env)(s:NO)(H:Hp)(args:Args)(us:List NK)(vs:List V)(O:Ow)(ts:List T)(c:Str)(R:Th->NO->Prop),Room k A->Env0 P w K mg base A outer s H->R7 s fd args (ps.zip us)->Vals vs us →
  Reps K O H ts vs->(∀a,O a->Mtb H a)->ts.length=n->g ts=.err c->(∀ev s',ML P w mg outer H s c ev s'->R (.error ev) s')->codeAny (model P w) A (.call (.ref f) args) R s
structure EF (P:N8)(w:OV)(K:NI)(mg:V0)(base:ZH)(k:Nat)(f:ZE)(fd:Ot)(ps:List Str)(n:Nat)(g:List T->Rs T):Prop where
 h:FnOk P w K mg base CX0 k f fd ps (spP K n g)
 x:FnX P w K mg base k f fd ps n g
def CQ{h:ZH}{a:ZE}{o:HO}(x:ObjOk P w H h a o):∃u,h.get? a=ZA u:=by
 cases o with
 |lst xs=>obtain⟨_,_,_,_,e⟩:=x;exact⟨_,e⟩
 |tup xs=>obtain⟨_,_,_,ob,e,_⟩:=x;exact⟨_,e⟩
 |dK kvs=>obtain⟨_,_,_,_,o,_,_,e,_⟩:=x;exact⟨_,e⟩
 |dT kvs=>obtain⟨_,_,_,_,o,_,_,e,_⟩:=x;exact⟨_,e⟩
 |set S n=>obtain⟨o,_,_,_,e,_⟩:=x;exact⟨_,e⟩
 |ins C dx fs=>obtain⟨_,_,_,e,_⟩:=x;exact⟨_,e⟩
 |own y=>obtain⟨_,e⟩:=x;exact⟨_,e⟩
 |xd fs=>obtain⟨_,⟨_,_,_,e,_⟩,_⟩:=x;exact⟨_,e⟩
 |rng lo hi=>obtain⟨_,_,_,e⟩:=x;exact⟨_,e⟩
 |frz ob u=>obtain⟨e,_⟩:=x;exact⟨_,e⟩
 |tbl ps=>exact⟨_,(show h.get? a=ZA _ from x)⟩
 |met f y=>exact⟨_,(show h.get? a=ZA _ from x)⟩
 |ext φ=>obtain⟨_,⟨_,e⟩,_⟩:=x;exact⟨_,e⟩
def jL(I:Inv X ol σ H s){e:ZE}(n:s.heap.get? e=ZB):H e=ZB:=by
 cases z:H e with
 |none=>rfl
 |some o=>
  obtain⟨o',ho'⟩:=CQ (I.hok e o z);rw[n]at ho';cases ho'
def eG(I:Inv X ol σ H s)(hex:X.ex=[]){e:ZE}(n:s.heap.get? e=ZB):X.s₀.heap.get? e=ZB:=by
 cases z:X.s₀.heap.get? e with
 |none=>rfl
 |some o=>
  obtain⟨o',ho'⟩:=I.base.there e o z (by rw[hex];simp)
  rw[n]at ho';cases ho'
def IT{f:ZE}{g:List T->Rs T}(F:EF X.prog X.w X.K X.mg X.base k f fd ps n g)(hr:Room k X.A)(hm:X.mg x=ZA (.ref f))(hk:PF X.K (.ref f)=ZC)(hb:Binds X.K fd ps [])(hps:ps.length=n)
  (hl:∀Z ts,fs Z=.ok ts->ts.length=n) (ha:qB X (e::es) fs) (hg:autoParam (Gl X x) aqd._auto_1) (hdb:autoParam ((x == ("__debug__" : Str))=ZD) aqb._auto_1) (he:autoParam (NW (e::es) X.env=(ZD,eval e X.env)::NW es X.env) aqd._auto_1) (hpl:autoParam ((backTo pos (NW es X.env)).any (·.1)=ZD) aqd._auto_1):
  cy X (.Call (.Name x p) (e::es) [] pos) (cl g fs):=by
 intro ol s σ H Q I ⟨Z,O,E,hq⟩
 have hq':Post X H (fs Z >>= g) λt H'=>∀v,Rep X.K O H' t v->Q v H':=hq
 cases q:fs Z with
 |bad=>rw[q]at hq';exact hq'.elim
 |err c=>
  rw[q]at hq';refine zq (E:=E0) F.h hr hg hm hk hb .nil vZ ha hdb he hpl ol s σ H Q I ⟨Z,O,E,?_⟩
  rw[q]
  exact hq'
 |ok ts=>
  rw[q]at hq'
  have hq2:Post X H (g ts) λt H'=>∀v,Rep X.K O H' t v->Q v H':=hq'
  cases q2:g ts with
  |bad=>rw[q2]at hq2;exact hq2.elim
  |ok t=>
   rw[q2]at hq2;refine zq (E:=E0) F.h hr hg hm hk hb .nil vZ ha hdb he hpl ol s σ H Q I ⟨Z,O,E,?_⟩
   rw[q];intro H1 s1 vs rs;rw[Oi];refine⟨ts,O,rs,(E.same s1).mtb,hl Z ts q,?_⟩
   rw[q2]
   exact λv H' s2 r=>hq2 H' (s1.trans s2) v r
  |err c=>
   rw[q2]at hq2;refine Oz (fR I hg hm ?_ hdb)
   refine PK (h₀:=X.base) I.ok.mod.kin hk (bU (ha pos ol s σ H (λvs H'=>Same H H'/\Reps X.K O H' ts vs) I ⟨Z,O,E,?_⟩) (λus s1 ⟨vs,H1,I1,r,sm,rs⟩=>⟨I1.kIn,?_⟩)) he hpl
   ·rw[q];exact λH' sm vs rs=>⟨sm,rs⟩
   ·have hlen:us.length=ps.length:=by rw[<-r.length,<-rs.length,hl Z ts q,hps]
    have hb':=hb s1 us I1.kIn (by rw[Oi];exact hlen)
    rw[Oi]at hb';refine Rp (Qa (F.x X.A X.stack s1 H1 ⟨us,[]⟩ us vs O ts c (λr s'=>match r with|.error ev=>X.xe ev s'|_=>False) hr I1.Na hb' r rs (E.same sm).mtb (hl Z ts q) q2 λev s' w=>?_) λr s' hq=>?_)
    ·obtain⟨ea,T,C,H',rfl,hmc,ho,hbare,hun,hok,sm2,hea,heo,fl,hT,hTo⟩:=w
     have I2:Inv X ol σ H' s':=I1.M6 ho hun hok hbare (λb z=>absurd z (by simp))
     exact hq2 ol _ _ ⟨ea,ZA T,C,σ,H',rfl,hmc,I2,λb o q _=>sm2 b o (sm b o q),hea,λhex=>eG I1 hex heo,fl,(λt zt=>by cases zt;exact⟨hT,λhex=>eG I1 hex hTo⟩),λpp hpp=>⟨λzz=>(by have:=(I1.pin pp hpp).1;rw[zz,heo]at this;cases this),λzz=>(by cases zz;have:=(I1.pin pp hpp).1;rw[hTo]at this;cases this)⟩⟩
    ·cases r with
     |error ev=>exact hq
     |ok fl=>exact hq.elim
def BO(X:Cx)(g:T->En->Rs En):TG:=λv σ H Q=>∃Z O M t,EnvM X.K O M H Z σ/\Rep X.K O H t v/\match g t Z with
 |.ok Z'=>∀σ',EnvM X.K O M H Z' σ'->Q σ' H
 |_=>False
abbrev EM(X:Cx)(tg:ZG)(g:T->En->Rs En):Prop:=PG X tg (BO X g)
def tPGs(X:Cx)(g:List T->En->Rs En):G4:=λvs σ H Q=>∃Z O M ts,EnvM X.K O M H Z σ/\Reps X.K O H ts vs/\match g ts Z with
 |.ok Z'=>∀σ',EnvM X.K O M H Z' σ'->Q σ' H
 |_=>False
abbrev EC(X:Cx)(tg:List ZG)(g:List T->En->Rs En):Prop:=PGs X tg (tPGs X g)
def PG.imp{t t':TG}(h:PG X e t)(w:∀v σ H Q,t' v σ H Q->t v σ H Q):PG X e t':=λol s σ H v u Q I r q=>h ol s σ H v u Q I r (w v σ H Q q)
def PGs.imp{e:List ZG}{t t':G4}(h:PGs X e t)(w:∀v σ H Q,t' v σ H Q->t v σ H Q):PGs X e t':=λol s σ H v u Q I r q=>h ol s σ H v u Q I r (w v σ H Q q)
def gN(i:Nat)(t:T)(Z:En):Rs En:=if i<Z.length then .ok (Z.set i (.va t))else .bad
def EnvM.set{t:T}(E:EnvM K O M H Z σ)(hi:i<Z.length)(r:Rep K O H t v):EnvM K O M H (Z.set i (.va t)) (σ.set i (ZA v)) where
 len:=by rw[Pa,Pa];exact E.len
 val:=λj u e=>by
  by_cases hj:i=j
  ·subst hj
   rw[Of hi]at e
   cases e;exact⟨v,Of (by rw[<-E.len];exact hi),r⟩
  ·rw[Oh hj]at e
   obtain⟨w,e1,e2⟩:=E.val j u e;exact⟨w,by rw[Oh hj];exact e1,e2⟩
 own:=λj o e=>by
  by_cases hj:i=j
  ·subst hj
   rw[Of hi]at e
   cases e
  ·rw[Oh hj]at e
   obtain⟨w,e1,e2⟩:=E.own j o e;exact⟨w,by rw[Oh hj];exact e1,e2⟩
 sub:=E.sub
 dis:=E.dis
 trk:=E.trk
def FI(i:Nat)(hN:X.N.Nodup)(hi:autoParam (X.N[i]?=ZA x) aqd._auto_1)(hx:autoParam (Loc X.env.scope x) aqh._auto_1)(hf:autoParam (X.fn x=ZC\/X.env.scope.names.lookup x=ZA .local) aqa._auto_1):EM X (.Name x pos) (gN i):=
 PG.imp (F1 hN hi hx hf) λv σ H Q hh_=>by
  obtain⟨Z,O,M,t,E,r,h⟩:=hh_;unfold gN at h
  split at h
  ·rename_i Z' e
   split at e
   ·rename_i hl
    cases e;exact h _ (E.set hl r)
   ·cases e
  ·exact h.elim
def nI(ts:List T)(Z:En):Rs En:=match ts with
 |[] =>.ok Z
 |_=>.bad
def eR(g:T->En->Rs En)(gs:List T->En->Rs En)(ts:List T)(Z:En):Rs En:=match ts with
 |t::r=>do
  let Z1 <-g t Z
  gs r Z1
 |[] =>.bad
def FH:EC X [] nI:=PGs.imp F0 λvs σ H Q hh_=>by
 obtain⟨Z,O,M,ts,E,r,h⟩:=hh_;unfold nI at h
 cases ts with
 |nil=>exact⟨Reps.Da.mp r,h σ E⟩
 |cons _ _=>exact h.elim
def Cm(h1:EM X e g)(h2:EC X es gs)
  (hs:autoParam ((PB (e::es) X.env).map (·.2)=assign e X.env::(PB es X.env).map (·.2)) aqd._auto_1):EC X (e::es) (eR g gs):=
 PGs.imp (CA h1 h2 hs) λvs σ H Q hh_=>by
  obtain⟨Z,O,M,ts,E,r,h⟩:=hh_
  cases ts with
  |nil=>exact h.elim
  |cons t ts=>
   obtain⟨v,ws,rfl,p,q⟩:=Reps.me.mp r;refine⟨v,ws,rfl,Z,O,M,t,E,p,?_⟩
   unfold eR at h
   cases e1:g t Z with
   |bad=>simp[e1]at h
   |err c=>simp[e1]at h
   |ok Z1=>
    intro σ1 E1;refine⟨Z1,O,M,ts,E1,q,?_⟩
    simp only[e1,ay]at h
    cases e2:gs ts Z1 with
    |bad=>simp[e2]at h
    |err c=>simp[e2]at h
    |ok Z2=>
     simp only[e2]at h;exact λσ2 E2=>h σ2 E2
def gT(n:Nat)(gs:List T->En->Rs En)(t:T)(Z:En):Rs En:=match t with
 |.tup l=>if l.length=n then gs l Z else .bad
 |_=>.bad
def IM(hc:X.calm=ZC)(h:EC X es gs)(hn:autoParam ((PB es X.env).length=n) aqd._auto_1)(hst:autoParam ((PB es X.env).findIdx? (·.1)=ZB) aqd._auto_1):EM X (.Tuple es k pos) (gT n gs):=
 PG.imp (IZ hc h hn hst) λv σ H Q hh_=>by
  obtain⟨Z,O,M,t,E,r,h⟩:=hh_;unfold gT at h
  cases t with
  |tup l=>
   obtain⟨a,vs,rfl,n',q,z⟩:=Rep.Fk.mp r
   by_cases hl:l.length=n
   ·simp only[if_pos hl]at h
    exact⟨a,vs,rfl,SqT.of q,by rw[<-z.length];exact hl,Z,O,M,l,E,z,h⟩
   ·simp only[if_neg hl]at h
  |_=>exact h.elim
def SqL.nn{a:ZE}(q:SqL K H a vs):¬ Nw K H a:=λ⟨h1,h2⟩=>by
 rcases q with(q|⟨o,q⟩)|⟨o,_,_,q,_⟩
 ·rw[h1]at q;cases q
 ·rw[h1]at q;cases q
 ·rw[h2]at q;cases q
mutual
theorem Rep.more{K:NI}{O O':Ow}{H:Hp}(sub:∀a,O' a->O a\/Nw K H a):∀{t:T}{v:V},Rep K O H t v->Rep K O' H t v
 |.non,_,r=>by unfold Rep at r ⊢;exact r
 |.bl _,_,r=>by unfold Rep at r ⊢;exact r
 |.int _,_,r=>by unfold Rep at r ⊢;exact r
 |.str _,_,r=>by unfold Rep at r ⊢;exact r
 |.tup l,_,r=>by
  unfold Rep at r ⊢;obtain⟨a,vs,e,n,q,z⟩:=r
  exact⟨a,vs,e,λp=>(sub a p).elim n λw=>(by rw[w.1]at q;cases q),q,Reps.more sub z⟩
 |.lst l,_,r=>by
  unfold Rep at r ⊢;obtain⟨a,vs,e,n,q,z⟩:=r
  exact⟨a,vs,e,λp=>(sub a p).elim n λw=>(by rw[w.1]at q;cases q),q,Reps.more sub z⟩
 |.scr l,_,r=>by
  unfold Rep at r ⊢;obtain⟨a,e,n,q⟩:=r
  exact⟨a,e,λp=>(sub a p).elim n λw=>Tr.SqL.nn q w,q⟩
 |.dct ks ts,_,r=>by
  unfold Rep at r ⊢;obtain⟨a,kvs,e,n,q,k,z⟩:=r
  exact⟨a,kvs,e,λp=>(sub a p).elim n λw=>(by rcases q with q|⟨_,q⟩ <;> rw[w.1]at q <;> cases q),q,k,Reps.more sub z⟩
 |.ob C ns ts,_,r=>by
  unfold Rep at r ⊢;obtain⟨a,dx,fs,e,n,q,k,z⟩:=r;exact⟨a,dx,fs,e,λp=>(sub a p).elim n λw=>(by rw[w.1]at q;cases q),q,k,Reps.more sub z⟩
theorem Reps.more{K:NI}{O O':Ow}{H:Hp}(sub:∀a,O' a->O a\/Nw K H a):∀{l:List T}{vs:List V},Reps K O H l vs->Reps K O' H l vs
 |[],_,r=>by unfold Reps at r ⊢;exact r
 |t::l,_,r=>by
  unfold Reps at r ⊢;obtain⟨v,ws,e,p,q⟩:=r;exact⟨v,ws,e,Rep.more sub p,Reps.more sub q⟩
end
def Rep.move{P:Ow}{t:T}(hP:∀a,P a->O a\/Nw K H a)(hO:∀a,O' a->O a\/Nw K H a)(h:SameO P H H')(r:Rep K O H t v):Rep K O' H' t v:=
 Rep.less (O:=λa=>O' a\/P a) (λ_ z=>.inl z) (Rep.keep h (λ_ z=>.inr z) (Rep.more (λa z=>z.elim (hO a) (hP a)) r))
def Reps.move{P:Ow}{t:List T}{v:List V}(hP:∀a,P a->O a\/Nw K H a)(hO:∀a,O' a->O a\/Nw K H a)(h:SameO P H H')(r:Reps K O H t v):Reps K O' H' t v:=
 Reps.less (O:=λa=>O' a\/P a) (λ_ z=>.inl z) (Reps.keep h (λ_ z=>.inr z) (Reps.more (λa z=>z.elim (hO a) (hP a)) r))
def MV(K:NI)(O:Ow)(H:Hp)(ts:List T)(J:It):Prop:=∀(P O':Ow),(∀a,P a->O a\/Nw K H a)->(∀a,O' a->O a\/Nw K H a)->∀(i:Nat)(Hc:Hp),SameO P H Hc->(∀a,O' a->∃o,Hc a=ZA o) →
 (ts.length<=i->J.stop i Hc)/\(∀t,ts[i]?=ZA t->J.go i Hc/\∀x Hc',J.yld i Hc x Hc'->Same Hc Hc'/\Rep K O' Hc' t x)
def ME(X:Cx)(f:V3):TI:=λσ H R=>∃Z O,EnvO X.K O H Z σ/\Post X H (f Z) λts H'=>∀J,MV X.K O H' ts J->R J H'
abbrev Bs(X:Cx)(tg iter:ZG)(f:V3):Prop:=PI X tg iter (ME X f)
def PI.imp{t t':TI}(h:PI X tg iter t)(w:∀σ H R,t' σ H R->t σ H R):PI X tg iter t':=λol s σ H R I q=>h ol s σ H R I (w σ H R q)
def iL(f:V5)(Z:En):Rs (List T):=do
 let x <-f Z
 match x with
 |.lst l=>.ok l
 |_=>.bad
def iT(f:V5)(Z:En):Rs (List T):=do
 let x <-f Z
 match x with
 |.tup l=>.ok l
 |_=>.bad
def zh(ha:cy X a fa):Bs X tg a (iL fa):=PI.imp (FY ha) λσ H R hh_=>by
 obtain⟨Z,O,E,h⟩:=hh_;obtain⟨Z1,O1,E1,h1⟩:=a9 E h;refine⟨Z1,O1,E1,Post.mono h1 λts H1 s1 q vs r=>?_⟩
 obtain⟨t',r',s',E',q'⟩:=q vs r
 split at q'
 ·rename_i l
  obtain⟨a,ws,rfl,n,q,z⟩:=Rep.Do.mp r';refine⟨a,rfl,⟨ws,SqL.of q⟩,q' H1 (Same.refl H1) _ λP O' hP hO i Hc hs ht=>?_⟩
  have hnP:¬ P a:=λz=>(hP a z).elim n λw=>by rw[w.1]at q;cases q
  refine⟨λhi=>⟨ws,SqL.of (hs _ _ q hnP),by rw[<-z.length];exact hi⟩,λt ht'=>?_⟩
  obtain⟨v,e1,e2⟩:=z.get ht';refine⟨⟨ws,v,SqL.of (hs _ _ q hnP),e1⟩,λx Hc' y=>?_⟩
  obtain⟨e,y⟩:=y;subst e
  have:=y ws (SqL.of (hs _ _ q hnP));rw[e1]at this;cases this;exact⟨Same.refl _,e2.move hP hO hs⟩
 ·exact q'.elim
def IK(ha:cy X a fa):Bs X tg a (iT fa):=PI.imp (IY ha) λσ H R hh_=>by
 obtain⟨Z,O,E,h⟩:=hh_;obtain⟨Z1,O1,E1,h1⟩:=a9 E h;refine⟨Z1,O1,E1,Post.mono h1 λts H1 s1 q vs r=>?_⟩
 obtain⟨t',r',s',E',q'⟩:=q vs r
 split at q'
 ·rename_i l
  obtain⟨a,ws,rfl,n,q,z⟩:=Rep.Fk.mp r';refine⟨a,rfl,⟨ws,SqT.of q⟩,q' H1 (Same.refl H1) _ λP O' hP hO i Hc hs ht=>?_⟩
  have hnP:¬ P a:=λz=>(hP a z).elim n λw=>by rw[w.1]at q;cases q
  refine⟨λhi=>⟨ws,SqT.of (hs _ _ q hnP),by rw[<-z.length];exact hi⟩,λt ht'=>?_⟩
  obtain⟨v,e1,e2⟩:=z.get ht';refine⟨⟨ws,v,SqT.of (hs _ _ q hnP),e1⟩,λx Hc' y=>?_⟩
  obtain⟨e,y⟩:=y;subst e
  have:=y ws (SqT.of (hs _ _ q hnP));rw[e1]at this;cases this;exact⟨Same.refl _,e2.move hP hO hs⟩
 ·exact q'.elim
def rng(lo hi:Int):List T:=(OQ (hi - lo).toNat).map λ(k:Nat)=>T.int (lo+(k:Int))
def yE(i:Int):Bool:=decide (-(2 ^ 62)<=i)&&decide (i<2 ^ 62)
def iR(f:V3)(Z:En):Rs (List T):=do
 let x <-f Z
 match x with
 |[.int j] =>if yE j then .ok (rng 0 j)else .bad
 |[.int i,.int j] =>if yE i&&yE j then .ok (rng i j)else .bad
 |_=>.bad
def kF{i:Int}(h:yE i=ZC): -(2 ^ 62)<=i/\i<2 ^ 62:=by
 unfold yE at h;rw[NL]at h;exact⟨of_decide_eq_true h.1,of_decide_eq_true h.2⟩
def ox(lo hi:Int):MV K O H (rng lo hi) (Itr lo (hi - lo).toNat):=λP O' hP hO i Hc hs ht=>by
 refine⟨λh=>?_,λt h=>?_⟩
 ·show(hi - lo).toNat<=i
  unfold rng at h;rw[NP,Qo]at h;exact h
 ·unfold rng at h
  rw[Oc]at h
  by_cases hi':i<(hi - lo).toNat
  ·rw[List.getElem?_range hi']at h
   cases h;refine⟨hi',λx Hc' y=>?_⟩
   obtain⟨e,y⟩:=y;subst e y;exact⟨Same.refl _,Rep.Gc _⟩
  ·rw[Rx (by simpa using hi')]at h
   cases h
def AA(hm:X.mg "range" =ZB)(ha:qB X [a] fs)(hg:autoParam (Gl X "range") aqd._auto_1)(hs:autoParam (NW [a] X.env=[(ZD,eval a X.env)]) aqd._auto_1):Bs X tg (.Call (.Name "range" p) [a] [] pos) (iR fs):=by
 intro ol s σ H R I ⟨Z,O,E,h⟩
 have h1:=gK E h;refine Call_ (gU I hg hm boot_range (O7 (bU (ha pos ol s σ H _ I h1) λus s1 ⟨vs,H1,I1,r1,ts,rs,s',E',q1⟩=>?_) hs rfl))
 split at q1
 ·obtain⟨v,rfl,r⟩:=rs.one
  split at q1
  ·rename_i j hj
   obtain⟨b1,b2⟩:=kF hj;cases Rep.AC.mp r
   cases r1 with
   |cons r rr=>
    cases rr;obtain⟨t,rfl⟩:=r;exact call_range_1 (l9 I1 (by omega) (by omega) b1 b2 (q1 H1 (Same.refl H1) _ (ox 0 j)))
  ·exact q1.elim
 ·obtain⟨v,ws,rfl,p1,q⟩:=Reps.me.mp rs
  obtain⟨v2,rfl,r⟩:=q.one
  split at q1
  ·rename_i i j hj
   rw[NL]at hj;obtain⟨b1,b2⟩:=kF hj.1;obtain⟨b3,b4⟩:=kF hj.2;cases Rep.AC.mp p1;cases Rep.AC.mp r
   cases r1 with
   |cons r rr=>
    cases rr with
    |cons r' rr=>
     cases rr;obtain⟨t,rfl⟩:=r;obtain⟨t',rfl⟩:=r';exact call_range_2 (l9 I1 b1 b2 b3 b4 (q1 H1 (Same.refl H1) _ (ox i j)))
  ·exact q1.elim
 ·exact q1.elim
def Az(hm:X.mg "range" =ZB)(ha:qB X [a,b] fs)(hg:autoParam (Gl X "range") aqd._auto_1)(hs:autoParam (NW [a,b] X.env=[(ZD,eval a X.env),(ZD,eval b X.env)]) aqd._auto_1)(hs2:autoParam (NW [b] X.env=[(ZD,eval b X.env)]) aqd._auto_1):
  Bs X tg (.Call (.Name "range" p) [a,b] [] pos) (iR fs):=by
 intro ol s σ H R I ⟨Z,O,E,h⟩
 have h1:=gK E h;refine Call_ (gU I hg hm boot_range (O7 (bU (ha pos ol s σ H _ I h1) λus s1 ⟨vs,H1,I1,r1,ts,rs,s',E',q1⟩=>?_) (by rw[hs,hs2]) (by rw[hs2];rfl)))
 split at q1
 ·obtain⟨v,rfl,r⟩:=rs.one
  split at q1
  ·rename_i j hj
   obtain⟨b1,b2⟩:=kF hj;cases Rep.AC.mp r
   cases r1 with
   |cons r rr=>
    cases rr;obtain⟨t,rfl⟩:=r;exact call_range_1 (l9 I1 (by omega) (by omega) b1 b2 (q1 H1 (Same.refl H1) _ (ox 0 j)))
  ·exact q1.elim
 ·obtain⟨v,ws,rfl,p1,q⟩:=Reps.me.mp rs
  obtain⟨v2,rfl,r⟩:=q.one
  split at q1
  ·rename_i i j hj
   rw[NL]at hj;obtain⟨b1,b2⟩:=kF hj.1;obtain⟨b3,b4⟩:=kF hj.2;cases Rep.AC.mp p1;cases Rep.AC.mp r
   cases r1 with
   |cons r rr=>
    cases rr with
    |cons r' rr=>
     cases rr;obtain⟨t,rfl⟩:=r;obtain⟨t',rfl⟩:=r';exact call_range_2 (l9 I1 b1 b2 b3 b4 (q1 H1 (Same.refl H1) _ (ox i j)))
  ·exact q1.elim
 ·exact q1.elim
end
variable{B:Ow}{D:nj}{N':List Str}{Q:VK}{body:List ZF}{f:V6}{fe:V5}{fi:V3}{ifs:List ZG}{st:ZF}{tgt:T->En->Rs En}
section
variable {a b c:ZG}{fs:V3}{p2:Pos}
def b9(src:List (Option Nat))(Z:En):En:=src.map λo=>match o with
 |some i=>match Z[i]? with
  |some (.va t)=>.va t
  |_=>.em
 |none=>.em
def d8(tgt:T->En->Rs En)(fc:V6)(fe:V5):List T->V3
 |[],_=>.ok []
 |t::r,Z=>do
  let Z1 <-tgt t Z
  let k <-fc Z1
  if k then do
   let y <-fe Z1
   let ys <-d8 tgt fc fe r Z1
   .ok (y::ys)
  else d8 tgt fc fe r Z1
def ig(fi:V3)(src:List (Option Nat))(tgt:T->En->Rs En)(fc:V6)(fe:V5)(Z:En):Rs T:=do
 let ts <-fi Z
 if ts.length<=sizeLine then match d8 tgt fc fe ts (b9 src Z)with
  |.ok ys=>.ok (.lst ys)
  |_=>.bad
 else .bad
def bT(_:En):Rs Bool:=.ok ZC
def tP0(K:NI)(f:V5):TE:=λσ H Q=>∃Z O,EnvO K O H Z σ/\match f Z with
 |.ok t=>∀H',Same H H'->∀v,Rep K O H' t v->Q v H'
 |_=>False
def tPT0(K:NI)(f:V6):TT:=λσ H Q=>∃Z O,EnvO K O H Z σ/\match f Z with
 |.ok t=>∀H',Same H H'->Q t H'
 |_=>False
def tP0.up{f:V5}(h:tP0 X.K f σ H Q):tP X f σ H Q:=by
 obtain⟨Z,O,E,h⟩:=h;refine⟨Z,O,E,?_⟩
 cases q:f Z with
 |ok t=>rw[q]at h;exact h
 |err c=>rw[q]at h;exact h.elim
 |bad=>rw[q]at h;exact h.elim
def tPT0.up{Q:Bool->Hp->Prop}(h:tPT0 X.K f σ H Q):BN X f σ H Q:=by
 obtain⟨Z,O,E,h⟩:=h;refine⟨Z,O,E,?_⟩
 cases q:f Z with
 |ok t=>rw[q]at h;exact h
 |err c=>rw[q]at h;exact h.elim
 |bad=>rw[q]at h;exact h.elim
def FF:Bt X [] (BN X bT):=λol s σ H Q I ⟨Z,O,E,h⟩=>tR ol s σ H Q I (h H (Same.refl H))
def FE(h:rk X c f):Bt X [c] (BN X f):=FX h
abbrev noM:Mn:=λ_ _=>False
def AR{src:List (Option Nat)}{o:OT}(e:(b9 src Z)[j]?=ZA (.ow o)):False:=by
 unfold b9 at e;rw[Oc]at e
 cases q:src[j]? with
 |none=>rw[q]at e;cases e
 |some o'=>
  rw[q]at e
  cases o' with
  |none=>cases e
  |some i=>
   have e':(match Z[i]? with|some (Sl.va t)=>Sl.va t|_=>Sl.em)=Sl.ow o:=Ou e
   split at e' <;> cases e'
def wL(E:EnvO K O H Z σ)(src:List (Option Nat)):EnvM K O noM H (b9 src Z) (gC src σ) where
 len:=by unfold b9 gC;rw[NP,NP]
 val:=λj t e=>by
  unfold b9 at e;unfold gC;rw[Oc]at e ⊢
  cases q:src[j]? with
  |none=>rw[q]at e;cases e
  |some o=>
   rw[q]at e
   cases o with
   |none=>cases e
   |some i=>
    have e':(match Z[i]? with|some (Sl.va t)=>Sl.va t|_=>Sl.em)=Sl.va t:=Ou e
    cases q2:Z[i]? with
    |none=>rw[q2]at e';cases e'
    |some z=>
     rw[q2]at e'
     cases z with
     |em=>cases e'
     |ow l=>cases e'
     |va t'=>
      cases e';obtain⟨v,e1,e2⟩:=E.val i _ q2;exact⟨v,by simp[e1],e2⟩
 own:=λj o e=>(AR e).elim
 sub:=λ_ _ z=>z.elim
 dis:=λ_ _ _ z=>z.elim
 trk:=E.mtb
def ORep.no{o:OT}(r:ORep K O kY H o v):False:=by
 cases o with
 |lst l=>obtain⟨a,_,_,e,_⟩:=r;exact(e a).mpr rfl
 |dct ks ts=>obtain⟨a,_,_,e,_⟩:=r;exact(e a).mpr rfl
 |dd ks rows=>obtain⟨a,_,_,_,e,_⟩:=r;exact(e a).mpr (.inl rfl)
 |ob C ns ls=>obtain⟨a,_,_,_,e,_⟩:=r;exact(e a).mpr (.inl rfl)
theorem EnvM.move{P:Ow}(E:EnvM K O noM H Z σ)(hP:∀a,P a->O a\/Nw K H a)(hO:∀a,O' a->O a\/Nw K H a)(h:SameO P H H')(trk:∀a,O' a->Mtb H' a):EnvM K O' noM H' Z σ where
 len:=E.len
 val:=λi t e=>let ⟨v,e1,e2⟩:=E.val i t e;⟨v,e1,e2.move hP hO h⟩
 own:=λi o e=>let ⟨_,_,r⟩:=E.own i o e;r.no.elim
 sub:=λ_ _ z=>z.elim
 dis:=λ_ _ _ z=>z.elim
 trk:=trk
def Kx(fi:V3)(src:List (Option Nat))(tgt:T->En->Rs En)(fc:V6)(fe:V5)(Z:En):Rs (List T):=fi Z >>= λts=>if ts.length<=sizeLine then(match d8 tgt fc fe ts (b9 src Z)with|.ok ys=>Rs.ok ys|_=>.bad)else .bad
def Df{src:List (Option Nat)}{fc:V6}:ig fi src tgt fc fe Z=Kx fi src tgt fc fe Z >>= λl=>.ok (.lst l):=by
 unfold ig Kx
 cases fi Z with
 |bad=>rfl
 |err c=>rfl
 |ok ts=>
  rw[ay,ay]
  by_cases hz:ts.length<=sizeLine
  ·rw[if_pos hz,if_pos hz]
   cases d8 tgt fc fe ts (b9 src Z) <;> rfl
  ·rw[if_neg hz,if_neg hz];rfl
def De{src:List (Option Nat)}{fc:V6}(E:EnvO X.K O H Z σ)
  (hq1:Post X H (Kx fi src tgt fc fe Z) λall H1=>∀D ys H',Nw X.K H1 D->Same H1 H'->H' D=ZA (.lst ys)->Reps X.K (λa=>O a\/a=D) H' all ys->Q (.ref D) H'):Ih X.K (ME X fi) src (BO X tgt) (tPT0 X.K fc) (tP0 X.K fe) σ H Q:=by
 unfold Kx at hq1;refine⟨Z,O,E,Post.mono hq1.bind λts H1 s1 q1 J hJ D hD hK=>?_⟩
 have E1:=E.same s1
 by_cases hz:ts.length<=sizeLine
 ·rw[if_pos hz]at q1
  cases hall:d8 tgt fc fe ts (b9 src Z)with
  |bad=>rw[hall]at q1;exact q1.elim
  |err c=>rw[hall]at q1;exact q1.elim
  |ok all=>
   rw[hall]at q1
   have q2:∀D ys H',Nw X.K H1 D->Same H1 H'->H' D=ZA (.lst ys)->Reps X.K (λa=>O a\/a=D) H' all ys->Q (.ref D) H':=q1 H1 (Same.refl H1)
   have nD:Nw X.K H1 D:=⟨hD,hK⟩
   let O':Ow:=λa=>O a\/a=D
   have subO:∀a,O' a->O a\/Nw X.K H1 a:=λa z=>z.elim .inl λw=>.inr (w▸nD)
   -- the walk's word
   refine⟨λi m σ' ys H'=>m=ts.length - i/\i<=ts.length/\ys.length<=i/\H' D=ZA (.lst ys)/\SameO (λa=>a=D) (upd H1 D (.lst [])) H' ∧
    ∃Z' yts zs,EnvM X.K O' noM H' Z' σ'/\Reps X.K O' H' yts ys/\d8 tgt fc fe (ts.drop i) Z'=.ok zs/\yts++zs=all,⟨ts.length,?_⟩,?_⟩
   ·have sN:Same H1 (upd H1 D (.lst [])):=bj hD _
    refine⟨by omega,Qg _,N3 _,aG,λb o e _=>e,b9 src Z,[],all,?_,Reps.GE,by simpa using hall,rfl⟩
    have E2:EnvM X.K O noM H1 (b9 src Z) (gC src σ):=wL E1 src
    exact E2.move (P:=λa=>a=D) (λa z=>.inr (z▸nD)) subO (λb o e _=>sN b o e) λa z=>by
     rcases z with z|z
     ·exact(E1.mtb a z).same sN
     ·rw[z];exact .inl ⟨_,aG⟩
   ·rintro i m σ' ys H' ⟨rfl,hi',hyl,hDl,hsm,Z',yts,zs,E',ry,hl,hyz⟩
    refine⟨hDl,?_⟩
    have sm1:SameO (λa=>a=D) H1 H':=λb o e nb=>hsm b o (by rw[aB nb];exact e) nb
    have it:=hJ (λa=>a=D) O' (λa z=>.inr (z▸nD)) subO i H' sm1 (λa z=>(E'.trk a z).some)
    by_cases hlt:i<ts.length
    ·refine .inr ?_
     have hti:ts[i]?=ZA ts[i]:=by simp
     obtain⟨go,yl⟩:=it.2 ts[i] hti;refine⟨go,by omega,λxx Hc y=>?_⟩
     obtain⟨sc,rx⟩:=yl xx Hc y
     have Ec:=E'.same sc;rw[QZ hlt]at hl;unfold d8 at hl;refine⟨Z',O',noM,ts[i],Ec,rx,?_⟩
     cases e1:tgt ts[i] Z' with
     |bad=>rw[e1]at hl;cases hl
     |err cc=>rw[e1]at hl;cases hl
     |ok Z1=>
      rw[e1,ay]at hl;intro σ1 Eg;refine⟨Z1,O',⟨noM,Eg⟩,?_⟩
      cases e2:fc Z1 with
      |bad=>rw[e2]at hl;cases hl
      |err cc=>rw[e2]at hl;cases hl
      |ok k=>
       rw[e2,ay]at hl;intro H3 s3
       have E3:=Eg.same s3
       have tot:Same H' H3:=sc.trans s3
       have D3:H3 D=ZA (.lst ys):=tot _ _ hDl
       have sm3:SameO (λa=>a=D) (upd H1 D (.lst [])) H3:=λb o e nb=>tot _ _ (hsm b o e nb)
       cases k with
       |false=>
        refine L2.iteF ?_
        have hl':d8 tgt fc fe (ts.drop (i+1)) Z1=.ok zs:=by simpa using hl
        exact⟨ts.length - (i+1),by omega,rfl,hlt,by omega,D3,sm3,Z1,yts,zs,E3,ry.same tot,hl',hyz⟩
       |true=>
        refine L2.iteT ?_
        have hl':(fe Z1 >>= λy=>d8 tgt fc fe (ts.drop (i+1)) Z1 >>= λys=>Rs.ok (y::ys))=.ok zs:=by simpa using hl
        refine⟨Z1,O',⟨noM,E3⟩,?_⟩
        cases e3:fe Z1 with
        |bad=>rw[e3]at hl';cases hl'
        |err cc=>rw[e3]at hl';cases hl'
        |ok yt=>
         rw[e3,ay]at hl'
         cases e4:d8 tgt fc fe (ts.drop (i+1)) Z1 with
         |bad=>rw[e4]at hl';cases hl'
         |err cc=>rw[e4]at hl';cases hl'
         |ok zs'=>
          rw[e4,ay]at hl'
          have hzs:yt::zs'=zs:=by injection hl'
          intro H4 s4 v rv
          have D4:H4 D=ZA (.lst ys):=s4 _ _ D3
          have E4:=E3.same s4
          have tot4:Same H' H4:=tot.trans s4
          have smD:SameO (λa=>a=D) H4 (upd H4 D (.lst (ys++[v]))):=λb o e nb=>by rw[aB nb];exact e
          have inO:∀a,a=D->O' a\/Nw X.K H4 a:=λa z=>.inl (.inr z)
          refine⟨D4,ts.length - (i+1),by omega,rfl,hlt,?_,aG,λb o e nb=>smD b o (s4 _ _ (sm3 b o e nb)) nb,Z1,yts++[yt],zs',?_,?_,e4,?_⟩
          ·rw[NT,Pm];omega
          ·exact E4.move inO (λa z=>.inl z) smD λaa z=>by
            by_cases hz:aa=D
            ·rw[hz];exact .inl ⟨_,aG⟩
            ·unfold Mtb;rw[aB hz];exact E4.trk aa z
          ·have r1:Reps X.K O' H4 (yts++[yt]) (ys++[v]):=(ry.same tot4).append (Reps.FS rv Reps.GE)
           exact r1.move inO (λa z=>.inl z) smD
          ·rw[Om,List.singleton_append,hzs];exact hyz
    ·refine .inl ⟨it.1 (by omega),?_⟩
     have hi2:i=ts.length:=by omega
     subst hi2;rw[UM]at hl
     have hzs:zs=[]:=by unfold d8 at hl;injection hl with hl;exact hl.symm
     subst hzs;rw[Oi]at hyz;subst hyz
     have sF:Same H1 H':=λb o e=>sm1 b o e λz=>by rw[z,hD]at e;cases e
     exact q2 D ys H' nD sF hDl ry
 ·rw[if_neg hz]at q1
  exact q1.elim
def zE{src:List (Option Nat)}{fc:V6}(h0:tP X (ig fi src tgt fc fe) σ H Q):Ih X.K (ME X fi) src (BO X tgt) (tPT0 X.K fc) (tP0 X.K fe) σ H Q:=by
 obtain⟨Z,O,E,hq⟩:=h0;refine De E ?_
 have e:ig fi src tgt fc fe Z=Kx fi src tgt fc fe Z >>= λl=>.ok (.lst l):=Df
 rw[e]at hq
 cases q:Kx fi src tgt fc fe Z with
 |bad=>rw[q]at hq;exact hq.elim
 |err c=>rw[q]at hq;exact hq
 |ok l=>
  rw[q,ay]at hq;intro H1 s1 D ys H' nD sD eD rD;exact hq H' (s1.trans sD) _ (Rep.Do.mpr ⟨D,ys,rfl,λz=>(E.same s1).fresh nD.1 z,eD,rD.less λa z=>.inl z⟩)
def q_lc{elt:ZG}{src:List (Option Nat)}{fc:V6}
  (hc:X.calm=ZC) (S:LcScope X scope N' src) (hi:Bs X tg iter fi)
  (block:∀cl C s₀ H₀ fp,EM (cm X scope cl N' C s₀ H₀ fp) tg tgt/\Bt (cm X scope cl N' C s₀ H₀ fp) ifs (BN (cm X scope cl N' C s₀ H₀ fp) fc)/\cy (cm X scope cl N' C s₀ H₀ fp) elt fe)
  (hs:autoParam (∀x,OM iter X.env x=pure x) aqc._auto_1):
  cy X (.ListComp elt [⟨tg,iter,ifs,0⟩] scope pos) (ig fi src tgt fc fe):=by
 have hPG:∀cl C s₀ H₀ fp,PG (cm X scope cl N' C s₀ H₀ fp) tg (BO X tgt):=λcl C s₀ H₀ fp=>(block cl C s₀ H₀ fp).1
 have hPI:∀cl C s₀ H₀ fp,Bt (cm X scope cl N' C s₀ H₀ fp) ifs (tPT0 X.K fc):=λcl C s₀ H₀ fp ol s σ H Q I h=>(block cl C s₀ H₀ fp).2.1 ol s σ H Q I (tPT0.up (X:=cm X scope cl N' C s₀ H₀ fp) h)
 have hPE:∀cl C s₀ H₀ fp,PE (cm X scope cl N' C s₀ H₀ fp) elt (tP0 X.K fe):=λcl C s₀ H₀ fp ol s σ H Q I h=>(block cl C s₀ H₀ fp).2.2 ol s σ H Q I (tP0.up (X:=cm X scope cl N' C s₀ H₀ fp) h)
 exact PE.imp (vV (g:=BO X tgt) (tc:=tPT0 X.K fc) (te:=tP0 X.K fe) hc S hi (λcl C s₀ H₀ fp=>⟨hPG cl C s₀ H₀ fp,hPI cl C s₀ H₀ fp,hPE cl C s₀ H₀ fp⟩) hs) λσ H Q h=>zE h
inductive Fl where
 |nx (Z:En)|rt (t:T)|bk (Z:En)|ct (Z:En)
abbrev V4:=En->Rs Fl
def OO(B:Ow)(M:Mn):Ow:=λa=>B a\/M.u a
structure Ev (K:NI)(B:Ow)(M:Mn)(H:Hp)(Z:En)(σ:L2.St):Prop where
 env:EnvM K (OO B M) M H Z σ
 mine:∀a,M.u a->¬ B a
theorem Ev.same(h:Same H H')(e:Ev K B M H Z σ):Ev K B M H' Z σ:=⟨e.env.same h,e.mine⟩
def Ev.o(e:Ev K B M H Z σ):EnvO K (OO B M) H Z σ:=⟨M,e.env⟩
def PostF(X:Cx)(B P:Ow)(H:Hp)(r:Rs Fl)(D:nj):Prop:=match r with
 |.ok (.nx Z')=>∀σ' H' M',SameO P H H'->Ev X.K B M' H' Z' σ'->(∀a,M'.u a->P a\/Nw X.K H a)->D.nx σ' H'
 |.ok (.rt t)=>∀v H',SameO P H H'->Rep X.K B H' t v->D.rt v H'
 |.ok (.bk Z')=>∀σ' H' M',SameO P H H'->Ev X.K B M' H' Z' σ'->(∀a,M'.u a->P a\/Nw X.K H a)->D.bk σ' H'
 |.ok (.ct Z')=>∀σ' H' M',SameO P H H'->Ev X.K B M' H' Z' σ'->(∀a,M'.u a->P a\/Nw X.K H a)->D.ct σ' H'
 |.err c=>XA X P H c
 |.bad=>False
def MD(X:Cx)(F:V4):TS:=λD σ H=>∃Z B M,Ev X.K B M H Z σ/\PostF X B M.u H (F Z) D
abbrev oH(X:Cx)(s:ZF)(F:V4):Prop:=PS X s (MD X F)
abbrev mG(X:Cx)(s:List ZF)(F:V4):Prop:=PSs X s (MD X F)
theorem PostF.later{P P1:Ow}{H1:Hp}{r:Rs Fl}(h:PostF X B P H r D)(s:SameO P H H1)(sub:∀a,P1 a->P a\/Nw X.K H a):PostF X B P1 H1 r D:=by
 have back:∀a,P1 a\/Nw X.K H1 a->P a\/Nw X.K H a:=λa z=>z.elim (sub a) (gy s)
 cases r with
 |bad=>exact h
 |err c=>exact XA.later h s sub
 |ok f=>
  cases f with
  |nx Z'=>exact λσ' H' M' s' E' o'=>h σ' H' M' (s.trans s' sub) E' λa z=>back a (o' a z)
  |rt t=>exact λv H' s' r=>h v H' (s.trans s' sub) r
  |bk Z'=>exact λσ' H' M' s' E' o'=>h σ' H' M' (s.trans s' sub) E' λa z=>back a (o' a z)
  |ct Z'=>exact λσ' H' M' s' E' o'=>h σ' H' M' (s.trans s' sub) E' λa z=>back a (o' a z)
def PostF.xa{P:Ow}{c:Str}(h:PostF X B P H (.err c) D):XA X kY H c:=XA.later (P:=P) h (λ_ _ e _=>e) λ_ z=>z.elim
def sN(Z:En):Rs Fl:=.ok (.nx Z)
def aD(F G:V4)(Z:En):Rs Fl:=do
 let f <-F Z
 match f with
 |.nx Z'=>G Z'
 |f=>.ok f
def ID:mG X [] sN:=PSs.imp oh λD σ H ⟨Z,B,M,E,h⟩=>h σ H M (λ_ _ e _=>e) E λa z=>.inl z
variable{F:V4}
def FA{bV:List ZF}{G:V4}(h1:oH X st F)(h2:mG X bV G):mG X (st::bV) (aD F G):=PSs.imp (iP h1 h2) λD σ H hh_=>by
 obtain⟨Z,B,M,E,h⟩:=hh_;refine⟨Z,B,M,E,?_⟩
 unfold aD at h
 cases q:F Z with
 |bad=>rw[q]at h;exact h.elim
 |err c=>rw[q]at h;exact h
 |ok f=>
  rw[q,ay]at h
  cases f with
  |nx Z'=>exact λσ' H' M' s' E' o'=>⟨Z',B,M',E',h.later s' o'⟩
  |rt t=>exact h
  |bk Z'=>exact h
  |ct Z'=>exact h
def IC(h:oH X st F):mG X [st] F:=ff h
def aR(f:V5)(Z:En):Rs Fl:=do
 let t <-f Z
 .ok (.rt t)
def IA(ha:cy X a fa):oH X (.Return (ZA a) pos) (aR fa):=PS.imp (iu ha) λD σ H hh_=>by
 obtain⟨Z,B,M,E,h⟩:=hh_;refine⟨Z,OO B M,E.o,?_⟩
 unfold aR at h
 cases q:fa Z with
 |bad=>rw[q]at h;exact h.elim
 |err c=>rw[q]at h;exact PostF.xa h
 |ok t=>
  rw[q,ay]at h;exact λH' s v r=>h v H' (SameO.of s) (r.less λ_ z=>.inl z)
def eZ(f:V6)(F G:V4)(Z:En):Rs Fl:=do
 let k <-f Z
 if k then F Z else G Z
def Lc{A B:List ZF}{G:V4}(hc:rk X c f)(ha:mG X A F)(hb:mG X B G):oH X (.If c A B pos) (eZ f F G):=PS.imp (vS hc ha hb) λD σ H hh_=>by
 obtain⟨Z,B,M,E,h⟩:=hh_;refine⟨Z,OO B M,E.o,?_⟩
 unfold eZ at h
 cases q:f Z with
 |bad=>rw[q]at h;exact h.elim
 |err c=>rw[q]at h;exact PostF.xa h
 |ok k=>
  rw[q,ay]at h;intro H' s
  have E':Ev X.K B M H' Z σ:=E.same s
  cases k with
  |true=>refine L2.iteT ?_;exact⟨Z,B,M,E',PostF.later (by simpa using h) (SameO.of s) λa z=>.inl z⟩
  |false=>refine L2.iteF ?_;exact⟨Z,B,M,E',PostF.later (by simpa using h) (SameO.of s) λa z=>.inl z⟩
def cj(f:V5)(g:T->En->Rs En)(Z:En):Rs Fl:=do
 let t <-f Z
 match g t Z with
 |.ok Z'=>.ok (.nx Z')
 |_=>.bad
variable{f:V5}
def BZ(E:Ev X.K B M H Z σ)(h:PostF X B M.u H (cj f g Z) D):BP (tP X f) (BO X g) D σ H:=by
 refine⟨Z,OO B M,E.o,?_⟩
 unfold cj at h
 cases q:f Z with
 |bad=>rw[q]at h;exact h.elim
 |err c=>rw[q]at h;exact PostF.xa h
 |ok t=>
  rw[q,ay]at h;intro H' s v r;refine⟨Z,OO B M,M,t,E.env.same s,r,?_⟩
  cases q2:g t Z with
  |bad=>rw[q2]at h;exact h.elim
  |err c=>rw[q2]at h;exact h.elim
  |ok Z'=>
   rw[q2]at h;exact λσ' E'=>h σ' H' M (SameO.of s) ⟨E',E.mine⟩ λa z=>.inl z
def zd{Q':VK}(h:tP X f σ H Q)(w:∀v H',Q v H'->Q' v H'):tP X f σ H Q':=by
 obtain⟨Z,O,E,q⟩:=h;exact⟨Z,O,E,Post.mono q λt H' _ z v r=>w v H' (z v r)⟩
def Lb{elt:ZG}{spos py:Pos}{src:List (Option Nat)}{fc:V6}(i:Nat){y:Str}
  (hc:X.calm=ZC) (S:LcScope X scope N' src) (hi:Bs X tg iter fi)
  (block:∀cl C s₀ H₀ fp,EM (cm X scope cl N' C s₀ H₀ fp) tg tgt/\Bt (cm X scope cl N' C s₀ H₀ fp) ifs (BN (cm X scope cl N' C s₀ H₀ fp) fc)/\cy (cm X scope cl N' C s₀ H₀ fp) elt fe)
  (hN:X.N.Nodup) (hiy:autoParam (X.N[i]?=ZA y) aqd._auto_1) (hy:autoParam (Loc X.env.scope y) aqh._auto_1) (hsw:autoParam (OR (.ListComp elt [⟨tg,iter,ifs,0⟩] scope pos) (ZA (.Name y py)) spos.line X.env=pure ZC) aqd._auto_1)
  (hf:autoParam (X.fn y=ZC\/X.env.scope.names.lookup y=ZA .local) aqa._auto_1) (hs:autoParam (∀x,OM iter X.env x=pure x) aqc._auto_1):
  oH X (.Assign [.Name y py] (.ListComp elt [⟨tg,iter,ifs,0⟩] scope pos) spos) (cj (ig fi src tgt fc fe) (gN i)):=by
 have hPG:∀cl C s₀ H₀ fp,PG (cm X scope cl N' C s₀ H₀ fp) tg (BO X tgt):=λcl C s₀ H₀ fp=>(block cl C s₀ H₀ fp).1
 have hPI:∀cl C s₀ H₀ fp,Bt (cm X scope cl N' C s₀ H₀ fp) ifs (tPT0 X.K fc):=λcl C s₀ H₀ fp ol s σ H Q I h=>(block cl C s₀ H₀ fp).2.1 ol s σ H Q I (tPT0.up (X:=cm X scope cl N' C s₀ H₀ fp) h)
 have hPE:∀cl C s₀ H₀ fp,PE (cm X scope cl N' C s₀ H₀ fp) elt (tP0 X.K fe):=λcl C s₀ H₀ fp ol s σ H Q I h=>(block cl C s₀ H₀ fp).2.2 ol s σ H Q I (tP0.up (X:=cm X scope cl N' C s₀ H₀ fp) h)
 refine PS.imp (Lv (g:=BO X tgt) (tc:=tPT0 X.K fc) (te:=tP0 X.K fe) (i:=i) hc S hi (λcl C s₀ H₀ fp=>⟨hPG cl C s₀ H₀ fp,hPI cl C s₀ H₀ fp,hPE cl C s₀ H₀ fp⟩) hN hiy hy hsw hf hs) λD σ H ⟨Z,B,M,E,h⟩=>zE (zd (BZ E h) λv H' z=>?_)
 obtain⟨Z',O,M',t,E',r,q⟩:=z;unfold gN at q
 split at q
 ·rename_i Z2 e
  split at e
  ·rename_i hl
   cases e;exact q _ (E'.set hl r)
  ·cases e
 ·exact q.elim
def II(ha:cy X a fa)(hg:EM X tg g)(hs:autoParam (T3 [tg] a pos.line X.env=pure ZD) aqd._auto_1)(hw:autoParam (T4 [tg] a X.env=pure ZB) aqd._auto_1)
  (h1:autoParam ((PB [tg] X.env).map (·.2)=[assign tg X.env]) aqd._auto_1):oH X (.Assign [tg] a pos) (cj fa g):=PS.imp (IX ha hg hs hw h1) λD σ H ⟨Z,B,M,E,h⟩=>BZ E h
def xV(f:V5)(Z:En):Rs Fl:=do
 let _ <-f Z
 .ok (.nx Z)
def Fz(ha:cy X a fa)(hs:autoParam (OR a ZB pos.line X.env=pure ZD) aqd._auto_1):oH X (.Expr a pos) (xV fa):=PS.imp (oj ha hs) λD σ H hh_=>by
 obtain⟨Z,B,M,E,h⟩:=hh_;refine⟨Z,OO B M,E.o,?_⟩
 unfold xV at h
 cases q:fa Z with
 |bad=>rw[q]at h;exact h.elim
 |err c=>rw[q]at h;exact PostF.xa h
 |ok t=>
  rw[q,ay]at h;exact λH' s v r=>h σ H' M (SameO.of s) (E.same s) λa z=>.inl z
def bx(g:T->En->Rs En)(F:V4):List T->V4
 |[],Z=>.ok (.nx Z)
 |t::r,Z=>do
  let Z1 <-g t Z
  let f <-F Z1
  match f with
  |.nx Z2=>bx g F r Z2
  |.ct Z2=>bx g F r Z2
  |.bk Z2=>.ok (.nx Z2)
  |.rt t=>.ok (.rt t)
def fH(fi:V3)(g:T->En->Rs En)(F:V4)(Z:En):Rs Fl:=do
 let ts <-fi Z
 match bx g F ts Z with
 |.ok f=>.ok f
 |_=>.bad
def mP{t:Sem α}{Q:α->NO->Prop}(h:wpAny (model P w) A t Q (λ_ _=>False) s):wpAny (model P w) A t Q E s:=Pr h (λ_ _ q=>q) λ_ _ z=>z.elim
def FT{wi:TI}{g:TG}{tb:TS}(hc:X.calm=ZC)(hi:PI X tg iter wi)(hg:PG X.nox tg g)(hb:PSs X.nox body tb)
  (hs:autoParam (∀x,OM iter X.env x=pure x) aqc._auto_1):PS X (.For tg iter body [] pos) (tFor wi g tb):=by
 intro ol s σ H D I h;refine wpAny_For (bU (hi ol s σ H _ I h) λv s1 h1=>bU h1 λitv s2 h2=>?_) hs
 obtain⟨it,fp,tn,J,H2,e,I2,T,st2,f2,W,⟨m0,w0⟩,turn⟩:=h2;subst e
 have stat:∀{H':Hp},(∀b∈fp,H' b=ZB)->∀b∈fp,qC X ol H' b:=λhn b hb=>⟨hn b hb,(f2 b hb).2⟩
 refine codeAny_forLoop_any (λn s'=>∃i σ' H',Inv X ol σ' H' s'/\tn i s'.heap/\(∀b∈fp,H' b=ZB)/\W i n σ' H') ?_ m0 ⟨0,σ,H2,I2,st2,λb hb=>(f2 b hb).1,w0⟩
 rintro n s3 ⟨i,σ3,H3,I3,st3,fr3,w3⟩
 rcases turn i n σ3 H3 w3 with⟨stop,qn⟩|⟨go,N,hN,step⟩
 ·refine mP (bU (T.done X.nox rfl rfl rfl hc i ol s3 σ3 H3 _ (I3.FB _) (stat fr3) st3 stop) λr s4 ⟨hr,I4⟩=>?_)
  subst hr;exact QC ⟨σ3,H3,I4.FB _,qn⟩
 ·refine mP (bU (T.item X.nox rfl rfl rfl hc i ol s3 σ3 H3 _ (I3.FB _) (stat fr3) st3 go) λr s4 ⟨u,hr,h4⟩=>?_)
  subst hr;refine mP (bU h4 λ_ s5 hh_=>?_)
  obtain⟨x,H5,I5,r5,y5,st5,fr5⟩:=hh_
  have I5':=Inv.pinned (X:=X.nox) I5 (stat fr5) (T.obj _ _ st5);refine mP (bU (hg _ s5 σ3 H5 x u _ I5' r5 (step x H5 y5)) λ_ s6 hh_=>?_)
  obtain⟨σ6,H6,I6,q6⟩:=hh_;refine mP (bU (hb _ s6 σ6 H6 _ I6 q6) λf s7 q7=>?_)
  have again:∀{σ7:L2.St}{H7:Hp},Inv X.nox (ol++pf fp s5.heap) σ7 H7 s7->N σ7 H7->∃m,m<n/\∃i σ' H',Inv X ol σ' H' s7/\tn i s7.heap/\(∀b∈fp,H' b=ZB)/\W i m σ' H':=λ{σ7 H7} I7 n7=>by
   obtain⟨m',hm,w7⟩:=hN σ7 H7 n7;refine⟨m',hm,i+1,σ7,H7,(Inv.MX (X:=X.nox) I7).FB _,T.keep _ _ _ st5 λb hb o e=>(I7.pin (b,o) (Od _ (Od _ (i7 hb e)))).1,λb hb=>?_,w7⟩
   obtain⟨o,e,d⟩:=T.obj _ _ st5 b hb;exact(I7.pin (b,o) (Od _ (Od _ (i7 hb e)))).2.1
  cases f with
  |next=>obtain⟨σ7,H7,I7,n7⟩:=q7;exact again I7 n7
  |cont=>obtain⟨σ7,H7,I7,n7⟩:=q7;exact again I7 n7
  |brk=>obtain⟨σ7,H7,I7,q7⟩:=q7;exact⟨σ7,H7,(Inv.MX (X:=X.nox) I7).FB _,q7⟩
  |ret v=>obtain⟨x7,σ7,H7,I7,r7,q7⟩:=q7;exact⟨x7,σ7,H7,(Inv.MX (X:=X.nox) I7).FB _,r7,q7⟩
def IF(hc:X.calm=ZC)(hi:Bs X tg iter fi)(hg:EM X.nox tg g)(hb:mG X.nox body F)
  (hs:autoParam (∀x,OM iter X.env x=pure x) aqc._auto_1):oH X (.For tg iter body [] pos) (fH fi g F):=PS.imp (FT hc hi hg hb hs) λD σ H hh_=>by
 obtain⟨Z,B,M,E,h⟩:=hh_;refine⟨Z,OO B M,E.o,?_⟩
 unfold fH at h
 cases q:fi Z with
 |bad=>rw[q]at h;exact h.elim
 |err c=>rw[q]at h;exact PostF.xa h
 |ok ts=>
  rw[q,ay]at h
  cases qq:bx g F ts Z with
  |bad=>rw[qq]at h;exact h.elim
  |err c=>rw[qq]at h;exact h.elim
  |ok fin=>
  rw[qq]at h;intro H1 s1 J hJ
  have E1:Ev X.K B M H1 Z σ:=E.same s1
  have h1:PostF X B M.u H1 (.ok fin) D:=PostF.later h (SameO.of s1) λa z=>.inl z
  refine⟨λi m σ' H'=>m=ts.length - i/\i<=ts.length/\SameO M.u H1 H'/\∃Z' M',Ev X.K B M' H' Z' σ'/\(∀a,M'.u a->M.u a\/Nw X.K H1 a)/\bx g F (ts.drop i) Z'=.ok fin,
   ⟨ts.length,by omega,Qg _,λ_ _ e _=>e,Z,M,E1,λa z=>.inl z,by simpa using qq⟩,?_⟩
  rintro i m σ' H' ⟨rfl,hi',sm,Z',M',E',ow,hl⟩
  have it:=hJ M.u (OO B M') (λa z=>.inl (.inr z)) (λa z=>z.elim (λw=>.inl (.inl w)) λw=>(ow a w).elim (λy=>.inl (.inr y)) .inr) i H' sm (λa z=>(E'.env.trk a z).some)
  by_cases hlt:i<ts.length
  ·have hti:ts[i]?=ZA ts[i]:=by simp
   obtain⟨go,yl⟩:=it.2 ts[i] hti;rw[QZ hlt]at hl;unfold bx at hl;refine .inr ⟨go,λσ2 H2=>∃m',m'<ts.length - i/\(m'=ts.length - (i+1)/\i+1<=ts.length/\SameO M.u H1 H2/\∃Z2 M2,Ev X.K B M2 H2 Z2 σ2/\(∀a,M2.u a->M.u a\/Nw X.K H1 a)/\bx g F (ts.drop (i+1)) Z2=.ok fin),λσ2 H2 z=>z,λx Hc y=>?_⟩
   obtain⟨sc,rx⟩:=yl x Hc y;refine⟨Z',OO B M',M',ts[i],E'.env.same sc,rx,?_⟩
   cases e1:g ts[i] Z' with
   |bad=>rw[e1]at hl;cases hl
   |err cc=>rw[e1]at hl;cases hl
   |ok Z1=>
    rw[e1,ay]at hl;intro σ1 Eg
    have E2:Ev X.K B M' Hc Z1 σ1:=⟨Eg,E'.mine⟩;refine⟨Z1,B,M',E2,?_⟩
    have smc:SameO M.u H1 Hc:=λb o e n=>sc _ _ (sm b o e n)
    have onward:∀{σ3:L2.St}{H3:Hp}{Z3:En}{M3:Mn},SameO M'.u Hc H3->Ev X.K B M3 H3 Z3 σ3->(∀a,M3.u a->M'.u a\/Nw X.K Hc a)->bx g F (ts.drop (i+1)) Z3=.ok fin →
      ∃m',m'<ts.length - i/\(m'=ts.length - (i+1)/\i+1<=ts.length/\SameO M.u H1 H3/\∃Z2 M2,Ev X.K B M2 H3 Z2 σ3/\(∀a,M2.u a->M.u a\/Nw X.K H1 a)/\bx g F (ts.drop (i+1)) Z2=.ok fin):=
     λ{σ3 H3 Z3 M3} s3 E3 o3 p3=>⟨_,by omega,rfl,hlt,smc.trans s3 ow,Z3,M3,E3,λa z=>(o3 a z).elim (ow a) (gy smc),p3⟩
    cases e2:F Z1 with
    |bad=>rw[e2]at hl;cases hl
    |err cc=>rw[e2]at hl;cases hl
    |ok f=>
     rw[e2,ay]at hl
     cases f with
     |nx Z2=>exact λσ3 H3 M3 s3 E3 o3=>onward s3 E3 o3 hl
     |ct Z2=>exact λσ3 H3 M3 s3 E3 o3=>onward s3 E3 o3 hl
     |bk Z2=>
      cases hl
      exact λσ3 H3 M3 s3 E3 o3=>h1 σ3 H3 M3 (smc.trans s3 ow) E3 λa z=>(o3 a z).elim (ow a) (gy smc)
     |rt t=>
      cases hl;exact λv H3 s3 r=>h1 v H3 (smc.trans s3 ow) r
  ·refine .inl ⟨it.1 (by omega),?_⟩
   have hi2:i=ts.length:=by omega
   subst hi2;rw[UM]at hl;cases hl;exact h1 σ' H' M' sm E' ow
def bZ(c:V6)(F:V4):Nat->V4
 |0,_=>.bad
 |n+1,Z=>match c Z with
  |.ok ZD=>.ok (.nx Z)
  |.ok ZC=>match F Z with
   |.ok (.nx Z')=>bZ c F n Z'
   |.ok (.ct Z')=>bZ c F n Z'
   |.ok (.bk Z')=>.ok (.nx Z')
   |.ok (.rt t)=>.ok (.rt t)
   |_=>.bad
  |_=>.bad
def Cg{fc:V6}(n:Nat)(hc:rk X.nox c fc)(hb:mG X.nox body F):oH X (.While c body [] pos) (bZ fc F n):=by
 have base:PS X.nox (.While c body [] pos) (xK (BN X.nox fc) (MD X.nox F)):=Cv PassesOwn.never hc hb;intro ol s σ H D I ⟨Z,B,M,E,h⟩
 cases qq:bZ fc F n Z with
 |bad=>rw[qq]at h;exact h.elim
 |err c=>
  exfalso
  have:∀n Z,bZ fc F n Z≠ .err c:=by
   intro n
   induction n with
   |zero=>intro Z z;cases z
   |succ n ih=>
    intro Z z;unfold bZ at z
    split at z
    ·cases z
    ·split at z <;> first|exact ih _ z|cases z
    ·cases z
  exact this n Z qq
 |ok fin=>
  rw[qq]at h
  have goal:xK (BN X.nox fc) (MD X.nox F) D σ H:=by
   refine⟨λm σ' H'=>SameO M.u H H'/\∃Z' M',Ev X.K B M' H' Z' σ'/\(∀a,M'.u a->M.u a\/Nw X.K H a)/\bZ fc F m Z'=.ok fin,⟨n,λ_ _ e _=>e,Z,M,E,λa z=>.inl z,qq⟩,?_⟩
   rintro m σ' H' ⟨sm,Z',M',E',ow,hl⟩
   cases m with
   |zero=>cases hl
   |succ m=>
    refine⟨Z',OO B M',E'.o,?_⟩
    unfold bZ at hl
    cases e1:fc Z' with
    |bad=>rw[e1]at hl;cases hl
    |err cc=>rw[e1]at hl;cases hl
    |ok k=>
     rw[e1]at hl;intro H2 s2
     have E2:Ev X.K B M' H2 Z' σ':=E'.same s2
     have sm2:SameO M.u H H2:=λb o e n=>s2 _ _ (sm b o e n)
     cases k with
     |false=>
      cases hl;refine L2.iteF ?_
      exact h σ' H2 M' sm2 E2 ow
     |true=>
      refine L2.iteT ?_
      refine⟨λσ3 H3=>SameO M.u H H3/\∃Z3 M3,Ev X.K B M3 H3 Z3 σ3/\(∀a,M3.u a->M.u a\/Nw X.K H a)/\bZ fc F m Z3=.ok fin,λσ3 H3 z=>⟨m,SA m,z⟩,Z',B,M',E2,?_⟩
      have hl':(match F Z' with|.ok (.nx Z')=>bZ fc F m Z'|.ok (.ct Z')=>bZ fc F m Z'|.ok (.bk Z')=>.ok (.nx Z')|.ok (.rt t)=>.ok (.rt t)|_=>.bad)=.ok fin:=hl
      cases e2:F Z' with
      |bad=>rw[e2]at hl';cases hl'
      |err cc=>rw[e2]at hl';cases hl'
      |ok f=>
       rw[e2]at hl'
       cases f with
       |nx Z2=>exact λσ3 H3 M3 s3 E3 o3=>⟨sm2.trans s3 ow,Z2,M3,E3,λa z=>(o3 a z).elim (ow a) (gy sm2),hl'⟩
       |ct Z2=>exact λσ3 H3 M3 s3 E3 o3=>⟨sm2.trans s3 ow,Z2,M3,E3,λa z=>(o3 a z).elim (ow a) (gy sm2),hl'⟩
       |bk Z2=>
        cases hl'
        exact λσ3 H3 M3 s3 E3 o3=>h σ3 H3 M3 (sm2.trans s3 ow) E3 λa z=>(o3 a z).elim (ow a) (gy sm2)
       |rt t=>
        cases hl';exact λv H3 s3 r=>h v H3 (sm2.trans s3 ow) r
  refine mP (bU (base ol s σ H D (I.FB _) goal) λf s' q=>?_)
  cases f with
  |next=>obtain⟨σ7,H7,I7,n7⟩:=q;exact⟨σ7,H7,I7.FB _,n7⟩
  |cont=>obtain⟨σ7,H7,I7,n7⟩:=q;exact⟨σ7,H7,I7.FB _,n7⟩
  |brk=>obtain⟨σ7,H7,I7,n7⟩:=q;exact⟨σ7,H7,I7.FB _,n7⟩
  |ret v=>obtain⟨x7,σ7,H7,I7,r7,q7⟩:=q;exact⟨x7,σ7,H7,I7.FB _,r7,q7⟩
def Hj(Z:En):Rs Fl:=.ok (.ct Z)
end
def bS(F:V4)(Z:En):Rs T:=do
 let f <-F Z
 match f with
 |.nx _=>.ok .non
 |.rt t=>.ok t
 |_=>.bad
def aQ(n:Nat)(ts:List T):En:=ts.map Sl.va++N9 (n - ts.length) Sl.em
variable{ts:List T}
def Au{o:OT}(e:(aQ n ts)[i]?=ZA (.ow o)):False:=by
 unfold aQ at e
 by_cases hi:i<ts.length
 ·rw[O5 (by simpa using hi),Oc,N7 hi]at e
  cases e
 ·rw[Pu (by simpa using hi),Pd]at e
  split at e <;> cases e
variable{N:List Str}
def kr(r:Reps K O H ts vs)(hl:ts.length<=N.length)(trk:∀a,O a->Mtb H a):Ev K O noM H (aQ N.length ts) (start N vs):=by
 have hlen:=r.length
 have sub:∀a,OO O noM a->O a:=λa z=>z.elim id λ⟨_,w⟩=>w.elim
 refine⟨⟨by unfold aQ L2.start;simp;omega,λi t e=>?_,λi o e=>(Au e).elim,λ_ _ z=>z.elim,λ_ _ _ z=>z.elim,λa z=>trk a (sub a z)⟩,λa ⟨_,z⟩=>z.elim⟩
 unfold aQ at e;unfold L2.start
 by_cases hi:i<ts.length
 ·rw[O5 (by simpa using hi),Oc,N7 hi]at e
  have e':ts[i]=t:=by injection e with e;injection e
  obtain⟨v,e1,e2⟩:=r.get (i:=i) (t:=t) (by rw[<-e'];simp)
  refine⟨v,?_,e2.less sub⟩
  rw[O5 (by simp;omega),Oc,e1];rfl
 ·rw[Pu (by simpa using hi),Pd]at e
  split at e <;> cases e
section
variable {mg:V0}{base:ZH}
def Mj{qual:Str}{f:ZE}{g:List T->Rs T}(Fn:L2.Fun K x qual st f fd)(S:aA N ps (aj st))(hn:ps.length=n)
  (hbody:∀(cdv:NK)(A:Oq)(outer:List Env)(s:NO)(H:Hp)(E:XK),Room k (A.deeper (envOfC qual (aj st) s.heap.objs.size f cdv)) →
   ∃F,mG (gn CX0 P w K mg base N qual (aj st) f cdv A outer s H E).nox (bD st) F/\∀ts,ts.length=n->∀t,g ts=.ok t->bS F (aQ N.length ts)=.ok t):FnOk P w K mg base CX0 (k+1) f fd ps (spP K n g):=by
 have hpl:ps.length<=N.length:=by have:=congrArg O0 S.pre;rw[OS]at this;omega
 refine Fn.ok S (λvs H Q E h=>?_) (λcdv A outer s H vs Q E hr h=>?_)
 ·obtain⟨ts,O,r,_,hl,_⟩:=h
  rw[<-r.length,hl,hn]
 ·obtain⟨ts,O,r,trk,hl,h⟩:=h
  obtain⟨F,hF,hv⟩:=hbody cdv A outer s H E hr;refine⟨_,hF,aQ N.length ts,O,noM,kr r (by omega) trk,?_⟩
  have no:∀a,¬noM.u a:=λa ⟨_,z⟩=>z
  cases q:g ts with
  |bad=>rw[q]at h;exact h.elim
  |err c=>rw[q]at h;exact h.elim
  |ok t=>
   rw[q]at h
   have hb:=hv ts hl t q;unfold bS at hb
   cases q2:F (aQ N.length ts)with
   |bad=>rw[q2]at hb;cases hb
   |err c=>rw[q2]at hb;cases hb
   |ok fl=>
    rw[q2,ay]at hb
    have sameOf:∀H',SameO noM.u H H'->Same H H':=λH' s b o e=>s b o e (no b)
    cases fl with
    |nx Z'=>cases hb;exact λσ' H' M' s' E' o'=>h .non H' (sameOf H' s') Rep.Ni
    |rt t'=>cases hb;exact λv H' s' r'=>h v H' (sameOf H' s') r'
    |bk Z'=>cases hb
    |ct Z'=>cases hb
end
end Tr
namespace Enu
open PySem
open AutoSeq1 (wpAny_loadPart')
variable{its:Array NK}
def E7{it tt:ZE}{x:NK}(hi:s.heap.IsTupleIter it tt k)(ht:s.heap.IsTuple tt its)(hx:its[k]?=ZA x)
  (hQ:∀h',h'.IsTupleIter it tt (k+1)->Q7 it s.heap h'->Q x {s with heap:=h'}):wpAny (model prog w) A (Qd (.ref it)) Q E s:=by
 obtain⟨ob,g1,g2,g3⟩:=id hi;obtain⟨ot,k1,_,m,k3⟩:=ht;unfold Qd;refine NQ (PQ (name:=NX "__next__") hi.typeIs P2 (Q3 P2 hi.typeIs RO ?_ (RJ _)))
 show wpAny (model prog w) _ (field (.ref it) 0 >>= _) _ _ s
 refine NQ (Qj g1 g3 (x:=.ref tt) rfl ?_)
 show wpAny (model prog w) _ (if (N1 tt == Ov)=ZC then _ else _) _ _ s
 rw[if_neg (show ¬((N1 tt == Ov)=ZC)by exact NZ)]
 show wpAny (model prog w) _ (field (.ref it) 1 >>= _) _ _ s
 refine NQ (Qj g1 g3 (x:=.int k 0) rfl ?_)
 show wpAny (model prog w) _ (seqItems? (.ref tt) >>= _) _ _ s
 refine NQ (Ti k1 k3 ?_)
 simp only[hx,Py];refine NQ (Tj g1 g3 (by simp) (N4 ⟨x,rfl,N4 (hQ _ ?_ (To ..))⟩))
 refine⟨_,Ry _ g1 (RA (P6 g3 _)),(Obj.cls_mapFields ..).trans g2,?_⟩
 rw[P6 g3];simp[rawInt]
def tupStop{it tt:ZE}(hh:A.handled=ZB)(hi:s.heap.IsTupleIter it tt k)(ht:s.heap.IsTuple tt its)(hx:its[k]?=ZB)
  (hE:∀h' e,Heap.ExtBut it s.heap h'->(∃o,h'.get? e=ZA o/\o.cls=.type "StopIteration")->E (.ref e) {s with heap:=h'}):wpAny (model prog w) A (Qd (.ref it)) Q E s:=by
 obtain⟨ob,g1,g2,g3⟩:=id hi;obtain⟨ot,k1,_,m,k3⟩:=ht;unfold Qd;refine NQ (PQ (name:=NX "__next__") hi.typeIs P2 (Q3 P2 hi.typeIs RO ?_ (RJ _)))
 show wpAny (model prog w) _ (field (.ref it) 0 >>= _) _ _ s
 refine NQ (Qj g1 g3 (x:=.ref tt) rfl ?_)
 show wpAny (model prog w) _ (if (N1 tt == Ov)=ZC then _ else _) _ _ s
 rw[if_neg (show ¬((N1 tt == Ov)=ZC)by exact NZ)]
 show wpAny (model prog w) _ (field (.ref it) 1 >>= _) _ _ s
 refine NQ (Qj g1 g3 (x:=.int k 0) rfl ?_)
 show wpAny (model prog w) _ (seqItems? (.ref tt) >>= _) _ _ s
 refine NQ (Ti k1 k3 ?_)
 simp only[hx,Py];refine NQ (Uu (NQ (Tj g1 g3 (by simp) ?_)))
 show wpAny (model prog w) _ (newExc (.type "StopIteration") [] >>= _) _ _ _
 refine NQ ?_
 simp only[newTuple,newExc];refine NQ (PC ?_ (by size_fits))
 refine NQ (m:=firstArgMember _ _) (wpAny_of_eq (a:=Ov) (by first| (simp only[firstArgMember];rfl)|rfl) ?_)
 refine PC ?_ (by size_fits)
 simp only[raiseNew];refine NQ (wpAny_handled ?_)
 first|rw[hh]|rw[show A.in1.handled=ZB from hh]
 refine NQ (N4 (wpAny_throw ?_))
 refine hE _ _ (((To ..).extBut.push _).push _) ⟨_,Oa _ rfl,rfl⟩
def tupDraws(hh:A.handled=ZB)(it tt:ZE)(hne:tt≠it)(its:Array NK):
  Draws prog w A it [it,tt] its.size (λi v=>its[i]?=ZA v) (λi h=>h.IsTupleIter it tt i/\h.IsTuple tt its) where
 live:=λ_ _ st=>by obtain⟨o,ho,_⟩:=st.1;exact⟨o,ho⟩
 frame:=λ_ _ _ st hk=>by
  obtain⟨⟨o,e,r⟩,⟨o',e',r'⟩⟩:=st;exact⟨⟨o,hk it (by simp) o e,r⟩,⟨o',hk tt (by simp) o' e',r'⟩⟩
 item:=λi s Q E hi st hQ=>by
  refine E7 st.1 st.2 (x:=its[i]) (by simp[hi]) λh' hit' hs'=>?_
  obtain⟨o',e',r'⟩:=st.2;exact hQ _ h' s.toks (by simp[hi]) ⟨hit',⟨o',(hs'.2 tt hne).trans e',r'⟩⟩ hs'
 done:=λs Q E st hE=>tupStop hh st.1 st.2 (by simp) hE
def newT(l:ZE)(items:Array NK)(n:Nat)(dct:Option ZE)(sl:Array (Option NK)):
  Meets (Builtin.«enumerate.__new__» ⟨[.type "enumerate",.ref l],[]⟩) (λ_ R s=>s.heap.get? l=ZA {cls:=.type "tuple",dict:=dct,data:=.seq items n,slots:=sl} ∧
   R (.ok (.ret (.ref (s.heap.push {cls:=.type "tuple_iterator",data:=.fields #[.ref l,.int 0 0]}).objs.size)))
    {s with heap:=(s.heap.push {cls:=.type "tuple_iterator",data:=.fields #[.ref l,.int 0 0]}).push {cls:=.type "enumerate",data:=.fields #[.none,.bool ZD,.ref s.heap.objs.size,rawInt 0,.none,.none]}}):=
 .of_wp λprog w A R s h=>by
  obtain⟨hp,g,d,tk,os⟩:=s;obtain⟨hl,h⟩:=h
  have hsub:=sub_enumerate
  have hT:Heap.IsTuple (Shared.heap ⟨hp,g,d,tk,os⟩) l items:=⟨_,hl,rfl,n,rfl⟩
  wp_walk using Qq hl
  refine wpAny_stack_any λst=>N4 ?_
  split
  ·rename_i c _ _ _ _ _
   cases (c == Rn "enumerate")
   ·wp_walk using Qq hl,Ri hT
    exact⟨_,rfl,h⟩
   ·wp_walk using Qq hl,Ri hT
    exact⟨_,rfl,h⟩
  ·wp_walk using Qq hl,Ri hT
   exact⟨_,rfl,h⟩
def callT{l:ZE}{items:Array NK}(hL:s.heap.IsTuple l items)
  (h:∀h',IsEnum h' (s.heap.objs.size+1) s.heap.objs.size 0 .none->h'.IsTupleIter s.heap.objs.size l 0->h'.objs.size=s.heap.objs.size+2 →
   (∀b o,s.heap.get? b=ZA o->h'.get? b=ZA o)->Q (.ref (s.heap.objs.size+1)) {s with heap:=h'}):wpAny (model prog w) A (call (.type "enumerate") [.ref l]) Q E s:=by
 obtain⟨⟨cc,dc,dd,ss⟩,hl,hc,n,hd⟩:=hL
 replace hc:cc=.type "tuple":=hc
 replace hd:dd=.seq items n:=hd
 subst hc hd;refine callType_new F.called_enumerate (by decide) (F.typeCall_enumerate_1 _) (F.newCall_enumerate_1 _) (λobj=>F.args_object_init_2 obj _) F.entry_enumerate_new (newT l items n dc ss) ⟨hl,?_⟩
 have hz:(s.heap.push {cls:=.type "tuple_iterator",data:=.fields #[.ref l,.int 0 0]}).objs.size=s.heap.objs.size+1:=Qe ..
 show _/\_
 rw[hz]
 have he:IsEnum ((s.heap.push {cls:=.type "tuple_iterator",data:=.fields #[.ref l,.int 0 0]}).push
   {cls:=.type "enumerate",data:=.fields #[.none,.bool ZD,.ref s.heap.objs.size,rawInt 0,.none,.none]}) (s.heap.objs.size+1) s.heap.objs.size 0 .none:=by
  have q:=Oa (s.heap.push {cls:=.type "tuple_iterator",data:=.fields #[.ref l,.int 0 0]})
   (o:={cls:=.type "enumerate",data:=.fields #[.none,.bool ZD,.ref s.heap.objs.size,rawInt 0,.none,.none]}) rfl
  rw[hz]at q;exact q
 refine⟨⟨_,he,rfl⟩,h _ he ⟨_,NV _ (Oa _ rfl),rfl,rfl⟩ (by rw[Qe,hz]) λb o x=>NV _ (NV _ x)⟩
end Enu
namespace L2
open PySem PySem.Spec PyProof.Rows
variable{X:Cx}{fp:List ZE}{h':ZH}
section
variable {ol:V2}{σ:L2.St}{H:Hp}
def Inv.Nk{Tp:ZE}{xs:List V}(I:Inv X ol σ H s)(hf:∀b∈fp,qC X ol H b)(k:∀b o,b∉fp->s.heap.get? b=ZA o->h'.get? b=ZA o)
  (ht:∀b∈fp,∃o,h'.get? b=ZA o) (hT:s.heap.objs.size<=Tp) (new:ObjOk X.prog X.w (upd H Tp (.tup xs)) h' Tp (.tup xs)):Inv X ol σ (upd H Tp (.tup xs)) {s with heap:=h',toks:=t'}:=by
 have hn:H Tp=ZB:=I.hok.fresh hT
 have pM:∀b o,s.heap.get? b=ZA o->b≠Tp:=λb o e=>Pf (N6 (NY e) hT)
 have nf:∀b u,H b=ZA u->b∉fp:=λb u e z=>by rw[(hf b z).1]at e;cases e
 refine I.step (g':=s.gens) (d':=s.drawn) (ch:=fp) (λb hb=>⟨(hf b hb).2.2.2.1,(hf b hb).2.1,(hf b hb).2.2.2.2.1,(hf b hb).2.2.2.2.2⟩) (λb o _ _ hc e _=>k b o hc e) (λb o _ _ hc e _=>⟨o.slots,k b o hc e⟩)
  (λb o _ e n=>by rw[aB (pM b o e)];exact n) (λb o hc e=>⟨o,k b o hc e⟩) (λb ys e=>by rw[aB (cw e hn)];exact e) (λb o u e=>by rw[aB (cw e hn)];exact e)
  (λb ps e=>⟨#[],by rw[aB (cw e hn),e];simp⟩) (λm hm=>?_) (λb u e=>?_) I.bare
 ·obtain⟨o,es,ep,ho,r⟩:=hm
  exact⟨o,es,ep,k _ o (λz=>(hf _ z).2.1 rfl) ho,r⟩
 ·by_cases hb:b=Tp
  ·subst hb;rw[aG]at e;cases e;exact new
  ·rw[aB hb]at e
   refine(I.hok b u e).M0 (λc v hc q=>k c v ?_ q) (λc q=>by rw[aB (cw q hn)];exact q) λc ys q=>by rw[aB (cw q hn)];exact q
   rcases hc with z|z
   ·rw[z];exact nf b u e
   ·exact nf c _ z
def Inv.M9(I:Inv X ol σ H s)(hf:∀b∈fp,qC X ol H b)(k:∀b o,b∉fp->s.heap.get? b=ZA o->h'.get? b=ZA o):Inv X ol σ H {s with heap:=h',toks:=t'}:=by
 have nf:∀b u,H b=ZA u->b∉fp:=λb u e z=>by rw[(hf b z).1]at e;cases e
 refine I.step (g':=s.gens) (d':=s.drawn) (ch:=fp) (λb hb=>⟨(hf b hb).2.2.2.1,(hf b hb).2.1,(hf b hb).2.2.2.2.1,(hf b hb).2.2.2.2.2⟩) (λb o _ _ hc e _=>k b o hc e) (λb o _ _ hc e _=>⟨o.slots,k b o hc e⟩)
  (λb o _ e n=>n) (λb o hc e=>⟨o,k b o hc e⟩) (λb ys e=>e) (λb o u e=>e)
  (λb ps e=>⟨#[],by rw[e];simp⟩) (λm hm=>?_) (λb u e=>?_) I.bare
 ·obtain⟨o,es,ep,ho,r⟩:=hm
  exact⟨o,es,ep,k _ o (λz=>(hf _ z).2.1 rfl) ho,r⟩
 ·refine(I.hok b u e).M0 (λc v hc q=>k c v ?_ q) (λc q=>q) λc ys q=>q
  rcases hc with z|z
  ·rw[z];exact nf b u e
  ·exact nf c _ z
end
def EL(K:NI)(H:Hp)(a:ZE)(tt:Bool)(xs:List V):Prop:=if tt then SqT K H a xs else SqL K H a xs
def MU(K:NI)(a:ZE)(tt:Bool):It:=
 ⟨λi H=>∃xs x,EL K H a tt xs/\xs[i]?=ZA x,λi H x H'=>∃p v,x=.ref p/\H p=ZB/\H'=upd H p (.tup [.int (i:Nat),v])/\∀xs,EL K H a tt xs->xs[i]?=ZA v,λi H=>∃xs,EL K H a tt xs/\xs.length<=i⟩
def itAt(tt:Bool)(h:ZH)(it a:ZE)(i:Nat):Prop:=if tt then h.IsTupleIter it a i else h.IsListIter it a i
variable{h:ZH}
def itAt.obj{it a:ZE}(st:itAt tt h it a i):∃o,h.get? it=ZA o/\∀v,o.data≠ .cell v:=by
 cases tt with
 |true=>obtain⟨o,e,c,d⟩:=(show h.IsTupleIter it a i from st);exact⟨o,e,λv z=>by rw[d]at z;cases z⟩
 |false=>obtain⟨o,e,c,d⟩:=(show h.IsListIter it a i from st);exact⟨o,e,λv z=>by rw[d]at z;cases z⟩
def itAt.keep{it a:ZE}(st:itAt tt h it a i)(k:∀o,h.get? it=ZA o->h'.get? it=ZA o):itAt tt h' it a i:=by
 cases tt with
 |true=>obtain⟨o,e,r⟩:=(show h.IsTupleIter it a i from st);exact(show h'.IsTupleIter it a i from⟨o,k o e,r⟩)
 |false=>obtain⟨o,e,r⟩:=(show h.IsListIter it a i from st);exact(show h'.IsListIter it a i from⟨o,k o e,r⟩)
variable{elts:List ZG}{pos:Pos}
def Aq(tt:Bool)(a e it:ZE)(hei:e≠it):
  Ez P w K (.Tuple elts kk pos) (MU K a tt) [e,it] e (λi h=>(∃old,IsEnum h e it i old)/\itAt tt h it a i) where
 mem:=by simp
 obj:=λi h st b hb=>by
  obtain⟨⟨old,he⟩,hi⟩:=st;rcases NR.mp hb with rfl|hb
  ·exact⟨_,he,λv z=>by have z':Data.fields _=Data.cell v:=z;cases z'⟩
  ·rw[N0.mp hb];exact hi.obj
 keep:=λi h h' st k=>by
  obtain⟨⟨old,he⟩,hi⟩:=st;exact⟨⟨old,k e (by simp) _ he⟩,hi.keep λo q=>k it (by simp) o q⟩
 item:=by
  intro X hP hw hK hc i ol s σ H E I hf st hg;subst hP hw hK;obtain⟨xs,x,hq,hx⟩:=hg;obtain⟨⟨old,he⟩,hi⟩:=st
  -- by what is walked
  have key:∀(its:List NK),Vals xs its->(∀ys,EL X.K H a tt ys->ys=xs)->∀(fp0:List ZE)(St:Nat->ZH->Prop),Draws X.prog X.w X.A.in1 it fp0 its.toArray.size (λi v=>its.toArray[i]?=ZA v) St->e∉fp0->it∈fp0->St i s.heap →
    (∀h',St (i+1) h'->itAt tt h' it a (i+1)) →
    wpAny (model X.prog X.w) X.A (pyNext (.ref e)) (λr s1=>∃u,r=ZA u/\wpAny (model X.prog X.w) X.A (Rh (.Tuple elts kk pos) (.ref e) u) (λ_ s2=>∃x' H',Inv X ol σ H' s2/\RelV x' u/\(MU X.K a tt).yld i H x' H' ∧
     ((∃old,IsEnum s2.heap e it (i+1:Nat) old)/\itAt tt s2.heap it a (i+1))/\∀b∈ [e,it],H' b=ZB) E s1) E s:=by
   intro its rv uniq fp0 St D hef hif hst hnext;obtain⟨u,hu,ru⟩:=rv.get hx
   have hlt:i<its.toArray.size:=by
    have:=(NU.mp hu).1
    simpa using this
   have W:=WalksT.enumerateD D e hei hef hif;refine W.item i s _ _ hlt ⟨⟨old,he⟩,hst⟩ λTp vals h1 tk hPt hTsz hTup hMid hk=>⟨.ref Tp,rfl,?_⟩
   refine W.go elts kk pos i Tp {s with heap:=h1,toks:=tk} _ _ hMid λh2 hst2 hk2=>?_
   obtain⟨t,x',hPx,hvals⟩:=hPt;subst hvals
   have hxe:x'=u:=by
    have h1':its.toArray[i]?=ZA x':=hPx
    have h2':its.toArray[i]?=ZA u:=by simpa using hu
    rw[h1']at h2';exact Ou h2'
   subst hxe
   have hTw:=W.apart i Tp h1 hMid;obtain⟨oT,eT,rT⟩:=hTup
   have eT2:h2.get? Tp=ZA oT:=hk2 Tp oT hTw eT
   have kAll:∀b o,b∉ [e,it]->s.heap.get? b=ZA o->h2.get? b=ZA o:=λb o hb q=>hk2 b o hb (hk b o hb q)
   obtain⟨⟨old2,he2⟩,hs2⟩:=hst2
   have hit2:=hnext h2 hs2
   have there:∀b∈ [e,it],∃o,h2.get? b=ZA o:=λb hb=>by
    rcases NR.mp hb with rfl|hb
    ·exact⟨_,he2⟩
    ·rw[N0.mp hb];obtain⟨o,q,_⟩:=hit2.obj;exact⟨o,q⟩
   have hn:H Tp=ZB:=I.hok.fresh hTsz
   have new:ObjOk X.prog X.w (upd H Tp (.tup [.int (i:Nat),x])) h2 Tp (.tup [.int (i:Nat),x]):=
    ⟨by show 2<=sizeLine;decide,[.int (i:Nat) t,x'],.cons ⟨t,rfl⟩ (.cons ru .nil),⟨oT,eT2,rT⟩⟩
   have I2:=I.Nk (t':=tk) hf kAll there hTsz new;refine⟨.ref Tp,_,I2,rfl,⟨Tp,x,rfl,hn,rfl,λys hy=>by rw[uniq ys hy];exact hx⟩,⟨⟨old2,he2⟩,hit2⟩,λb hb=>?_⟩
   have hbT:b≠Tp:=λz=>by
    obtain⟨o,q⟩:∃o,s.heap.get? b=ZA o:=by
     rcases NR.mp hb with rfl|hb
     ·exact⟨_,he⟩
     ·rw[N0.mp hb];obtain⟨o,q,_⟩:=hi.obj;exact⟨o,q⟩
    exact absurd (N6 (NY q) hTsz) (by rw[z];exact Oo _)
   rw[aB hbT];exact(hf b hb).1
  have hne:∀b∈ [e,it],a≠b:=λb hb z=>by
   have hb':=(hf b hb).1;rw[<-z]at hb'
   have hbs:=hf b hb
   cases tt with
   |true=>
    have hq':SqT X.K H a xs:=hq;rcases hq' with(q|⟨o,q⟩)|⟨o,its,n,q,_⟩
    ·rw[hb']at q;cases q
    ·rw[hb']at q;cases q
    ·rcases hbs.2.2.2.1 with z1|z1
     ·exact I.ok.noex a o (I.ok.mod.kin a o q) (z▸z1)
     ·exact absurd (N6 (NY (I.ok.bs a o (I.ok.mod.kin a o q)).1) (z▸z1)) (Oo _)
   |false=>
    have hq':SqL X.K H a xs:=hq;rcases hq' with(q|⟨o,q⟩)|⟨o,its,n,q,_⟩
    ·rw[hb']at q;cases q
    ·rw[hb']at q;cases q
    ·rcases hbs.2.2.2.1 with z1|z1
     ·exact I.ok.noex a o (I.ok.mod.kin a o q) (z▸z1)
     ·exact absurd (N6 (NY (I.ok.bs a o (I.ok.mod.kin a o q)).1) (z▸z1)) (Oo _)
  have hea:e≠a:=λz=>hne e (by simp) z.symm
  have hia:it≠a:=λz=>hne it (by simp) z.symm
  cases tt with
  |true=>
   have hq':SqT X.K H a xs:=hq;obtain⟨its,rv,p,hz⟩:=I.tuple hq'
   exact key its rv (λys hy=>I.M5 hy hq') _ _ (Enu.tupDraws (A:=X.A.in1) (I.ok.hd hc) it a (OZ hia) its.toArray) (by simp[hei,hea]) (by simp) ⟨hi,p⟩ λh' z=>z.1
  |false=>
   have hq':SqL X.K H a xs:=hq;obtain⟨its,rv,p,hz⟩:=I.list hq';exact key its rv (λys hy=>I.Nc hy hq') _ _ (Draws.list (A:=X.A.in1) (I.ok.hd hc) it a (OZ hia) its.toArray) (by simp[hei,hea]) (by simp) ⟨hi,p.isList⟩ λh' z=>z.1
 done:=by
  intro X hP hw hK hc i ol s σ H E I hf st hg;subst hP hw hK;obtain⟨xs,hq,hx⟩:=hg;obtain⟨⟨old,he⟩,hi⟩:=st
  have fin:∀h',Heap.ExtBut it s.heap h'->(ZB:Option NK)=ZB/\Inv X ol σ H {s with heap:=h'}:=λh' eb=>⟨rfl,I.M9 (t':=s.toks) hf λb o hb q=>eb b o (λz=>hb (by simp[z])) q⟩
  cases tt with
  |true=>
   have hq':SqT X.K H a xs:=hq;obtain⟨its,rv,p,hz⟩:=I.tuple hq'
   have hl:=rv.length
   have hnone:its.toArray[i]?=ZB:=by simp;omega
   have hT:s.TypeIs (.ref e) "enumerate":=⟨_,he,rfl⟩;unfold pyNext;refine NQ (wpAny_attempt (PQ (name:=NX "__next__") hT SO (Q3 SO hT F.entry_enumerate_next ?_ (F.args_enumerate_next_1 _))))
   show wpAny (model X.prog X.w) _ (field (.ref e) 2 >>= _) _ _ _
   refine NQ (Qj he rfl (x:=.ref it) rfl ?_)
   refine NQ (Enu.tupStop (I.ok.hd hc) hi p hnone λh' x he' hx'=>?_)
   obtain⟨o,ho,hcl⟩:=hx'
   exact NQ (wpAny_isInstance (T:="StopIteration") (b:=ZC) ⟨o,ho,hcl⟩ isSubtype_stop (N4 (fin h' he')))
  |false=>
   have hq':SqL X.K H a xs:=hq;obtain⟨its,rv,p,hz⟩:=I.list hq'
   have hl:=rv.length
   have hnone:its.toArray[i]?=ZB:=by simp;omega
   exact wpAny_pyNext_enum_end (I.ok.hd hc) he hi p.isList hnone fin
 self:=λ_ _ _ _ _ st h=>by
  obtain⟨⟨old,he⟩,_⟩:=st;exact Uv he h
section
variable {tpos:Pos}
def qv:OF "enumerate" =ZA (.type "enumerate"):=by decide+kernel
def iEnu(K:NI)(tl:TA):TI:=λσ H R=>tl σ H λvs H1=>∃a tt,vs=[.ref a]/\(∃xs,EL K H1 a tt xs)/\R (MU K a tt) H1
def FZ{l:ZG}{tl:TA}{p:Pos}(hg:Gl X "enumerate")(hm:X.mg "enumerate" =ZB)(hl:PA X [l] tl)(hs:autoParam (NW [l] X.env=[(ZD,eval l X.env)]) aqd._auto_1):PI X (.Tuple elts kk tpos) (.Call (.Name "enumerate" p) [l] [] pos) (iEnu X.K tl):=by
 intro ol s σ H R I h;refine Call_ (gU I hg hm qv (O7 (bU (hl pos ol s σ H _ I h) λus s1 ⟨vs,H1,I1,r1,q1⟩=>?_) hs rfl))
 obtain⟨a,tt,e,⟨xs,hq⟩,q⟩:=q1;subst e;obtain⟨u,rfl,ru⟩:=kO r1;cases ru
 have fin:∀h',IsEnum h' (s1.heap.objs.size+1) s1.heap.objs.size 0 .none->itAt tt h' s1.heap.objs.size a 0->h'.objs.size=s1.heap.objs.size+2->(∀b o,s1.heap.get? b=ZA o->h'.get? b=ZA o) →
   wpAny (model X.prog X.w) X.A (pyIter (.ref (s1.heap.objs.size+1))) (PIE X ol σ (.Tuple elts kk tpos) R) X.xe {s1 with heap:=h'}:=λh' he hi hsz hk=>by
  refine Uv he ?_
  have I2:Inv X ol σ H1 {s1 with heap:=h'}:=I1.kept (t':=s1.toks) hk
  refine⟨s1.heap.objs.size+1,[s1.heap.objs.size+1,s1.heap.objs.size],_,_,H1,rfl,I2,Aq tt a (s1.heap.objs.size+1) s1.heap.objs.size (Nat.succ_ne_self _),⟨⟨_,he⟩,hi⟩,λb hb=>?_,q⟩
  rcases NR.mp hb with rfl|hb
  ·exact I1.Ng (by omega) (I1.hok.fresh (by omega))
  ·rw[N0.mp hb];exact I1.Ng (N3 _) (I1.hok.fresh (N3 _))
 cases tt with
 |true=>
  have hq':SqT X.K H1 a xs:=hq;obtain⟨its,rv,pl,hz⟩:=I1.tuple hq'
  exact Enu.callT pl λh' he hi hsz hk=>fin h' he hi hsz hk
 |false=>
  have hq':SqL X.K H1 a xs:=hq;obtain⟨its,rv,pl,hz⟩:=I1.list hq';exact call_enumerate_list pl.isList λh' he hi hsz hk=>fin h' he hi hsz hk
end
end L2
namespace Tr
open PySem PySem.Spec PyProof.Rows L2
section
variable {X:Cx}{a:ZG}{fa:V5}{fs:V3}{p pos:Pos}
def iS(f:V5)(Z:En):Rs (List T):=do
 let x <-f Z
 match x with
 |.lst l=>.ok l
 |.tup l=>.ok l
 |_=>.bad
def IL{tg:ZG}(ha:cy X a fa):Bs X tg a (iS fa):=by
 intro ol s σ H R I ⟨Z,O,E,h⟩;unfold iS at h
 cases q:fa Z with
 |bad=>rw[q]at h;exact h.elim
 |err c=>exact zh ha ol s σ H R I ⟨Z,O,E,by unfold iL;rw[q]at h ⊢;exact h⟩
 |ok x=>
  rw[q,ay]at h
  cases x with
  |lst l=>exact zh ha ol s σ H R I ⟨Z,O,E,by unfold iL;rw[q];exact h⟩
  |tup l=>exact IK ha ol s σ H R I ⟨Z,O,E,by unfold iT;rw[q];exact h⟩
  |_=>exact h.elim
def cP:Nat->List T->List T
 |_,[] =>[]
 |n,t::r=>.tup [.int n,t] ::cP (n+1) r
theorem sk:∀(l:List T)(n i:Nat),(cP n l)[i]?=(l[i]?).map λt=>T.tup [.int ((n+i:Nat):Int),t]
 |[],n,i=>by simp[cP]
 |t::l,n,0=>by simp[cP]
 |t::l,n,i+1=>by
  rw[cP,Pq,sk l (n+1) i,Pq]
  congr 2
  funext t
  congr 4
  omega
theorem sj:∀(l:List T)(n:Nat),(cP n l).length=l.length
 |[],n=>rfl
 |t::l,n=>by rw[cP,NS,NS,sj l]
def iE(f:V3)(Z:En):Rs (List T):=do
 let xs <-f Z
 match xs with
 |[x] =>match x.items with
  |some l=>.ok (cP 0 l)
  |none=>.bad
 |_=>.bad
def FG{elts:List ZG}{tpos:Pos}(hm:X.mg "enumerate" =ZB)(ha:qB X [a] fs)(hg:autoParam (Gl X "enumerate") aqd._auto_1)(hs:autoParam (NW [a] X.env=[(ZD,eval a X.env)]) aqd._auto_1):
  Bs X (.Tuple elts kk tpos) (.Call (.Name "enumerate" p) [a] [] pos) (iE fs):=PI.imp (FZ hg hm ha hs) λσ H R hh_=>by
 obtain⟨Z,O,E,h⟩:=hh_;obtain⟨Z1,O1,E1,h1⟩:=gK E h;refine⟨Z1,O1,E1,Post.mono h1 λts H1 s1 q vs r=>?_⟩
 obtain⟨t',r',s',E',q'⟩:=q vs r
 split at q'
 ·rename_i x0
  obtain⟨v,rfl,rv⟩:=r'.one
  split at q'
  ·rename_i l hl
   have main:∀(aa:ZE)(tt:Bool)(ws:List V),v=.ref aa->¬ O aa->Reps X.K O H1 l ws->EL X.K H1 aa tt ws->(∀P Hc,SameO P H1 Hc->¬ P aa->EL X.K Hc aa tt ws)->¬ Nw X.K H1 aa →
     ∃a tt,[v]=[V.ref a]/\(∃xs,EL X.K H1 a tt xs)/\R (MU X.K a tt) H1:=λaa tt ws e n z sq mv nn=>by
    refine⟨aa,tt,by rw[e],⟨ws,sq⟩,q' H1 (Same.refl H1) _ λP O' hP hO i Hc hsm htr=>?_⟩
    have hnP:¬ P aa:=λy=>(hP aa y).elim n nn
    have sqc:=mv P Hc hsm hnP;refine⟨λhi=>⟨ws,sqc,by rw[<-z.length,<-sj l 0];exact hi⟩,λt ht=>?_⟩
    rw[sk]at ht
    cases e1:l[i]? with
    |none=>rw[e1]at ht;cases ht
    |some t0=>
     rw[e1]at ht;cases ht;obtain⟨v0,f1,f2⟩:=z.get e1;refine⟨⟨ws,v0,sqc,f1⟩,λx Hc' y=>?_⟩
     obtain⟨pp,vv,e2,hpn,e3,hy⟩:=y
     have:=hy ws sqc;rw[f1]at this;cases this;subst e2 e3;refine⟨bj hpn _,iN hpn (λzz=>?_) (Reps.FS (by simpa using Rep.Gc _) (Reps.FS (f2.move hP hO hsm) Reps.GE))⟩
     obtain⟨o,w⟩:=htr pp zz;rw[hpn]at w;cases w
   cases x0 with
   |tup m=>
    cases hl;obtain⟨aa,ws,e,n,qq,z⟩:=Rep.Fk.mp rv
    exact main aa ZC ws e n z (show SqT X.K H1 aa ws from SqT.of qq) (λP Hc hsm hn=>show SqT X.K Hc aa ws from SqT.of (hsm _ _ qq hn)) λw=>by rw[w.1]at qq;cases qq
   |lst m=>
    cases hl;obtain⟨aa,ws,e,n,qq,z⟩:=Rep.Do.mp rv
    exact main aa ZD ws e n z (show SqL X.K H1 aa ws from SqL.of qq) (λP Hc hsm hn=>show SqL X.K Hc aa ws from SqL.of (hsm _ _ qq hn)) λw=>by rw[w.1]at qq;cases qq
   |scr m=>
    cases hl;unfold Rep at rv;obtain⟨aa,e,n,qq⟩:=rv
    exact main aa ZD _ e n Reps.ints (show SqL X.K H1 aa _ from qq) (λP Hc hsm hn=>show SqL X.K Hc aa _ from Tr.SqL.keep hsm hn qq) (Tr.SqL.nn qq)
   |_=>cases hl
  ·exact q'.elim
 ·exact q'.elim
end
end Tr
namespace Tm
open PySem PyProof.Rows
def mR:fillsNumberSlot (.type "tuple") "mul" =pure ZD:=
 PySem.fillsNumberSlot_seq (id:="tuple.__mul__") (r:=ZA (.builtin "tuple.__rmul__")) SB.lookup (by decide+kernel) Uk.lookup (by decide+kernel)
def tL:seqRepeat? (.type "tuple")=pure (ZA (.builtin "tuple.__mul__")):=by
 unfold seqRepeat?;rw[UN (T:="tuple") (name:="__mul__") (id:="tuple.__mul__") SB.lookup (by decide+kernel),UN (T:="tuple") (name:="__rmul__") (id:="tuple.__rmul__") Uk.lookup (by decide+kernel)]
 rfl
def xX(a:Int)(t:Tok)(l:ZE)(items:Array NK)(n:Nat)(dd:Option ZE)(sl:Array (Option NK)):
  Meets (Builtin.«int.__rmul__» ⟨[.int a t,.ref l],[]⟩) (λ_ R s=>s.heap.get? l=ZA {cls:=.type "tuple",dict:=dd,data:=.seq items n,slots:=sl}/\R (.ok (.ret Value.notImplemented)) s):=
 .of_wp λprog w A R s h=>by obtain⟨hp,g,d,tk,os⟩:=s;obtain⟨hl,h⟩:=h;wp_walk;exact⟨_,rfl,h⟩
open AutoSeq1 (wpAny_loadPart')
def C2(l:ZE)(items:Array NK)(n:Nat)(dd:Option ZE)(sl:Array (Option NK))(x:Int)(u:Tok)(h1:1<x)(h2:x<2 ^ 31)(hne:items.isEmpty=ZD)(hz:items.size*x.toNat<=sizeLine)
  (hz2:(Si (λa b=>a++b) #[] (N9 x.toNat items)).size<=sizeLine):
  Meets (Builtin.«tuple.__mul__» ⟨[.ref l,.int x u],[]⟩) (λ_ R s=>s.heap.get? l=ZA {cls:=.type "tuple",dict:=dd,data:=.seq items n,slots:=sl} ∧
   R (.ok (.ret (N1 s.heap.objs.size))) {s with heap:=s.heap.push {cls:=Rn "tuple",data:=Data.seq (Si (λa b=>a++b) #[] (N9 x.toNat items))}}):=
 .of_wp λprog w A R s h=>by
  obtain⟨hp,g,d,tk,os⟩:=s;obtain⟨hl,h⟩:=h
  have hT:Vj hp l items:=⟨_,hl,rfl,n,rfl⟩
  have hx:((items.size:Nat):Int)*x=((items.size*x.toNat:Nat):Int):=by
   have e:x=((x.toNat:Nat):Int):=by omega
   rw[Int.natCast_mul,<-e]
  wp_walk using Qq hl
  rw[if_neg (by simp;omega)]
  refine NQ (T9 (s:=⟨hp,g,d,tk,os⟩) hT ?_)
  dsimp only
  rw[if_neg (by rw[hne];simp;omega),if_neg (by rw[hne];simp;omega),hx,if_neg (by have:(sizeLine:Nat)<=1000000000:=(by decide);omega),if_neg (by unfold Builtin.Tuple.tupleTooMany;rw[decide_eq_true_iff];omega)]
  refine NQ (m:=PL _) (PC ?_ hz2)
  exact N4 ⟨_,rfl,h⟩
def mul_tuple{t:ZE}{k:Int}{tk:Tok}(ht:Vj s.heap t vs.toArray)(h1:1<k)(h2:k<2 ^ 31)(hv:vs≠ [])(hz:vs.length*k.toNat<=sizeLine)
  (h:Q (.ref s.heap.objs.size) {s with heap:=s.heap.push {cls:=.type "tuple",data:=.seq (N9 k.toNat vs).flatten.toArray}}):
  wpAny (model prog w) A (PH .Mult (.ref t) (.int k tk)) Q E s:=by
 obtain⟨⟨cls,dd,data,sl⟩,ho,hc,n,hd⟩:=id ht;simp only at hc hd;subst hc hd
 have e:Si (λa b=>a++b) #[] (N9 k.toNat vs.toArray)=(N9 k.toNat vs).flatten.toArray:=by
  have q:=L2.foldl_rep vs k.toNat []
  simpa using q
 refine R8 (T:="tuple") (U:="int") (by decide) ⟨_,ho,rfl⟩ (λs'=>S9 s' k tk) mR U3 RN tL UK.lookup
  (QU RN (S9 s k tk) UL (Uh _ _) (xX k tk t vs.toArray n dd sl)
   ⟨ho,rfl,⟨_,ho,rfl⟩,QU SB ⟨_,ho,rfl⟩ F.entry_tuple_mul (F.args_tuple_mul_2 _ _) (C2 t vs.toArray n dd sl k tk h1 h2 (by simpa using hv) (by simpa using hz) (by rw[e,N5,L2.len_rep,UB];exact hz)) ⟨ho,?_⟩⟩)
 rw[e];exact h
end Tm
namespace Tr
open PySem PySem.Spec PyProof.Rows L2
variable{X:Cx}
def b6(x y:T):Rs T:=match x,y with
 |.tup l,.int k=>if 1<k/\k<2 ^ 31/\l≠ []/\l.length*k.toNat<=sizeLine then .ok (.tup (N9 k.toNat l).flatten)else .bad
 |x,y=>yi x y
instance (l:List T):Decidable (l≠ []):=by cases l <;> simp <;> infer_instance
def dh:OpT X (PH .Mult) b6:=by
 intro ol s σ H O x y vx vy ux uy Q I hf rx ry r1 r2 hp;unfold b6 at hp
 split at hp
 ·rename_i l k
  split at hp
  ·rename_i h
   obtain⟨a,vs,e1,n1,q1,z1⟩:=Rep.Fk.mp rx;subst e1;cases Rep.AC.mp ry;cases r1;obtain⟨tk,rfl⟩:=r2;obtain⟨its,rv,pl,hz⟩:=I.tuple (SqT.of q1)
   have hl1:=z1.length
   have hl2:=rv.length
   have hne:its≠ []:=λz=>h.2.2.1 (List.eq_nil_of_length_eq_zero (by rw[hl1,hl2,z];rfl))
   refine Tm.mul_tuple pl h.1 h.2.1 hne (by rw[<-hl2,<-hl1];exact h.2.2.2) ?_
   have hn:=I.hok.fresh (N3 _);refine⟨.ref _,_,I.laid (t':=s.toks) (o:=.tup (N9 k.toNat vs).flatten) (λb ob q=>NV _ q) (N3 _) ?_,rfl,hp _ (bj hn _) _ (iN hn (hf _ hn) (z1.rep _))⟩
   refine⟨?_,_,rv.rep k.toNat,U1 _ _⟩
   rw[len_rep,UB,<-hl1];exact h.2.2.2
  ·exact hp.elim
 ·exact Jg ol s σ H O _ _ vx vy ux uy Q I hf rx ry r1 r2 hp
def JC(outer:List (Str×QQ))(N:List Str)(names:List (Str×QQ))(N':List Str)(src:List (Option Nat)):Bool:=
 names.all (λy=>y.2 != .cell||names.lookup y.1 == ZA .cell)&&names.all (λy=>y.2 != .local||names.lookup y.1 == ZA .local)&&src.length == N'.length&&
 (OQ N'.length).all (λj=>match src[j]? with
  |some (ZA i)=>match N'[j]? with
   |some x=>N[i]? == ZA x&&names.lookup x == ZA .free
   |none=>ZC
  |_=>ZC)&&
 names.all (λy=>y.2 != .free||(outer.lookup y.1 == ZA .cell||outer.lookup y.1 == ZA .free))
theorem LcScope.by{N N':List Str}{src:List (Option Nat)}{names:List (Str×QQ)}(hN:X.N=N)(hs:X.env.scope.names=names)(hk:scope.kind=.function)(h:JC names N scope.names N' src=ZC):LcScope X scope N' src:=by
 unfold JC at h;simp only[NL]at h;obtain⟨⟨⟨⟨h1,h2⟩,h3⟩,h4⟩,h5⟩:=h
 have a1:=Ob.mp h1
 have a2:=Ob.mp h2
 have a4:=Ob.mp h4
 have a5:=Ob.mp h5;refine⟨hk,λy hy hl=>by have:=a1 y hy;rw[hl]at this;simpa using this,λy hy hl=>?_,by simpa using h3,λj i x e1 e2=>?_,λx hx=>?_⟩
 ·have:=a2 y hy
  rw[hl]at this
  simpa using this
 ·have hj:j<N'.length:=(NU.mp e2).1
  have:=a4 j (Pn.mpr hj);rw[e1]at this;simp only[e2]at this;rw[NL]at this;rw[hN];exact⟨by simpa using this.1,by simpa using this.2⟩
 ·have:=a5 _ hx
  simp only[bne_self_eq_false,Sw,RP]at this
  show X.env.scope.names.lookup x=_\/X.env.scope.names.lookup x=_
  rw[hs];rcases this with z|z
  ·exact .inl (by simpa using z)
  ·exact .inr (by simpa using z)
def bu:ZG->Bool
 |.Starred .. =>ZD
 |_=>ZC
def bF:List ZG->Bool
 |[] =>ZC
 |e::r=>bu e&&bF r
variable{e:ZG}{env:Env}{es:List ZG}
def bp(h:bu e=ZC):NW (e::es) env=(ZD,eval e env)::NW es env:=by
 cases e <;> first|rfl|cases h
variable{pos:Pos}
theorem eX:∀{es:List ZG},bF es=ZC->(backTo pos (NW es env)).any (·.1)=ZD
 |[],_=>rfl
 |e::r,h=>by
  unfold bF at h;rw[NL]at h;rw[bp h.1]
  have ih:=eX (pos:=pos) (env:=env) h.2
  show(ZD||(backTo pos (NW r env)).any (·.1))=ZD
  rw[ih];rfl
variable{f fa:V5}{g:List T->Rs T}{x:Str}
section
variable {a b:ZG}{fs:V3}{p p2:Pos}
def qa_c{g:V3}(he:cy X e f)(hr:qB X es g)(hn:autoParam (bu e=ZC) aqd._auto_1):qB X (e::es) (ae f g):=FJ he hr (bp hn)
def q_cB{id:String}(hc:CallT X (.builtin id) g)(hm:X.mg x=ZB)(hv:OF x=ZA (.builtin id))(ha:qB X (e::es) fs)(hn:autoParam (bF (e::es)=ZC) aqd._auto_1)(hg:autoParam (Gl X x) aqd._auto_1)(h1:autoParam (x≠ "__name__") aqb._auto_1)(h2:autoParam ((x == ("__debug__" : Str))=ZD) aqb._auto_1):
  cy X (.Call (.Name x p) (e::es) [] pos) (cl g fs):=by
 unfold bF at hn;rw[NL]at hn;exact FO hc hm hv ha hg h1 h2 (bp hn.1) (eX hn.2)
def q_cT(hc:CallT X (.type Ty) g)(hm:X.mg x=ZB)(hv:OF x=ZA (.type Ty))(ha:qB X (e::es) fs)(hn:autoParam (bF (e::es)=ZC) aqd._auto_1)(hg:autoParam (Gl X x) aqd._auto_1)(h1:autoParam (x≠ "__name__") aqb._auto_1)(h2:autoParam ((x == ("__debug__" : Str))=ZD) aqb._auto_1):
  cy X (.Call (.Name x p) (e::es) [] pos) (cl g fs):=by
 unfold bF at hn;rw[NL]at hn;exact Co hc hm hv ha hg h1 h2 (bp hn.1) (eX hn.2)
def q_c{f:ZE}{ps:List Str}(F:EF X.prog X.w X.K X.mg X.base k f fd ps n g)(hr:Room k X.A)(hm:X.mg x=ZA (.ref f))(hk:PF X.K (.ref f)=ZC)(hb:Binds X.K fd ps [])
  (hl:∀Z ts,fs Z=.ok ts->ts.length=n) (ha:qB X (e::es) fs) (hps:autoParam (ps.length=n) aqd._auto_1) (hn:autoParam (bF (e::es)=ZC) aqd._auto_1) (hg:autoParam (Gl X x) aqd._auto_1) (h2:autoParam ((x == ("__debug__" : Str))=ZD) aqb._auto_1):cy X (.Call (.Name x p) (e::es) [] pos) (cl g fs):=by
 unfold bF at hn;rw[NL]at hn;exact IT F hr hm hk hb hps hl ha hg h2 (bp hn.1) (eX hn.2)
def q_is{tn:Str}(hm:X.mg "isinstance" =ZB)(hmt:X.mg tn=ZB)(hv:OF tn=ZA (.type Ty))(ha:cy X a fa)(hn:autoParam (bu a=ZC) aqd._auto_1)(hg:autoParam (Gl X "isinstance") aqd._auto_1)(hgt:autoParam (Gl X tn) aqd._auto_1)
  (h1:autoParam (tn≠ "__name__") aqb._auto_1) (h2:autoParam ((tn == ("__debug__" : Str))=ZD) aqb._auto_1):cy X (.Call (.Name "isinstance" p) [a,.Name tn p2] [] pos) (o1 (Gz Ty) fa):=
 Ln hm hmt hv ha hg hgt h1 h2 (bp hn) (eX rfl) (bp rfl)
end
def xo(Z:En)(ts:List T)(h:ai Z=.ok ts):ts.length=0:=by cases h;rfl
def xn{g:V3}(hg:∀Z ts,g Z=.ok ts->ts.length=n)(Z:En)(ts:List T)(h:ae f g Z=.ok ts):ts.length=n+1:=by
 unfold ae at h
 cases q:f Z with
 |bad=>rw[q]at h;cases h
 |err c=>rw[q]at h;cases h
 |ok t=>
  rw[q,ay]at h
  cases q2:g Z with
  |bad=>rw[q2]at h;cases h
  |err c=>rw[q2]at h;cases h
  |ok r=>
   rw[q2,ay]at h;cases h;rw[NS,hg Z r q2]
def jy(h:Room k A):A.units+60<cLine:=by have:=h.un;omega
def GA(h:Room k A):A.units+61<cLine:=by have:=h.un;omega
structure Fn (K:NI)(mg:V0)(x:Str)(st:ZF)(ps:List Str)(f:ZE)(fd:Ot):Prop where
 fn:L2.Fun K x x st f fd
 bd:Binds K fd ps []
 mg:mg x=ZA (.ref f)
def val(n m:Nat)(F:V4)(ts:List T):Rs T:=if ts.length=n then bS F (aQ m ts)else .bad
variable{F:V4}
def HY{m:Nat}{ts:List T}{t:T}(h:val n m F ts=.ok t):bS F (aQ m ts)=.ok t:=by
 unfold val at h
 split at h
 ·exact h
 ·cases h
variable{H:Hp}{a:ZE}
def sp_script{E:XK}(hS:SqL K H a (ns.map V.int))(h:g [.scr ns]=.ok (.bl ZC)):spP K 1 g [.ref a] H (λv _=>v=.bl ZC) E:=by
 refine⟨[.scr ns],λ_=>False,Reps.FS ?_ Reps.GE,λ_ z=>z.elim,rfl,?_⟩
 ·unfold Rep;exact⟨a,rfl,λz=>z,hS⟩
 ·rw[h];exact λv H' _ r=>Rep.FM.mp r
def vE{l:List α}{z:α}(h:l[i]?=ZA z):l.set i z=l:=by
 obtain⟨hi,rfl⟩:=NU.mp h
 exact SQ hi
def Mn.set(M:Mn)(i:Nat)(m:Ow):Mn:=λj=>if j=i then m else M j
variable{M:Mn}{m:Ow}
def Mn.KF(h:(M.set i m).u a):m a\/M.u a:=by
 obtain⟨j,h⟩:=h;unfold Mn.set at h
 by_cases z:j=i
 ·rw[if_pos z]at h;exact .inl h
 ·rw[if_neg z]at h;exact .inr ⟨j,h⟩
def Mn.MY:M.set i m i=m:=by unfold Mn.set;rw[if_pos rfl]
def Mn.M7(h:j≠i):M.set i m j=M j:=by unfold Mn.set;rw[if_neg h]
variable{H':Hp}{O O':Ow}
theorem RowsR.move{P:Ow}(hP:∀a,P a->O a\/Nw K H a)(hO:∀a,O' a->O a\/Nw K H a)(h:SameO P H H'):∀{rs:List (List T×List T)}{as:List ZE},(∀b∈as,¬P b)->RowsR K O H rs as->RowsR K O' H' rs as
 |[],_,_,r=>r
 |_::_,_,hb,⟨b,bs,kvs,e1,e2,e3,e4,e5⟩=>by
  subst e1;exact⟨b,bs,kvs,rfl,h _ _ e2 (hb b NN),e3,e4.move hP hO h,e5.move hP hO h λc hc=>hb c (NJ _ hc)⟩
theorem LsR.move{P:Ow}(hP:∀a,P a->O a\/Nw K H a)(hO:∀a,O' a->O a\/Nw K H a)(h:SameO P H H'):∀{rs:List (List T)}{as:List ZE},(∀b∈as,¬P b)->LsR K O H rs as->LsR K O' H' rs as
 |[],_,_,r=>r
 |_::_,_,hb,⟨b,bs,vs,e1,e2,e4,e5⟩=>by
  subst e1;exact⟨b,bs,vs,rfl,h _ _ e2 (hb b NN),e4.move hP hO h,e5.move hP hO h λc hc=>hb c (NJ _ hc)⟩
variable{v:V}
theorem ORep.move{P M:Ow}{o:OT}(hP:∀a,P a->O a\/Nw K H a)(hO:∀a,O' a->O a\/Nw K H a)(h:SameO P H H')(hM:∀a,M a->¬ P a)(r:ORep K O M H o v):ORep K O' M H' o v:=by
 cases o with
 |lst l=>obtain⟨a,vs,e1,e2,e3,e4⟩:=r;exact⟨a,vs,e1,e2,h _ _ e3 (hM a ((e2 a).mpr rfl)),e4.move hP hO h⟩
 |dct ks ts=>obtain⟨a,kvs,e1,e2,e3,e4,e5⟩:=r;exact⟨a,kvs,e1,e2,h _ _ e3 (hM a ((e2 a).mpr rfl)),e4,e5.move hP hO h⟩
 |dd ks rows=>
  obtain⟨a,kvs,as,e1,e2,e3,e4,e5,e6,e7,e8⟩:=r
  exact⟨a,kvs,as,e1,e2,e3,e4,h _ _ e5 (hM a ((e2 a).mpr (.inl rfl))),e6,e7,e8.move hP hO h λb hb=>hM b ((e2 b).mpr (.inr hb))⟩
 |ob C ns ls=>
  obtain⟨a,dx,as,e1,e2,e3,e4,e5,e6,e7,e8⟩:=r;exact⟨a,dx,as,e1,e2,e3,h _ _ e4 (hM a ((e2 a).mpr (.inl rfl))),h _ _ e5 (hM dx ((e2 dx).mpr (.inr (.inl rfl)))),e6,e7,e8.move hP hO h λb hb=>hM b ((e2 b).mpr (.inr (.inr hb)))⟩
theorem RowsR.mtb:∀{rs:List (List T×List T)}{as:List ZE},RowsR K O H rs as->∀b∈as,∃kvs,H b=ZA (.dT kvs)
 |[],_,r,b,hb=>by unfold RowsR at r;subst r;simp at hb
 |_::_,_,⟨b0,bs,kvs,e1,e2,e3,e4,e5⟩,b,hb=>by
  subst e1;rcases NR.mp hb with rfl|hb
  ·exact⟨kvs,e2⟩
  ·exact e5.mtb b hb
theorem LsR.mtb:∀{rs:List (List T)}{as:List ZE},LsR K O H rs as->∀b∈as,∃vs,H b=ZA (.lst vs)
 |[],_,r,b,hb=>by unfold LsR at r;subst r;simp at hb
 |_::_,_,⟨b0,bs,kvs,e1,e2,e4,e5⟩,b,hb=>by
  subst e1;rcases NR.mp hb with rfl|hb
  ·exact⟨kvs,e2⟩
  ·exact e5.mtb b hb
def LO(H:Hp)(a:ZE):Prop:=(∃vs,H a=ZA (.lst vs))\/∃o,H a=ZA o/\isO o=ZC
def OT.isD:OT->Bool
 |.lst _=>ZD
 |.ob _ _ _=>ZD
 |_=>ZC
def ORep.kind{M:Ow}{o:OT}(r:ORep K O M H o v):∀a,M a->if o.isD then ∃kvs,H a=ZA (.dT kvs)else LO H a:=λa z=>by
 cases o with
 |lst l=>obtain⟨b,vs,e1,e2,e3,e4⟩:=r;cases (e2 a).mp z;exact .inl ⟨vs,e3⟩
 |dct ks ts=>obtain⟨b,kvs,e1,e2,e3,e4,e5⟩:=r;cases (e2 a).mp z;exact⟨kvs,e3⟩
 |dd ks rows=>
  obtain⟨b,kvs,as,e1,e2,e3,e4,e5,e6,e7,e8⟩:=r
  rcases(e2 a).mp z with z|z
  ·cases z;exact⟨kvs,e5⟩
  ·exact e8.mtb a z
 |ob C ns ls=>
  obtain⟨b,dx,as,e1,e2,e3,e4,e5,e6,e7,e8⟩:=r
  rcases(e2 a).mp z with z|z|z
  ·cases z;exact .inr ⟨_,e4,rfl⟩
  ·cases z;exact .inr ⟨_,e5,rfl⟩
  ·exact .inl (e8.mtb a z)
def ORep.mtb{M:Ow}{o:OT}(r:ORep K O M H o v)(a:ZE)(z:M a):Mtb H a:=by
 have:=r.kind a z
 split at this
 ·exact .inr (.inl this)
 ·exact this.imp_right .inr
theorem vM:∀{rs:List (List T×List T)}{as:List ZE},(∀b∈as,¬O b)->RowsR K O H rs as->Reps K O H (rs.map λr=>T.dct r.1 r.2) (as.map V.ref)
 |[],_,_,r=>by unfold RowsR at r;subst r;exact Reps.GE
 |_::_,_,hn,⟨b,bs,kvs,e1,e2,e3,e4,e5⟩=>by
  subst e1;exact Reps.FS (Rep.KB.mpr ⟨b,kvs,rfl,hn b NN,.inl e2,e3,e4⟩) (vM (λc hc=>hn c (NJ _ hc)) e5)
theorem RowsR.less(sub:∀a,O' a->O a):∀{rs:List (List T×List T)}{as:List ZE},RowsR K O H rs as->RowsR K O' H rs as
 |[],_,r=>r
 |_::_,_,⟨b,bs,kvs,e1,e2,e3,e4,e5⟩=>⟨b,bs,kvs,e1,e2,e3,e4.less sub,e5.less sub⟩
theorem LsR.less(sub:∀a,O' a->O a):∀{rs:List (List T)}{as:List ZE},LsR K O H rs as->LsR K O' H rs as
 |[],_,r=>r
 |_::_,_,⟨b,bs,kvs,e1,e2,e4,e5⟩=>⟨b,bs,kvs,e1,e2,e4.less sub,e5.less sub⟩
theorem LsR.rep:∀{rs:List (List T)}{as:List ZE},(∀b∈as,¬O b)->LsR K O H rs as->Reps K O H (rs.map T.lst) (as.map V.ref)
 |[],_,_,r=>by unfold LsR at r;subst r;exact Reps.GE
 |_::_,_,hn,⟨b,bs,kvs,e1,e2,e4,e5⟩=>by
  subst e1;exact Reps.FS (Rep.Do.mpr ⟨b,kvs,rfl,hn b NN,e2,e4⟩) (LsR.rep (λc hc=>hn c (NJ _ hc)) e5)
theorem oa:∀{l:List α}{m:List β},l.length=m.length->(l.zip m).map (·.1)=l
 |[],[],_=>rfl
 |a::l,b::m,h=>by
  have h':l.length=m.length:=by simpa using h
  show a::(l.zip m).map (·.1)=_
  rw[oa h']
theorem yZ:∀{l:List α}{m:List β},l.length=m.length->(l.zip m).map (·.2)=m
 |[],[],_=>rfl
 |a::l,b::m,h=>by
  have h':l.length=m.length:=by simpa using h
  show b::(l.zip m).map (·.2)=_
  rw[yZ h']
theorem ORep.rep{M:Ow}{o:OT}(sub:∀a,O' a->O a)(hn:∀a,M a->¬ O' a)(r:ORep K O M H o v):Rep K O' H o.view v:=by
 cases o with
 |lst l=>obtain⟨a,vs,e1,e2,e3,e4⟩:=r;exact Rep.Do.mpr ⟨a,vs,e1,hn a ((e2 a).mpr rfl),e3,e4.less sub⟩
 |dct ks ts=>obtain⟨a,kvs,e1,e2,e3,e4,e5⟩:=r;exact Rep.KB.mpr ⟨a,kvs,e1,hn a ((e2 a).mpr rfl),.inl e3,e4,e5.less sub⟩
 |dd ks rows=>
  obtain⟨a,kvs,as,e1,e2,e3,e4,e5,e6,e7,e8⟩:=r;refine Rep.KB.mpr ⟨a,kvs,e1,hn a ((e2 a).mpr (.inl rfl)),.inl e5,e6,?_⟩
  rw[e7]
  exact vM (λb hb=>hn b ((e2 b).mpr (.inr hb))) (e8.less sub)
 |ob C ns ls=>
  obtain⟨a,dx,as,e1,e2,e3,e4,e5,e6,e7,e8⟩:=r
  have hl:ns.length=(as.map V.ref).length:=by rw[NP];exact e6
  refine Rep.M8.mpr ⟨a,dx,_,e1,hn a ((e2 a).mpr (.inl rfl)),e4,oa hl,?_⟩
  rw[yZ hl];exact(e8.less sub).rep λb hb=>hn b ((e2 b).mpr (.inr (.inr hb)))
variable{B:Ow}{Z:En}{σ:L2.St}
section
variable {o o':OT}
def Ev.new(E:Ev K B M H Z σ)(hl:i<Z.length)(hm:∀a,m a->Nw K H a)(s:Same H H')(r:ORep K (OO B (M.set i m)) m H' o v):
  Ev K B (M.set i m) H' (Z.set i (.ow o)) (σ.set i (ZA v))/\∀a,(M.set i m).u a->M.u a\/Nw K H a:=by
 have hls:i<σ.length:=by rw[<-E.env.len];exact hl
 have sub:∀a,(M.set i m).u a->M.u a\/Nw K H a:=λa z=>(Mn.KF z).elim (λw=>.inr (hm a w)) .inl
 have subO:∀a,OO B (M.set i m) a->OO B M a\/Nw K H a:=λa z=>z.elim (λw=>.inl (.inl w)) λw=>(sub a w).elim (λy=>.inl (.inr y)) .inr
 have cH:∀a,Nw K H a->¬ OO B M a:=λa w z=>by
  obtain⟨o,e⟩:=(E.env.trk a z).some;rw[w.1]at e;cases e
 refine⟨⟨⟨by rw[Pa,Pa];exact E.env.len,λj t e=>?_,λj o' e=>?_,λj a z=>.inr ⟨j,z⟩,λj k a z1 z2=>?_,λa z=>?_⟩,λa z=>?_⟩,sub⟩
 ·by_cases hj:i=j
  ·subst hj;rw[Of hl]at e;cases e
  ·rw[Oh hj]at e
   obtain⟨w,e1,e2⟩:=E.env.val j t e;exact⟨w,by rw[Oh hj];exact e1,(e2.more subO).same s⟩
 ·by_cases hj:i=j
  ·subst hj
   rw[Of hl]at e
   cases e;exact⟨v,Of hls,by rw[Mn.MY];exact r⟩
  ·rw[Oh hj]at e
   obtain⟨w,e1,e2⟩:=E.env.own j o' e;refine⟨w,by rw[Oh hj];exact e1,?_⟩
   rw[Mn.M7 (λz=>hj z.symm)]
   exact(e2.move (P:=kY) (λ_ z=>z.elim) subO (λb u q _=>q) λ_ _ z=>z).same s
 ·unfold Mn.set at z1 z2
  by_cases hj:j=i
  ·by_cases hk:k=i
   ·exact hj.trans hk.symm
   ·rw[if_pos hj]at z1;rw[if_neg hk]at z2
    exact(cH a (hm a z1) (.inr ⟨k,z2⟩)).elim
  ·by_cases hk:k=i
   ·rw[if_neg hj]at z1;rw[if_pos hk]at z2
    exact(cH a (hm a z2) (.inr ⟨j,z1⟩)).elim
   ·rw[if_neg hj]at z1;rw[if_neg hk]at z2
    exact E.env.dis j k a z1 z2
 ·rcases z with z|z
  ·exact(E.env.trk a (.inl z)).same s
  ·rcases Mn.KF z with w|w
   ·exact r.mtb a w
   ·exact(E.env.trk a (.inr w)).same s
 ·intro hb
  rcases Mn.KF z with w|w
  ·exact cH a (hm a w) (.inl hb)
  ·exact E.mine a w hb
def Ev.put(E:Ev K B M H Z σ)(hi:Z[i]?=ZA (.ow o))(hs:σ[i]?=ZA (ZA v))(s:SameO (M i) H H')(r:ORep K (OO B M) (M i) H' o' v):Ev K B M H' (Z.set i (.ow o')) σ/\SameO M.u H H':=by
 have hl:i<Z.length:=(NU.mp hi).1
 have inO:∀a,M i a->OO B M a\/Nw K H a:=λa z=>.inl (.inr ⟨i,z⟩)
 have idO:∀a,OO B M a->OO B M a\/Nw K H a:=λa z=>.inl z
 refine⟨⟨⟨by rw[Pa];exact E.env.len,λj t e=>?_,λj o2 e=>?_,E.env.sub,E.env.dis,λa z=>?_⟩,E.mine⟩,λb u e n=>s b u e λz=>n ⟨i,z⟩⟩
 ·by_cases hj:i=j
  ·subst hj;rw[Of hl]at e;cases e
  ·rw[Oh hj]at e
   obtain⟨w,e1,e2⟩:=E.env.val j t e;exact⟨w,e1,e2.move inO idO s⟩
 ·by_cases hj:i=j
  ·subst hj
   rw[Of hl]at e
   cases e;exact⟨v,hs,r⟩
  ·rw[Oh hj]at e
   obtain⟨w,e1,e2⟩:=E.env.own j o2 e;exact⟨w,e1,e2.move inO idO s λa z y=>hj (E.env.dis i j a y z)⟩
 ·by_cases hz:M i a
  ·exact r.mtb a hz
  ·exact(E.env.trk a z).at λo e=>s _ _ e hz
def disown(i:Nat)(Z:En):En:=match Z[i]? with
 |some (.ow o)=>Z.set i (.va o.view)
 |_=>Z
theorem EnvM.disown(E:EnvM K O M H Z σ)(i:Nat)(sub:∀a,O' a->O a)(hn:∀a,M i a->¬ O' a)(hin:∀j a,j≠i->M j a->O' a):EnvM K O' (M.set i kY) H (disown i Z) σ:=by
 have base:EnvM K O' (M.set i kY) H (Z.set i (match Z[i]? with|some (.ow o)=>.va o.view|some x=>x|none=>.em)) σ:=by
  refine⟨by rw[Pa];exact E.len,λj t e=>?_,λj o e=>?_,λj a z=>?_,λj k a z1 z2=>?_,λa z=>E.trk a (sub a z)⟩
  ·by_cases hj:i=j
   ·subst hj
    by_cases hl:i<Z.length
    ·rw[Of hl]at e
     cases q:Z[i]? with
     |none=>rw[q]at e;cases e
     |some z=>
      rw[q]at e
      cases z with
      |em=>cases e
      |va t'=>cases e;obtain⟨w,e1,e2⟩:=E.val i _ q;exact⟨w,e1,e2.less sub⟩
      |ow o=>cases e;obtain⟨w,e1,e2⟩:=E.own i _ q;exact⟨w,e1,e2.rep sub hn⟩
    ·rw[Rx (by rw[Pa];omega)]at e;cases e
   ·rw[Oh hj]at e
    obtain⟨w,e1,e2⟩:=E.val j t e;exact⟨w,e1,e2.less sub⟩
  ·by_cases hj:i=j
   ·subst hj
    by_cases hl:i<Z.length
    ·rw[Of hl]at e
     cases q:Z[i]? with
     |none=>rw[q]at e;cases e
     |some z=>
      rw[q]at e
      cases z with
      |em=>cases e
      |va t'=>cases e
      |ow o=>cases e
    ·rw[Rx (by rw[Pa];omega)]at e;cases e
   ·rw[Oh hj]at e
    obtain⟨w,e1,e2⟩:=E.own j o e;refine⟨w,e1,?_⟩
    rw[Mn.M7 (λz=>hj z.symm)]
    exact e2.move (P:=kY) (λ_ z=>z.elim) (λa z=>.inl (sub a z)) (λb u q _=>q) λ_ _ z=>z
  ·unfold Mn.set at z
   by_cases hj:j=i
   ·rw[if_pos hj]at z;exact z.elim
   ·rw[if_neg hj]at z;exact hin j a hj z
  ·unfold Mn.set at z1 z2
   by_cases hj:j=i
   ·rw[if_pos hj]at z1;exact z1.elim
   ·by_cases hk:k=i
    ·rw[if_pos hk]at z2;exact z2.elim
    ·rw[if_neg hj]at z1;rw[if_neg hk]at z2;exact E.dis j k a z1 z2
 unfold Tr.disown
 cases q:Z[i]? with
 |none=>rw[q,List.set_eq_of_length_le (List.getElem?_eq_none_iff.mp q)]at base;exact base
 |some z=>
  rw[q]at base
  cases z with
  |em=>rw[vE q]at base;exact base
  |va t=>rw[vE q]at base;exact base
  |ow o=>exact base
theorem Ev.disown(E:Ev K B M H Z σ)(i:Nat):Ev K B (M.set i kY) H (disown i Z) σ/\∀a,(M.set i kY).u a->M.u a:=by
 have sub:∀a,(M.set i kY).u a->M.u a:=λa z=>(Mn.KF z).elim (λw=>w.elim) id
 refine⟨⟨E.env.disown i (λa z=>z.elim .inl λw=>.inr (sub a w)) (λa z y=>?_) λj a hj z=>.inr ⟨j,by rw[Mn.M7 hj];exact z⟩,λa z=>E.mine a (sub a z)⟩,sub⟩
 rcases y with y|⟨j,y⟩
 ·exact E.mine a ⟨i,z⟩ y
 ·unfold Mn.set at y
  by_cases hj:j=i
  ·rw[if_pos hj]at y;exact y
  ·rw[if_neg hj]at y;exact hj (E.env.dis j i a y z)
end
variable{apos cpos:Pos}
section
variable {a:ZG}{p2 p3:Pos}
def Ev.subO(hm:∀a,m a->Nw K H a)(a:ZE)(z:OO B (M.set i m) a):OO B M a\/Nw K H a:=
 z.elim (λw=>.inl (.inl w)) λw=>(Mn.KF w).elim (λy=>.inr (hm a y)) λy=>.inl (.inr y)
def fO{H1:Hp}(s:Same H H1){a:ZE}(n:Nw K H1 a):Nw K H a:=(gy (SameO.of (P:=kY) s) n).elim (λz=>z.elim) id
def KS(X:Cx)(t:TA):TE:=λσ H Q=>t σ H λxs H1=>xs.length<=sizeLine/\∀p,Nw X.K H1 p->Q (.ref p) (upd H1 p (.lst xs))
def zl{t:TA}(h:PA X es t):PE X (.List es pos) (KS X t):=by
 intro ol s σ H Q I hq;refine T5 (bU (h pos ol s σ H _ I hq) λus s1 ⟨xs,H1,I1,r,z,q⟩=>⟨by rw[<-r.length];exact z,?_⟩)
 have hf:H1 s1.heap.objs.size=ZB:=I1.hok.fresh (N3 _)
 have hk:X.K.lookup s1.heap.objs.size=ZB:=by
  cases q:X.K.lookup s1.heap.objs.size with
  |none=>rfl
  |some o=>exact absurd (NY (I1.kIn _ o q)) (Oo _)
 refine⟨.ref s1.heap.objs.size,upd H1 s1.heap.objs.size (.lst xs),I1.laid (t':=s1.toks) (λb u e=>NV _ e) (N3 _) ?_,rfl,q _ ⟨hf,hk⟩⟩
 exact⟨z,us,0,r,Oa _ rfl⟩
def jI(i:Nat)(f:V3)(Z:En):Rs Fl:=do
 let l <-f Z
 if i<Z.length/\l.length<=sizeLine then .ok (.nx (Z.set i (.ow (.lst l))))else .bad
def Fw(i:Nat){f:V3}(hN:X.N.Nodup)(ha:qB X es f)(hi:autoParam (X.N[i]?=ZA x) aqd._auto_1)(hx:autoParam (Loc X.env.scope x) aqh._auto_1)(hs:autoParam (OR (.List es p2) (ZA (.Name x p3)) pos.line X.env=pure ZD) aqd._auto_1)
  (hf:autoParam (X.fn x=ZC\/X.env.scope.names.lookup x=ZA .local) aqa._auto_1):oH X (.Assign [.Name x p3] (.List es p2) pos) (jI i f):=PS.imp (mL hN hi hx (zl ha) hs hf) λD σ H hh_=>by
 obtain⟨Z,B,M,E,h⟩:=hh_;refine⟨Z,OO B M,E.o,?_⟩
 unfold jI at h
 cases q:f Z with
 |bad=>rw[q]at h;exact h.elim
 |err c=>rw[q]at h;exact PostF.xa h
 |ok l=>
  rw[q,ay]at h;intro H1 s1 vs rs
  by_cases hl:i<Z.length/\l.length<=sizeLine
  ·rw[if_pos hl]at h
   refine⟨by rw[<-rs.length];exact hl.2,λp hp=>?_⟩
   have hm:∀a,a=p->Nw X.K H1 a:=λa z=>z▸hp
   obtain⟨E2,sub⟩:=(E.same s1).new (m:=λa=>a=p) (o:=.lst l) (v:=.ref p) (H':=upd H1 p (.lst vs)) hl.1 hm (bj hp.1 _) ⟨p,vs,rfl,λb=>Rg,aG,(rs.more (Ev.subO hm)).same (bj hp.1 _)⟩
   exact h _ _ _ (SameO.of (s1.trans (bj hp.1 _))) E2 λa z=>(sub a z).imp_right (fO s1)
  ·rw[if_neg hl]at h
   exact h.elim
def jw(i:Nat)(f:V5)(Z:En):Rs Fl:=match Z[i]? with
 |some (.ow (.lst l))=>f Z >>= λt=>if l.length<sizeLine then .ok (.nx (Z.set i (.ow (.lst (l++[t])))))else .bad
 |_=>.bad
def Ev.putL{o:OT}{l':List T}{b:ZE}{vs':List V}(E:Ev K B M H Z σ)(hi:Z[i]?=ZA (.ow o))(hs:σ[i]?=ZA (ZA (.ref b)))(hM:∀c,M i c↔c=b)(r:Reps K (OO B M) H l' vs'):
  Ev K B M (upd H b (.lst vs')) (Z.set i (.ow (.lst l'))) σ/\SameO M.u H (upd H b (.lst vs')):=by
 have sm:SameO (M i) H (upd H b (.lst vs')):=λc u e nb=>by rw[aB (λz=>nb ((hM c).mpr z))];exact e
 exact E.put hi hs sm ⟨b,vs',rfl,hM,aG,r.move (P:=M i) (λa z=>.inl (.inr ⟨i,z⟩)) (λa z=>.inl z) sm⟩
def IJ(i:Nat)(ha:cy X a fa)(hN:autoParam (X.N[i]?=ZA x) aqd._auto_1)(hv:autoParam (lJ X.env.scope x) aqe._auto_1)(hn:autoParam (bu a=ZC) aqd._auto_1)
  (hbase:autoParam (On (.Name x p2) "append" X.env (eval (.Name x p2) X.env)=eval (.Name x p2) X.env) aqd._auto_1) (hline:autoParam ((apos.endLine == cpos.line)=ZC) aqd._auto_1)
  (hd:autoParam ((x == ("__debug__" : Str))=ZD) aqb._auto_1) (hcd:autoParam ((x == ("__classdict__" : Str))=ZD) aqb._auto_1)
  (hsw:autoParam (OR (.Call (.Attribute (.Name x p2) "append" apos) [a] [] cpos) ZB pos.line X.env=pure ZD) aqd._auto_1):oH X (.Expr (.Call (.Attribute (.Name x p2) "append" apos) [a] [] cpos) pos) (jw i fa):=by
 have h1:NW [a] X.env=(ZD,eval a X.env)::NW [] X.env:=bp hn;refine PS.imp (oj (vY Pc Sd Se mV (eF hN hv hd hcd) (br ha dH h1) hbase ?_ hline h1 rfl) hsw) λD σ H ⟨Z,B,M,E,h⟩=>?_
 ·rw[h1];rfl
 unfold jw at h
 split at h
 ·rename_i l hl
  obtain⟨v0,e1,b,vs,rfl,hM,e3,e4⟩:=E.env.own i _ hl;refine⟨.ref b,e1,.inl ⟨rfl,vs,SqL.of e3⟩,Z,OO B M,E.o,?_⟩
  cases q:fa Z with
  |bad=>rw[q]at h;exact h.elim
  |err c=>rw[q]at h;exact PostF.xa h
  |ok t=>
   rw[q,ay]at h
   split at h
   ·rename_i hz
    intro H1 s1 v r
    have e3':=s1 _ _ e3;refine⟨b,vs,v,rfl,rfl,e3',by rw[<-e4.length];exact hz,?_⟩
    obtain⟨g1,g2⟩:=(E.same s1).putL (l':=l++[t]) (vs':=vs++[v]) hl e1 hM ((e4.same s1).append (Reps.FS r Reps.GE));exact h σ _ M (λc o e nb=>g2 c o (s1 _ _ e) nb) g1 λc z=>.inl z
   ·exact h.elim
 ·exact h.elim
def J3(i:Nat)(l:List T)(Z:En):T->Rs Fl
 |.lst m=>if l.length+m.length<=sizeLine then .ok (.nx (Z.set i (.ow (.lst (l++m)))))else .bad
 |_=>.bad
def o8(i:Nat)(f:V5)(Z:En):Rs Fl:=match Z[i]? with
 |some (.ow (.lst l))=>f Z >>= J3 i l Z
 |_=>.bad
def IG(i:Nat)(ha:cy X a fa)(hN:autoParam (X.N[i]?=ZA x) aqd._auto_1)(hv:autoParam (lJ X.env.scope x) aqe._auto_1)(hn:autoParam (bu a=ZC) aqd._auto_1)
  (hbase:autoParam (On (.Name x p2) "extend" X.env (eval (.Name x p2) X.env)=eval (.Name x p2) X.env) aqd._auto_1) (hline:autoParam ((apos.endLine == cpos.line)=ZC) aqd._auto_1)
  (hd:autoParam ((x == ("__debug__" : Str))=ZD) aqb._auto_1) (hcd:autoParam ((x == ("__classdict__" : Str))=ZD) aqb._auto_1)
  (hsw:autoParam (OR (.Call (.Attribute (.Name x p2) "extend" apos) [a] [] cpos) ZB pos.line X.env=pure ZD) aqd._auto_1):oH X (.Expr (.Call (.Attribute (.Name x p2) "extend" apos) [a] [] cpos) pos) (o8 i fa):=by
 have h1:NW [a] X.env=(ZD,eval a X.env)::NW [] X.env:=bp hn;refine PS.imp (oj (vY Pc PySem.F.slot_list_extend PySem.F.type_list_extend AL (eF hN hv hd hcd) (br ha dH h1) hbase ?_ hline h1 rfl) hsw) λD σ H ⟨Z,B,M,E,h⟩=>?_
 ·rw[h1];rfl
 unfold o8 at h
 split at h
 ·rename_i l hl
  obtain⟨v0,e1,b,vs,rfl,hM,e3,e4⟩:=E.env.own i _ hl;refine⟨.ref b,e1,.inl ⟨rfl,vs,SqL.of e3⟩,Z,OO B M,E.o,?_⟩
  cases q:fa Z with
  |bad=>rw[q]at h;exact h.elim
  |err c=>rw[q]at h;exact PostF.xa h
  |ok t=>
   rw[q,ay]at h;unfold J3 at h
   split at h
   ·rename_i m
    split at h
    ·rename_i hz
     intro H1 s1 v r;obtain⟨c,ws,rfl,nO,hc,rm⟩:=Rep.Do.mp r
     have e3':=s1 _ _ e3;refine⟨b,c,vs,ws,rfl,rfl,e3',hc,by rw[<-e4.length,<-rm.length];exact hz,?_⟩
     obtain⟨g1,g2⟩:=(E.same s1).putL (l':=l++m) (vs':=vs++ws) hl e1 hM ((e4.same s1).append rm);exact h σ _ M (λc o e nb=>g2 c o (s1 _ _ e) nb) g1 λc z=>.inl z
    ·exact h.elim
   ·exact h.elim
 ·exact h.elim
def nP(i:Nat)(F:V4)(Z:En):Rs Fl:=F (disown i Z)
def IH(i:Nat){st:ZF}(h:oH X st F):oH X st (nP i F):=PS.imp h λD σ H hh_=>by
 obtain⟨Z,B,M,E,q⟩:=hh_;obtain⟨E',sub⟩:=E.disown i;exact⟨disown i Z,B,_,E',PostF.later q (λ_ _ e _=>e) λa z=>.inl (sub a z)⟩
mutual
def T.nk(D:Bool):T->Bool
 |.scr _=>ZD
 |.dct _ ts=>!D&&nks D ts
 |.ob _ _ _=>ZD
 |.lst l=>D&&nks D l
 |.tup l=>nks D l
 |_=>ZC
def nks(D:Bool):List T->Bool
 |[] =>ZC
 |t::l=>t.nk D&&nks D l
end
mutual
theorem Rep.lend{K:NI}{O O':Ow}{H:Hp}{D:Bool}(hk:∀a,O a->O' a\/if D then ∃kvs,Rd H a (.dT kvs)else LO H a):∀{t:T}{v:V},t.nk D=ZC->Rep K O' H t v->Rep K O H t v
 |.non,_,_,r=>by unfold Rep at r ⊢;exact r
 |.bl _,_,_,r=>by unfold Rep at r ⊢;exact r
 |.int _,_,_,r=>by unfold Rep at r ⊢;exact r
 |.str _,_,_,r=>by unfold Rep at r ⊢;exact r
 |.tup l,_,h,r=>by
  unfold Rep at r ⊢;unfold T.nk at h;obtain⟨a,vs,e,n,q,z⟩:=r;refine⟨a,vs,e,λp=>(hk a p).elim n λw=>?_,q,Reps.lend hk h z⟩
  split at w
  ·obtain⟨_,w|⟨_,w⟩⟩:=w <;> rw[q]at w <;> cases w
  ·rcases w with⟨_,w⟩|⟨_,w,y⟩ <;> rw[q]at w <;> cases w <;> cases y
 |.lst l,_,h,r=>by
  unfold Rep at r ⊢;unfold T.nk at h;rw[NL]at h;obtain⟨h1,h2⟩:=h;subst h1;obtain⟨a,vs,e,n,q,z⟩:=r;refine⟨a,vs,e,λp=>(hk a p).elim n λw=>?_,q,Reps.lend hk h2 z⟩
  rw[if_pos rfl]at w;obtain⟨_,w|⟨_,w⟩⟩:=w <;> rw[q]at w <;> cases w
 |.scr l,_,h,r=>by unfold T.nk at h;cases h
 |.dct ks ts,_,h,r=>by
  unfold Rep at r ⊢;unfold T.nk at h;rw[NL]at h;obtain⟨h1,h2⟩:=h
  cases D with
  |true=>cases h1
  |false=>
   obtain⟨a,kvs,e,n,q,k,z⟩:=r;refine⟨a,kvs,e,λp=>(hk a p).elim n λw=>?_,q,k,Reps.lend hk h2 z⟩
   rw[if_neg NZ]at w;rcases w with⟨_,w⟩|⟨_,w,y⟩ <;> rcases q with q|⟨_,q⟩ <;> rw[q]at w <;> cases w <;> cases y
 |.ob _ _ _,_,h,r=>by unfold T.nk at h;cases h
theorem Reps.lend{K:NI}{O O':Ow}{H:Hp}{D:Bool}(hk:∀a,O a->O' a\/if D then ∃kvs,Rd H a (.dT kvs)else LO H a):∀{l:List T}{vs:List V},nks D l=ZC->Reps K O' H l vs->Reps K O H l vs
 |[],_,_,r=>by unfold Reps at r ⊢;exact r
 |t::l,_,h,r=>by
  unfold Reps at r ⊢;unfold nks at h;rw[NL]at h;obtain⟨v,ws,e,p,q⟩:=r;exact⟨v,ws,e,Rep.lend hk h.1 p,Reps.lend hk h.2 q⟩
end
def ln(i:Nat)(f:V5)(Z:En):Rs T:=match Z[i]? with
 |some (.ow o)=>f (disown i Z) >>= λt=>if t.nk o.isD=ZC then .ok t else .bad
 |_=>f Z
def JA(i:Nat)(f:V6)(Z:En):Rs Bool:=f (disown i Z)
def sL(E:EnvM K O M H Z σ)(i:Nat):EnvM K (λa=>O a/\¬ M i a) (M.set i kY) H (disown i Z) σ:=
 E.disown i (λa z=>z.1) (λa z y=>y.2 z) λj a hj z=>⟨E.sub j a z,λy=>hj (E.dis j i a z y)⟩
def q_ln(i:Nat)(h:cy X e f):cy X e (ln i f):=PE.imp h λσ H Q ⟨Z,O,⟨M,E⟩,q⟩=>by
 unfold ln at q
 split at q
 ·rename_i o hi
  refine⟨disown i Z,_,⟨_,sL E i⟩,?_⟩
  obtain⟨w,e1,r⟩:=E.own i o hi;refine Post.mono (Post.bind q) λt H' s q2 v rv=>?_
  split at q2
  ·rename_i hk
   have kd:=(r.same s).kind;refine q2 H' (Same.refl _) v (Rep.lend (λa z=>?_) hk rv)
   by_cases hm:M i a
   ·refine .inr ?_
    have this:=kd a hm
    by_cases hD:o.isD=ZC
    ·rw[if_pos hD]at this ⊢;exact this.imp λ_ z=>.inl z
    ·rw[if_neg hD]at this ⊢;exact this
   ·exact .inl ⟨z,hm⟩
  ·exact q2.elim
 ·exact⟨Z,O,⟨M,E⟩,q⟩
def La(i:Nat){f:V6}(h:rk X e f):rk X e (JA i f):=PT.imp h λσ H Q ⟨Z,O,⟨M,E⟩,q⟩=>⟨disown i Z,_,⟨_,sL E i⟩,q⟩
end
end Tr
namespace Tr
open PySem L2
def n6:List T->List T->List Key->Option T
 |k'::ks,v::vs,k=>if keyOf k'=ZA k then ZA v else n6 ks vs k
 |_,_,_=>ZB
def hI(k v:T):List T->List T->List T×List T
 |k'::ks,v'::vs=>if keyOf k'=keyOf k then(k'::ks,v::vs)else(k'::(hI k v ks vs).1,v'::(hI k v ks vs).2)
 |_,_=>([k],[v])
def bJ(x y:T):Rs T:=match x,keyOf y with
 |.dct ks vs,ZA k=>match n6 ks vs k with
  |some t=>.ok t
  |none=>.bad
 |_,_=>.bad
def jv(x y:T):Rs T:=match x,keyOf y with
 |.dct ks vs,ZA k=>match n6 ks vs k with
  |some t=>.ok t
  |none=>.ok .non
 |_,_=>.bad
def oD(g:T->T->Rs T)(fa fb:V5)(Z:En):Rs T:=fa Z >>= λx=>match x with
 |.dct ks vs=>fb Z >>= g (.dct ks vs)
 |_=>.bad
def oL(g:T->T->Rs T)(fa fb:V5)(Z:En):Rs T:=fa Z >>= λx=>match x with
 |.lst l=>fb Z >>= g (.lst l)
 |_=>.bad
def Kv:List T->Option (List (T×T))
 |[] =>ZA []
 |.tup [k,v] ::l=>match keyOf k,Kv l with
  |some _,ZA r=>ZA ((k,v)::r)
  |_,_=>ZB
 |_=>ZB
def j8:List (T×T)->List T×List T->List T×List T
 |[],d=>d
 | (k,v)::r,d=>j8 r (hI k v d.1 d.2)
def z8:List T->Rs T
 |[.lst l] =>match Kv l with
  |some ps=>if l.length<=1000 then .ok (.dct (j8 ps ([],[])).1 (j8 ps ([],[])).2)else .bad
  |none=>.bad
 |_=>.bad
def nH:List T->Bool
 |[] =>ZC
 |k::l=>(keyOf k).isSome&&nH l
def rH(i:Nat)(f:V5)(Z:En):Rs Fl:=f Z >>= λt=>z8 [t] >>= λd=>match d with
 |.dct ks vs=>if i<Z.length then .ok (.nx (Z.set i (.ow (.dct ks vs))))else .bad
 |_=>.bad
def Aw(i:Nat)(fk fv:V5)(Z:En):Rs Fl:=match Z[i]? with
 |some (.ow (.dct ks vs))=>fv Z >>= λv=>fk Z >>= λk=>match keyOf k with
  |some _=>if ks.length<1000 then .ok (.nx (Z.set i (.ow (.dct (hI k v ks vs).1 (hI k v ks vs).2))))else .bad
  |none=>.bad
 |_=>.bad
def o7(i j:Nat)(Z:En):Rs Fl:=match Z[j]? with
 |some (.va (.lst l))=>if i<Z.length/\nH l=ZC/\(l.map keyOf).Nodup/\l.length<=1000 then .ok (.nx (Z.set i (.ow (.dd l (l.map λ_=>(l,l.map λ_=>.non))))))else .bad
 |_=>.bad
def qL:List T->List (List T×List T)->List Key->Option (List T×List T)
 |k'::ks,r::rs,k=>if keyOf k'=ZA k then ZA r else qL ks rs k
 |_,_,_=>ZB
def qK(k:List Key)(x:List T×List T):List T->List (List T×List T)->List (List T×List T)
 |k'::ks,r::rs=>if keyOf k'=ZA k then x::rs else r::qK k x ks rs
 |_,rs=>rs
def jq(i:Nat)(fa fb fv:V5)(Z:En):Rs Fl:=match Z[i]? with
 |some (.ow (.dd ks rows))=>fv Z >>= λv=>fa Z >>= λa=>match(keyOf a).bind λka=>(qL ks rows ka).map λr=>(ka,r)with
  |some (ka,r)=>fb Z >>= λb=>if (keyOf b).isSome=ZC/\r.1.length<1000 then .ok (.nx (Z.set i (.ow (.dd ks (qK ka (hI b v r.1 r.2) ks rows)))))else .bad
  |none=>.bad
 |_=>.bad
def rP:List T->Option (List Int)
 |[] =>ZA []
 |.int i::l=>(rP l).map (i:: ·)
 |_=>ZB
def yn(i:Int):List Int->Int
 |[] =>i
 |j::l=>yn (if j<i then j else i) l
def yo(i:Int):List Int->Int
 |[] =>i
 |j::l=>yo (if i<j then j else i) l
def C3:List T->Rs T
 |[.lst l] =>match rP l with
  |some (i::ns)=>.ok (.int (yn i ns))
  |_=>.bad
 |[.int i,.int j] =>.ok (.int (yn i [j]))
 |_=>.bad
def rg:List T->Rs T
 |[.lst l] =>match rP l with
  |some (i::ns)=>.ok (.int (yo i ns))
  |_=>.bad
 |[.int i,.int j] =>.ok (.int (yo i [j]))
 |_=>.bad
def kJ(x:T):List T->Nat->Option Nat
 |[],_=>ZB
 |t::l,n=>if bo t x then ZA n else kJ x l (n+1)
def hZ(y x:T):Rs T:=match y with
 |.lst l=>if (x.dep<=60\/deps l<=60)/\x.nd=ZC/\nds l=ZC then match kJ x l 0 with
   |some n=>.ok (.int n)
   |none=>.bad
  else .bad
 |_=>.bad
def FU:Nat:=1000000000000
end Tr
variable{Q:Option NK->NO->Prop}
namespace Tr
open PySem PySem.Spec PyProof.Rows L2
variable{h:ZH}
theorem iC{b b':ZH}:∀{l:List Env},h.FunFrames b l->(∀a∈l.filterMap (·.frame),b'.get? a=ZB)->h.FunFrames b' l
 |[],_,_=>trivial
 |env::bV,⟨hk,⟨L,o,hf,hn,ho,hd⟩,hr⟩,q=>by
  rw[O8,hf]at q;exact⟨hk,⟨L,o,hf,q L NN,ho,hd⟩,iC hr λa ha=>q a (NJ _ ha)⟩
variable{C e:ZE}{env:Env}{outer:List Env}
structure EE (fs:List ZE)(C e:ZE)(T:Option ZE)(h h':ZH)(T':ZE):Prop where
 flt:MB h' C e (ZA T')
 new:T=ZA T'\/h.get? T'=ZB
 keep:∀b o,b∉fs->b≠e->T≠ZA b->h.get? b=ZA o->h'.get? b=ZA o
 slot:∀b o,b∈fs->h.get? b=ZA o->∃sl,h'.get? b=ZA {o with slots:=sl}
def Dd{base:ZH}{L:ZE}{T:Option ZE}{Q:Unit->NO->Prop}(hfr:A.frames=ZA (env::outer))(hl:s.heap.FunFrames base (env::outer))(hf:env.frame=ZA L)
  (F:MB s.heap C e T) (h:∀h' T',EE ((env::outer).filterMap (·.frame)) C e T s.heap h' T'->Q () {s with heap:=h'}):wpAny M A (leaving env (.ref e)) Q E s:=by
 generalize hB:SK s.heap (e::(T.toList++(env::outer).filterMap (·.frame)))=B
 have bm:∀b,b∈e::(T.toList++(env::outer).filterMap (·.frame))->B.get? b=ZB:=λb m=>by rw[<-hB];exact RH _ m
 have hl':s.heap.FunFrames B (env::outer):=iC hl λa ha=>bm a (NJ _ (Od _ ha))
 have hst:B.StaysIn s.heap:=λb o q=>by rw[<-hB]at q;exact RZ _ q
 have hen:B.get? e=ZB:=bm e NN
 have main:∀h',Heap.Left B (env::outer) e (.ref C) s.heap h'->Q () {s with heap:=h'}:=λh' ⟨x1,x2,⟨oe,vs,T',oT,ts,he,hc,hd,h1,hnT,hTe,hT,hdT,h3⟩,x4⟩=>by
  refine h h' T' ⟨⟨hTe,oe,vs,he,hc,hd,h1,oT,ts,hT,hdT,h3⟩,?_,λb o n1 n2 n3 q=>?_,λb o m q=>?_⟩
  ·cases q:s.heap.get? T' with
   |none=>exact .inr rfl
   |some o=>
    left
    by_cases z:T'∈e::(T.toList++(env::outer).filterMap (·.frame))
    ·rcases NR.mp z with z|z
     ·exact absurd z hTe
     ·rcases Og.mp z with z|z
      ·cases T with
       |none=>simp at z
       |some t=>simp at z;rw[z]
      ·obtain⟨_,o',ho',hnf⟩:=x2.mem z
       rw[hT]at ho';cases ho';exact absurd hdT (hnf ts)
    ·rw[<-hB,Qr _ q z]at hnT;cases hnT
  ·refine x1 b o ?_
   rw[<-hB];refine Qr _ q λz=>?_
   rcases NR.mp z with z|z
   ·exact n2 z
   ·rcases Og.mp z with z|z
    ·cases T with
     |none=>simp at z
     |some t=>simp at z;exact n3 (by rw[z])
    ·exact n1 z
  ·obtain⟨_,o',ho',hnf⟩:=hl.mem m
   rw[q]at ho';cases ho';exact x4 b o q hnf
 cases T with
 |none=>
  obtain⟨oe,vs,he,hc,hd,h1⟩:=F;refine wpAny_leaving_first hfr hl' hf he hst hen hd h1 λh' x=>main h' ?_
  rw[hc]at x;exact x
 |some t=>
  obtain⟨hte,oe,vs,he,hc,hd,h1,oT,ts,hT,hdT,h3⟩:=F;exact wpAny_leaving_next hfr hl' hf ⟨oe,vs,t,oT,ts,he,hc,hd,h1,bm t (NJ _ (Ol _ (by simp))),hte,hT,hdT,h3⟩ hst hen main
abbrev n9:List NK:=[.type "ValueError",.type "Exception",.type "BaseException",.type "object"]
structure OwnExc (K:NI)(C:ZE)(bm:List NK):Prop where
 at_:∀h:ZH,K.In h->∃nm q N bs hdct sn sub ab col dd k0 k1 k2 k3 k5 mN,h.get? C=ZA (Pe nm q C N bs bm hdct sn sub ab col dd k0 k1 k2 k3 k5 "ValueError.__new__")/\h.Ns N mN/\mN "__init__" =ZB/\OwnTail h n9 bm
def OwnExc.base(O:OwnExc K C bm)(k:K.In h):bm.contains (.type "BaseException")=ZC:=by
 obtain⟨_,_,_,_,_,_,_,_,_,_,_,_,_,_,_,_,_,_,_,T⟩:=O.at_ h k;exact T.hasType (by decide)
def xW(c:Str)(_:En):Rs Fl:=.err c
variable{X:Cx}{c:Str}{p1 pos:Pos}
def Ci{msg:Str}{np cpos:Pos}(O:OwnExc X.K C bm)(hc:X.calm=ZC)(hm:X.mg c=ZA (.ref C))(hg:autoParam (Gl X c) aqd._auto_1)(hd:autoParam ((c == ("__debug__" : Str))=ZD) aqb._auto_1):
  oH X (.Raise (ZA (.Call (.Name c np) [.Constant (.str msg) j p1] [] cpos)) ZB pos) (xW c):=by
 intro ol s σ H D I ⟨Z,B,M,E,k⟩
 have k:XA X M.u H c:=k;obtain⟨nm,q,N,bs,hdct,sn,sub,ab,col,dd,k0,k1,k2,k3,k5,mN,hC,hN,hni,T⟩:=O.at_ s.heap I.kIn;refine wpAny_Raise_call_subU (C:=C) (mN:=mN) (nm:=nm) (q:=q) (N:=N) (bs:=bs) (hdct:=hdct) (sn:=sn) (sub:=sub) (ab:=ab) (col:=col) (dd:=dd) (k0:=k0) (k1:=k1) (k2:=k2) (k3:=k3) (k5:=k5) RW (Bn:="ValueError") (by decide) RW (O.base I.kIn) (I.ok.hd hc) (by rfl) hni (fR I hg hm ⟨rfl,?_⟩ hd)
 show wpAny _ _ (evalArgs (.ref C) ZC ((ZD,eval (.Constant (.str msg) j p1) X.env)::backTo cpos (NW [] X.env)) []) _ _ s
 refine QV (Rf (TJ (Ro ?_)))
 refine⟨rfl,by show 1<=sizeLine;decide,hC,hN,T,λh' e hm'=>k ol _ _ ?_⟩
 obtain⟨t,ht,ht2,ht3⟩:=hm'.there
 have I':Inv X ol σ H {s with heap:=h',toks:=s.toks+1}:=I.kept (t':=s.toks+1) λb o z=>hm'.keeps b o z
 refine⟨e,ZB,C,σ,H,rfl,hm,I',λb o z _=>z,?_,?_,⟨_,_,ht,rfl,rfl,rfl⟩,(λt z=>by cases z),λp hp=>⟨λz=>?_,λz=>by cases z⟩⟩
 ·exact jL I hm'.new
 ·exact λhex=>eG I hex hm'.new
 ·have:=(I.pin p hp).1
  rw[z,show s.heap.get? e=ZB from hm'.new]at this
  cases this
variable{N ps:List Str}{f:ZE}{g:List T->Rs T}{mg:V0}{qual x:Str}{st:ZF}
section
variable {base:ZH}
def JZ(Fn:L2.Fun K x qual st f fd)(S:aA N ps (aj st))(hn:ps.length=n)
  (hbody:∀(cdv:NK)(A:Oq)(outer:List Env)(s:NO)(H:Hp)(E:XK),Room k (A.deeper (envOfC qual (aj st) s.heap.objs.size f cdv)) →
   ∃F,(∀xe,mG ((gn CX0 P w K mg base N qual (aj st) f cdv A outer s H E).FB xe) (bD st) F)/\∀ts,ts.length=n->∀c,g ts=.err c->F (aQ N.length ts)=.err c):FnX P w K mg base (k+1) f fd ps n g:=by
 intro A outer s H args us vs O ts c R hr e0 hb r rs trk hl hg hR
 have hpl:ps.length<=N.length:=by have:=congrArg O0 S.pre;rw[OS]at this;omega
 obtain⟨oc,od,kV,doc,pm,an,cdv,ct,osl,rfl,lk,hcd⟩:=Fn.ex
 have hlen:vs.length=ps.length:=by rw[<-rs.length,hl,hn]
 have KX:K.In s.heap:=e0.mod.kin.keeps λb o e=>(e0.bs b o e).1
 have lim:s.heap.NoLimit:=e0.mod.nolimit.keeps λb o e=>(e0.bs b o e).1
 have hkind:∀y∈ps.zip us,(aj st).names.lookup y.1=ZA .local\/((aj st).names.lookup y.1=ZA .cell/\((PX (s.heap.objs.size+1) (aj st).names []).lookup y.1).isSome=ZC):=λ⟨n,v⟩ hy=>by
  rcases S.par n (Qy hy).1 with q|q
  ·exact .inl q
  ·exact .inr ⟨q,PZ _ _ _ (.inl q)⟩
 refine QF hr.depth (KX _ _ lk) rfl S.co S.gen rfl (Ra KX hcd) (hb _ _ _ _ ?_)
 refine P3 S.kind hkind λenv he s1 x=>?_
 subst he;refine⟨lim.keeps x.toInCall.keep,S2 ?_⟩
 obtain⟨F,hF,hv⟩:=hbody cdv A outer s H E0 (hr.deeper _)
 let xe:V1:=λev s'=>wpAny (model P w) (A.deeper (envOfC qual (aj st) s.heap.objs.size f cdv)) (leaving (envOfC qual (aj st) s.heap.objs.size f cdv) ev) (λ_ s''=>R (.error ev) s'') (λe' s''=>R (.error e') s'') s'
 have I:Inv ((gn CX0 P w K mg base N qual (aj st) f cdv A outer s H E0).FB xe) [] (start N vs) H s1:=(kE S hr.hd e0 hlen r x).FB _
 have no:∀a,¬noM.u a:=λa ⟨_,z⟩=>z
 refine Pr (hF xe [] s1 (start N vs) H {nx:=λ_ _=>False,rt:=λ_ _=>False,bk:=λ_ _=>False,ct:=λ_ _=>False} I ⟨aQ N.length ts,O,noM,kr rs (by omega) trk,?_⟩) (λfl s' z=>?_) λe s' hs=>hs
 rotate_left
 ·cases fl with
  |next=>obtain⟨_,_,_,z⟩:=z;exact z.elim
  |cont=>obtain⟨_,_,_,z⟩:=z;exact z.elim
  |brk=>obtain⟨_,_,_,z⟩:=z;exact z.elim
  |ret v=>obtain⟨_,_,_,_,_,z⟩:=z;exact z.elim
 rw[hv ts hl c hg];intro ol ev s' w'
 show wpAny _ _ _ _ _ _
 obtain⟨e,T,C,σ',H',rfl,hm,I',sm,he,heo,fl,hT,_⟩:=w'
 have heo:=heo rfl
 have hT:∀t,T=ZA t->H' t=ZB/\s.heap.get? t=ZB:=λt z=>⟨(hT t z).1,(hT t z).2 rfl⟩
 refine Dd (base:=base) (outer:=outer) (L:=s.heap.objs.size) I'.ok.frames I'.stack rfl fl λh' T' g=>hR _ _ ?_
 have hex:((gn CX0 P w K mg base N qual (aj st) f cdv A outer s H E0).FB xe).ex=[]:=rfl
 have Tn:H' T'=ZB/\s.heap.get? T'=ZB:=by
  rcases g.new with z|z
  ·exact hT T' z
  ·exact⟨jL I' z,eG I' hex z⟩
 have out:∀b o,s.heap.get? b=ZA o->b≠s.heap.objs.size:=λb o q z=>by
  have:=NY q;rw[z]at this;exact absurd this (Oo _)
 have mem:∀b,b∈m6 ((envOfC qual (aj st) s.heap.objs.size f cdv)::outer)->b=s.heap.objs.size\/b∈m6 outer:=λb z=>by
  have z':b∈s.heap.objs.size::m6 outer:=z;exact NR.mp z'
 have ne:∀b o,s.heap.get? b=ZA o->b≠e/\T≠ZA b:=λb o q=>⟨λz=>(by subst z;rw[show s.heap.get? b=ZB from heo]at q;cases q),λz=>(by rw[show s.heap.get? b=ZB from(hT b z).2]at q;cases q)⟩
 have keepH:∀b u,H' b≠ZB->s'.heap.get? b=ZA u->h'.get? b=ZA u:=λb u hb q=>by
  refine g.keep b u (λz=>hb (I'.KM b z)) (λz=>hb (by rw[z];exact he)) (λz=>hb (hT b z).1) q
 refine⟨e,T',C,H',rfl,hm,I'.os,I'.bare,⟨λb o q n hb hx=>?_,λb o q n hb hx=>?_,λb o q n hx=>I'.base.free b o q n hx,λb o q hx=>?_,I'.base.tups,I'.base.frzs,I'.base.tbls⟩,λa o q=>?_,λb o q=>sm b o q (no b),he,heo,g.flt,Tn.1,Tn.2⟩
 ·exact g.keep b o (λz=>(mem b z).elim (out b o q) hb) (ne b o q).1 (ne b o q).2 (I'.base.keep b o q n hb hx)
 ·obtain⟨sl,q1⟩:=I'.base.slot b o q n hb hx
  obtain⟨sl',q2⟩:=g.slot b _ (NJ _ hb) q1;exact⟨sl',q2⟩
 ·obtain⟨o',q1⟩:=I'.base.there b o q hx
  by_cases z:b∈m6 ((envOfC qual (aj st) s.heap.objs.size f cdv)::outer)
  ·obtain⟨sl,q2⟩:=g.slot b o' z q1
   exact⟨_,q2⟩
  ·exact⟨o',g.keep b o' z (ne b o q).1 (ne b o q).2 q1⟩
 ·refine(I'.hok a o q).M0 (λb u hb z=>keepH b u ?_ z) (λ_ z=>z) λ_ _ z=>z
  rcases hb with rfl|hb
  ·rw[q];simp
  ·rw[hb];simp
end
variable{F:V4}{ts:List T}
def E6{m:Nat}(h:val n m F ts=.err c):F (aQ m ts)=.err c:=by
 unfold val at h
 split at h
 ·unfold bS at h
  cases z:F (aQ m ts)with
  |bad=>rw[z]at h;cases h
  |err c'=>rw[z]at h;cases h;rfl
  |ok f=>
   rw[z,ay]at h;cases f <;> cases h
 ·cases h
section
variable {base:ZH}
def J2(Fn:L2.Fun K x qual st f fd)(S:aA N ps (aj st))(hn:ps.length=n)
  (hbody:∀(cdv:NK)(A:Oq)(outer:List Env)(s:NO)(H:Hp)(E:XK),Room k (A.deeper (envOfC qual (aj st) s.heap.objs.size f cdv)) →
   ∀xe,mG ((gn CX0 P w K mg base N qual (aj st) f cdv A outer s H E).FB xe) (bD st) F):EF P w K mg base (k+1) f fd ps n (val n N.length F):=
 ⟨Mj Fn S hn λcdv A outer s H E hr=>⟨F,hbody cdv A outer s H E hr _,λts _ _ h=>HY h⟩,JZ Fn S hn λcdv A outer s H E hr=>⟨F,hbody cdv A outer s H E hr,λts _ c h=>E6 h⟩⟩
end
variable{H:Hp}{ol:V2}{vs:List V}{σ:L2.St}
section
variable {O:Ow}{Q:VK}
def K3(F:EF X.prog X.w X.K X.mg X.base k f fd ps n g)(hr:Room k X.A)(hb:Binds X.K fd ps [])(hps:ps.length=n)(I:Inv X ol σ H s)(r:Vals vs us)(rs:Reps X.K O H ts vs)(mt:∀a,O a->Mtb H a)(hl:ts.length=n)
  (hq:Post X H (g ts) λt H'=>∀v,Rep X.K O H' t v->Q v H'):wpAny (model X.prog X.w) X.A (call (.ref f) us) (EP X ol σ Q) X.xe s:=by
 cases q2:g ts with
 |bad=>rw[q2]at hq;exact hq.elim
 |ok t=>
  rw[q2]at hq;refine tI (E:=E0) (dvs:=[]) (ds:=[]) F.h hr hb .nil vZ I r ⟨ts,O,by simpa using rs,mt,hl,?_⟩
  rw[q2]
  exact λv H' s2 rr=>hq H' s2 v rr
 |err c=>
  rw[q2]at hq
  have hlen:us.length=ps.length:=by rw[<-r.length,<-rs.length,hl,hps]
  have hb':=hb s us I.kIn (by rw[Oi];exact hlen)
  rw[Oi]at hb';refine Rp (Qa (F.x X.A X.stack s H ⟨us,[]⟩ us vs O ts c (λr s'=>match r with|.error ev=>X.xe ev s'|_=>False) hr I.Na hb' r rs mt hl q2 λev s' w=>?_) λr s' hq=>?_)
  ·obtain⟨ea,T,C,H',rfl,hmc,ho,hbare,hun,hok,sm2,hea,heo,fl,hT,hTo⟩:=w
   have I2:Inv X ol σ H' s':=I.M6 ho hun hok hbare (λb z=>absurd z (by simp))
   exact hq ol _ _ ⟨ea,ZA T,C,σ,H',rfl,hmc,I2,λb o q _=>sm2 b o q,hea,λhex=>eG I hex heo,fl,(λt zt=>by cases zt;exact⟨hT,λhex=>eG I hex hTo⟩),λpp hpp=>⟨λzz=>(by have:=(I.pin pp hpp).1;rw[zz,heo]at this;cases this),λzz=>(by cases zz;have:=(I.pin pp hpp).1;rw[hTo]at this;cases this)⟩⟩
  ·cases r with
   |error ev=>exact hq
   |ok fl=>exact hq.elim
end
section
variable {a:ZG}{fa:V5}{p:Pos}
def Ld:oH X (.Continue pos) Hj:=PS.imp vU λD σ H ⟨Z,B,M,E,h⟩=>h σ H M (λ_ _ e _=>e) E λa z=>.inl z
end
inductive OTail (h:ZH):List NK->Prop
 |base:OTail h n9
 |own {A:ZE} {c0:NK} {dd:Option ZE} {cd:ClassData} {sl:Array (Option NK)} {mA:V0} {tl:List NK} :
   h.get? A=ZA {cls:=c0,dict:=dd,data:=.cls cd,slots:=sl}->h.Ns cd.ns mA->(∀n∈calmNames,mA n=ZB)->OTail h tl->OTail h (.ref A::tl)
def OTail.tail(T:OTail h tl):OwnTail h n9 tl:=by
 induction T with
 |base=>exact .base
 |own hA hN hq _ ih=>exact .own hA hN (hq _ (.head _)) ih
variable{a:ZE}{d:Drawn}{dd:Option ZE}{g:Array T2}{nm q:Str}{sn:List Str}{tk:Tok}{y:Option NK}
section
variable {t:Nat}
variable{n:Str}
def G2(hn:n∈calmNames)(T:OTail h tl)(hrest:Vg n9 n=pure y)(hq:Q y ⟨h,g,d,t,os⟩):
  wpAny M A (Vg tl n) Q E ⟨h,g,d,t,os⟩:=by
 induction T with
 |base=>rw[hrest];exact N4 hq
 |own hA hN hni _ ih=>
  rw[UT];refine NQ (wpAny_classOwn_cls hA hN ?_)
  rw[hni n hn];exact ih
def LK:mroOf (.type "ValueError")=pure n9:=by rw[mroOf_type];kernel_rfl
variable {N:ZE}{bs:List NK}{sub:List NK}{mN:V0}
def ym(hn:n∈calmNames)(hC:h.get? C=ZA (Pe nm q C N bs bm hdct sn sub ab col dd k0 k1 k2 k3 k5 newId))(hN:h.Ns N mN)(hmN:∀n∈calmNames,mN n=ZB)(T:OTail h bm)
  (hB:Rq (.type "ValueError") n=pure y) (hq:Q y ⟨h,g,d,t,os⟩):wpAny M A (Rq (.ref C) n) Q E ⟨h,g,d,t,os⟩:=by
 have hrest:Vg n9 n=pure y:=by rw[typeLookup_eq,LK]at hB;exact hB
 rw[typeLookup_eq];refine NQ (wpAny_mroOf_exc hC ?_)
 rw[UT];refine NQ (wpAny_classOwn_exc hC hN ?_)
 rw[hmN n hn];exact G2 hn T hrest hq
def C7:Rq (.type "ValueError") "__class__" =pure (ZA (.builtin "object.__class__")):=by rw[Rj,Qb];kernel_rfl
def yp:Rq (.type "ValueError") "__getattr__" =pure ZB:=by rw[Rj,Qb];kernel_rfl
def ga_V:Slot "ValueError" "__getattribute__" "BaseException.__getattribute__":=.of (owner:="BaseException") (n:="__getattribute__") (by rw[Rj,Qb];kernel_rfl) (by decide+kernel) (by decide+kernel) (by decide+kernel) (by first|exact .inl (by decide+kernel)|exact .inr (by decide+kernel)) (by rw[isSubtype_type];kernel_rfl)
variable {o:Obj}{vs:Array NK}
def GV(hC:h.get? C=ZA (Pe nm q C N bs bm hdct sn sub ab col dd k0 k1 k2 k3 k5 newId))(T:OTail h bm)
  (hx:h.get? a=ZA o) (hc:o.cls=.ref C) (hq:R (.ok (.ret (.ref C))) ⟨h,g,d,t,os⟩):
  codeAny (model prog w) A (.call (.builtin "getset_descriptor.__get__") ⟨[.builtin "object.__class__",.ref a,.ref C],[]⟩) R ⟨h,g,d,t,os⟩:=by
 have hT5:(⟨h,g,d,t,os⟩:NO).TypeIs (.builtin "object.__class__") "getset_descriptor":=RB
 have hcB:(N1 C::bm).contains (.type (".".intercalate ("object.__class__".cutAt '.').dropLast))=ZC:=by
  rw[F.owner_object_class,OW,T.tail.hasType (b:=ZC) (by decide)];rfl
 refine RI TQ.plain F.entry_gs_get (TQ.check _ _ _ _ _ _ _ _ hT5 (F.args_gs_get _ _ _) ?_)
 repeat (any_goals (first|assumption| (with_reducible refine ON hx ?_;rw[hc])| (with_reducible refine PY hC ?_;rw[hcB])|wp_step))
 refine⟨Code.quiet_builtin _ (by decide+kernel),S5 F.entry_object_class ?_⟩
 repeat (any_goals (first|assumption| (with_reducible refine ON hx ?_;rw[hc])|wp_step))
def DJ{nameV:NK}{Q:Unit->NO->Prop}(hC:h.get? C=ZA (Pe nm q C N bs bm hdct sn sub ab col dd k0 k1 k2 k3 k5 newId))(T:OTail h bm)
  (hx:h.get? a=ZA o) (hc:o.cls=.ref C) (hq:Q () ⟨h,g,d,t,os⟩):wpAny M A (UU "BaseException.__getattribute__" ⟨[.ref a,nameV],[]⟩) Q E ⟨h,g,d,t,os⟩:=by
 have hk:builtinKind "BaseException.__getattribute__" =ZA .slot:=by decide+kernel
 have hsplit:splitId "BaseException.__getattribute__" =ZA ("BaseException","__getattribute__"):=by decide+kernel
 have hcB:(N1 C::bm).contains (.type "BaseException")=ZC:=by rw[OW,T.tail.hasType (b:=ZC) (by decide)];rfl
 have ha:=F.args_bexc_ga (.ref a) nameV;simp only[UU,hk,hsplit];refine NQ ?_
 ·unfold isInstance
  repeat (first| (with_reducible refine ON hx ?_;rw[hc])| (with_reducible refine PY hC ?_;rw[hcB])|wp_step)
  exact hq
def Bb{Q:Fin->NO->Prop}(hC:h.get? C=ZA (Pe nm q C N bs bm hdct sn sub ab col dd k0 k1 k2 k3 k5 newId))(hN:h.Ns N mN)
  (hmN:∀n∈calmNames,mN n=ZB) (T:OTail h bm) (hx:h.get? a=ZA o) (hc:o.cls=.ref C) (hd:o.data=.fields vs) (hq:Q (.done (.ret (.ref C))) ⟨h,g,d,t,os⟩):
  wpAny (model prog w) A (Builtin.«object.__getattribute__» ⟨[.ref a,.str "__class__" tk],[]⟩) Q E ⟨h,g,d,t,os⟩:=by
 have hT5:(⟨h,g,d,t,os⟩:NO).TypeIs (.builtin "object.__class__") "getset_descriptor":=RB
 have f5:=RB
 have f6:=TQ.lookup
 have f7:=F.slot_gs_set.lookup
 have hmA:("__class__" : Str)∈calmNames:=.tail _ (.tail _ (.tail _ (.head _)))
 repeat (any_goals (first|assumption| (with_reducible refine ON hx ?_;rw[hc])|with_reducible refine ym hmA hC hN hmN T C7 ?_|wp_step))
 refine GV hC T hx hc ?_
 repeat (any_goals (first|assumption|wp_step))
def Eo(hC:h.get? C=ZA (Pe nm q C N bs bm hdct sn sub ab col dd k0 k1 k2 k3 k5 newId))(hN:h.Ns N mN)
  (hmN:∀n∈calmNames,mN n=ZB) (T:OTail h bm) (hx:h.get? a=ZA o) (hc:o.cls=.ref C) (hd:o.data=.fields vs) (hq:R (.ok (.ret (.ref C))) ⟨h,g,d,t,os⟩):
  codeAny (model prog w) A (.call (.builtin "BaseException.__getattribute__") ⟨[.ref a,.str "__class__" tk],[]⟩) R ⟨h,g,d,t,os⟩:=
 RI ga_V.plain F.entry_bexc_ga (DJ hC T hx hc (Bb hC hN hmN T hx hc hd hq))
def Kl{fill:Bool}{Q:V1}(hC:h.get? C=ZA (Pe nm q C N bs bm hdct sn sub ab col dd k0 k1 k2 k3 k5 newId))(hN:h.Ns N mN)
  (hmN:∀n∈calmNames,mN n=ZB) (T:OTail h bm) (hx:h.get? a=ZA o) (hc:o.cls=.ref C) (hd:o.data=.fields vs) (hq:Q (.ref C) ⟨h,g,d,t,os⟩):
  wpAny (model prog w) A (getAttrBy (.ref a) (.str "__class__" tk) fill expr) Q E ⟨h,g,d,t,os⟩:=by
 have f3:=ga_V.bind (.ref a)
 have hx0:(expr&&onTheHeap (QK "BaseException.__getattribute__"))=ZD:=by cases expr <;> rfl
 have hx2:(QK "BaseException.__getattribute__" == QK "object.__getattribute__")=ZD:=by decide+kernel
 have hx1:(onTheHeap (N1 C)&&QK "BaseException.__getattribute__" == QK "object.__getattribute__")=ZD:=by rw[hx2];rfl
 have hm1:("__getattribute__" : Str)∈calmNames:=.tail _ (.head _)
 have hm2:("__getattr__" : Str)∈calmNames:=.tail _ (.tail _ (.head _))
 repeat (any_goals (first|assumption| (with_reducible refine ON hx ?_;rw[hc])|with_reducible refine ym hm1 hC hN hmN T ga_V.lookup ?_|with_reducible refine ym hm2 hC hN hmN T yp ?_|wp_step))
 refine Eo hC hN hmN T hx hc hd ?_
 repeat (any_goals (first|assumption|wp_step))
def Ep(hC:h.get? C=ZA (Pe nm q C N bs bm hdct sn sub ab col dd k0 k1 k2 k3 k5 newId))(hN:h.Ns N mN)
  (hmN:∀n∈calmNames,mN n=ZB) (T:OTail h bm) (hx:h.get? a=ZA o) (hc:o.cls=.ref C) (hd:o.data=.fields vs) (hq:Q (ZA (.ref C)) ⟨h,g,d,t+1,os⟩):
  wpAny (model prog w) A (getAttr? (.ref a) "__class__") Q E ⟨h,g,d,t,os⟩:=by
 unfold getAttr? getAttrBy?
 repeat (any_goals (first|assumption|with_reducible apply Kl hC hN hmN T hx hc hd|wp_step))
end
variable{D:ZE}{Q:Fin->NO->Prop}
section
variable {t:Nat}
variable {N:ZE}{bs:List NK}{sub:List NK}{mN:V0}
variable {o:Obj}{vs:Array NK}
def AJ{dep:Int}(hx:h.get? a=ZA o)(hc:o.cls=.ref C)(hq:Q (.done (.ret (.bool ZC))) ⟨h,g,d,t,os⟩):
  wpAny (model prog w) A (Builtin.«isinstance.nested» ⟨[.ref a,.ref C,.int dep tk],[]⟩) Q E ⟨h,g,d,t,os⟩:=by
 have e:(N1 C == N1 C)=ZC:=by simp
 repeat (any_goals (first|assumption| (with_reducible refine ON hx ?_;rw[hc])|wp_step))
def Ju{dep:Int}(hC:h.get? C=ZA (Pe nm q C N bs bm hdct sn sub ab col dd k0 k1 k2 k3 k5 newId))(T:OTail h bm)(hx:h.get? a=ZA o)(hc:o.cls=.ref C)
  (hq:Q (.done (.ret (.bool ZC))) ⟨h,g,d,t,os⟩):wpAny (model prog w) A (Builtin.«isinstance.nested» ⟨[.ref a,.type "ValueError",.int dep tk],[]⟩) Q E ⟨h,g,d,t,os⟩:=by
 have e:(N1 C == Rn "ValueError")=ZD:=rfl
 have hty:typeOf (.type "ValueError")=pure (.type "type"):=by kernel_rfl
 have hcB:(N1 C::bm).contains (.type "ValueError")=ZC:=by rw[OW,T.tail.hasType (b:=ZC) (by decide)];rfl
 repeat (any_goals (first|assumption| (with_reducible refine ON hx ?_;rw[hc])| (with_reducible refine PY hC ?_;rw[hcB])|wp_step))
def C0{oD:Obj}{cD:ClassData}{dep:Int}(hC:h.get? C=ZA (Pe nm q C N bs bm hdct sn sub ab col dd k0 k1 k2 k3 k5 newId))(hN:h.Ns N mN)(hmN:∀n∈calmNames,mN n=ZB)(T:OTail h bm)
  (hx:h.get? a=ZA o) (hc:o.cls=.ref C) (hd:o.data=.fields vs) (hD:h.get? D=ZA oD) (hDt:oD.cls=.type "type") (hDd:oD.data=.cls cD) (hne:(N1 C == N1 D)=ZD) (hnb:(N1 C::bm).contains (.ref D)=ZD)
  (hq:Q (.done (.ret (.bool ZD))) ⟨h,g,d,t+1,os⟩):wpAny (model prog w) A (Builtin.«isinstance.nested» ⟨[.ref a,.ref D,.int dep tk],[]⟩) Q E ⟨h,g,d,t,os⟩:=by
 repeat (any_goals (first|assumption| (with_reducible refine ON hx ?_;rw[hc])| (with_reducible refine ON hD ?_;rw[hDt])| (with_reducible refine ON hD ?_;rw[hDd])| (with_reducible refine ON hC ?_)| (with_reducible refine PY hC ?_;rw[hnb])|with_reducible refine Ep hC hN hmN T hx hc hd ?_|wp_step))
end
structure OX (K:NI)(C:ZE)(bm:List NK):Prop where
 at_:∀h:ZH,K.In h->∃nm q N bs hdct sn sub ab col dd k0 k1 k2 k3 k5 mN,h.get? C=ZA (Pe nm q C N bs bm hdct sn sub ab col dd k0 k1 k2 k3 k5 "ValueError.__new__")/\h.Ns N mN/\(∀n∈calmNames,mN n=ZB)/\OTail h bm
def OX.own(O:OX K C bm):OwnExc K C bm:=⟨λh k=>by
 obtain⟨nm,q,N,bs,hdct,sn,sub,ab,col,dd,k0,k1,k2,k3,k5,mN,h1,h2,h3,h4⟩:=O.at_ h k;exact⟨nm,q,N,bs,hdct,sn,sub,ab,col,dd,k0,k1,k2,k3,k5,mN,h1,h2,h3 _ (.head _),h4.tail⟩⟩
variable{Q:VK}{oe:Obj}
section
variable {ev:Array NK}{bmD:List NK}
def tIs(e:ZE)(b:Bool):TE:=λσ H Q=>σ[0]?=ZA (ZA (.ref e))/\Q (.bl b) H
def Dy(hp:(e,oe)∈X.pn)(hc:oe.cls=.ref C)(hd:oe.data=.fields ev)(OC:OX X.K C bm)(OD:OX X.K D bmD)(b:Bool)(hb:(decide (C=D))=b)(hnb:C≠D->bm.contains (.ref D)=ZD)
  (I:Inv X ol σ H s) (q:Q (.bl b) H):wpAny (model X.prog X.w) X.A (call (.builtin "isinstance") [.ref e,.ref D]) (EP X ol σ Q) X.xe s:=by
 have hx:s.heap.get? e=ZA oe:=(I.pin (e,oe) (Ol _ hp)).1;obtain⟨nm,qq,N,bs,hdct,sn,sub,ab,col,dd,k0,k1,k2,k3,k5,mN,hC,hN,hmN,T⟩:=OC.at_ s.heap I.kIn;obtain⟨nm',qq',N',bs',hdct',sn',sub',ab',col',dd',k0',k1',k2',k3',k5',mN',hD,_⟩:=OD.at_ s.heap I.kIn;obtain⟨h,g,d,t,os⟩:=s;refine Ub ?_ (by intro z;cases z)
 by_cases z:C=D
 ·subst z
  have:b=ZC:=by rw[<-hb];simp
  subst this;exact AJ hx hc ⟨.bl ZC,H,I,rfl,q⟩
 ·have:b=ZD:=by rw[<-hb];simp[z]
  subst this;refine C0 hC hN hmN T hx hc hd hD rfl rfl ?_ ?_ ⟨.bl ZD,H,I.tok _,rfl,q⟩
  ·rw[beq_eq_false_iff_ne];exact λy=>z (TH y)
  ·rw[OW,hnb z,Bool.or_false,beq_eq_false_iff_ne]
   exact λy=>z (TH y).symm
def Dz(hp:(e,oe)∈X.pn)(hc:oe.cls=.ref C)(OC:OX X.K C bm)
  (I:Inv X ol σ H s) (q:Q (.bl ZC) H):wpAny (model X.prog X.w) X.A (call (.builtin "isinstance") [.ref e,.type "ValueError"]) (EP X ol σ Q) X.xe s:=by
 have hx:s.heap.get? e=ZA oe:=(I.pin (e,oe) (Ol _ hp)).1;obtain⟨nm,qq,N,bs,hdct,sn,sub,ab,col,dd,k0,k1,k2,k3,k5,mN,hC,hN,hmN,T⟩:=OC.at_ s.heap I.kIn;obtain⟨h,g,d,t,os⟩:=s;refine Ub ?_ (by intro z;cases z)
 exact Ju hC T hx hc ⟨.bl ZC,H,I,rfl,q⟩
def mM{en dn:Str}{p p2:Pos}(hN:X.N[0]?=ZA en)(hv:lJ X.env.scope en)(hp:(e,oe)∈X.pn)(hc:oe.cls=.ref C)(hd:oe.data=.fields ev)(OC:OX X.K C bm)(OD:OX X.K D bmD)(b:Bool)(hb:(decide (C=D))=b)(hnb:C≠D->bm.contains (.ref D)=ZD)
  (hm:X.mg "isinstance" =ZB) (hmD:X.mg dn=ZA (.ref D)) (hg:autoParam (Gl X "isinstance") aqd._auto_1) (hgD:autoParam (Gl X dn) aqd._auto_1) (hde:autoParam ((en == ("__debug__" : Str))=ZD) aqb._auto_1) (hce:autoParam ((en == ("__classdict__" : Str))=ZD) aqb._auto_1) (hdd:autoParam ((dn == ("__debug__" : Str))=ZD) aqb._auto_1)
  (he:autoParam (NW [.Name en p1,.Name dn p2] X.env=(ZD,eval (.Name en p1) X.env)::NW [.Name dn p2] X.env) aqd._auto_1) (hpl:autoParam ((backTo pos (NW [.Name dn p2] X.env)).any (·.1)=ZD) aqd._auto_1)
  (hs:autoParam (NW [.Name dn p2] X.env=(ZD,eval (.Name dn p2) X.env)::NW [] X.env) aqd._auto_1):
  PE X (.Call (.Name "isinstance" p) [.Name en p1,.Name dn p2] [] pos) (tIs e b):=by
 intro ol s σ H Q I ⟨hσ,q⟩;refine Oz (gU I hg hm gp ?_ (by decide) (by decide))
 have hA:PA X [.Name en p1,.Name dn p2] (hV (oQ 0) (hV (tC (.ref D)) vA)):=br (eF hN hv hde hce) (br (zo hgD hmD rfl hdd) dH hs) he;refine PJ (bU (hA pos ol s σ H (λvs H'=>vs=[.ref e,.ref D]/\H'=H) I ⟨.ref e,hσ,rfl,rfl⟩) λus s1 ⟨vs,H1,I1,r1,e1,e2⟩=>?_) he hpl
 subst e1;obtain⟨u,w',rfl,ru,rw'⟩:=vj r1;cases ru;cases rw';subst e2;exact Dy hp hc hd OC OD b hb hnb I1 q
end
def eqB(a b:Bool):MeetsSeq.EqGives (.bool a) (.bool b) (a == b):=λprog w A E s Q h=>(PySem.SeqAt.EqAt.bool_bool a b (A:=A) (s:=s)) prog w E Q h
theorem sS:∀{ks:List Bool}{us:List NK},Vals (ks.map V.bl) us->us=ks.map OI
 |[],us,r=>by cases r;rfl
 |k::ks,us,r=>by
  cases r with
  |cons r1 r2=>cases r1;rw[sS r2];rfl
def mq:NK->Bool
 |.bool b=>b
 |_=>ZD
def Fs:V->List V->Hp->VK->Prop:=λx vs H Q=>∃(l:ZE)(ks:List Bool),x=.ref l/\vs=[.bl ZC]/\H l=ZA (.lst (ks.map V.bl))/\Q (.int (ks.countP id:Nat)) H
def AM:MT X "list.count" Fs:=by
 intro ol s σ H x vs v us Q I rx rv h;obtain⟨l,ks,rfl,rfl,hH,q⟩:=h;cases rx;obtain⟨u,rfl,ru⟩:=rv.one;cases ru;obtain⟨z,its,n,r,hl,e⟩:=I.MZ hH
 have hi:=sS r;subst hi;refine QU F.slot_list_count ⟨_,e,rfl⟩ F.entry_list_count (F.args_list_count_2 _ _) (MeetsSeq.list_count l (ks.map OI).toArray n (.bool ZC) mq λy hy=>?_) ⟨e,?_⟩
 ·have hy':y∈ks.map OI:=by simpa using hy
  obtain⟨k,_,rfl⟩:=Oj.mp hy'
  have:=eqB k ZC;cases k <;> exact this
 ·have hc:(ks.map OI).toArray.toList.countP mq=ks.countP id:=by
   simp only[List.countP_map];rfl
  rw[hc];exact⟨.int _,H,I.tok _,⟨_,rfl⟩,q⟩
def Fp:V->List V->Hp->VK->Prop:=λx vs H Q=>∃(l:ZE)(ks:List Bool)(j:Nat),x=.ref l/\vs=[.bl ZC]/\H l=ZA (.lst (ks.map V.bl))/\ks[j]?=ZA ZC/\(∀m,m<j->ks[m]?=ZA ZD)/\j<=1000/\Q (.int (j:Nat)) H
def AK:MT X "list.index" Fp:=by
 intro ol s σ H x vs v us Q I rx rv h;obtain⟨l,ks,j,rfl,rfl,hH,hj,hno,hs,q⟩:=h;cases rx;obtain⟨u,rfl,ru⟩:=rv.one;cases ru;obtain⟨z,its,n,r,hl,e⟩:=I.MZ hH
 have hi:=sS r;subst hi
 have hjl:j<ks.length:=(NU.mp hj).1
 refine QU Ul ⟨_,e,rfl⟩ TR (Tu _ _) (MeetsSeq.list_index l (ks.map OI).toArray n (.bool ZC) mq (λy hy=>?_) j (by simpa using hjl) (by omega) ?_ ?_) ⟨e,?_⟩
 ·have hy':y∈ks.map OI:=by simpa using hy
  obtain⟨k,_,rfl⟩:=Oj.mp hy'
  have:=eqB k ZC;cases k <;> exact this
 ·have:ks[j]=ZC:=by have:=(NU.mp hj).2;exact this
  simp[this,mq]
 ·intro m hm hmj
  have hmk:m<ks.length:=by simpa using hm
  have:=(NU.mp (hno m hmj)).2
  simp[this,mq]
 ·exact⟨.int _,H,I.tok _,⟨_,rfl⟩,q⟩
abbrev MK(P:N8)(w:OV)(K:NI)(mg:V0)(base:ZH)(N:List Str)(qual:Str)(scope:Q4)(f:ZE)(cd:NK)(A:Oq)(outer:List Env)(s:NO)(H:Hp)(e:ZE)(oe:Obj):Cx:=
 {gn CX0 P w K mg base N qual scope f cd A outer s H E0 with calm:=ZD,pn:=[(e,oe)],xe:=λ_ _=>False}
section
variable {base:ZH}
def yB 
  (S:aA N ps scope) (e0:Env0 P w K mg base A outer s H) (hl:vs.length=ps.length) (r:Vals vs us)
  (x:InCallC s s.heap.objs.size (bindL (envOfC qual scope s.heap.objs.size f cd).kindOf (ps.zip us) λ_=>ZB) (PX (s.heap.objs.size+1) scope.names []) (bindC (envOfC qual scope s.heap.objs.size f cd).kindOf (ps.zip us) λ_=>ZB) s1)
  (he:s.heap.get? e=ZA oe) (hH:H e=ZB) (hf:e∉m6 outer) (hc:∀v,oe.data≠ .cell v):
  Inv (MK P w K mg base N qual scope f cd A outer s H e oe) [] (start N vs) H s1:=by
 have e0':Env0 P w K mg base {A with handled:=ZB} outer s H:=⟨e0.frames,e0.mod,e0.bs,e0.bsz,e0.funs,e0.frf,e0.hok,e0.bare⟩
 have I:=kE (CX:=CX0) (E:=E0) S (A:={A with handled:=ZB}) rfl e0' hl r x
 obtain⟨h1,tk,hs1,hk⟩:=x.done
 have ok:=I.ok;refine⟨⟨ok.mod,ok.kind,ok.glob,ok.blt,ok.above,ok.inj,ok.has,ok.cab,(λz=>by cases z),Ta e0.frames,.inr ⟨rfl,rfl⟩,ok.exf,ok.bs,ok.bsz,ok.noex,ok.exfs,ok.funs,ok.frf⟩,I.os,I.bare,I.base,I.loc,I.cell,I.free,I.freeC,λp hp=>?_,I.hok,I.len⟩
 have hp':p=(e,oe):=by simpa using hp
 subst hp';refine⟨?_,hH,?_,hf,hc⟩
 ·rw[hs1];exact hk e oe he
 ·exact Pf (NY he)
def J1{args:Args}(Fn:L2.Fun K x qual st f fd)(S:aA N ps (aj st))(hlen:vs.length=ps.length)
  (hr:A.depth+3<Q1) (e0:Env0 P w K mg base A outer s H) (hb:R7 s fd args (ps.zip us)) (r:Vals vs us) (he:s.heap.get? e=ZA oe) (hH:H e=ZB) (hf:e∉m6 outer) (hc:∀v,oe.data≠ .cell v)
  (hbody:∀(cdv:NK),∃t,PSs (MK P w K mg base N qual (aj st) f cdv A outer s H e oe) (bD st) t/\t {nx:=λ_ _=>False,rt:=Q} (start N vs) H):
  codeAny (model P w) A (.call (.ref f) args) (CR CX0 outer P w H s Q E0) s:=by
 obtain⟨oc,od,kV,doc,pm,an,cdv,ct,osl,rfl,lk,hcd⟩:=Fn.ex
 have KX:K.In s.heap:=e0.mod.kin.keeps λb o e=>(e0.bs b o e).1
 have lim:s.heap.NoLimit:=e0.mod.nolimit.keeps λb o e=>(e0.bs b o e).1
 have hkind:∀y∈ps.zip us,(aj st).names.lookup y.1=ZA .local\/((aj st).names.lookup y.1=ZA .cell/\((PX (s.heap.objs.size+1) (aj st).names []).lookup y.1).isSome=ZC):=λ⟨n,v⟩ hy=>by
  rcases S.par n (Qy hy).1 with q|q
  ·exact .inl q
  ·exact .inr ⟨q,PZ _ _ _ (.inl q)⟩
 refine QF (by omega) (KX _ _ lk) rfl S.co S.gen rfl (Ra KX hcd) (hb _ _ _ _ ?_)
 refine P3 S.kind hkind λenv hen s1 x=>?_
 subst hen;refine⟨lim.keeps x.toInCall.keep,S2 ?_⟩
 obtain⟨t,ht,hq⟩:=hbody cdv
 have I:=yB S e0 hlen r x he hH hf hc;refine Pr (ht [] s1 (start N vs) H _ I hq) (λfl s' hs=>?_) λe s' hs=>hs.elim
 cases fl with
 |ret u=>
  obtain⟨v,σ',H',J,rv,q⟩:=hs
  exact⟨v,H',J.os,J.bare,J.base,J.hok,rv,q⟩
 |next=>obtain⟨_,_,_,q⟩:=hs;exact q.elim
 |brk=>obtain⟨_,_,_,q⟩:=hs;exact q.elim
 |cont=>obtain⟨_,_,_,q⟩:=hs;exact q.elim
end
def Hl{base:ZH}{L:ZE}{T:Option ZE}{Q:Unit->NO->Prop}(hfr:A.frames=ZA (env::outer))(hl:s.heap.FunFrames base (env::outer))(hf:env.frame=ZA L)
  (F:MB s.heap C e T) (h:∀h' T',EE ((env::outer).filterMap (·.frame)) C e T s.heap h' T'->Q () {s with heap:=h'}):
  wpAny M A (Ve (.ref e) env) (λ_ s'=>wpAny M A (setFlight (.ref e) ZB) Q E s') E s:=by
 generalize hB:SK s.heap (e::(T.toList++(env::outer).filterMap (·.frame)))=B
 have bm:∀b,b∈e::(T.toList++(env::outer).filterMap (·.frame))->B.get? b=ZB:=λb m=>by rw[<-hB];exact RH _ m
 have hl':s.heap.FunFrames B (env::outer):=iC hl λa ha=>bm a (NJ _ (Od _ ha))
 have hst:B.StaysIn s.heap:=λb o q=>by rw[<-hB]at q;exact RZ _ q
 have hen:B.get? e=ZB:=bm e NN
 have main:∀h',Heap.Left B (env::outer) e (.ref C) s.heap h'->Q () {s with heap:=h'}:=λh' ⟨x1,x2,⟨oe,vs,T',oT,ts,he,hc,hd,h1,hnT,hTe,hT,hdT,h3⟩,x4⟩=>by
  refine h h' T' ⟨⟨hTe,oe,vs,he,hc,hd,h1,oT,ts,hT,hdT,h3⟩,?_,λb o n1 n2 n3 q=>?_,λb o m q=>?_⟩
  ·cases q:s.heap.get? T' with
   |none=>exact .inr rfl
   |some o=>
    left
    by_cases z:T'∈e::(T.toList++(env::outer).filterMap (·.frame))
    ·rcases NR.mp z with z|z
     ·exact absurd z hTe
     ·rcases Og.mp z with z|z
      ·cases T with
       |none=>simp at z
       |some t=>simp at z;rw[z]
      ·obtain⟨_,o',ho',hnf⟩:=x2.mem z
       rw[hT]at ho';cases ho';exact absurd hdT (hnf ts)
    ·rw[<-hB,Qr _ q z]at hnT;cases hnT
  ·refine x1 b o ?_
   rw[<-hB];refine Qr _ q λz=>?_
   rcases NR.mp z with z|z
   ·exact n2 z
   ·rcases Og.mp z with z|z
    ·cases T with
     |none=>simp at z
     |some t=>simp at z;exact n3 (by rw[z])
    ·exact n1 z
  ·obtain⟨_,o',ho',hnf⟩:=hl.mem m
   rw[q]at ho';cases ho';exact x4 b o q hnf
 cases T with
 |none=>
  obtain⟨oe,vs,he,hc,hd,h1⟩:=F;unfold Ve;simp only[hf];refine NQ (Qj he hd h1 ?_)
  rw[if_neg (by decide)]
  refine wpAny_newEntry hfr hl' hf he hst hen hd (OY.mp h1).1 λh' x=>main h' ?_
  rw[hc]at x;exact x
 |some t=>
  obtain⟨hte,oe,vs,he,hc,hd,h1,oT,ts,hT,hdT,h3⟩:=F
  have hnT:B.get? t=ZB:=bm t (NJ _ (Ol _ (by simp)))
  unfold Ve;simp only[hf];refine NQ (Qj he hd h1 ?_)
  rw[if_pos (show(N1 t != Ov)=ZC from by simp)]
  refine NQ (Qj hT hdT h3 ?_)
  rw[if_neg (show ¬((Ov == rawInt L)=ZC)from by simp[rawInt])]
  refine NQ (Tj hT hdT (OY.mp h3).1 ?_)
  have other:∀b,b≠t->(s.heap.update t (RL (·.setIfInBounds 3 Ov))).get? b=s.heap.get? b:=λb hb=>Qw _ _ (OZ hb)
  have noRec:∀b o,s.heap.get? b=ZA o->(∀vs,o.data≠ .fields vs)->b≠t:=λb o hb hnf q=>by
   rw[q,hT]at hb;injection hb with hb;subst hb;exact hnf ts hdT
  refine wpAny_newEntry hfr (hl'.of_keeps λb o hb hnf=>⟨o,(other b (noRec b o hb hnf)).trans hb,rfl⟩) hf ((other e (OZ hte)).trans he)
   (λb o hbo=>(other b λq=>by rw[q,hnT]at hbo;cases hbo).trans (hst b o hbo)) hen hd (OY.mp h1).1
   λh' x=>main h' ?_
  obtain⟨x1,x2,x3,x4⟩:=x;rw[hc]at x3;exact⟨x1,x2,x3,λb o hb hnf=>x4 b o ((other b (noRec b o hb hnf)).trans hb) hnf⟩
variable{h':ZH}
def Inv.gone{T':ZE}{T:Option ZE}(I:Inv X ol σ H s)(hst:X.stack=X.env::X.outer)(hfe:X.env.frame=ZA X.env.locals)(hcl:∀x c,X.env.cells.lookup x≠ZA c)(hex:X.ex=[])
  (g:EE ((X.env::X.outer).filterMap (·.frame)) C e T s.heap h' T') (he:H e=ZB) (heo:X.s₀.heap.get? e=ZB) (hT:∀t,T=ZA t->H t=ZB/\X.s₀.heap.get? t=ZB) (hp:∀p∈X.pn++ol,p.1≠e/\T≠ZA p.1):
  Inv X ol σ H {s with heap:=h'}:=by
 have mem:∀b,b∈(X.env::X.outer).filterMap (·.frame)↔b=X.env.locals\/b∈X.fs:=λb=>by
  rw[O8,hfe];exact NR
 have out:∀b o,X.s₀.heap.get? b=ZA o->b≠X.env.locals:=λb o q z=>by
  have h1:=NY q
  have h2:=I.ok.above;rw[z]at h1;exact absurd (N6 h1 h2) (Oo _)
 have ne:∀b o,X.s₀.heap.get? b=ZA o->b≠e/\T≠ZA b:=λb o q=>⟨λz=>(by subst z;rw[heo]at q;cases q),λz=>(by rw[(hT b z).2]at q;cases q)⟩
 have fr:∀b,b∈(X.env::X.outer).filterMap (·.frame)->H b=ZB:=λb z=>I.KM b (by rw[hst];exact z)
 have keepH:∀b u,H b≠ZB->s.heap.get? b=ZA u->h'.get? b=ZA u:=λb u hb q=>by
  refine g.keep b u (λz=>hb (fr b z)) (λz=>hb (by rw[z];exact he)) (λz=>hb (hT b z).1) q
 refine⟨I.ok,I.os,I.bare,⟨λb o q n hb hx=>?_,λb o q n hb hx=>?_,I.base.free,λb o q hx=>?_,I.base.tups,I.base.frzs,I.base.tbls⟩,?_,λx c z=>absurd z (hcl x c),I.free,I.freeC,λp hp'=>?_,λa o q=>?_,I.len⟩
 ·exact g.keep b o (λz=>((mem b).mp z).elim (out b o q) hb) (ne b o q).1 (ne b o q).2 (I.base.keep b o q n hb hx)
 ·obtain⟨sl,q1⟩:=I.base.slot b o q n hb hx
  obtain⟨sl',q2⟩:=g.slot b _ ((mem b).mpr (.inr hb)) q1;exact⟨sl',q2⟩
 ·obtain⟨o',q1⟩:=I.base.there b o q hx
  by_cases z:b∈(X.env::X.outer).filterMap (·.frame)
  ·obtain⟨sl,q2⟩:=g.slot b o' z q1
   exact⟨_,q2⟩
  ·exact⟨o',g.keep b o' z (ne b o q).1 (ne b o q).2 q1⟩
 ·obtain⟨m,⟨o,es,ep,ho,hd,r⟩,hl⟩:=I.loc
  obtain⟨sl,q2⟩:=g.slot X.env.locals o ((mem _).mpr (.inl rfl)) ho;refine⟨m,⟨_,es,ep,q2,hd,r⟩,λi x v a1 a2 a3=>?_⟩
  obtain⟨u,ru,lk⟩:=hl i x v a1 a2 a3;refine⟨u,ru,?_⟩
  rcases lk with z|⟨_,c,z,_⟩
  ·exact .inl z
  ·exact absurd z (hcl x c)
 ·obtain⟨b1,b2,b3,b4,b5⟩:=I.pin p hp'
  exact⟨g.keep p.1 p.2 (λz=>((mem _).mp z).elim b3 b4) (hp p hp').1 (hp p hp').2 b1,b2,b3,b4,b5⟩
 ·refine(I.hok a o q).M0 (λb u hb z=>keepH b u ?_ z) (λ_ z=>z) λ_ _ z=>z
  rcases hb with rfl|hb
  ·rw[q];simp
  ·rw[hb];simp
variable{N:ZE}{dd':Option ZE}{sn':List Str}
section
variable {t:Nat}
variable {bs:List NK}{sub:List NK}
variable {nm' q':Str}{N':ZE}{bm':List NK}{k0' k1' k2' k3' k5':Option NK}{newId':String}
def rY{Q:Bool->NO->Prop}(hC:h.get? C=ZA (Pe nm q C N bs bm hdct sn sub ab col dd k0 k1 k2 k3 k5 newId))(hD:h.get? D=ZA (Pe nm' q' D N' bs' bm' hdct' sn' sub' ab' col' dd' k0' k1' k2' k3' k5' newId'))
  (he:h.get? e=ZA oe) (hcls:oe.cls=.ref C) (hb:bm'.contains (.type "BaseException")=ZC) (hin:(N1 C::bm).contains (.ref D)=ZC) (hq:Q ZC ⟨h,g,d,t,os⟩):wpAny M A (excMatches (.ref e) (.ref D)) Q E ⟨h,g,d,t,os⟩:=by
 have hcB:(N1 D::bm').contains (.type "BaseException")=ZC:=by rw[OW,hb,UD]
 have f:=tc_notTuple;unfold excMatches
 repeat (first| (with_reducible refine ON he ?_;rw[hcls])|with_reducible refine ON hD ?_| (with_reducible refine PY hD ?_;rw[hcB])| (with_reducible refine PY hC ?_;rw[hin])|wp_step)
 exact hq
end
abbrev uW(X:Cx)(e:ZE)(oe:Obj):Cx:={X with A:=X.A.mark (ZA (.ref e)),calm:=ZD,pn:=(e,oe)::X.pn,xe:=λ_ _=>False}
def oy(I:Inv X ol σ H s)(he:s.heap.get? e=ZA oe)(hH:H e=ZB)(hne:e≠X.env.locals)(hf:e∉X.fs)(hc:∀v,oe.data≠ .cell v):Inv (uW X e oe) ol σ H s:=by
 have ok:=I.ok;refine⟨⟨ok.mod,ok.kind,ok.glob,ok.blt,ok.above,ok.inj,ok.has,ok.cab,(λz=>by cases z),?_,ok.stk,ok.exf,ok.bs,ok.bsz,ok.noex,ok.exfs,ok.funs,ok.frf⟩,I.os,I.bare,I.base,I.loc,I.cell,I.free,I.freeC,λp hp=>?_,I.hok,I.len⟩
 ·exact ok.frames
 ·rcases NR.mp (show p∈(e,oe)::(X.pn++ol)from hp)with z|z
  ·subst z;exact⟨he,hH,hne,hf,hc⟩
  ·exact I.pin p z
def zQ(ok:X.Ok)(I:Inv (uW X e oe) ol σ H s):Inv X ol σ H s:=
 ⟨ok,I.os,I.bare,I.base,I.loc,I.cell,I.free,I.freeC,λp hp=>I.pin p (NJ _ hp),I.hok,I.len⟩
def Inv.forget{tk:Nat}{m:V0}(I:Inv X ol σ H s)(hcl:∀x c,X.env.cells.lookup x≠ZA c)(hn:h'.Ns X.env.locals m)(hs:Q7 X.env.locals s.heap h'):Inv X ol (N9 X.N.length ZB) H {s with heap:=h',toks:=tk}:=by
 have out:∀b o,X.s₀.heap.get? b=ZA o->b≠X.env.locals:=λb o q z=>by
  have h1:=NY q
  have h2:=I.ok.above;rw[z]at h1;exact absurd (N6 h1 h2) (Oo _)
 have kp:∀b o,b≠X.env.locals->s.heap.get? b=ZA o->h'.get? b=ZA o:=λb o n q=>hs.extBut b o n q
 refine⟨I.ok,I.os,I.bare,⟨λb o q n hb hx=>kp b o (out b o q) (I.base.keep b o q n hb hx),λb o q n hb hx=>?_,I.base.free,λb o q hx=>?_,I.base.tups,I.base.frzs,I.base.tbls⟩,⟨m,hn,λi x v a1 a2 a3=>?_⟩,λx c z=>absurd z (hcl x c),I.free,I.freeC,λp hp=>?_,λa o q=>?_,by simp⟩
 ·obtain⟨sl,q1⟩:=I.base.slot b o q n hb hx
  exact⟨sl,kp b _ (out b o q) q1⟩
 ·obtain⟨o',q1⟩:=I.base.there b o q hx
  exact⟨o',kp b o' (out b o q) q1⟩
 ·rw[Pd]at a2
  split at a2 <;> cases a2
 ·obtain⟨b1,b2,b3,b4,b5⟩:=I.pin p hp
  exact⟨kp p.1 p.2 b3 b1,b2,b3,b4,b5⟩
 ·have nl:∀b u,H b=ZA u->b≠X.env.locals:=λb u q z=>by rw[z,I.free]at q;cases q
  refine(I.hok a o q).M0 (λb u hb z=>kp b u ?_ z) (λ_ z=>z) λ_ _ z=>z
  rcases hb with rfl|hb
  ·exact nl _ _ q
  ·exact nl _ _ hb
def mF(X:Cx)(i:Nat)(suite:List ZF)(CE:ZE)(h:Str->Rs T):Prop:=
 ∀(c:Str)(C:ZE)(t:T),X.mg c=ZA (.ref C)->h c=.ok t->∃bm,OX X.K C bm/\(N1 C::bm).contains (.ref CE)=ZC ∧
  ∀(e:ZE)(oe:Obj)(ev:Array NK),oe.cls=.ref C->oe.data=.fields ev->∀(ol:V2)(s:NO)(σ:L2.St)(H:Hp)(O:Ow)(Q:VK),Inv (uW X e oe) ol σ H s->H e=ZB->e∉m6 X.stack->σ[i]?=ZA (ZA (.ref e))->(∀p,H p=ZB->¬ O p) →
   (∀v H',Same H H'->Rep X.K O H' t v->Q v H')->wpAny (model X.prog X.w) (uW X e oe).A (execs suite X.env) (SP (uW X e oe) ol {nx:=λ_ _=>False,rt:=Q}) (λ_ _=>False) s
def Inv.Nm(ol:V2)(I:Inv X ol σ H s):Inv {X with pn:=X.pn++ol} [] σ H s:=
 ⟨⟨I.ok.mod,I.ok.kind,I.ok.glob,I.ok.blt,I.ok.above,I.ok.inj,I.ok.has,I.ok.cab,I.ok.hd,I.ok.frames,I.ok.stk,I.ok.exf,I.ok.bs,I.ok.bsz,I.ok.noex,I.ok.exfs,I.ok.funs,I.ok.frf⟩,I.os,I.bare,I.base,I.loc,I.cell,I.free,I.freeC,λp hp=>I.pin p (by rw[Oi]at hp;exact hp),I.hok,I.len⟩
def Inv.Nl{pins1:V2}{xe:V1}(I:Inv {X with pn:=X.pn++ol,xe:=xe} pins1 σ H s):Inv X ol σ H s:=
 ⟨⟨I.ok.mod,I.ok.kind,I.ok.glob,I.ok.blt,I.ok.above,I.ok.inj,I.ok.has,I.ok.cab,I.ok.hd,I.ok.frames,I.ok.stk,I.ok.exf,I.ok.bs,I.ok.bsz,I.ok.noex,I.ok.exfs,I.ok.funs,I.ok.frf⟩,I.os,I.bare,I.base,I.loc,I.cell,I.free,I.freeC,λp hp=>I.pin p (Ol _ hp),I.hok,I.len⟩
def Kn:OF "ValueError" =ZA (.type "ValueError"):=by decide+kernel
def Jd{en:Str}{p p2:Pos}(hN:X.N[0]?=ZA en)(hv:lJ X.env.scope en)(hp:(e,oe)∈X.pn)(hc:oe.cls=.ref C)(OC:OX X.K C bm)
  (hm:X.mg "isinstance" =ZB) (hmD:X.mg "ValueError" =ZB) (hg:autoParam (Gl X "isinstance") aqd._auto_1) (hgD:autoParam (Gl X "ValueError") aqd._auto_1) (hde:autoParam ((en == ("__debug__" : Str))=ZD) aqb._auto_1) (hce:autoParam ((en == ("__classdict__" : Str))=ZD) aqb._auto_1)
  (he:autoParam (NW [.Name en p1,.Name "ValueError" p2] X.env=(ZD,eval (.Name en p1) X.env)::NW [.Name "ValueError" p2] X.env) aqd._auto_1) (hpl:autoParam ((backTo pos (NW [.Name "ValueError" p2] X.env)).any (·.1)=ZD) aqd._auto_1)
  (hs:autoParam (NW [.Name "ValueError" p2] X.env=(ZD,eval (.Name "ValueError" p2) X.env)::NW [] X.env) aqd._auto_1):
  PE X (.Call (.Name "isinstance" p) [.Name en p1,.Name "ValueError" p2] [] pos) (tIs e ZC):=by
 intro ol s σ H Q I ⟨hσ,q⟩;refine Oz (gU I hg hm gp ?_ (by decide) (by decide))
 have hA:PA X [.Name en p1,.Name "ValueError" p2] (hV (oQ 0) (hV (tC (.ty "ValueError")) vA)):=br (eF hN hv hde hce) (br (zr (v:=.ty "ValueError") hgD hmD Kn rfl) dH hs) he;refine PJ (bU (hA pos ol s σ H (λvs H'=>vs=[.ref e,.ty "ValueError"]/\H'=H) I ⟨.ref e,hσ,rfl,rfl⟩) λus s1 ⟨vs,H1,I1,r1,e1,e2⟩=>?_) he hpl
 subst e1;obtain⟨u,w',rfl,ru,rw'⟩:=vj r1;cases ru;cases rw';subst e2;exact Dz hp hc OC I1 q
def LH{ob:NK}{oe:Option ZE}{es:Array DictEntry}{oz:Array (Option NK)}(r:K.lookup N=ZA ⟨ob,oe,.dict es n,oz⟩)(s:(es.toList.all λe=>BQ e.key)=ZC)
  (u0:Q6 K N "__init__" =ZA ZB) (u1:Q6 K N "__getattribute__" =ZA ZB) (u2:Q6 K N "__getattr__" =ZA ZB) (u3:Q6 K N "__class__" =ZA ZB):
  ∀h:ZH,K.In h->∃mN,h.Ns N mN/\∀n∈calmNames,mN n=ZB:=λh k=>by
 refine⟨nsFind es,⟨_,es,n,k _ _ r,rfl,λe he=>?_,λ_=>rfl⟩,λx hx=>?_⟩
 ·have:=Ob.mp s e (by simpa using he)
  cases q:e.key <;> rw[q]at this <;> first|exact⟨_,_,rfl⟩|cases this
 ·have key:∀x,Q6 K N x=ZA ZB->nsFind es x=ZB:=λx u=>by
   unfold Q6 at u;rw[r]at u;simp only at u
   split at u
   ·cases u
   ·rename_i he
    unfold nsFind findBy;rw[<-TK,he];rfl
  unfold calmNames at hx;simp only[NR,Pk,or_false]at hx;rcases hx with rfl|rfl|rfl|rfl
  ·exact key _ u0
  ·exact key _ u1
  ·exact key _ u2
  ·exact key _ u3
section
variable {bs:List NK}{sub:List NK}
variable {nm' q':Str}{N':ZE}{k0' k1' k2' k3' k5':Option NK}
def F2(w:K.lookup C=ZA (Pe nm q C N bs n9 hdct sn sub ab col dd k0 k1 k2 k3 k5 "ValueError.__new__"))(ns:∀h:ZH,K.In h->∃mN,h.Ns N mN/\∀n∈calmNames,mN n=ZB):OX K C n9:=⟨λh k=>by
 obtain⟨mN,h1,h2⟩:=ns h k;exact⟨nm,q,N,bs,hdct,sn,sub,ab,col,dd,k0,k1,k2,k3,k5,mN,k _ _ w,h1,h2,.base⟩⟩
def CL(w:K.lookup C=ZA (Pe nm q C N bs (.ref D::n9) hdct sn sub ab col dd k0 k1 k2 k3 k5 "ValueError.__new__"))(ns:∀h:ZH,K.In h->∃mN,h.Ns N mN/\∀n∈calmNames,mN n=ZB)
  (wD:K.lookup D=ZA (Pe nm' q' D N' bs' n9 hdct' sn' sub' ab' col' dd' k0' k1' k2' k3' k5' "ValueError.__new__")) (nsD:∀h:ZH,K.In h->∃mN,h.Ns N' mN/\∀n∈calmNames,mN n=ZB):OX K C (.ref D::n9):=⟨λh k=>by
 obtain⟨mN,h1,h2⟩:=ns h k;obtain⟨mD,d1,d2⟩:=nsD h k;exact⟨nm,q,N,bs,hdct,sn,sub,ab,col,dd,k0,k1,k2,k3,k5,mN,k _ _ w,h1,h2,.own (k _ _ wD) d1 d2 .base⟩⟩
end
def Hk(h:Room k A):A.depth+3<Q1:=by have:=h.dp;omega
end Tr
variable{Q:V1}
namespace L2
open PySem PySem.Spec PyProof.Rows
variable{y:V}
section
variable {κ:Type}[DecidableEq κ]
def iY(kvs:List (κ×V))(k:κ):Option V:=(kvs.find? λkv=>decide (kv.1=k)).map (·.2)
def dG(kvs:List (κ×V))(k:κ)(v:V):List (κ×V):=
 if (kvs.any λkv=>decide (kv.1=k))=ZC then kvs.map (λkv=>if kv.1=k then(kv.1,v)else kv)else kvs++[(k,v)]
def BH{k:κ}:iY ([]:List (κ×V)) k=ZB:=rfl
def gI{p:κ×V}{r:List (κ×V)}{k:κ}(e:p.1=k):iY (p::r) k=ZA p.2:=by simp[iY,QB,e]
def gJ{p:κ×V}{r:List (κ×V)}{k:κ}(e:¬ p.1=k):iY (p::r) k=iY r k:=by simp[iY,QB,e]
theorem vm(k:κ):∀kvs:List (κ×V),(kvs.any λkv=>decide (kv.1=k))=(iY kvs k).isSome
 |[] =>rfl
 |p::r=>by
  rw[P5]
  by_cases e:p.1=k
  ·simp only[gI e,decide_eq_true e,UE,TN]
  ·rw[gJ e,decide_eq_false e,Sw];exact vm k r
def ie(kvs:List (κ×V))(k:κ)(v:V):(dG kvs k v).length<=kvs.length+1:=by
 unfold dG;split
 ·rw[NP];omega
 ·rw[NT,NS,U5];omega
def RelO.Nh{o:Option V}{u:Option NK}(r:RelO o u):o.isSome=u.isSome:=by
 cases o with
 |none=>cases u with
  |none=>rfl
  |some _=>exact(show False from r).elim
 |some _=>cases u with
  |none=>exact(show False from r).elim
  |some _=>rfl
def RelO.getD{o:Option V}{u:Option NK}{d:V}{d':NK}(r:RelO o u)(rd:RelV d d'):RelV (o.getD d) (u.getD d'):=by
 cases o with
 |none=>cases u with
  |none=>exact rd
  |some _=>exact(show False from r).elim
 |some _=>cases u with
  |none=>exact(show False from r).elim
  |some _=>exact r
def KV.val{kvs:List (κ×V)}{vs:List (κ×NK)}(r:KV kvs vs)(k:κ):RelO (iY kvs k) (valueAt vs k):=by
 unfold KV at r
 induction r with
 |nil=>exact Qm
 |@cons p q ps qs h t ih=>
  obtain⟨h1,h2⟩:=h
  by_cases e:p.1=k
  ·have e':q.1=k:=h1.symm.trans e
   have b:valueAt (q::qs) k=ZA q.2:=by simp[valueAt,QB,e']
   rw[gI e,b];exact h2
  ·have e':¬ q.1=k:=λz=>e (h1.trans z)
   have b:valueAt (q::qs) k=valueAt qs k:=by simp[valueAt,QB,e']
   rw[gJ e,b];exact ih
def KV.any{kvs:List (κ×V)}{vs:List (κ×NK)}(r:KV kvs vs)(k:κ):(kvs.any λkv=>decide (kv.1=k))=vs.any λkv=>decide (kv.1=k):=by
 unfold KV at r
 induction r with
 |nil=>rfl
 |cons h t ih=>rw[P5,P5,ih,h.1]
def KV.Nu{kvs:List (κ×V)}{vs:List (κ×NK)}(r:KV kvs vs)(k:κ){u:NK}(ry:RelV y u):
  KV (kvs.map λkv=>if kv.1=k then(kv.1,y)else kv) (vs.map λkv=>if kv.1=k then(kv.1,u)else kv):=by
 unfold KV at r ⊢
 induction r with
 |nil=>exact .nil
 |@cons p q ps qs h t ih=>
  rw[NM,NM];refine .cons ?_ ih
  obtain⟨h1,h2⟩:=h
  by_cases e:p.1=k
  ·rw[if_pos e,if_pos (h1.symm.trans e)];exact⟨h1,ry⟩
  ·rw[if_neg e,if_neg (λz=>e (h1.trans z))];exact⟨h1,h2⟩
def KV.put{kvs:List (κ×V)}{vs:List (κ×NK)}(r:KV kvs vs)(k:κ){u:NK}(ry:RelV y u):KV (dG kvs k y) (stored vs k u):=by
 unfold dG stored;rw[r.any k]
 by_cases e:(vs.any λkv=>decide (kv.1=k))=ZC
 ·rw[if_pos e,if_pos e];exact r.Nu k ry
 ·rw[if_neg e,if_neg e];exact Paired.snoc r ⟨rfl,ry⟩
def KV.length{kvs:List (κ×V)}{vs:List (κ×NK)}(r:KV kvs vs):kvs.length=vs.length:=Sv r
end
def zO{k:Key}{u:NK}(r:RelV (kV k) u):(cT P w).is k u=ZC:=by
 cases k with
 |inl i=>obtain⟨t,e⟩:=(show ∃t,u=Pv i t from r);subst e;exact wG P w i t
 |inr x=>obtain⟨t,e⟩:=(show ∃t,u=Pw x t from r);subst e;exact wC P w x t
theorem sf:∀{ks:List Key}{us:List NK},Vals (ks.map kV) us->ItemsAre (cT P w) ks us
 |[],_,r=>by rw[SN]at r;cases r;exact .nil
 |k::ks,_,r=>by
  rw[NM]at r
  cases r with
  |cons h t=>exact .cons (zO h) (sf t)
abbrev KT(H:Hp):List (List Key×V)->List (List Key×ZE×NK)->Prop:=Vi λp q=>p.1=q.1/\H q.2.1=ZA (.tup (p.1.map kV))/\RelV p.2 q.2.2
variable{H:Hp}{kvs:List (List Key×V)}{xs:List (List Key×ZE×NK)}
def KT.val(r:KT H kvs xs)(k:List Key):RelO (iY kvs k) ((atKey xs k).map (·.2)):=by
 induction r with
 |nil=>exact Qm
 |@cons p q ps qs h t ih=>
  obtain⟨h1,_,h2⟩:=h
  by_cases e:p.1=k
  ·have e':q.1=k:=h1.symm.trans e
   have b:atKey (q::qs) k=ZA q.2:=by simp[atKey,QB,e']
   rw[gI e,b];exact h2
  ·have e':¬ q.1=k:=λz=>e (h1.trans z)
   have b:atKey (q::qs) k=atKey qs k:=by simp[atKey,QB,e']
   rw[gJ e,b];exact ih
def KT.Nu(r:KT H kvs xs)(k:List Key){u:NK}(ry:RelV y u):
  KT H (kvs.map λkv=>if kv.1=k then(kv.1,y)else kv) (xs.map (putAt k u)):=by
 induction r with
 |nil=>exact .nil
 |@cons p q ps qs h t ih=>
  rw[NM,NM];refine .cons ?_ ih
  obtain⟨h1,h2,h3⟩:=h;unfold putAt
  by_cases e:p.1=k
  ·rw[if_pos e,if_pos (h1.symm.trans e)];exact⟨h1,h2,ry⟩
  ·rw[if_neg e,if_neg (λz=>e (h1.trans z))];exact⟨h1,h2,h3⟩
variable{b:ZE}
def KT.put(r:KT H kvs xs)(k:List Key){u:NK}(hb:H b=ZA (.tup (k.map kV)))(ry:RelV y u):
  KT H (dG kvs k y) (storedH xs k b u):=by
 have e:(kvs.any λkv=>decide (kv.1=k))=(atKey xs k).isSome:=by
  rw[vm,(r.val k).Nh,Option.isSome_map]
 unfold dG storedH;rw[e]
 by_cases q:(atKey xs k).isSome=ZC
 ·rw[if_pos q,if_pos q];exact r.Nu k ry
 ·rw[if_neg q,if_neg q];exact Paired.snoc r ⟨rfl,hb,ry⟩
variable{H':Hp}
def KT.keeps(r:KT H kvs xs)(ht:∀b ys,H b=ZA (.tup ys)->H' b=ZA (.tup ys)):KT H' kvs xs:=
 Paired.Nq r λ_ _ z=>⟨z.1,ht _ _ z.2.1,z.2.2⟩
variable{a:ZE}
section
variable {h:ZH}
def vR{u:HO}(ok:HOk P w H h)(e:Rd H a u):ObjOk P w H h a u:=e.ok ok
def xc{kvs:List (Key×V)}(ok:HOk P w H h)(e:Rd H a (.dK kvs)):kvs.length<=sizeLine/\(a == QR)=ZD/\∃vs,KV kvs vs/\h.DictOf (cT P w) a vs:=
 show ObjOk P w H h a (.dK kvs)from vR ok e
def Mu{kvs:List (Key×V)}(ok:HOk P w H h)(e:H a=ZA (.dK kvs)):kvs.length<=sizeLine/\(a == QR)=ZD/\∃vs,KV kvs vs/\h.DictOf (cT P w) a vs:=xc ok (.inl e)
def pW{ks:List Key}(ok:HOk P w H h)(e:H a=ZA (.tup (ks.map kV))):(Sm (cT P w)).is h ks a:=by
 obtain⟨_,its,r,o,h1,h2,n,h3⟩:=(show ObjOk P w H h a (.tup (ks.map kV))from ok a _ e)
 exact⟨o,its.toArray,n,h1,h2,h3,by simpa using sf r⟩
def w9(ok:HOk P w H h)(e:Rd H a (.dT kvs)):kvs.length<=sizeLine/\(a == QR)=ZD ∧
  ∃xs,KT H kvs xs/\h.DictOfH (Sm (cT P w)) a xs:=by
 obtain⟨z,y,xs,r,o,es,ep,h1,h2,h3,h4,h5⟩:=(show ObjOk P w H h a (.dT kvs)from vR ok e)
 refine⟨z,y,xs,r,o,es,ep,h1,h2,h3,h4,λx hx=>?_,h5⟩
 have all:∀{l:List (List Key×V)}{m:List (List Key×ZE×NK)},KT H l m->∀x∈m,(Sm (cT P w)).is h x.1 x.2.1:=by
  intro l m q
  induction q with
  |nil=>intro x hx;exact nomatch hx
  |@cons p q ps qs hq t ih=>
   intro x hx;rcases NR.mp hx with e|hx
   ·subst e
    exact pW ok (by rw[<-hq.1];exact hq.2.1)
   ·exact ih x hx
 exact all r x hx
def Ef(ok:HOk P w H h)(e:H a=ZA (.dT kvs)):kvs.length<=sizeLine/\(a == QR)=ZD ∧
  ∃xs,KT H kvs xs/\h.DictOfH (Sm (cT P w)) a xs:=w9 ok (.inl e)
end
def DGet(H:Hp)(a:ZE)(y:V)(r:Option V):Prop:=
 (∃kvs k,Rd H a (.dK kvs)/\y=kV k/\r=iY kvs k)\/∃kvs k b,Rd H a (.dT kvs)/\y=.ref b/\H b=ZA (.tup (k.map kV))/\r=iY kvs k
def DPut(H:Hp)(a:ZE)(y v:V)(H':Hp):Prop:=
 (∃kvs k,H a=ZA (.dK kvs)/\y=kV k/\kvs.length<sizeLine/\H'=upd H a (.dK (dG kvs k v))) ∨
 ∃kvs k b,H a=ZA (.dT kvs)/\y=.ref b/\H b=ZA (.tup (k.map kV))/\kvs.length<sizeLine/\H'=upd H a (.dT (dG kvs k v))
variable{k:List Key}
def DGet.t(e:H a=ZA (.dT kvs))(eb:H b=ZA (.tup (k.map kV))):DGet H a (.ref b) (iY kvs k):=.inr ⟨kvs,k,b,.inl e,rfl,eb,rfl⟩
def DPut.t{v:V}(e:H a=ZA (.dT kvs))(eb:H b=ZA (.tup (k.map kV)))(hl:kvs.length<sizeLine):
  DPut H a (.ref b) v (upd H a (.dT (dG kvs k v))):=.inr ⟨kvs,k,b,e,rfl,eb,hl,rfl⟩
variable{X:Cx}{h':ZH}{ol:V2}{σ:St}
section
variable {v:V}{u r:NK}{o:Option V}
def Inv.big(I:Inv X ol σ H s):QR<s.heap.objs.size:=by
 have h:Ox<s.heap.objs.size:=(I.mod.glob.keeps I.bk).lt;exact Nat.lt_trans (by decide) h
def A8(hu:A.units+1<cLine)(I:Inv X ol σ H s)(g:DGet H a y (ZA v))(ry:RelV y u)(h:∀w' s',Inv X ol σ H s'->RelV v w'->Q w' s'):
  wpAny (model X.prog X.w) A (getItem (.ref a) u) Q E s:=by
 rcases g with⟨kvs,k,e,ey,l⟩|⟨kvs,k,b,e,ey,eb,l⟩
 ·subst ey
  obtain⟨z,hd,vs,rel,dd⟩:=xc I.hok e;obtain⟨w',hw,rw'⟩:=RelO.some_of (v:=v) (o:=valueAt vs k) (by rw[l];exact rel.val k)
  exact wpAny_getItem_of (zO ry) dd.mapOf hw (h w' _ (I.tok _) rw')
 ·subst ey
  cases (show u=N1 b from ry)
  obtain⟨z,hd,xs,rel,dd⟩:=w9 I.hok e;obtain⟨w',hw,rw'⟩:=RelO.some_of (v:=v) (o:=(atKey xs k).map (·.2)) (by rw[l];exact rel.val k)
  obtain⟨p,hp,hp2⟩:=Qx.mp hw;refine wpAny_getItem_heap (Rk hu) (pW I.hok eb) dd hp ?_
  rw[hp2];exact h w' _ (I.tok _) rw'
def uV{ob:HO}(I:Inv X ol σ H s)(mu:MA (H a))(hs:Q7 a s.heap h')(he:∃q,h'.get? a=ZA q)(new:ObjOk X.prog X.w (upd H a ob) h' a ob):
  Inv X ol σ (upd H a ob) {s with heap:=h',toks:=t'}:=
 I.write (x:=a) (e:=a) mu (.inl rfl) (λb q hb z=>(hs.2 b hb).trans z) he new
def Ke{kvs:List (Key×V)}{vs:List (Key×NK)}(z:kvs.length<=sizeLine)(hd:(a == QR)=ZD)(rel:KV kvs vs)(dd:h'.DictOf (cT P w) a vs):
  ObjOk P w H' h' a (.dK kvs):=⟨z,hd,vs,rel,dd⟩
def A7{Q:Unit->NO->Prop}(hu:A.units+1<cLine)(I:Inv X ol σ H s)(g:DPut H a y v H')(ry:RelV y u)(rv:RelV v r)(h:∀s',Inv X ol σ H' s'->Q () s'):
  wpAny (model X.prog X.w) A (setItem (.ref a) u r) Q E s:=by
 rcases g with⟨kvs,k,e,ey,l,eH⟩|⟨kvs,k,b,e,ey,eb,l,eH⟩
 ·subst ey eH
  obtain⟨z,hd,vs,rel,dd⟩:=Mu I.hok e
  have hz:vs.length<=sizeLine:=by rw[<-rel.length];exact z
  have hl:(dG kvs k v).length<=sizeLine:=by have:=ie kvs k v;omega
  refine wpAny_setItem_pairs (hsz:=hz) (zO ry) dd λh' dd' hs=>h _ ?_
  have he:∃q,h'.get? a=ZA q:=let ⟨q,_,_,hq,_⟩:=dd';⟨q,hq⟩
  exact uV I (by rw[e];exact Qm) hs he (Ke hl hd (rel.put k rv) dd')
 ·subst ey eH
  cases (show u=N1 b from ry)
  obtain⟨z,hd,xs,rel,dd⟩:=Ef I.hok e
  have hz:xs.length<=sizeLine:=by rw[<-Sv rel];exact z
  have hl:(dG kvs k v).length<=sizeLine:=by have:=ie kvs k v;omega
  refine wpAny_setItem_heap (hsz:=hz) (Rk hu) (pW I.hok eb) dd λh' dd' hs=>h _ ?_
  obtain⟨q,es,ep,hq,h2,h3,h4,_,h5⟩:=dd';refine uV I (by rw[e];exact Qm) hs ⟨q,hq⟩ ⟨hl,hd,_,(rel.put k eb rv).keeps λc ys ec=>?_,q,es,ep,hq,h2,h3,h4,h5⟩
  rw[aB (jQ ec e (λz=>nomatch z))]
  exact ec
end
def Bk(i:ZG):Prop:=∀ov iv,TC i ZD ov iv=operate [ov,iv] (getItem ov iv)
variable{pos:Pos}{value:ZG}
def Fd{env:Env}{slice:ZG}{T id:String}
  (hl:Rq (.type T) "__getitem__" =pure (ZA (.builtin id))) (hs:Bk slice)
  (h:wpAny (model prog w) A (eval value env) (λo s₁=>wpAny (model prog w) A (eval slice env) (λi s₂=>s₂.TypeIs o T/\wpAny (model prog w) A (getItem o i) Q E s₂) E s₁) E s):
  wpAny (model prog w) A (eval (.Subscript value slice pos) env) Q E s:=by
 refine Subscript_ (Pr h (λo s₁ h₁=>Pr h₁ (λi s₂ h₂=>?_) λ_ _ x=>x) λ_ _ x=>x)
 obtain⟨hT,h₂⟩:=h₂;unfold Ua;refine NQ ?_
 rw[getitemInPython_of_ne hT.not_modules];refine NQ (wpAny_specialOf hT hl ?_)
 have fin:wpAny (model prog w) A (TC slice ZD o i) (λr s₃=>wpAny (model prog w) A (letTemporaryGo value o r >>= λ_=>pure r) Q E s₃) E s₂:=by
  rw[hs o i];exact wpAny_operating (Pr h₂ (λr s₃ h₃=>NQ (wpAny_letTemporaryGo (N4 h₃))) λ_ _ x=>x)
 first
  |exact N4 (NQ fin)
  |exact NQ (N4 (NQ fin))
  |exact NQ fin
def xf{o:Option V}(I:Inv X ol σ H s)(g:DGet H a y o):s.TypeIs (.ref a) "dict":=by
 rcases g with⟨kvs,k,e,_,_⟩|⟨kvs,k,b,e,_,_,_⟩
 ·obtain⟨_,_,vs,_,dd⟩:=xc I.hok e
  exact dd.typeIs
 ·obtain⟨_,_,xs,_,dd⟩:=w9 I.hok e
  exact dd.typeIs
def KW(td ty:TE):TE:=λσ H Q=>td σ H λx H1=>ty σ H1 λy H2=>∃a v,x=.ref a/\DGet H2 a y (ZA v)/\Q v H2
def K1(td ty tv:TE):TS:=λD σ H=>tv σ H λv H1=>td σ H1 λx H2=>ty σ H2 λy H3=>∃a H4,x=.ref a/\DPut H3 a y v H4/\D.nx σ H4
section
variable {o i e:ZG}{pos' tpos:Pos}{td ty tv:TE}
def zp(hu:X.A.units+1<cLine)(ho:PE X o td)(hi:PE X i ty)(hs:Bk i):PE X (.Subscript o i pos) (KW td ty):=by
 intro ol s σ H Q I h;refine Fd PySem.F.slot_dict_getitem.lookup hs (bU (ho ol s σ H _ I h) λu s1 ⟨x,H1,I1,rx,q1⟩=>bU (hi ol s1 σ H1 _ I1 q1) λiv s2 hh_=>?_)
 obtain⟨y,H2,I2,ry,a,v,ex,g,q2⟩:=hh_;subst ex;obtain rfl:u=N1 a:=rx;exact⟨xf I2 g,A8 hu I2 g ry λw' s3 I3 rw'=>⟨v,H2,I3,rw',q2⟩⟩
def zj(hu:X.A.units+1<cLine)(ho:PE X o td)(hi:PE X i ty)(hv:PE X value tv)(hs:OR value (ZA (.Subscript o i pos')) pos.line X.env=pure ZD):
  PS X (.Assign [.Subscript o i pos'] value pos) (K1 td ty tv):=by
 intro ol s σ H D I h;refine wpAny_Assign_Subscript (bU (hv ol s σ H _ I h) λr s1 ⟨v,H1,I1,rv,q1⟩=>bU (ho ol s1 σ H1 _ I1 q1) λu s2 ⟨x,H2,I2,rx,q2⟩=>bU (hi ol s2 σ H2 _ I2 q2) λiv s3 ⟨y,H3,I3,ry,a,H4,ex,g,q3⟩=>?_) hs
 subst ex;obtain rfl:u=N1 a:=rx;exact A7 hu I3 g ry rv λs4 I4=>⟨σ,H4,I4,q3⟩
end
def Eh(h:ZH)(hb:QR<h.objs.size):ObjOk P w H (h.push {cls:=.type "dict",data:=.dict #[]}) h.objs.size (.dT []):=
 ⟨Qg _,beq_eq_false_iff_ne.mpr (OZ (Pf hb)),[],.nil,_,#[],0,Oa _ rfl,⟨rfl,rfl,rfl⟩,rfl,rfl,Qh⟩
structure M1 (X:Cx)(o:ZG)(m:Str)(apos:Pos)(e:ZG)(cpos:Pos):Prop where
 base:On o m X.env (eval o X.env)=eval o X.env
 few:((backTo cpos (NW [e] X.env)).all (λx=>!x.1)&&(R5 cpos (QH [] X.env)).all (λx=>x.1.isSome)
  &&decide (([e]:List ZG).length+([]:List Vd).length+(if ([]:List Vd).isEmpty then 0 else 1)<30))=ZC
 line:(apos.endLine == cpos.line)=ZC
 trees:backTo cpos (NW [e] X.env)=[(ZD,eval e X.env)]
structure M2 (X:Cx)(o:ZG)(m:Str)(apos:Pos)(e f:ZG)(cpos:Pos):Prop where
 base:On o m X.env (eval o X.env)=eval o X.env
 few:((backTo cpos (NW [e,f] X.env)).all (λx=>!x.1)&&(R5 cpos (QH [] X.env)).all (λx=>x.1.isSome)
  &&decide (([e,f]:List ZG).length+([]:List Vd).length+(if ([]:List Vd).isEmpty then 0 else 1)<30))=ZC
 line:(apos.endLine == cpos.line)=ZC
 trees:backTo cpos (NW [e,f] X.env)=[(ZD,eval e X.env),(ZD,eval f X.env)]
def IsD(H:Hp)(a:ZE):Prop:=(∃kvs,Rd H a (.dK kvs))\/∃kvs,Rd H a (.dT kvs)
def JW(I:Inv X ol σ H s)(d:IsD H a):
  s.TypeIs (.ref a) "dict"/\(∀b,N1 a=.ref b->∃ob,s.heap.get? b=ZA ob/\ob.dict=ZB)/\(a == QR)=ZD:=by
 rcases d with⟨kvs,e⟩|⟨kvs,e⟩
 ·obtain⟨_,hd,vs,_,dd⟩:=xc I.hok e
  refine⟨dd.typeIs,λb q=>?_,hd⟩
  cases q;obtain⟨ob,_,_,h1,h2,_⟩:=dd;exact⟨ob,h1,h2.2.1⟩
 ·obtain⟨_,hd,xs,_,dd⟩:=w9 I.hok e
  refine⟨dd.typeIs,λb q=>?_,hd⟩
  cases q;obtain⟨ob,_,_,h1,h2,_⟩:=dd;exact⟨ob,h1,h2.2.1⟩
section
variable {d:V}{u r:NK}{o:Option V}
def Kh(hu:A.units+1<cLine)(I:Inv X ol σ H s)(g:DGet H a y o)(ry:RelV y u)(h:∀w' s',Inv X ol σ H s'->RelV (o.getD .non) w'->Q w' s'):
  wpAny (model X.prog X.w) A (call (.builtin "dict.get") [.ref a,u]) Q E s:=by
 rcases g with⟨kvs,k,e,ey,l⟩|⟨kvs,k,b,e,ey,eb,l⟩
 ·subst ey
  obtain⟨z,hd,vs,rel,dd⟩:=xc I.hok e;refine call_meetsIn Ru dd.typeIs SF (So _ _) (meets_dict_get (cT X.prog X.w) a (zO ry) hd) ⟨_,dd.mapOf,h _ _ (I.tok _) ?_⟩
  rw[l];exact(rel.val k).getD rfl
 ·subst ey
  cases (show u=N1 b from ry)
  obtain⟨z,hd,xs,rel,dd⟩:=w9 I.hok e;refine call_meetsIn Ru dd.typeIs SF (So _ _) (meetsH_dict_get (Sm (cT X.prog X.w)) a b hd) ⟨Rk hu,k,xs,pW I.hok eb,dd,h _ _ (I.tok _) ?_⟩
  rw[l];exact(rel.val k).getD rfl
end
def Ij(td ty:TE):TE:=λσ H Q=>td σ H λx H1=>∃a,x=.ref a/\IsD H1 a/\ty σ H1 λy H2=>∃o,DGet H2 a y o/\Q (o.getD .non) H2
section
variable {o e f:ZG}{apos cpos:Pos}{td ty tx:TE}
def CH(hu:X.A.units+1<cLine)(ho:PE X o td)(he:PE X e ty)(m:M1 X o "get" apos e cpos):PE X (.Call (.Attribute o "get" apos) [e] [] cpos) (Ij td ty):=by
 intro ol s σ H Q I h;refine wpAny_Call_method m.base m.few m.line PySem.F.plainAttrs_dict Ru PySem.F.type_dict_get (bU (ho ol s σ H _ I h) λu s1 hh_=>?_)
 obtain⟨x,H1,I1,rx,a,ex,d,q1⟩:=hh_;subst ex;obtain rfl:u=N1 a:=rx;obtain⟨t1,t2,_⟩:=JW I1 d;refine⟨t1,t2,?_⟩
 rw[m.trees];refine Qv rfl (QV (Rf (bU (he ol s1 σ H1 _ I1 q1) λiv s2 ⟨y,H2,I2,ry,ov,g,q2⟩=>Ro ?_)))
 exact Kh hu I2 g ry λw' s3 I3 rw'=>⟨_,H2,I3,rw',q2⟩
end
end L2
namespace Tr
open PySem PySem.Spec PyProof.Rows L2
variable{H:Hp}{a:ZE}{k:List Key}{kvs:List (List Key×V)}
def DGet.NC{b:ZE}(e:Rd H a (.dT kvs))(eb:H b=ZA (.tup (k.map kV))):DGet H a (.ref b) (iY kvs k):=.inr ⟨kvs,k,b,e,rfl,eb,rfl⟩
def nY{k:Nat}(h:Room k A):A.units+1<cLine:=by have:=h.un;omega
variable{O:Ow}
theorem pX:∀{l:List T}{vs:List V}{k:List Key},pY l=ZA k->Reps K O H l vs->vs=k.map kV
 |[],vs,k,h,r=>by cases Reps.Da.mp r;cases h;rfl
 |t::l,vs,k,h,r=>by
  obtain⟨v,ws,rfl,p,q⟩:=Reps.me.mp r;unfold pY at h
  cases e1:Hq t with
  |none=>rw[e1]at h;cases h
  |some a=>
   cases e2:pY l with
   |none=>rw[e1,e2]at h;cases h
   |some b=>
    rw[e1,e2]at h;cases h;rw[pX e2 q,NM]
    congr 1
    cases t with
    |int i=>cases e1;exact Rep.AC.mp p
    |str x=>cases e1;exact Rep.GM.mp p
    |_=>cases e1
variable{v:V}
def ja{y:T}(h:keyOf y=ZA k)(r:Rep K O H y v):∃b,v=.ref b/\H b=ZA (.tup (k.map kV)):=by
 cases y with
 |tup l=>
  obtain⟨a,vs,e1,_,e3,e4⟩:=Rep.Fk.mp r;rw[pX h e4]at e3
  exact⟨a,e1,e3⟩
 |_=>cases h
theorem qu:∀{ks ts:List T}{kvs:List (List Key×V)},ks.map keyOf=kvs.map (λp=>ZA p.1)->Reps K O H ts (kvs.map (·.2))->match n6 ks ts k with
  |some t=>∃v,iY kvs k=ZA v/\Rep K O H t v
  |none=>iY kvs k=ZB
 |[],ts,kvs,h,r=>by
  cases kvs with
  |nil=>unfold n6;exact BH
  |cons _ _=>cases h
 |k'::ks,ts,kvs,h,r=>by
  cases kvs with
  |nil=>cases h
  |cons p kvs=>
   rw[NM,NM]at h;injection h with h1 h2
   rw[NM]at r
   cases ts with
   |nil=>have:=Reps.Da.mp r;cases this
   |cons t ts=>
    obtain⟨v,ws,e,q1,q2⟩:=Reps.me.mp r;injection e with e1 e2
    subst e1 e2;unfold n6
    by_cases hk:keyOf k'=ZA k
    ·rw[if_pos hk]
     rw[h1]at hk;injection hk with hk
     exact⟨_,gI hk,q1⟩
    ·rw[if_neg hk]
     have hk2:¬ p.1=k:=λz=>hk (by rw[h1,z])
     rw[gJ hk2];exact qu h2 q2
def tN [DecidableEq κ]{k:κ}{p:κ×V}{r:List (κ×V)}(h:¬ p.1=k):dG (p::r) k v=p::dG r k v:=by
 unfold dG;rw[P5,decide_eq_false h,Sw]
 by_cases q:(r.any λkv=>decide (kv.1=k))=ZC
 ·rw[if_pos q,if_pos q,NM,if_neg h]
 ·rw[if_neg q,if_neg q];rfl
def tO [DecidableEq κ]{k:κ}{p:κ×V}{r:List (κ×V)}(h:p.1=k)(hn:∀q∈r,q.1≠k):dG (p::r) k v=(p.1,v)::r:=by
 unfold dG;rw[P5,decide_eq_true h,UE,if_pos rfl,NM,if_pos h]
 congr 1
 conv=>rhs;rw[<-Tv r]
 exact OP λq hq=>if_neg (hn q hq)
theorem mz{kT vT:T}(hk:keyOf kT=ZA k)(hv:Rep K O H vT v):∀{ks ts:List T}{kvs:List (List Key×V)},ks.map keyOf=kvs.map (λp=>ZA p.1)->Reps K O H ts (kvs.map (·.2))->(kvs.map (·.1)).Nodup →
  (hI kT vT ks ts).1.map keyOf=(dG kvs k v).map (λp=>ZA p.1)/\Reps K O H (hI kT vT ks ts).2 ((dG kvs k v).map (·.2))
 |[],ts,kvs,h,r,_=>by
  cases kvs with
  |nil=>
   unfold hI;refine⟨?_,Reps.FS hv Reps.GE⟩
   simp[dG,hk]
  |cons _ _=>cases h
 |k'::ks,ts,kvs,h,r,hn=>by
  cases kvs with
  |nil=>cases h
  |cons p kvs=>
   rw[NM,NM]at h;injection h with h1 h2
   rw[NM]at r;rw[NM]at hn;obtain⟨n1,n2⟩:=Oe.mp hn
   cases ts with
   |nil=>have:=Reps.Da.mp r;cases this
   |cons t ts=>
    obtain⟨v',ws,e,q1,q2⟩:=Reps.me.mp r;injection e with e1 e2
    subst e1 e2;unfold hI
    by_cases hz:keyOf k'=keyOf kT
    ·rw[if_pos hz]
     have hp:p.1=k:=by rw[hz,hk]at h1;injection h1 with h1;exact h1.symm
     rw[tO hp λq hq z=>n1 (by rw[hp,<-z];exact List.mem_map_of_mem hq)]
     exact⟨by rw[NM,NM,h1,h2],Reps.FS hv q2⟩
    ·rw[if_neg hz]
     have hp:¬ p.1=k:=λz=>hz (by rw[h1,z,hk])
     obtain⟨a1,a2⟩:=mz hk hv h2 q2 n2;rw[tN hp];exact⟨by rw[NM,NM,h1,a1],Reps.FS q1 a2⟩
def G7{xs:List (List Key×ZE×NK)}(rel:KT H kvs xs):kvs.map (·.1)=xs.map (·.1):=by
 induction rel with
 |nil=>rfl
 |cons h t ih=>rw[NM,NM,ih,h.1]
variable{X:Cx}
def xh{ol:V2}{σ:L2.St}(I:Inv X ol σ H s)(e:H a=ZA (.dT kvs)):(kvs.map (·.1)).Nodup/\kvs.length<=sizeLine:=by
 obtain⟨z,_,xs,rel,_,_,_,_,_,_,_,_,hn⟩:=Ef I.hok e;rw[G7 rel];exact⟨hn,z⟩
section
variable {a b:ZG}{fa fb:V5}{pos:Pos}
def Lq(hu:X.A.units+1<cLine)(ha:cy X a fa)(hb:cy X b fb)(hs:autoParam (Bk b) aqg._auto_1):cy X (.Subscript a b pos) (o2 bJ fa fb):=by
 refine PE.imp (zp hu ha hb hs) λσ H Q ⟨Z,O,E,hq⟩=>?_
 obtain⟨Z1,O1,E1,h1⟩:=a9 E hq;refine⟨Z1,O1,E1,Post.mono h1 λt H1 s1 q v r=>?_⟩
 obtain⟨t',r',s',E',q'⟩:=q v r;obtain⟨Z2,O2,E2,h2⟩:=a9 (f:=fb) E' q';refine⟨Z2,O2,E2,Post.mono h2 λt2 H2 s2 q2 v2 r2=>?_⟩
 obtain⟨t2',r2',s2',E2',q2'⟩:=q2 v2 r2
 have r'':=r'.same s2';unfold bJ at q2'
 split at q2'
 ·rename_i ks vs k hk
  split at q2'
  ·rename_i x hx
   obtain⟨a,kvs,e1,e2,e3,e4,e5⟩:=Rep.KB.mp r'';obtain⟨b,f1,f2⟩:=ja hk r2'
   have g:=qu (k:=k) e4 e5;rw[hx]at g;obtain⟨w,g1,g2⟩:=g;exact⟨a,w,e1,by rw[f1,<-g1];exact DGet.NC e3 f2,q2' H2 (Same.refl H2) w g2⟩
  ·exact q2'.elim
 ·exact q2'.elim
end
end Tr
namespace Tr
open PySem PySem.Spec PyProof.Rows L2
open PySem.SeqAt
variable{x:T}
def C4(rx:ReV s x ux)(hu:A.units+60<cLine){l:List T}(hd:x.dep<=60\/deps l<=60)(r:ReVs s l us):
  ∃e:NK->Bool,(∀y∈us,EqAt A s y ux (e y))/\us.map e=l.map λt=>bo t x:=by
 classical
 have ex:∀y∈us,∃t∈l,ReV s t y:=λy hy=>by
  obtain⟨i,hi,rfl⟩:=Qs hy
  have hl:=r.length
  have e1:l[i]?=ZA l[i]:=by simp
  obtain⟨u,q1,q2⟩:=r.get e1
  have:us[i]?=ZA us[i]:=by simp
  rw[this]at q1;cases q1;exact⟨l[i],Pt _,q2⟩
 let e:NK->Bool:=λy=>decide (∃t∈l,ReV s t y/\bo t x=ZC)
 have dep:∀t∈l,t.dep<=60\/x.dep<=60:=λt ht=>by
  rcases hd with h|h
  ·exact .inr h
  ·obtain⟨i,hi,rfl⟩:=Qs ht
   exact .inl (OB (j9 (i:=i) (by simp)) h)
 have uniq:∀y t t',ReV s t y->ReV s t' y->bo t x=bo t' x:=λy t t' z z'=>by
  rw[<-mE t,<-mE t',ReV.nf z z']
 have agree:∀y t,t∈l->ReV s t y->e y=bo t x:=λy t h z=>by
  show decide (∃t∈l,ReV s t y/\bo t x=ZC)=bo t x
  cases q:bo t x with
  |true=>exact decide_eq_true ⟨t,h,z,q⟩
  |false=>
   refine decide_eq_false ?_
   rintro ⟨t',h',z',q'⟩
   rw[<-uniq y t t' z z',q]at q';cases q'
 refine⟨e,λy hy=>?_,?_⟩
 ·obtain⟨t,h,z⟩:=ex y hy
  rw[agree y t h z];exact(GC 60 A s t x y ux (dep t h) hu z rx).1
 ·have go:∀(l':List T)(us':List NK),(∀t∈l',t∈l)->ReVs s l' us'->us'.map e=l'.map λy=>bo y x:=by
   intro l'
   induction l' with
   |nil=>intro us' _ r';rw[ReVs.Da.mp r'];rfl
   |cons t l' ih=>
    intro us' sub r';obtain⟨u,ws,rfl,p,q⟩:=ReVs.me.mp r';rw[NM,NM,ih ws (λt ht=>sub t (NJ _ ht)) q,agree u t (sub t NN) p]
  exact go l us (λ_ h=>h) r
theorem qk:∀{l:List T}{n k:Nat},kJ x l n=ZA k->n<=k/\(l.map λt=>bo t x)[k - n]?=ZA ZC/\∀m,m<k - n->(l.map λt=>bo t x)[m]?=ZA ZD
 |[],n,k,h=>by cases h
 |t::l,n,k,h=>by
  unfold kJ at h
  cases q:bo t x with
  |true=>
   rw[q,if_pos rfl]at h;cases h;refine⟨N3 _,?_,λm hm=>by omega⟩
   rw[SR,NM,q];rfl
  |false=>
   rw[q,if_neg (by decide)]at h
   obtain⟨h1,h2,h3⟩:=qk h
   have e:k - n=(k - (n+1))+1:=by omega
   refine⟨by omega,?_,λm hm=>?_⟩
   ·rw[e,NM,Pq];exact h2
   ·cases m with
    |zero=>rw[NM,q];rfl
    |succ m=>rw[NM,Pq];exact h3 m (by omega)
section
variable {X:Cx}{a b:ZG}{fa fb:V5}{pos apos cpos:Pos}
def Cn(hu:X.A.units+61<cLine)(ha:cy X a fa)(hb:cy X b fb)(hn:autoParam (bu b=ZC) aqd._auto_1)
  (hbase:autoParam (On a "index" X.env (eval a X.env)=eval a X.env) aqd._auto_1) (hline:autoParam ((apos.endLine == cpos.line)=ZC) aqd._auto_1):cy X (.Call (.Attribute a "index" apos) [b] [] cpos) (oL hZ fa fb):=by
 have hs:NW [b] X.env=(ZD,eval b X.env)::NW [] X.env:=bp hn;intro ol s σ H Q I ⟨Z,O,E,hq⟩;refine SJ hbase (by rw[hs];rfl) hline rfl (bU (ha ol s σ H _ I (a9 E hq)) λv s1 hh_=>?_)
 obtain⟨x,H1,I1,r1,t,rt,s',E',q1⟩:=hh_
 cases t with
 |lst l=>
  obtain⟨c,vs,e1,e2,e3,e4⟩:=Rep.Do.mp rt;subst e1;obtain rfl:v=N1 c:=r1;obtain⟨h1,h2⟩:=xH I1 (show RelV (.ref c) (.ref c)from rfl) (.inl ⟨rfl,vs,SqL.of e3⟩)
  refine⟨_,_,Pc,Sq,Sr,h1,h2,?_⟩
  rw[hs];refine Qv rfl (QV (Rf (bU (hb ol s1 σ H1 _ I1 (a9 (f:=fb) E' q1)) λu s2 ⟨y,H2,I2,r2,t2,rt2,s'',E'',q2⟩=>Ro ?_)))
  unfold hZ at q2
  split at q2
  ·rename_i l' heq
   cases heq
   split at q2
   ·rename_i hd3
    obtain⟨hd,hnx,hny⟩:=hd3
    split at q2
    ·rename_i k hk
     have rv:=Rep.val I2 (show(T.lst l).nd=ZC by unfold T.nd;exact hny) (rt.same s'') (show RelV (.ref c) (.ref c)from rfl)
     unfold ReV at rv;obtain⟨c',us,ec,hl,rs⟩:=rv;cases ec;obtain⟨⟨cls,dd,data,sl⟩,ho,hc,n,hdd⟩:=id hl;simp only at hc hdd;subst hc hdd;obtain⟨e,he,ha⟩:=C4 (A:=X.A.in1) (Rep.val I2 hnx rt2 r2) (by show X.A.units+1+60<cLine;omega) hd rs
     obtain⟨_,k1,k2⟩:=qk hk;rw[SS]at k1 k2;rw[<-ha]at k1 k2
     have hkl:k<us.length:=by have:=(NU.mp k1).1;rwa [NP]at this
     have hz:us.length<=sizeLine:=by
      have z:=(I2.MZ (s'' _ _ e3)).1
      have h3:=rs.length
      have h4:=e4.length;omega
     refine QU Ul ⟨_,ho,rfl⟩ TR (Tu _ _) (list_indexAt c us.toArray n dd sl u e k (by simpa using hkl) (by rw[QD]at hz;omega) ?_ ?_) ⟨ho,λy hy=>he y (by simpa using hy),?_⟩
     ·have:=(NU.mp k1).2
      rw[SC]at this
      simpa using this
     ·intro m hm hmk
      have:=(NU.mp (k2 m hmk)).2
      rw[SC]at this
      simpa using this
     ·exact⟨.int _,H2,I2.tok _,⟨_,rfl⟩,q2 H2 (Same.refl H2) _ (Rep.Gc _)⟩
    ·exact q2.elim
   ·exact q2.elim
  ·rename_i hno
   exact(hno l rfl).elim
 |_=>exact q1.elim
def IS(hu:X.A.units+1<cLine)(ha:cy X a fa)(hb:cy X b fb)(hn:autoParam (bu b=ZC) aqd._auto_1)
  (hbase:autoParam (On a "get" X.env (eval a X.env)=eval a X.env) aqd._auto_1) (hline:autoParam ((apos.endLine == cpos.line)=ZC) aqd._auto_1):cy X (.Call (.Attribute a "get" apos) [b] [] cpos) (oD jv fa fb):=by
 have hs:NW [b] X.env=(ZD,eval b X.env)::NW [] X.env:=bp hn;refine PE.imp (CH hu ha hb ⟨hbase,by rw[hs];rfl,hline,by rw[hs];rfl⟩) λσ H Q ⟨Z,O,E,hq⟩=>?_
 obtain⟨Z1,O1,E1,h1⟩:=a9 E hq;refine⟨Z1,O1,E1,Post.mono h1 λt H1 s1 q v r=>?_⟩
 obtain⟨t',r',s',E',q'⟩:=q v r
 cases t' with
 |dct ks vs=>
  obtain⟨c,kvs,e1,e2,e3,e4,e5⟩:=Rep.KB.mp r';refine⟨c,e1,.inr ⟨kvs,e3⟩,?_⟩
  obtain⟨Z2,O2,E2,h2⟩:=a9 (f:=fb) E' q';refine⟨Z2,O2,E2,Post.mono h2 λt2 H2 s2 q2 v2 r2=>?_⟩
  obtain⟨t2',r2',s2',E2',q2'⟩:=q2 v2 r2;unfold jv at q2'
  split at q2'
  ·rename_i ks' vs' k heq hk
   cases heq;obtain⟨b,f1,f2⟩:=ja hk r2'
   have g:=qu (k:=k) e4 (e5.same s2');refine⟨iY kvs k,by rw[f1];exact DGet.NC (Rd.Nn (P:=kY) (SameO.of s2') (λz=>z) e3) f2,?_⟩
   cases hx:n6 ks vs k with
   |some z=>
    rw[hx]at g q2';obtain⟨w,g1,g2⟩:=g;rw[g1]
    exact q2' H2 (Same.refl H2) w g2
   |none=>
    rw[hx]at g q2';rw[g];exact q2' H2 (Same.refl H2) .non Rep.Ni
  ·exact q2'.elim
 |_=>exact q'.elim
end
end Tr
namespace Tr
open PySem PySem.Spec PyProof.Rows L2
variable{O:Ow}{k:List Key}
section
variable {X:Cx}{a b c:ZG}{fa fb fc:V5}{pos p2 p3 p4:Pos}{x:Str}
def IB(i:Nat)(hu:X.A.units+1<cLine)(hb:cy X b fb)(hc:cy X c fc)(hN:autoParam (X.N[i]?=ZA x) aqd._auto_1)(hv:autoParam (lJ X.env.scope x) aqe._auto_1)
  (hd:autoParam ((x == ("__debug__" : Str))=ZD) aqb._auto_1) (hcd:autoParam ((x == ("__classdict__" : Str))=ZD) aqb._auto_1)
  (hs:autoParam (OR c (ZA (.Subscript (.Name x p2) b p3)) pos.line X.env=pure ZD) aqd._auto_1):oH X (.Assign [.Subscript (.Name x p2) b p3] c pos) (Aw i fb fc):=by
 intro ol s σ H D I ⟨Z,B,M,E,h⟩;refine zj hu (eF hN hv hd hcd) hb hc hs ol s σ H D I ?_
 unfold Aw at h
 split at h
 ·rename_i ks vs hl
  obtain⟨v0,e1,d,kvs,rfl,hM,e3,e4,e5⟩:=E.env.own i _ hl;obtain⟨nd,nz⟩:=xh I e3;refine⟨Z,OO B M,E.o,?_⟩
  cases q:fc Z with
  |bad=>rw[q]at h;exact h.elim
  |err c=>rw[q]at h;exact PostF.xa h
  |ok vT=>
   rw[q,ay]at h;intro H1 s1 v r;refine⟨.ref d,e1,Z,OO B M,(E.same s1).o,?_⟩
   have h1:=h.later (SameO.of s1) (P1:=M.u) λa z=>.inl z
   cases q2:fb Z with
   |bad=>rw[q2]at h1;exact h1.elim
   |err c=>rw[q2]at h1;exact PostF.xa h1
   |ok kT=>
    rw[q2,ay]at h1;intro H2 s2 y ry
    cases q3:keyOf kT with
    |none=>rw[q3]at h1;exact h1.elim
    |some k=>
     rw[q3]at h1
     have h2:=h1.later (SameO.of s2) (P1:=M.u) λa z=>.inl z
     have hlen:ks.length=kvs.length:=by have:=congrArg O0 e4;simpa using this
     by_cases hz:ks.length<1000
     ·simp only[if_pos hz]at h2
      obtain⟨kb,f1,f2⟩:=ja q3 ry
      have e3':=s2 _ _ (s1 _ _ e3);obtain⟨g1,g2⟩:=mz q3 (r.same s2) e4 ((e5.same s1).same s2) nd;refine⟨d,upd H2 d (.dT (dG kvs k v)),rfl,by rw[f1];exact DPut.t e3' f2 (by rw[QD];omega),?_⟩
      have sm:SameO (M i) H2 (upd H2 d (.dT (dG kvs k v))):=λc u e nb=>by rw[aB (λz=>nb ((hM c).mpr z))];exact e
      obtain⟨g3,g4⟩:=((E.same s1).same s2).put (o':=.dct (hI kT vT ks vs).1 (hI kT vT ks vs).2) hl e1 sm ⟨d,_,rfl,hM,aG,g1,g2.move (P:=M i) (λa z=>.inl (.inr ⟨i,z⟩)) (λa z=>.inl z) sm⟩
      exact h2 σ _ M g4 g3 λc z=>.inl z
     ·simp only[if_neg hz]at h2
      exact h2.elim
 ·exact h.elim
theorem vk:∀{kvs:List (List Key×V)}{as:List ZE}{v:V},kvs.map (·.2)=as.map V.ref->iY kvs k=ZA v->∃b∈as,v=.ref b
 |[],as,v,_,h=>by cases h
 |p::kvs,as,v,e,h=>by
  cases as with
  |nil=>cases e
  |cons b0 bs=>
   rw[NM,NM]at e;injection e with e1 e2
   by_cases hk:p.1=k
   ·rw[gI hk]at h
    cases h;exact⟨b0,NN,e1⟩
   ·rw[gJ hk]at h
    obtain⟨b,hb,e⟩:=vk e2 h;exact⟨b,NJ _ hb,e⟩
theorem vP{H:Hp}{r:List T×List T}:∀{ks:List T}{rows:List (List T×List T)}{kvs:List (List Key×V)}{as:List ZE},ks.map keyOf=kvs.map (λp=>ZA p.1)->kvs.map (·.2)=as.map V.ref->RowsR K O H rows as->qL ks rows k=ZA r →
  ∃b kv,iY kvs k=ZA (.ref b)/\b∈as/\H b=ZA (.dT kv)/\r.1.map keyOf=kv.map (λp=>ZA p.1)/\Reps K O H r.2 (kv.map (·.2))
 |[],rows,kvs,as,h1,h2,h3,h=>by unfold qL at h;cases h
 |k'::ks,rows,kvs,as,h1,h2,h3,h=>by
  cases rows with
  |nil=>unfold qL at h;cases h
  |cons r0 rows=>
   cases kvs with
   |nil=>cases h1
   |cons p kvs=>
    rw[NM,NM]at h1;injection h1 with h1 h1'
    obtain⟨b0,bs,kv0,rfl,e2,e3,e4,e5⟩:=h3;rw[NM,NM]at h2;injection h2 with h2 h2'
    unfold qL at h
    by_cases hk:keyOf k'=ZA k
    ·rw[if_pos hk]at h
     cases h;rw[h1]at hk;injection hk with hk
     exact⟨b0,kv0,by rw[gI hk,h2],NN,e2,e3,e4⟩
    ·rw[if_neg hk]at h
     have hk2:¬ p.1=k:=λz=>hk (by rw[h1,z])
     obtain⟨b,kv,g1,g2,g3⟩:=vP h1' h2' e5 h;exact⟨b,kv,by rw[gJ hk2];exact g1,NJ _ g2,g3⟩
theorem vL{H H':Hp}{xr:List T×List T}{b:ZE}{kv':List (List Key×V)}(hO:O b)(hS:SameO (λc=>c=b) H H')(hb:H' b=ZA (.dT kv'))(hx1:xr.1.map keyOf=kv'.map (λp=>ZA p.1))(hx2:Reps K O H' xr.2 (kv'.map (·.2))):
  ∀{ks:List T}{rows:List (List T×List T)}{kvs:List (List Key×V)}{as:List ZE},ks.map keyOf=kvs.map (λp=>ZA p.1)->kvs.map (·.2)=as.map V.ref->RowsR K O H rows as->as.Nodup->iY kvs k=ZA (.ref b)->RowsR K O H' (qK k xr ks rows) as
 |[],rows,kvs,as,h1,h2,h3,hn,h=>by
  cases kvs with
  |nil=>cases h
  |cons _ _=>cases h1
 |k'::ks,rows,kvs,as,h1,h2,h3,hn,h=>by
  have inO:∀a,a=b->O a\/Nw K H a:=λa z=>.inl (z▸hO)
  cases kvs with
  |nil=>cases h1
  |cons p kvs=>
   rw[NM,NM]at h1;injection h1 with h1 h1'
   cases rows with
   |nil=>unfold RowsR at h3;subst h3;cases h2
   |cons r0 rows=>
    obtain⟨b0,bs,kv0,rfl,e2,e3,e4,e5⟩:=h3;rw[NM,NM]at h2;injection h2 with h2 h2'
    obtain⟨n1,n2⟩:=Oe.mp hn;unfold qK
    by_cases hk:keyOf k'=ZA k
    ·rw[if_pos hk]
     rw[h1]at hk;injection hk with hk
     rw[gI hk,h2]at h;cases h;exact⟨b,bs,kv',rfl,hb,hx1,hx2,e5.move (P:=λc=>c=b) inO (λa z=>.inl z) hS λc hc z=>n1 (z▸hc)⟩
    ·rw[if_neg hk]
     have hk2:¬ p.1=k:=λz=>hk (by rw[h1,z])
     rw[gJ hk2]at h;obtain⟨b',hb',e'⟩:=vk h2' h;cases e'
     have hne:b0≠b:=λz=>n1 (z▸hb')
     exact⟨b0,bs,kv0,rfl,hS _ _ e2 hne,e3,e4.move (P:=λc=>c=b) inO (λa z=>.inl z) hS,vL hO hS hb hx1 hx2 h1' h2' e5 n2 h⟩
def Fv(i:Nat)(hu:X.A.units+1<cLine)(ha:cy X a fa)(hb:cy X b fb)(hc:cy X c fc)(hsl:autoParam (Bk a) aqg._auto_1)(hN:autoParam (X.N[i]?=ZA x) aqd._auto_1)(hv:autoParam (lJ X.env.scope x) aqe._auto_1)
  (hd:autoParam ((x == ("__debug__" : Str))=ZD) aqb._auto_1) (hcd:autoParam ((x == ("__classdict__" : Str))=ZD) aqb._auto_1)
  (hs:autoParam (OR c (ZA (.Subscript (.Subscript (.Name x p2) a p3) b p4)) pos.line X.env=pure ZD) aqd._auto_1):oH X (.Assign [.Subscript (.Subscript (.Name x p2) a p3) b p4] c pos) (jq i fa fb fc):=by
 intro ol s σ H D I ⟨Z,B,M,E,h⟩;refine zj hu (zp hu (eF hN hv hd hcd) ha hsl) hb hc hs ol s σ H D I ?_
 unfold jq at h
 split at h
 ·rename_i ks rows hl
  obtain⟨v0,e1,d,kvs,as,rfl,hM,na,nas,e5,e6,e7,e8⟩:=E.env.own i _ hl;refine⟨Z,OO B M,E.o,?_⟩
  cases q:fc Z with
  |bad=>rw[q]at h;exact h.elim
  |err c=>rw[q]at h;exact PostF.xa h
  |ok vT=>
   rw[q,ay]at h;intro H1 s1 v r;refine⟨.ref d,e1,Z,OO B M,(E.same s1).o,?_⟩
   have h1:=h.later (SameO.of s1) (P1:=M.u) λa z=>.inl z
   cases q2:fa Z with
   |bad=>rw[q2]at h1;exact h1.elim
   |err c=>rw[q2]at h1;exact PostF.xa h1
   |ok aT=>
    rw[q2,ay]at h1;intro H2 s2 y ry
    have h2:=h1.later (SameO.of s2) (P1:=M.u) λa z=>.inl z
    have E2:=(E.same s1).same s2
    have s12:=s1.trans s2
    split at h2
    ·rename_i ka rr hk
     obtain⟨ka',q3,hk⟩:=Option.bind_eq_some_iff.mp hk;obtain⟨r',q4,hk⟩:=Qx.mp hk;cases hk;obtain⟨rb,kv,g1,g2,g3,g4,g5⟩:=vP e6 e7 e8 q4;obtain⟨ndr,nzr⟩:=xh I g3;obtain⟨ab,f1,f2⟩:=ja q3 ry;refine⟨d,.ref rb,rfl,by rw[f1,<-g1];exact DGet.t (s12 _ _ e5) f2,Z,OO B M,E2.o,?_⟩
     cases q5:fb Z with
     |bad=>rw[q5]at h2;exact h2.elim
     |err c=>rw[q5]at h2;exact PostF.xa h2
     |ok bT=>
      rw[q5,ay]at h2;intro H3 s3 y2 ry2
      have h3:=h2.later (SameO.of s3) (P1:=M.u) λa z=>.inl z
      have s13:=s12.trans s3
      have E3:=E2.same s3
      have hlen:rr.1.length=kv.length:=by have:=congrArg O0 g4;simpa using this
      by_cases hz:(keyOf bT).isSome=ZC/\rr.1.length<1000
      ·rw[if_pos hz]at h3
       obtain⟨kb,q6⟩:=Q9.mp hz.1;obtain⟨bb,f3,f4⟩:=ja q6 ry2;obtain⟨u1,u2⟩:=mz q6 ((r.same s2).same s3) g4 (g5.same s13) ndr;refine⟨rb,upd H3 rb (.dT (dG kv kb v)),rfl,by rw[f3];exact DPut.t (s13 _ _ g3) f4 (by rw[QD];omega),?_⟩
       have mrb:M i rb:=(hM rb).mpr (.inr g2)
       have hOb:OO B M rb:=.inr ⟨i,mrb⟩
       have sm1:SameO (λc=>c=rb) H3 (upd H3 rb (.dT (dG kv kb v))):=λc u e nb=>by rw[aB nb];exact e
       have sm:SameO (M i) H3 (upd H3 rb (.dT (dG kv kb v))):=λc u e nb=>sm1 c u e λz=>nb (z▸mrb)
       have inO:∀a,a=rb->OO B M a\/Nw X.K H3 a:=λa z=>.inl (z▸hOb)
       have dne:d≠rb:=λz=>na (z▸g2)
       obtain⟨g6,g7⟩:=E3.put (o':=.dd ks (qK ka (hI bT vT rr.1 rr.2) ks rows)) hl e1 sm ⟨d,kvs,as,rfl,hM,na,nas,sm1 _ _ (s13 _ _ e5) dne,e6,e7,vL hOb sm1 aG u1 (u2.move (P:=λc=>c=rb) inO (λa z=>.inl z) sm1) e6 e7 (e8.same s13) nas g1⟩
       exact h3 σ _ M g7 g6 λc z=>.inl z
      ·rw[if_neg hz]at h3
       exact h3.elim
    ·exact h2.elim
 ·exact h.elim
end
end Tr
namespace PySem
open Sem (wp)
namespace F
def lk_list_keys:Rq (.type "list") "keys" =pure ZB:=by rw[Rj,Qb];kernel_rfl
def lk_list_getattr:Rq (.type "list") "__getattr__" =pure ZB:=by rw[Rj,Qb];kernel_rfl
end F
variable{tk:Tok}
section
variable {h:ZH}{g:Array T2}{d:Drawn}{t:Nat}{a:ZE}{its:Array NK}
def nW{Q:Fin->NO->Prop}(hx:h.get? a=ZA {cls:=.type "list",data:=.seq its n})(hh:A.handled=ZB)
  (hq:∀h' tk' e,U6 h h' e (.ref a) "keys"->E (.ref e) ⟨h',g,d,tk',os⟩):
  wpAny (model prog w) A (Builtin.«object.__getattribute__» ⟨[.ref a,.str "keys" tk],[]⟩) Q E ⟨h,g,d,t,os⟩:=by
 have hT:(⟨h,g,d,t,os⟩:NO).TypeIs (.ref a) "list":=⟨_,hx,rfl⟩
 have f4:=F.lk_list_keys
 repeat (any_goals (first|assumption|wp_step))
 exact wpAny_raiseAttrError hh (λh' tk e hx=>hq h' tk e hx) (attrMsg_fits (by decide+kernel) (by rw[QD];decide))
def pU(hx:h.get? a=ZA {cls:=.type "list",data:=.seq its n})(hh:A.handled=ZB)
  (hq:∀h' tk' e,U6 h h' e (.ref a) "keys"->R (.error (.ref e)) ⟨h',g,d,tk',os⟩):
  codeAny (model prog w) A (.call (.builtin "list.__getattribute__") ⟨[.ref a,.str "keys" tk],[]⟩) R ⟨h,g,d,t,os⟩:=
 RI Qp.plain F.entry_list_ga (Qp.check _ _ _ _ _ _ _ _ (show(⟨h,g,d,t,os⟩:NO).TypeIs (.ref a) "list" from⟨_,hx,rfl⟩) (F.args_list_getattribute_2 _ _) (nW hx hh hq))
def pV{Q:Option NK->NO->Prop}(hx:h.get? a=ZA {cls:=.type "list",data:=.seq its n})(hh:A.handled=ZB)
  (hq:∀h' tk',(∀b o,h.get? b=ZA o->h'.get? b=ZA o)->Q ZB ⟨h',g,d,tk',os⟩):wpAny (model prog w) A (getAttr? (.ref a) "keys") Q E ⟨h,g,d,t,os⟩:=by
 have hT:∀tk,(⟨h,g,d,tk,os⟩:NO).TypeIs (.ref a) "list":=λ_=>⟨_,hx,rfl⟩
 have f1:=sub_AttributeError
 have f2:=Qp.lookup
 have f3:=Qp.bind (.ref a)
 have f5:=F.lk_list_getattr;unfold getAttr? getAttrBy? getAttrBy
 repeat (any_goals (first|assumption|exact hT _|wp_step))
 refine pU hx hh λh' tk' e hx'=>?_
 obtain⟨t',u',he⟩:=hx'.there
 repeat (any_goals (first|assumption|exact hT _|wp_step))
 exact hq _ _ hx'.keeps
end
end PySem
namespace PySem.F
def entry_dict_update_loop:entryFor table "dict.update.loop" =ZA Builtin.«dict.update.loop»:=entryFor_of_tree (by kernel_rfl)
def plain_dict_update_loop:plainId "dict.update.loop" =ZC:=by decide+kernel
end PySem.F
namespace Tr
open PySem PySem.Spec PyProof.Rows L2
def fB(kvs:List (List Key×V)):List (List Key×V)->List (List Key×V)
 |[] =>kvs
 |p::ps=>fB (dG kvs p.1 p.2) ps
def PairsAt(H:Hp):List V->List (List Key×V)->Prop
 |[],ps=>ps=[]
 |x::xs,ps=>∃b kb p r,ps=p::r/\x=.ref b/\H b=ZA (.tup [.ref kb,p.2])/\H kb=ZA (.tup (p.1.map kV))/\PairsAt H xs r
variable{H:Hp}{d:ZE}{kvs:List (List Key×V)}
theorem PairsAt.upd{o:HO}(hd:H d=ZA (.dT kvs)):∀{xs:List V}{ps:List (List Key×V)},PairsAt H xs ps->PairsAt (L2.upd H d o) xs ps
 |[],_,h=>h
 |x::xs,_,⟨b,kb,p,r,e1,e2,e3,e4,e5⟩=>⟨b,kb,p,r,e1,e2,by rw[aB (jQ e3 hd (λz=>nomatch z))];exact e3,by rw[aB (jQ e4 hd (λz=>nomatch z))];exact e4,e5.upd hd⟩
def sU{a b:HO}:upd (upd H d a) d b=upd H d b:=by
 funext c
 by_cases h:c=d
 ·rw[h,aG,aG]
 ·rw[aB h,aB h,aB h]
variable{X:Cx}{ol:V2}{xs:List V}{σ:L2.St}
section
variable {res:NK}{l it:ZE}
def A6(hh:A.handled=ZB)(hu:A.units+3<cLine):∀(k i:Nat)(s:NO)(H:Hp)(kvs ps:List (List Key×V)),xs.length - i=k->i<=xs.length->H l=ZA (.lst xs)->H d=ZA (.dT kvs)->kvs.length+(xs.length - i)<=1000->Inv X ol σ H s->s.heap.IsListIter it l i->qC X ol H it->PairsAt H (xs.drop i) ps →
  (∀s',Inv X ol σ (upd H d (.dT (fB kvs ps))) s'->R (.ok (.ret res)) s')->codeAny (model X.prog X.w) A (.builtin "dict.update.loop" ⟨[.ref d,.ref it,rawInt i,res],[]⟩) R s:=by
 intro k
 induction k with
 |zero=>
  intro i s H kvs ps hk hi hl hd hz I hit hf hp hR;refine S5 F.entry_dict_update_loop ?_
  rw[Tb F.plain_dict_update_loop _];obtain⟨z,its,n,r,hlen,e⟩:=I.MZ hl
  have hL:s.heap.IsList l its.toArray:=⟨_,e,rfl,n,rfl⟩
  show wpAny _ A.in1 (pyNext (.ref it) >>= _) _ _ s
  refine NQ (S1 hh hit hL (by simp;omega) λh' hm=>?_)
  show wpAny _ _ (Builtin.Dict.addKeywords d [] >>= _) _ _ _
  refine NQ (N4 (N4 ?_))
  have hnil:xs.drop i=[]:=Rm (by omega)
  rw[hnil]at hp;unfold PairsAt at hp;subst hp
  have e2:upd H d (.dT (fB kvs []))=H:=by
   funext b
   by_cases hb:b=d
   ·rw[hb,aG,hd];rfl
   ·rw[aB hb]
  rw[e2]at hR
  exact hR _ (I.M9 (fp:=[it]) (t':=s.toks) (λb hb=>by rw[N0.mp hb];exact hf) λb o hb eb=>hm b o (λz=>hb (by rw[z];exact N0.mpr rfl)) eb)
 |succ k ih=>
  intro i s H kvs ps hk hi hl hd hz I hit hf hp hR;refine S5 F.entry_dict_update_loop ?_
  rw[Tb F.plain_dict_update_loop _];obtain⟨z,its,n,r,hlen,e⟩:=I.MZ hl
  have hL:s.heap.IsList l its.toArray:=⟨_,e,rfl,n,rfl⟩
  have hlt:i<xs.length:=by omega
  have hlt':i<its.length:=by omega
  show wpAny _ A.in1 (pyNext (.ref it) >>= _) _ _ s
  refine NQ (SH hit hL (x:=its[i]) (by simp[hlt']) λh' hit' hm=>?_)
  have I1:Inv X ol σ H {s with heap:=h'}:=I.M9 (fp:=[it]) (t':=s.toks) (λb hb=>by rw[N0.mp hb];exact hf) λb o hb eb=>(hm.2 b (λz=>hb (by rw[z];exact N0.mpr rfl))).trans eb
  have hdrop:xs.drop i=xs[i] ::xs.drop (i+1):=QZ hlt;rw[hdrop]at hp;obtain⟨b,kb,p,r',rfl,ex,hb,hkb,hp'⟩:=hp
  have rx:RelV xs[i] its[i]:=by
   obtain⟨u,q1,q2⟩:=r.get (N7 hlt)
   rw[N7 hlt']at q1
   cases q1;exact q2
  rw[ex]at rx
  have eu:its[i]=N1 b:=rx;rw[eu];obtain⟨z2,its2,r2,ob,hob1,hob2,nb,hob3⟩:=(show ObjOk X.prog X.w H h' b (.tup [.ref kb,p.2])from I1.hok b _ hb)
  obtain⟨u1,us1,q1,rfl⟩:∃u1 us1,RelV (V.ref kb) u1/\its2=u1::us1:=by cases r2 with|cons a b=>exact⟨_,_,a,rfl⟩
  cases r2 with
  |cons ra rb=>
   obtain⟨u2,q2,rfl⟩:∃u2,RelV p.2 u2/\us1=[u2]:=by cases rb with|cons a b=>cases b;exact⟨_,a,rfl⟩
   obtain rfl:u1=N1 kb:=q1
   show wpAny _ A.in1 (holding [N1 b] _ >>= _) _ _ _
   refine NQ (Sz ?_)
   refine NQ (wpAny_tryCatch ?_)
   unfold Builtin.Dict.pairItems;refine NQ (R4 (s:={s with heap:=h'}) (T:="tuple") ⟨ob,hob1,hob2⟩ ?_)
   rw[if_pos (by decide)]
   refine NQ (Ti (s:={s with heap:=h'}) hob1 hob3 (N4 ?_))
   show wpAny _ _ (holding [N1 kb,u2] (dictSet d (.ref kb) u2)) _ _ _
   refine Sz ?_
   obtain⟨zz,hds,xs2,rel,dd⟩:=Ef I1.hok hd
   have hzl:xs2.length<=sizeLine:=by rw[<-Sv rel];exact zz
   have hkl:kvs.length<sizeLine:=by rw[QD];omega
   have hl2:(dG kvs p.1 p.2).length<=sizeLine:=by have:=ie kvs p.1 p.2;omega
   refine wpAny_dictSet_heap (hsz:=hzl) (Rk (by show A.units+1<cLine;omega)) (pW I1.hok hkb) dd λh2 dd2 hs2=>?_
   obtain⟨q,es,ep,hq,h22,h3,h4,_,h5⟩:=dd2
   have I2:Inv X ol σ (upd H d (.dT (dG kvs p.1 p.2))) {s with heap:=h2,toks:=s.toks+(Sm (cT X.prog X.w)).draws p.1}:=
    uV (s:={s with heap:=h'}) I1 (by rw[hd];exact Qm) hs2 ⟨q,hq⟩ ⟨hl2,hds,_,(rel.put p.1 hkb q2).keeps λc ys ec=>by rw[aB (jQ ec hd (λz=>nomatch z))];exact ec,q,es,ep,hq,h22,h3,h4,h5⟩
   have hld:l≠d:=jQ hl hd (λz=>nomatch z)
   have hitd:it≠d:=λz=>by have:=hf.1;rw[z,hd]at this;cases this
   have hcast:(i:Int)+1=((i+1:Nat):Int):=by omega
   refine N4 ⟨plainId_quiet F.plain_dict_update_loop _,?_⟩
   rw[hcast];refine ih (i+1) _ (upd H d (.dT (dG kvs p.1 p.2))) (dG kvs p.1 p.2) r' (by omega) (by omega) (by rw[aB hld];exact hl) aG (by have:=ie kvs p.1 p.2;omega) I2 ?_ ⟨by rw[aB hitd];exact hf.1,hf.2⟩ (hp'.upd hd) λs' I'=>?_
   ·obtain⟨oi,ho1,ho2,ho3⟩:=hit'
    exact⟨oi,(hs2.2 it hitd).trans ho1,ho2,ho3⟩
   ·rw[sU]at I'
    exact hR s' I'
end
theorem PairsAt.same{H':Hp}(s:Same H H'):∀{xs:List V}{ps:List (List Key×V)},PairsAt H xs ps->PairsAt H' xs ps
 |[],_,h=>h
 |x::xs,_,⟨b,kb,p,r,e1,e2,e3,e4,e5⟩=>⟨b,kb,p,r,e1,e2,s _ _ e3,s _ _ e4,e5.same s⟩
section
variable {l:ZE}{ps:List (List Key×V)}
def xg(hh:A.handled=ZB)(hu:A.units+8<cLine)(I:Inv X ol σ H s)(hl:H l=ZA (.lst xs))(hz:xs.length<=1000)(hp:PairsAt H xs ps)
  (h:∀p s',Nw X.K H p->Inv X ol σ (upd H p (.dT (fB [] ps))) s'->Q (.ref p) s'):wpAny (model X.prog X.w) A (call (.type "dict") [.ref l]) Q E s:=by
 have hk:X.K.lookup s.heap.objs.size=ZB:=by
  cases q:X.K.lookup s.heap.objs.size with
  |none=>rfl
  |some o=>exact absurd (NY (I.kIn _ o q)) (Oo _)
 have hn:H s.heap.objs.size=ZB:=I.hok.fresh (N3 _)
 have hlp:l≠s.heap.objs.size:=λz=>by rw[z,hn]at hl;cases hl
 refine callType_codes (Q₁:=λobj s₁=>obj=.ref s.heap.objs.size/\s₁= {s with heap:=s.heap.push {cls:=.type "dict",data:=.dict #[]}}) F.kt_called_dict (F.kt_typeCall_dict_1 _) F.entry_dict_init (kt_code_dict_new _ ⟨rfl,rfl⟩) ?_
 rintro obj s₁ ⟨rfl,rfl⟩
 have I1:Inv X ol σ (upd H s.heap.objs.size (.dT [])) {s with heap:=s.heap.push {cls:=.type "dict",data:=.dict #[]}}:=I.laid (a:=s.heap.objs.size) (o:=.dT []) (t':=s.toks) (λ_ _ q=>NV _ q) (N3 _) (Eh s.heap I.big)
 have hT:({s with heap:=s.heap.push {cls:=.type "dict",data:=.dict #[]}}:NO).TypeIs (.ref s.heap.objs.size) "dict":=⟨_,Oa _ rfl,rfl⟩
 have hl1:upd H s.heap.objs.size (.dT []) l=ZA (.lst xs):=by rw[aB hlp];exact hl
 obtain⟨z,its,n,r,hlen,e⟩:=I1.MZ hl1;refine⟨hT,F.args_dict_init_2 _ _,?_⟩
 unfold Builtin.«dict.__init__»;refine NQ ?_
 unfold Builtin.Dict.selfAndRest;refine NQ (wpAny_notOrdered_dict hT ?_)
 show wpAny _ _ (pure (s.heap.objs.size,[N1 l])) _ _ _
 refine N4 ?_
 show wpAny _ _ (Ss "dict.__init__" s.heap.objs.size (.ref l) [] .none) _ _ _
 unfold Ss;refine NQ (R4 (T:="list") ⟨_,e,rfl⟩ ?_)
 rw[if_pos (by decide)]
 refine NQ (pV e hh λh' tk' kp=>?_)
 have I2:Inv X ol σ (upd H s.heap.objs.size (.dT [])) {s with heap:=h',toks:=tk'}:=I1.kept (t':=tk') kp
 rw[if_pos (by rfl)]
 refine NQ (Uu ?_)
 have eL:({s with heap:=h',toks:=tk'}:NO).heap.IsList l its.toArray:=⟨_,kp _ _ e,rfl,n,rfl⟩
 refine NQ (Sn eL ?_)
 have I3:Inv X ol σ (upd H s.heap.objs.size (.dT [])) {s with heap:=h'.push {cls:=.type "list_iterator",data:=.fields #[.ref l,.int 0 0]},toks:=tk'}:=I2.kept (t':=tk') λb u q=>NV _ q
 have hpl:s.heap.objs.size<h'.objs.size:=NY (kp _ _ (Oa _ rfl))
 have hni:upd H s.heap.objs.size (.dT []) h'.objs.size=ZB:=by
  rw[aB (R0 hpl)];exact I.hok.fresh (Q8 hpl)
 have hp1:PairsAt (upd H s.heap.objs.size (.dT [])) xs ps:=hp.same (bj hn _);refine N4 ⟨plainId_quiet F.plain_dict_update_loop _,?_⟩
 refine A6 (A:=A.in1) (X:=X) (ol:=ol) (σ:=σ) (l:=l) (xs:=xs) (it:=h'.objs.size) hh (by show A.units+1+3<cLine;omega) xs.length 0 _ (upd H s.heap.objs.size (.dT [])) [] ps (by omega) (Qg _) hl1 aG (by simp;omega) I3 ⟨_,Oa _ rfl,rfl,rfl⟩ (I2.Ng (N3 _) hni) hp1 λs' I'=>?_
 rw[sU]at I';exact⟨rfl,h _ _ ⟨hn,hk⟩ I'⟩
end
def hu8(h:Room k A):A.units+8<cLine:=by have:=h.un;omega
def ye{k:List Key}{v:V}(h:(kvs.map (·.1)).Nodup):((dG kvs k v).map (·.1)).Nodup:=by
 unfold dG
 by_cases a:(kvs.any λkv=>decide (kv.1=k))=ZC
 ·rw[if_pos a,P7]
  have:((λx=>x.1)∘λkv:List Key×V=>if kv.1=k then(kv.1,v)else kv)=λx=>x.1:=by
   funext x
   show(if x.1=k then(x.1,v)else x).1=x.1
   by_cases e:x.1=k
   ·rw[if_pos e]
   ·rw[if_neg e]
  rw[this];exact h
 ·rw[if_neg a,O4,OK]
  refine⟨h,by simp,λx hx y hy=>?_⟩
  simp only[NM,SN,N0]at hy;subst hy;intro z;subst z;obtain⟨p,hp,e⟩:=Oj.mp hx;exact a (RF.mpr ⟨p,hp,decide_eq_true e⟩)
def MP(K:NI)(O:Ow)(H:Hp):List (T×T)->List (List Key×V)->Prop
 |[],ps=>ps=[]
 |a::l,ps=>∃p r,ps=p::r/\keyOf a.1=ZA p.1/\Rep K O H a.2 p.2/\MP K O H l r
variable{O:Ow}
theorem sv:∀{l:List (T×T)}{ps:List (List Key×V)}{ks ts:List T}{kvs:List (List Key×V)},MP K O H l ps->ks.map keyOf=kvs.map (λp=>ZA p.1)->Reps K O H ts (kvs.map (·.2))->(kvs.map (·.1)).Nodup →
  (j8 l (ks,ts)).1.map keyOf=(fB kvs ps).map (λp=>ZA p.1)/\Reps K O H (j8 l (ks,ts)).2 ((fB kvs ps).map (·.2))
 |[],ps,ks,ts,kvs,h,h1,h2,hn=>by unfold MP at h;subst h;exact⟨h1,h2⟩
 | (a,b)::l,ps,ks,ts,kvs,h,h1,h2,hn=>by
  obtain⟨p,r,rfl,e1,e2,e3⟩:=h;obtain⟨g1,g2⟩:=mz (vT:=b) e1 e2 h1 h2 hn
  show(j8 l (hI a b ks ts)).1.map keyOf=(fB (dG kvs p.1 p.2) r).map (λp=>ZA p.1)/\Reps K O H (j8 l (hI a b ks ts)).2 ((fB (dG kvs p.1 p.2) r).map (·.2))
  exact sv (l:=l) e3 g1 g2 (ye hn)
theorem zk:∀{l:List T}{tps:List (T×T)}{xs:List V},Kv l=ZA tps->Reps K O H l xs->∃ps,PairsAt H xs ps/\MP K O H tps ps
 |[],tps,xs,h,r=>by cases Reps.Da.mp r;cases h;exact⟨[],rfl,rfl⟩
 |t::l,tps,xs,h,r=>by
  obtain⟨v,ws,rfl,p,q⟩:=Reps.me.mp r;unfold Kv at h
  split at h
  ·rename_i heq;cases heq
  ·rename_i k v' l' heq
   cases heq
   split at h
   ·rename_i kk rr hk hr
    cases h;obtain⟨ps,g1,g2⟩:=zk hr q;obtain⟨b,vs,e1,e2,e3,e4⟩:=Rep.Fk.mp p;obtain⟨u1,us1,rfl,f1,f2⟩:=Reps.me.mp e4;obtain⟨u2,us2,rfl,f3,f4⟩:=Reps.me.mp f2;cases Reps.Da.mp f4;obtain⟨kb,f5,f6⟩:=ja hk f1;subst f5;exact⟨(kk,u2)::ps,⟨b,kb,(kk,u2),ps,rfl,e1,e3,f6,g1⟩,⟨(kk,u2),ps,rfl,hk,f3,g2⟩⟩
   ·cases h
  ·cases h
section
variable {e:ZG}{f:V5}{x y:Str}{p pos p2 p3:Pos}
def Ii(X:Cx)(f:V5):TE:=λσ H Q=>tP X f σ H λv H'=>∃a xs ps,v=.ref a/\H' a=ZA (.lst xs)/\xs.length<=1000/\PairsAt H' xs ps/\∀q,Nw X.K H' q->Q (.ref q) (upd H' q (.dT (fB [] ps)))
def CG(hu:X.A.units+8<cLine)(hc:X.calm=ZC)(hm:X.mg "dict" =ZB)(ha:cy X e f)(hg:Gl X "dict")(hs:bu e=ZC):PE X (.Call (.Name "dict" p) [e] [] pos) (Ii X f):=by
 have h1:NW [e] X.env=(ZD,eval e X.env)::NW [] X.env:=bp hs;intro ol s σ H Q I hq;refine Oz (gU I hg hm (show OF "dict" =ZA (.type "dict")by decide+kernel) ?_ (by decide) (by decide))
 refine O7 (bU (br (te:=tP X f) ha dH h1 pos ol s σ H (λxs H'=>∃v,xs=[v]/\∃a xs ps,v=.ref a/\H' a=ZA (.lst xs)/\xs.length<=1000/\PairsAt H' xs ps/\∀q,Nw X.K H' q->Q (.ref q) (upd H' q (.dT (fB [] ps)))) I ?_) λus s1 hh=>?_) h1 rfl
 ·obtain⟨Z,O,E,h⟩:=hq
  exact⟨Z,O,E,Post.mono h λt H' _ g v r=>⟨v,rfl,g v r⟩⟩
 ·obtain⟨vs,H1,I1,r1,v,rfl,a,xs,ps,ev,e1,e2,e3,e4⟩:=hh
  subst ev;obtain⟨u,rfl,ru⟩:=r1.one;obtain rfl:u=N1 a:=ru;exact xg (I1.ok.hd hc) hu I1 e1 e2 e3 λq s' nw I'=>⟨.ref q,_,I',rfl,e4 q nw⟩
def Fy(i:Nat)(hu:X.A.units+8<cLine)(hc:X.calm=ZC)(hm:X.mg "dict" =ZB)(hN:X.N.Nodup)(ha:cy X e f)(hst:autoParam (bu e=ZC) aqd._auto_1)(hg:autoParam (Gl X "dict") aqd._auto_1)(hi:autoParam (X.N[i]?=ZA x) aqd._auto_1)(hx:autoParam (Loc X.env.scope x) aqh._auto_1)(hs:autoParam (OR (.Call (.Name "dict" p) [e] [] p2) (ZA (.Name x p3)) pos.line X.env=pure ZD) aqd._auto_1)
  (hf:autoParam (X.fn x=ZC\/X.env.scope.names.lookup x=ZA .local) aqa._auto_1):oH X (.Assign [.Name x p3] (.Call (.Name "dict" p) [e] [] p2) pos) (rH i f):=PS.imp (mL hN hi hx (CG hu hc hm ha hg hst) hs hf) λD σ H hh_=>by
 obtain⟨Z,B,M,E,h⟩:=hh_;refine⟨Z,OO B M,E.o,?_⟩
 unfold rH at h
 cases q:f Z with
 |bad=>rw[q]at h;exact h.elim
 |err c=>rw[q]at h;exact PostF.xa h
 |ok t=>
  rw[q,ay]at h;intro H1 s1 v r
  have h1:=h.later (SameO.of s1) (P1:=M.u) λa z=>.inl z
  cases t with
  |lst l=>
   obtain⟨a,xs,rfl,e2,e3,e4⟩:=Rep.Do.mp r;unfold z8 at h1
   split at h1
   ·rename_i l' heq
    cases heq
    split at h1
    ·rename_i tps hps
     by_cases hz:l.length<=1000
     ·rw[if_pos hz,ay]at h1
      obtain⟨ps,g1,g2⟩:=zk hps e4;refine⟨a,xs,ps,rfl,e3,by rw[<-e4.length];exact hz,g1,λnd nw=>?_⟩
      by_cases hl:i<Z.length
      ·simp only[if_pos hl]at h1
       have hm:∀a,a=nd->Nw X.K H1 a:=λa z=>z▸nw
       obtain⟨k1,k2⟩:=sv (ks:=[]) (ts:=[]) (kvs:=[]) g2 rfl Reps.GE Qh;obtain⟨E2,sub⟩:=(E.same s1).new (m:=λa=>a=nd) (o:=.dct (j8 tps ([],[])).1 (j8 tps ([],[])).2) (v:=.ref nd) (H':=upd H1 nd (.dT (fB [] ps))) hl hm (bj nw.1 _) ⟨nd,_,rfl,λb=>Rg,aG,k1,(k2.more (Ev.subO hm)).same (bj nw.1 _)⟩
       exact h1 _ _ _ (SameO.of (bj nw.1 _)) E2 sub
      ·simp only[if_neg hl]at h1;exact h1.elim
     ·rw[if_neg hz]at h1;exact h1.elim
    ·exact h1.elim
   ·rename_i hno
    exact(hno l rfl).elim
  |_=>exact h1.elim
end
theorem lx:∀{l:List T}{ns:List Int}{xs:List V}{us:List NK},rP l=ZA ns->Reps K O H l xs->Vals xs us->RG us ns
 |[],ns,xs,us,h,r,v=>by cases Reps.Da.mp r;cases v;cases h;exact .nil
 |t::l,ns,xs,us,h,r,v=>by
  obtain⟨w,ws,rfl,p,q⟩:=Reps.me.mp r
  cases v with
  |cons v1 v2=>
   cases t with
   |int i=>
    unfold rP at h;obtain⟨m,h1,rfl⟩:=Qx.mp h;cases Rep.AC.mp p;obtain⟨k,rfl⟩:=v1
    exact .cons _ _ (lx h1 q v2)
   |_=>cases h
theorem rZ:∀(l:List Int)(i:Int),yn i l∈i::l/\∀a∈i::l,yn i l<=a
 |[],i=>⟨NN,λa h=>by cases N0.mp h;exact PM _⟩
 |j::l,i=>by
  obtain⟨h1,h2⟩:=rZ l (if j<i then j else i)
  unfold yn
  have h3:=h2 _ NN;refine⟨?_,λa ha=>?_⟩
  ·rcases NR.mp h1 with e|e
   ·rw[e]
    by_cases h:j<i
    ·rw[if_pos h];simp
    ·rw[if_neg h];simp
   ·exact NJ _ (NJ _ e)
  ·rcases NR.mp ha with rfl|ha
   ·by_cases h:j<a
    ·rw[if_pos h]at h3 ⊢;omega
    ·rw[if_neg h]at h3 ⊢;omega
   ·rcases NR.mp ha with rfl|ha
    ·by_cases h:a<i
     ·rw[if_pos h]at h3 ⊢;omega
     ·rw[if_neg h]at h3 ⊢;omega
    ·exact h2 a (NJ _ ha)
theorem r6:∀(l:List Int)(i:Int),yo i l∈i::l/\∀a∈i::l,a<=yo i l
 |[],i=>⟨NN,λa h=>by cases N0.mp h;exact PM _⟩
 |j::l,i=>by
  obtain⟨h1,h2⟩:=r6 l (if i<j then j else i)
  unfold yo
  have h3:=h2 _ NN;refine⟨?_,λa ha=>?_⟩
  ·rcases NR.mp h1 with e|e
   ·rw[e]
    by_cases h:i<j
    ·rw[if_pos h];simp
    ·rw[if_neg h];simp
   ·exact NJ _ (NJ _ e)
  ·rcases NR.mp ha with rfl|ha
   ·by_cases h:a<j
    ·rw[if_pos h]at h3 ⊢;omega
    ·rw[if_neg h]at h3 ⊢;omega
   ·rcases NR.mp ha with rfl|ha
    ·by_cases h:i<a
     ·rw[if_pos h]at h3 ⊢;omega
     ·rw[if_neg h]at h3 ⊢;omega
    ·exact h2 a (NJ _ ha)
def Kk(hc:X.calm=ZC):CallT X (.builtin "min") C3:=by
 intro ol s σ H O ts vs us Q I hf rs rv hp;unfold C3 at hp
 split at hp
 ·rename_i l
  obtain⟨v,rfl,r⟩:=rs.one
  split at hp
  ·rename_i i ns hk
   obtain⟨a,ws,rfl,n,q,z⟩:=Rep.Do.mp r;obtain⟨u,rfl,ru⟩:=kO rv;cases ru;obtain⟨its,r',pl,hz⟩:=I.list (SqL.of q)
   have hi:=lx hk z r';obtain⟨xs,e⟩:=hi.allInts.items
   have hns:i::ns=xs.toList.map (·.1):=by rw[<-hi.numsOf,<-nums_intItems,<-e]
   have hl:s.heap.IsList a (intItems xs):=by rw[<-e];exact pl.isList
   have hsz:0<xs.size:=by
    have h3:=congrArg O0 hns;rw[NS,NP]at h3;rw[<-O9];omega
   refine min_intList (I.ok.hd hc) hl hsz λv h' tk hv hk'=>?_
   obtain⟨t,rfl⟩:=intItems_at hv;obtain⟨h1,h2⟩:=argBest_lt (numAt xs) (xs.size - 1);refine⟨.int _,H,I.kept (t':=tk) hk',⟨_,rfl⟩,?_⟩
   have eM:numAt xs (argBest (λi j=>decide (numAt xs i<numAt xs j)) (xs.size - 1))=yn i ns:=by
    obtain⟨g1,g2⟩:=rZ ns i
    have m1:numAt xs (argBest (λi j=>decide (numAt xs i<numAt xs j)) (xs.size - 1))∈i::ns:=by
     rw[hns,numAt_eq];exact PySem.getD_mem (by rw[NP,O9];omega)
    have k1:=g2 _ m1;rw[hns]at g1;obtain⟨j,hj,ej⟩:=mem_getD g1;rw[NP,O9]at hj;rw[<-numAt_eq]at ej
    have k2:=h2 j (by omega)
    rw[ej]at k2;exact U7 k2 k1
   rw[eM];exact hp H (Same.refl H) _ (Rep.Gc _)
  ·exact hp.elim
 ·rename_i i j
  obtain⟨v,ws,rfl,p,q⟩:=Reps.me.mp rs;obtain⟨v2,rfl,p2⟩:=q.one;cases Rep.AC.mp p;cases Rep.AC.mp p2;refine Bd hc ol s σ H _ us Q I rv ⟨i,j,rfl,?_⟩
  exact hp H (Same.refl H) _ (Rep.Gc _)
 ·exact hp.elim
def Ej(hc:X.calm=ZC):CallT X (.builtin "max") rg:=by
 intro ol s σ H O ts vs us Q I hf rs rv hp;unfold rg at hp
 split at hp
 ·rename_i l
  obtain⟨v,rfl,r⟩:=rs.one
  split at hp
  ·rename_i i ns hk
   obtain⟨a,ws,rfl,n,q,z⟩:=Rep.Do.mp r;obtain⟨u,rfl,ru⟩:=kO rv;cases ru;obtain⟨its,r',pl,hz⟩:=I.list (SqL.of q)
   have hi:=lx hk z r';obtain⟨xs,e⟩:=hi.allInts.items
   have hns:i::ns=xs.toList.map (·.1):=by rw[<-hi.numsOf,<-nums_intItems,<-e]
   have hl:s.heap.IsList a (intItems xs):=by rw[<-e];exact pl.isList
   have hsz:0<xs.size:=by
    have h3:=congrArg O0 hns;rw[NS,NP]at h3;rw[<-O9];omega
   refine max_intList (I.ok.hd hc) hl hsz λv h' tk hv hk'=>?_
   obtain⟨t,rfl⟩:=intItems_at hv;obtain⟨h1,h2⟩:=argBest_gt (numAt xs) (xs.size - 1);refine⟨.int _,H,I.kept (t':=tk) hk',⟨_,rfl⟩,?_⟩
   have eM:numAt xs (argBest (λi j=>decide (numAt xs i > numAt xs j)) (xs.size - 1))=yo i ns:=by
    obtain⟨g1,g2⟩:=r6 ns i
    have m1:numAt xs (argBest (λi j=>decide (numAt xs i > numAt xs j)) (xs.size - 1))∈i::ns:=by
     rw[hns,numAt_eq];exact PySem.getD_mem (by rw[NP,O9];omega)
    have k1:=g2 _ m1;rw[hns]at g1;obtain⟨j,hj,ej⟩:=mem_getD g1;rw[NP,O9]at hj;rw[<-numAt_eq]at ej
    have k2:=h2 j (by omega)
    rw[ej]at k2;exact U7 k1 k2
   rw[eM];exact hp H (Same.refl H) _ (Rep.Gc _)
  ·exact hp.elim
 ·rename_i i j
  obtain⟨v,ws,rfl,p,q⟩:=Reps.me.mp rs;obtain⟨v2,rfl,p2⟩:=q.one;cases Rep.AC.mp p;cases Rep.AC.mp p2;refine Be hc ol s σ H _ us Q I rv ⟨i,j,rfl,?_⟩
  exact hp H (Same.refl H) _ (Rep.Gc _)
 ·exact hp.elim
end Tr
namespace Tr
def gv:List T->Option (List (List Int))
 |[] =>ZA []
 |.tup l::r=>match rP l,gv r with
  |some ns,ZA k=>if ns=[]then ZB else ZA (ns::k)
  |_,_=>ZB
 |_=>ZB
theorem wJ:∀l,gS l l=ZD
 |[] =>rfl
 |a::l=>by unfold gS;rw[if_pos rfl];exact wJ l
theorem uM:∀a b c,gS a b=ZC->gS b c=ZC->gS a c=ZC
 |[],[],_,h,_=>absurd h (by simp[gS])
 |_::_,[],_,h,_=>absurd h (by simp[gS])
 |[],_::_,[],_,h=>absurd h (by simp[gS])
 |[],_::_,_::_,_,_=>rfl
 |_::_,_::_,[],_,h=>absurd h (by simp[gS])
 |x::a,y::b,z::c,h,g=>by
  unfold gS at h g ⊢
  by_cases e:x=y
  ·subst e
   rw[if_pos rfl]at h
   by_cases e2:x=z
   ·rw[if_pos e2]at g ⊢;exact uM a b c h g
   ·rw[if_neg e2]at g ⊢;exact g
  ·rw[if_neg e]at h
   by_cases e2:y=z
   ·subst e2;rw[if_neg e];exact h
   ·rw[if_neg e2]at g
    have h1:=of_decide_eq_true h
    have h2:=of_decide_eq_true g;rw[if_neg (by omega)]
    exact decide_eq_true (by omega)
theorem pT:∀a b,gS a b=ZD->gS b a=ZD->a=b
 |[],[],_,_=>rfl
 |[],_::_,h,_=>absurd h (by simp[gS])
 |_::_,[],_,h=>absurd h (by simp[gS])
 |x::a,y::b,h,g=>by
  unfold gS at h g
  by_cases e:x=y
  ·subst e
   rw[if_pos rfl]at h g;rw[pT a b h g]
  ·rw[if_neg e]at h
   rw[if_neg (λz=>e z.symm)]at g
   have h1:=of_decide_eq_false h
   have h2:=of_decide_eq_false g;omega
def C8(a b c:List Int)(h:gS a c=ZC):gS a b=ZC\/gS b c=ZC:=by
 cases h1:gS a b with
 |true=>exact .inl rfl
 |false=>
  cases h2:gS b a with
  |true=>exact .inr (uM _ _ _ h2 h)
  |false=>rw[<-pT _ _ h1 h2];exact .inr h
end Tr
namespace Tr
open PySem PySem.Spec PyProof.Rows L2
variable (R:RK)
variable {R:RK}
def RK.kind(R:RK)(h:ZH):PyProof.Rows.KeyKind:={α:=List Int,blt:=gS,irrefl:=wJ,trans:=uM,negTrans:=C8,total:=pT,keyOf:=R.key h,dflt:=[]}
def RK.row(R:RK)(h:ZH)(v:NK):List Int:=(R.key h v).getD []
end Tr
namespace L2
open PySem PySem.Spec PyProof.Rows
def wY{b:Nat}:b∈ [n+4,n,n+1,n+2,n+3] ↔n<=b/\b<n+5:=by
 simp only[NR,Pk,or_false];omega
end L2
namespace Tr
open PySem PySem.Spec PyProof.Rows L2
def Wk(K:NI)(O:Ow)(H1:Hp)(l:List T)(v:V):Prop:=∃(aa:ZE)(tt:Bool)(ws:List V),v=.ref aa/\¬ O aa/\Reps K O H1 l ws/\EL K H1 aa tt ws/\(∀P Hc,SameO P H1 Hc->¬ P aa->EL K Hc aa tt ws)/\¬ Nw K H1 aa
end Tr
namespace Tr
open PySem
def c0(g:List T->Rs T)(_:En):Rs T:=match g []with
 |.ok t=>.ok t
 |_=>.bad
end Tr
namespace PySem
open Sem (wp)
open L2 (itAt)
structure PW (prog:N8)(w:OV)(A:Oq)(I:ZE)(T:String)(fp wr:List ZE)(n:Nat)(R:Nat->NK->NK->Prop)(St:Nat->Option ZE->ZH->Prop):Prop where
 sub:∀b∈wr,b∈fp
 ty:∀i o (s:NO),St i o s.heap->s.TypeIs (.ref I) T
 frame:∀i o h h',St i o h->(∀b∈fp,∀ob,h.get? b=ZA ob->h'.get? b=ZA ob)->St i o h'
 item:∀i o (s:NO) (Q:Option NK->NO->Prop) (E:V1),i<n->St i o s.heap->(∀t,o=ZA t->∃ob,s.heap.get? t=ZA ob) →
  (∀p h' tk x y,R i x y->s.heap.objs.size<=p->IsPair h' p x y->St (i+1) (ZA (o.getD p)) h'->(∀b ob,b∉wr->s.heap.get? b=ZA ob->h'.get? b=ZA ob)->Q (ZA (.ref p)) {s with heap:=h',toks:=tk})->wpAny (model prog w) A (pyNext (.ref I)) Q E s
 done:∀o (s:NO) (Q:Option NK->NO->Prop) (E:V1),St n o s.heap->(∀t,o=ZA t->∃ob,s.heap.get? t=ZA ob)->(∀h' tk,(∀b ob,b∉wr->s.heap.get? b=ZA ob->h'.get? b=ZA ob)->Q ZB {s with heap:=h',toks:=tk})->wpAny (model prog w) A (pyNext (.ref I)) Q E s
 self:∀i o (s:NO) (Q:V1) (E:V1),St i o s.heap->Q (.ref I) s->wpAny (model prog w) A (pyIter (.ref I)) Q E s
end PySem
namespace Tr
open PySem
inductive Fx where
 |nx (Z:En)|rt (t:T) (Z:En)
def my{α:Type}(f:Str):List Str->List α->Option α
 |n::ns,l::ls=>if n=f then ZA l else my f ns ls
 |_,_=>ZB
def lD(f:Str)(l':List T):List Str->List (List T)->List (List T)
 |n::ns,l::ls=>if n=f then l'::ls else l::lD f l' ns ls
 |_,ls=>ls
def yH(c f:Str):T->Rs T
 |.ob c' ns ts=>if c'=c then(match my f ns ts with|some t=>.ok t|none=>.bad)else .bad
 |_=>.bad
def wB(c m:Str)(g:List T->Rs T)(fo:V5)(fs:V3)(Z:En):Rs T:=do
 let o <-fo Z
 match o with
 |.ob c' ns ts=>if c'=c/\ns.contains m=ZD then fs Z >>= λl=>g (.ob c' ns ts::l)else .bad
 |_=>.bad
def xP(f:V5)(Z:En):Rs (T×En):=f Z >>= λt=>.ok (t,Z)
def Ao(i:Nat)(c f:Str)(fa:V5)(Z:En):Rs (T×En):=match Z[i]? with
 |some (.ow (.ob c' ns ls))=>if c'=c then(match my f ns ls with
  |some l=>fa Z >>= λt=>if l.length<sizeLine then .ok (.non,Z.set i (.ow (.ob c' ns (lD f (l++[t]) ns ls))))else .bad
  |none=>.bad)else .bad
 |_=>.bad
def An(i:Nat)(c f:Str)(Z:En):Rs (T×En):=match Z[i]? with
 |some (.ow (.ob c' ns ls))=>if c'=c then(match my f ns ls with
  |some l=>(match l.getLast? with
   |some t=>.ok (t,Z.set i (.ow (.ob c' ns (lD f l.dropLast ns ls))))
   |none=>.bad)
  |none=>.bad)else .bad
 |_=>.bad
def BG(i:Nat)(Z:En):Rs (T×OT)->Rs (T×En)
 |.ok p=>.ok (p.1,Z.set i (.ow p.2))
 |.err c=>.err c
 |.bad=>.bad
def c8(i:Nat)(c m:Str)(g:List Sl->Rs (T×OT))(fs:V3)(Z:En):Rs (T×En):=match Z[i]? with
 |some (.ow (.ob c' ns ls))=>if c'=c/\ns.contains m=ZD then fs Z >>= λts=>BG i Z (g (.ow (.ob c' ns ls)::ts.map Sl.va))else .bad
 |_=>.bad
def xC(i:Nat)(g:List Sl->Rs (T×OT))(fs:V3)(Z:En):Rs (T×En):=match Z[i]? with
 |some (.ow o)=>fs Z >>= λts=>BG i Z (g (.ow o::ts.map Sl.va))
 |_=>.bad
def fG(n:Nat)(sls:List Sl):En:=sls++N9 (n - sls.length) Sl.em
def qN(j:Nat):Fx->Rs (T×OT)
 |.nx Z=>match Z[j]? with
  |some (.ow o)=>.ok (.non,o)
  |_=>.bad
 |.rt t Z=>match Z[j]? with
  |some (.ow o)=>.ok (t,o)
  |_=>.bad
def iJ(n j m:Nat)(F:En->Rs Fx)(sls:List Sl):Rs (T×OT):=if sls.length=n then F (fG m sls) >>= qN j else .bad
def EK{α:Type}:Rs α->Rs α
 |.err _=>.bad
 |r=>r
def mN(Z:En):Rs Fx:=.ok (.nx Z)
def nV(F G:En->Rs Fx)(Z:En):Rs Fx:=match F Z with
 |.ok (.nx Z')=>EK (G Z')
 |r=>r
def xy(x:En->Rs (T×En))(Z:En):Rs Fx:=x Z >>= λp=>.ok (.nx p.2)
def lA(x:En->Rs (T×En))(Z:En):Rs Fx:=x Z >>= λp=>.ok (.rt p.1 p.2)
def Jy(f:V6)(F G:En->Rs Fx)(Z:En):Rs Fx:=f Z >>= λk=>if k then F Z else G Z
def Gg(c:Str)(_:En):Rs Fx:=.err c
def AN(i:Nat)(c f:Str)(fs:V3)(Z:En):Rs Fx:=match Z[i]? with
 |some (.ow (.ob c' ns ls))=>fs Z >>= λl=>if c'=c/\l.length<=sizeLine/\ns.length<1000 then
   .ok (.nx (Z.set i (.ow (if ns.contains f then .ob c' ns (lD f l ns ls)else .ob c' (ns++[f]) (ls++[l])))))else .bad
 |_=>.bad
def wI(F:En->Rs Fx)(h:Str->Rs T)(Z:En):Rs Fx:=match F Z with
 |.err c=>(match h c with
  |.ok t=>.ok (.rt t Z)
  |_=>.bad)
 |r=>r
def HV(x:En->Rs (T×En))(Z:En):Rs (Bool×En):=x Z >>= λp=>match p.1 with
 |.bl b=>.ok (b,p.2)
 |_=>.bad
def EZ(g:T->T->Rs T)(x:En->Rs (T×En))(f:V5)(Z:En):Rs (T×En):=x Z >>= λp=>EK (f p.2 >>= g p.1) >>= λt=>.ok (t,p.2)
def EX(f:V6)(Z:En):Rs (Bool×En):=f Z >>= λb=>.ok (b,Z)
def sR(x y:En->Rs (Bool×En))(Z:En):Rs (Bool×En):=x Z >>= λp=>if p.1 then .ok (ZC,p.2)else EK (y p.2)
def E5(f:V6)(x y:En->Rs (T×En))(Z:En):Rs (T×En):=f Z >>= λk=>if k then x Z else y Z
def xU(x:En->Rs (Bool×En))(F G:V4)(Z:En):Rs Fl:=x Z >>= λp=>if p.1 then F p.2 else G p.2
def iw(g:List T->Rs (T ⊕ OT))(ts:List T):Rs T:=match g ts with
 |.ok (.inl t)=>.ok t
 |.ok (.inr _)=>.bad
 |.err c=>.err c
 |.bad=>.bad
def xF(n m:Nat)(F:En->Rs (T ⊕ OT))(ts:List T):Rs (T ⊕ OT):=if ts.length=n then F (aQ m ts)else .bad
def k8(c:Str)(g:List Sl->Rs (T×OT))(fs:V3)(Z:En):Rs (T ⊕ OT):=fs Z >>= λts=>g (.ow (.ob c [] [])::ts.map Sl.va) >>= λp=>match p.1 with
 |.non=>.ok (.inr p.2)
 |_=>.bad
def wA(F:En->Rs (T ⊕ OT))(h:Str->Rs T)(Z:En):Rs (T ⊕ OT):=match F Z with
 |.err c=>(match h c with
  |.ok t=>.ok (.inl t)
  |_=>.bad)
 |r=>r
def jJ(i:Nat)(g:List T->Rs (T ⊕ OT))(fs:V3)(Z:En):Rs Fl:=fs Z >>= λts=>g ts >>= λp=>if i<Z.length then(match p with
 |.inl t=>.ok (.nx (Z.set i (.va t)))
 |.inr o=>.ok (.nx (Z.set i (.ow o))))else .bad
def MJ:Rs Fx->Rs Fx
 |.ok (.nx _)=>.bad
 |r=>r
def pO(f:V6)(F G:En->Rs Fx)(Z:En):Rs Fx:=f Z >>= λk=>if k then MJ (F Z)else G Z
end Tr
namespace Tr
open PySem PySem.Spec PyProof.Rows L2
abbrev one(j:Nat)(m:Ow):Mn:=noM.set j m
abbrev BM(B m:Ow):Ow:=λa=>B a\/m a
variable{a:ZE}{m:Ow}
def one_u:(one j m).u a↔m a:=⟨λz=>(Mn.KF z).elim id λ⟨_,w⟩=>w.elim,λz=>⟨j,by unfold one;rw[Mn.MY];exact z⟩⟩
variable{B:Ow}
def one_oo:OO B (one j m) a↔BM B m a:=or_congr Rg one_u
variable{H:Hp}{M:Mn}{Z:En}{o':OT}{σ:L2.St}
section
variable {H':Hp}{o:OT}{v:V}
def Ev.old(E:Ev K B M H Z σ)(w:Nw K H a):¬ OO B M a:=λz=>by
 obtain⟨o,e⟩:=(E.env.trk a z).some;rw[w.1]at e;cases e
def Ev.back(E:Ev K B M H Z σ)(hi:Z[i]?=ZA (.ow o))(hs:σ[i]?=ZA (ZA v))(s:SameO (M i) H H')(r:ORep K (OO B (M.set i m)) m H' o' v)(hm:∀a,m a->M i a\/Nw K H a):
  Ev K B (M.set i m) H' (Z.set i (.ow o')) σ/\SameO M.u H H'/\∀a,(M.set i m).u a->M.u a\/Nw K H a:=by
 have hl:i<Z.length:=(NU.mp hi).1
 have sub:∀a,(M.set i m).u a->M.u a\/Nw K H a:=λa z=>(Mn.KF z).elim (λw=>(hm a w).imp_left λy=>⟨i,y⟩) .inl
 have subO:∀a,OO B (M.set i m) a->OO B M a\/Nw K H a:=λa z=>z.elim (λw=>.inl (.inl w)) λw=>(sub a w).elim (λy=>.inl (.inr y)) .inr
 have inO:∀a,M i a->OO B M a\/Nw K H a:=λa z=>.inl (.inr ⟨i,z⟩)
 refine⟨⟨⟨by rw[Pa];exact E.env.len,λj t e=>?_,λj o2 e=>?_,λj a z=>.inr ⟨j,z⟩,λj k a z1 z2=>?_,λa z=>?_⟩,λa z hb=>?_⟩,λb u e n=>s b u e λz=>n ⟨i,z⟩,sub⟩
 ·by_cases hj:i=j
  ·subst hj;rw[Of hl]at e;cases e
  ·rw[Oh hj]at e
   obtain⟨w,e1,e2⟩:=E.env.val j t e;exact⟨w,e1,e2.move inO subO s⟩
 ·by_cases hj:i=j
  ·subst hj
   rw[Of hl]at e
   cases e;exact⟨v,hs,by rw[Mn.MY];exact r⟩
  ·rw[Oh hj]at e
   obtain⟨w,e1,e2⟩:=E.env.own j o2 e;refine⟨w,e1,?_⟩
   rw[Mn.M7 (λz=>hj z.symm)]
   exact e2.move inO subO s λa z y=>hj (E.env.dis i j a y z)
 ·unfold Mn.set at z1 z2
  by_cases hj:j=i
  ·by_cases hk:k=i
   ·exact hj.trans hk.symm
   ·rw[if_pos hj]at z1;rw[if_neg hk]at z2
    exact(hm a z1).elim (λw=>(hk (E.env.dis k i a z2 w)).elim) λw=>(E.old w (.inr ⟨k,z2⟩)).elim
  ·by_cases hk:k=i
   ·rw[if_neg hj]at z1;rw[if_pos hk]at z2
    exact(hm a z2).elim (λw=>(hj (E.env.dis j i a z1 w)).elim) λw=>(E.old w (.inr ⟨j,z1⟩)).elim
   ·rw[if_neg hj]at z1;rw[if_neg hk]at z2
    exact E.env.dis j k a z1 z2
 ·rcases z with z|⟨j,z⟩
  ·exact(E.env.trk a (.inl z)).at λo e=>s _ _ e λw=>E.mine a ⟨i,w⟩ z
  ·unfold Mn.set at z
   by_cases hj:j=i
   ·rw[if_pos hj]at z;exact r.mtb a z
   ·rw[if_neg hj]at z
    exact(E.env.trk a (.inr ⟨j,z⟩)).at λo e=>s _ _ e λw=>hj (E.env.dis j i a z w)
 ·rcases Mn.KF z with w|w
  ·exact(hm a w).elim (λy=>E.mine a ⟨i,y⟩ hb) λy=>E.old y (.inl hb)
  ·exact E.mine a w hb
end
variable{O:Ow}{X:Cx}{apos cpos p3 pos:Pos}{c x:Str}{e:ZG}{es:List ZG}{fa:V5}{l:List T}
section
variable {a:ZG}{fs:V3}{p2:Pos}{f:Str}
def PostX(X:Cx)(B P:Ow)(σ:L2.St)(H:Hp)(r:Rs (T×En))(Q:VK):Prop:=match r with
 |.ok p=>∀v H' M',SameO P H H'->Ev X.K B M' H' p.2 σ->(∀a,M'.u a->P a\/Nw X.K H a)->Rep X.K (OO B M') H' p.1 v->Q v H'
 |.err c=>XA X kY H c
 |.bad=>False
def tX(X:Cx)(f:En->Rs (T×En)):TE:=λσ H Q=>∃Z B M,Ev X.K B M H Z σ/\PostX X B M.u σ H (f Z) Q
abbrev Bi(X:Cx)(e:ZG)(f:En->Rs (T×En)):Prop:=PE X e (tX X f)
def HW(h:cy X a fa):Bi X a (xP fa):=PE.imp h λσ H Q hh_=>by
 obtain⟨Z,B,M,E,q⟩:=hh_;refine⟨Z,OO B M,E.o,?_⟩
 unfold xP at q
 cases z:fa Z with
 |bad=>rw[z]at q;exact q
 |err c=>rw[z]at q;exact q
 |ok t=>
  rw[z,ay]at q;exact λH' s v r=>q v H' M (SameO.of s) (E.same s) (λ_ w=>.inl w) r
theorem DI:∀{fs:List (Str×V)}{ts:List T}{t:T},my f (fs.map (·.1)) ts=ZA t->Reps K O H ts (fs.map (·.2))->∃v,fs.lookup f=ZA v/\Rep K O H t v
 |[],ts,t,h,_=>by cases h
 | (n,w)::fs,[],t,h,_=>by cases h
 | (n,w)::fs,u::ts,t,h,r=>by
  obtain⟨w',ws,e,p,q⟩:=Reps.me.mp r;cases e
  have h':(if n=f then ZA u else my f (fs.map (·.1)) ts)=ZA t:=h
  rw[OJ]
  by_cases z:n=f
  ·subst z
   rw[if_pos rfl]at h';cases h';exact⟨w,by rw[beq_self_eq_true],p⟩
  ·rw[if_neg z]at h'
   rw[beq_eq_false_iff_ne.mpr (OZ z)];exact DI h' q
def Lp(hc:Cls X.K (bO X.K c))(hn:NoAttr X.K (bO X.K c) f)(ha:cy X a fa)(hb:autoParam (On a f X.env (eval a X.env)=eval a X.env) aqd._auto_1):cy X (.Attribute a f pos) (o1 (yH c f) fa):=PE.imp (x8 ha hb) λσ H Q hh_=>by
 obtain⟨Z,O,E,h⟩:=hh_;refine zd (a9 (k:=yH c f) E h) λv H' ⟨t,r,s,E',q⟩=>?_
 cases t with
 |ob c' ns ts=>
  unfold yH at q
  dsimp only at q
  split at q
  ·rename_i hcc
   subst hcc;obtain⟨b,dx,fs,e1,e2,e3,e4,e5⟩:=Rep.M8.mp r;subst e4
   split at q
   ·rename_i t ht
    obtain⟨w,l1,l2⟩:=DI ht e5;exact⟨b,_,dx,fs,w,e1,e3,hc,hn,l1,q H' (Same.refl _) w l2⟩
   ·exact q.elim
  ·exact q.elim
 |_=>exact q.elim
theorem yG:∀{ns:List Str}{as:List ZE}{ls:List (List T)}{l:List T},my f ns ls=ZA l->LsR K O H ls as->ns.length=as.length->as.Nodup →
  ∃b vs,(ns.zip (as.map V.ref)).lookup f=ZA (.ref b)/\b∈as/\H b=ZA (.lst vs)/\Reps K O H l vs/\∀(l':List T)(vs':List V),O b->Reps K O H l' vs'->LsR K O (upd H b (.lst vs')) (lD f l' ns ls) as
 |[],as,ls,l,h,_,_,_=>by cases ls <;> cases h
 |n::ns,[],ls,l,h,_,hl,_=>by cases hl
 |n::ns,b::as,[],l,h,_,_,_=>by cases h
 |n::ns,b::as,u::ls,l,h,r,hl,nd=>by
  obtain⟨b',bs,vs,e1,e2,e3,e4⟩:=r;cases e1
  have nb:b∉as:=(Oe.mp nd).1
  have h':(if n=f then ZA u else my f ns ls)=ZA l:=h
  show ∃c ws,((n,V.ref b)::ns.zip (as.map V.ref)).lookup f=_/\_
  rw[OJ]
  have keep:∀(c:ZE)(vs':List V),O c->∀{t:List T}{ws:List V},Reps K O H t ws->Reps K O (upd H c (.lst vs')) t ws:=λc vs' hc t ws q=>Reps.keep (P:=λa=>a=c) (λd o e n=>by rw[aB n];exact e) (λa z=>z▸hc) q
  by_cases z:n=f
  ·subst z
   rw[if_pos rfl]at h';cases h';refine⟨b,vs,by rw[beq_self_eq_true],NN,e2,e3,λl' vs' ob rl=>?_⟩
   show LsR K O _ (if n=n then l'::ls else _) _
   rw[if_pos rfl];refine⟨b,as,vs',rfl,aG,keep _ _ ob rl,?_⟩
   clear h hl nd e3 e2
   induction ls generalizing as with
   |nil=>exact e4
   |cons w ls ih=>
    obtain⟨c,cs,ws,f1,f2,f3,f4⟩:=e4;subst f1;exact⟨c,cs,ws,rfl,by rw[aB (λy=>nb (by rw[<-y];exact NN))];exact f2,keep _ _ ob f3,ih cs f4 λy=>nb (NJ _ y)⟩
  ·rw[if_neg z]at h'
   rw[beq_eq_false_iff_ne.mpr (OZ z)];obtain⟨d,ws,g1,g2,g3,g4,g5⟩:=yG h' e4 (by simpa using hl) (Oe.mp nd).2
   refine⟨d,ws,g1,NJ _ g2,g3,g4,λl' vs' od rl=>?_⟩
   show LsR K O _ (if n=f then l'::ls else u::lD f l' ns ls) _
   rw[if_neg z];exact⟨b,as,vs,rfl,by rw[aB (λy=>nb (by rw[y];exact g2))];exact e2,keep _ _ od e3,g5 l' vs' od rl⟩
def Ev.putF{ns:List Str}{ls:List (List T)}(E:Ev K B M H Z σ)(hi:Z[i]?=ZA (.ow (.ob c ns ls)))(hf:my f ns ls=ZA l):
  ∃p dx fs b vs,σ[i]?=ZA (ZA (.ref p))/\H p=ZA (.ins (bO K c) dx fs)/\fs.lookup f=ZA (.ref b)/\H b=ZA (.lst vs)/\Reps K (OO B M) H l vs/\∀(l':List T)(vs':List V),Reps K (OO B M) H l' vs' →
   Ev K B M (upd H b (.lst vs')) (Z.set i (.ow (.ob c ns (lD f l' ns ls)))) σ/\SameO M.u H (upd H b (.lst vs')):=by
 obtain⟨v0,s0,p,dx,as,e1,e2,⟨n1,n2,n3,n4⟩,e4,e5,e6,e7,e8⟩:=E.env.own i _ hi;subst e1;obtain⟨b,vs,g1,g2,g3,g4,g5⟩:=yG hf e8 e6 n4
 have Mb:M i b:=(e2 b).mpr (.inr (.inr g2));refine⟨p,dx,_,b,vs,s0,e4,g1,g3,g4,λl' vs' rl=>?_⟩
 have sm:SameO (M i) H (upd H b (.lst vs')):=λd u e nb=>by rw[aB (λz=>nb (by rw[z];exact Mb))];exact e
 refine E.put hi s0 sm ⟨p,dx,as,rfl,e2,⟨n1,n2,n3,n4⟩,?_,?_,e6,e7,g5 l' vs' (.inr ⟨i,Mb⟩) rl⟩
 ·rw[aB (jQ e4 g3 (λz=>nomatch z))];exact e4
 ·rw[aB (jQ e5 g3 (λz=>nomatch z))];exact e5
def KJ(i:Nat)(hc:Cls X.K (bO X.K c))(hn:NoAttr X.K (bO X.K c) f)(ha:cy X a fa)(hN:autoParam (X.N[i]?=ZA x) aqd._auto_1)(hv:autoParam (lJ X.env.scope x) aqe._auto_1)(hs:autoParam (bu a=ZC) aqd._auto_1)
  (hb1:autoParam (On (.Name x p2) f X.env (eval (.Name x p2) X.env)=eval (.Name x p2) X.env) aqd._auto_1)
  (hbase:autoParam (On (.Attribute (.Name x p2) f p3) "append" X.env (eval (.Attribute (.Name x p2) f p3) X.env)=eval (.Attribute (.Name x p2) f p3) X.env) aqd._auto_1) (hline:autoParam ((apos.endLine == cpos.line)=ZC) aqd._auto_1)
  (hd:autoParam ((x == ("__debug__" : Str))=ZD) aqb._auto_1) (hcd:autoParam ((x == ("__classdict__" : Str))=ZD) aqb._auto_1):Bi X (.Call (.Attribute (.Attribute (.Name x p2) f p3) "append" apos) [a] [] cpos) (Ao i c f fa):=by
 have h1:NW [a] X.env=(ZD,eval a X.env)::NW [] X.env:=bp hs;refine PE.imp (vY Pc Sd Se mV (x8 (eF hN hv hd hcd) hb1) (br ha dH h1) hbase (by rw[h1];rfl) hline h1 rfl) λσ H Q ⟨Z,B,M,E,h⟩=>?_
 unfold Ao at h
 split at h
 ·rename_i c' ns ls hl
  split at h
  ·rename_i hcc
   subst hcc
   split at h
   ·rename_i l hf
    obtain⟨p,dx,fs,b,vs,s0,e1,e2,e3,e4,k⟩:=E.putF hl hf;refine⟨.ref p,s0,p,_,dx,fs,.ref b,rfl,e1,hc,hn,e2,.inl ⟨rfl,vs,SqL.of e3⟩,Z,OO B M,E.o,?_⟩
    cases q:fa Z with
    |bad=>rw[q]at h;exact h.elim
    |err c=>rw[q]at h;exact h
    |ok t=>
     rw[q,ay]at h
     split at h
     ·rename_i hz
      intro H1 s1 v r;obtain⟨p',dx',fs',b',vs',s0',e1',e2',e3',e4',k'⟩:=(E.same s1).putF hl hf;cases s0.symm.trans s0'
      have z1:=(s1 _ _ e1).symm.trans e1';cases z1;cases e2.symm.trans e2'
      have z3:=(s1 _ _ e3).symm.trans e3';cases z3;obtain⟨g1,g2⟩:=k' (l++[t]) (vs++[v]) (e4'.append (Reps.FS r Reps.GE));exact⟨b,vs,v,rfl,rfl,e3',by rw[<-e4.length];exact hz,h .non _ M (λc o e nb=>g2 c o (s1 _ _ e) nb) g1 (λc z=>.inl z) Rep.Ni⟩
     ·exact h.elim
   ·exact h.elim
  ·exact h.elim
 ·exact h.elim
def KG(i:Nat)(hc:Cls X.K (bO X.K c))(hn:NoAttr X.K (bO X.K c) f)(hN:autoParam (X.N[i]?=ZA x) aqd._auto_1)(hv:autoParam (lJ X.env.scope x) aqe._auto_1)
  (hb1:autoParam (On (.Name x p2) f X.env (eval (.Name x p2) X.env)=eval (.Name x p2) X.env) aqd._auto_1)
  (hbase:autoParam (On (.Attribute (.Name x p2) f p3) "pop" X.env (eval (.Attribute (.Name x p2) f p3) X.env)=eval (.Attribute (.Name x p2) f p3) X.env) aqd._auto_1) (hline:autoParam ((apos.endLine == cpos.line)=ZC) aqd._auto_1)
  (hd:autoParam ((x == ("__debug__" : Str))=ZD) aqb._auto_1) (hcd:autoParam ((x == ("__classdict__" : Str))=ZD) aqb._auto_1):Bi X (.Call (.Attribute (.Attribute (.Name x p2) f p3) "pop" apos) [] [] cpos) (An i c f):=by
 refine PE.imp (Je Pc PySem.F.slot_list_pop PySem.F.type_list_pop Jw (x8 (eF hN hv hd hcd) hb1) hbase hline) λσ H Q ⟨Z,B,M,E,h⟩=>?_
 unfold An at h
 split at h
 ·rename_i c' ns ls hl
  split at h
  ·rename_i hcc
   subst hcc
   split at h
   ·rename_i l hf
    split at h
    ·rename_i t ht
     obtain⟨p,dx,fs,b,vs,s0,e1,e2,e3,e4,k⟩:=E.putF hl hf
     have hlen:=e4.length
     have hne:l≠ []:=λz=>by rw[z]at ht;cases ht
     rw[List.getLast?_eq_getElem?]at ht
     obtain⟨w,w1,w2⟩:=e4.get ht;rw[hlen]at w1;obtain⟨g1,g2⟩:=k l.dropLast vs.dropLast (by rw[SU,SU,hlen];exact e4.take _)
     refine⟨.ref p,s0,p,_,dx,fs,.ref b,rfl,e1,hc,hn,e2,.inl ⟨rfl,vs,SqL.of e3⟩,b,vs,w,rfl,rfl,e3,w1,?_⟩
     refine h w _ M g2 g1 (λc z=>.inl z) (w2.keep (P:=λa=>a=b) (λd o e n=>by rw[aB n];exact e) λa z=>?_)
     obtain⟨v0,s1,p',dx',as,f1,f2,f3,f4,f5,f6,f7,f8⟩:=E.env.own i _ hl;rw[f1]at s1;cases s0.symm.trans s1;cases e1.symm.trans f4;obtain⟨b2,vs2,y1,y2,_⟩:=yG hf f8 f6 f3.2.2.2;rw[e2]at y1;cases y1;exact .inr ⟨i,(f2 a).mpr (.inr (.inr (z▸y2)))⟩
    ·exact h.elim
   ·exact h.elim
  ·exact h.elim
 ·exact h.elim
end
theorem oq{m:Str}:∀{fs:List (Str×V)},(fs.map (·.1)).contains m=ZD->fs.lookup m=ZB
 |[],_=>rfl
 | (n,v)::fs,h=>by
  rw[NM,OW,Tc]at h;rw[OJ,h.1];exact oq h.2
variable{f:ZE}{ps:List Str}
section
variable {o:ZG}{fo:V5}{fs:V3}{p2:Pos}{m:Str}
def FL{pl:Sem Bool}{g:List T->Rs T}(hc:Cls X.K (bO X.K c))(hm:xp X.K (bO X.K c) m f)(F:EF X.prog X.w X.K X.mg X.base k f fd ps 1 g)(hr:Room k X.A)(hb:Binds X.K fd ps [])(hps:ps.length=1)(ho:cy X o fo)
  (ht:eval (.Call (.Attribute o m apos) [] [] pos) X.env=(do
   let ov <-eval o X.env
   standAt apos.atName
   let (f,first) <-holding [ov] (RS ov m pl)
   Uc pos f first (backTo pos (NW [] X.env)) (R5 pos (QH [] X.env))):=by rfl):cy X (.Call (.Attribute o m apos) [] [] pos) (wB c m g fo ai):=by
 intro ol s σ H Q I ⟨Z,O,E,hq⟩;refine Rv (pl:=pl) (bU (ho ol s σ H _ I (a9 E hq)) λu s1 ⟨v,H1,I1,rx,t,r,sm,E1,q⟩=>?_) ht
 cases t with
 |ob c' ns ts=>
  dsimp only at q
  split at q
  ·rename_i hcc
   obtain⟨h1,h2⟩:=hcc;subst h1;obtain⟨p,dx,fs',rfl,n,e3,e4,e5⟩:=Rep.M8.mp r;obtain rfl:u=.ref p:=rx;subst e4;refine lC I1 e3 hc hm (oq h2) ?_
   exact Tq (first:=[.ref p]) I1.kIn hm.kp (K3 (us:=[.ref p]) (vs:=[.ref p]) F hr hb hps I1 (.cons rfl .nil) (Reps.FS r Reps.GE) E1.mtb rfl q)
  ·exact q.elim
 |_=>exact q.elim
end
def spE(K:NI)(n j:Nat)(g:List Sl->Rs (T×OT)):Sp:=λvs H Q _=>∃sls B m v,Ev K B (one j m) H sls (vs.map ZA)/\sls.length=n/\vs[j]?=ZA v ∧
 match g sls with
 |.ok p=>∀u H' m',SameO m H H'->ORep K (BM B m') m' H' p.2 v->(∀a,m' a->m a\/Nw K H a)->Rep K (BM B m') H' p.1 u->Q u H'
 |_=>False
def FnXE(P:N8)(w:OV)(K:NI)(mg:V0)(base:ZH)(k:Nat)(f:ZE)(fd:Ot)(ps:List Str)(n j:Nat)(g:List Sl->Rs (T×OT)):Prop:=
 ∀(A:Oq)(outer:List Env)(s:NO)(H:Hp)(args:Args)(us:List NK)(vs:List V)(B m:Ow)(sls:List Sl)(c:Str)(R:Th->NO->Prop),Room k A->Env0 P w K mg base A outer s H->R7 s fd args (ps.zip us)->Vals vs us →
  Ev K B (one j m) H sls (vs.map ZA)->sls.length=n->g sls=.err c->(∀ev s',ML P w mg outer H s c ev s'->R (.error ev) s')->codeAny (model P w) A (.call (.ref f) args) R s
structure EN (P:N8)(w:OV)(K:NI)(mg:V0)(base:ZH)(k:Nat)(f:ZE)(fd:Ot)(ps:List Str)(n j:Nat)(g:List Sl->Rs (T×OT)):Prop where
 h:FnOk P w K mg base CX0 k f fd ps (spE K n j g)
 x:FnXE P w K mg base k f fd ps n j g
variable{sls:List Sl}{ts:List T}{v0:V}{vs:List V}
section
variable {H':Hp}{o:OT}{v:V}
abbrev BC(B:Ow)(M:Mn)(i:Nat):Ow:=λa=>OO B M a/\¬ M i a
def yR:OO (BC B M i) (one j (M i)) a->OO B M a:=λz=>(one_oo.mp z).elim (λw=>w.1) λw=>.inr ⟨i,w⟩
def Ev.args{ws:List V}(E:Ev K B M H Z σ)(hi:Z[i]?=ZA (.ow o))(hs:σ[i]?=ZA (ZA v0))(hl:sls.length=ws.length)(hj:sls[j]?=ZA (.ow o))(hw:ws[j]?=ZA v0)
  (ho:∀(k:Nat)(o':OT),sls[k]?=ZA (Sl.ow o')->k=j) (hv:∀(k:Nat)(t:T),sls[k]?=ZA (Sl.va t)->∃w,ws[k]?=ZA w/\Rep K (OO B M) H t w):Ev K (BC B M i) (one j (M i)) H sls (ws.map ZA):=by
 obtain⟨v',s',r⟩:=E.env.own i o hi;rw[hs]at s';cases s';refine⟨⟨by rw[NP];exact hl,λk t e=>?_,λk o' e=>?_,λk a z=>.inr ⟨k,z⟩,λk k' a z1 z2=>?_,λa z=>E.env.trk a (yR z)⟩,λa z y=>y.2 (one_u.mp z)⟩
 ·obtain⟨w,e1,e2⟩:=hv k t e
  exact⟨w,by rw[Oc,e1];rfl,e2.less λa z=>yR z⟩
 ·have hk:=ho k o' e
  subst hk;rw[hj]at e;cases e;refine⟨v0,by rw[Oc,hw];rfl,?_⟩
  rw[show one k (M i) k=M i from Mn.MY]
  exact r.move (P:=kY) (λ_ z=>z.elim) (λa z=>.inl (yR z)) (λb u q _=>q) λ_ _ z=>z
 ·unfold one Mn.set at z1 z2
  by_cases h1:k=j
  ·by_cases h2:k'=j
   ·exact h1.trans h2.symm
   ·rw[if_neg h2]at z2;exact z2.elim
  ·rw[if_neg h1]at z1;exact z1.elim
def Ev.ret{t:T}{u:V}(E:Ev K B M H Z σ)(hi:Z[i]?=ZA (.ow o))(hs:σ[i]?=ZA (ZA v0))(s:SameO (M i) H H')(r:ORep K (BM (BC B M i) m) m H' o' v0)(hm:∀a,m a->M i a\/Nw K H a)(rt:Rep K (BM (BC B M i) m) H' t u):
  Ev K B (M.set i m) H' (Z.set i (.ow o')) σ/\SameO M.u H H'/\(∀a,(M.set i m).u a->M.u a\/Nw K H a)/\Rep K (OO B (M.set i m)) H' t u:=by
 have sub:∀a,OO B (M.set i m) a->BM (BC B M i) m a:=λa z=>by
  rcases z with z|⟨k,z⟩
  ·exact .inl ⟨.inl z,λw=>E.mine a ⟨i,w⟩ z⟩
  ·unfold Mn.set at z
   by_cases hk:k=i
   ·rw[if_pos hk]at z;exact .inr z
   ·rw[if_neg hk]at z;exact .inl ⟨.inr ⟨k,z⟩,λw=>hk (E.env.dis k i a z w)⟩
 obtain⟨g1,g2,g3⟩:=E.back hi hs s (r.move (P:=kY) (λ_ z=>z.elim) (λa z=>.inl (sub a z)) (λb u q _=>q) λ_ _ z=>z) hm
 exact⟨g1,g2,g3,rt.less sub⟩
end
variable{H1:Hp}{Q:VK}{g:List Sl->Rs (T×OT)}{ol:V2}
section
variable {v:V}
def HE(X:Cx)(B m:Ow)(v:V)(H:Hp)(r:Rs (T×OT))(Q:VK):Prop:=match r with
 |.ok p=>∀u H' m',SameO m H H'->ORep X.K (BM B m') m' H' p.2 v->(∀a,m' a->m a\/Nw X.K H a)->Rep X.K (BM B m') H' p.1 u->Q u H'
 |.err c=>XA X kY H c
 |.bad=>False
def B9(F:EN X.prog X.w X.K X.mg X.base k f fd ps n j g)(hr:Room k X.A)(hb:Binds X.K fd ps [])(hps:ps.length=n)(I:Inv X ol σ H s)(r:Vals vs us)(Ea:Ev X.K B (one j m) H sls (vs.map ZA))(hl:sls.length=n)(hv:vs[j]?=ZA v)
  (hq:HE X B m v H (g sls) Q):wpAny (model X.prog X.w) X.A (call (.ref f) us) (EP X ol σ Q) X.xe s:=by
 cases q2:g sls with
 |bad=>rw[q2]at hq;exact hq.elim
 |ok p=>
  rw[q2]at hq;refine tI (E:=E0) (dvs:=[]) (ds:=[]) F.h hr hb .nil vZ I r ⟨sls,B,m,v,by simpa using Ea,hl,by simpa using hv,?_⟩
  rw[q2]
  exact hq
 |err c=>
  rw[q2]at hq
  have hlen:us.length=ps.length:=by rw[<-r.length,hps,<-hl,Ea.env.len,NP]
  have hb':=hb s us I.kIn (by rw[Oi];exact hlen)
  rw[Oi]at hb';refine Rp (Qa (F.x X.A X.stack s H ⟨us,[]⟩ us vs B m sls c (λr s'=>match r with|.error ev=>X.xe ev s'|_=>False) hr I.Na hb' r Ea hl q2 λev s' w=>?_) λr s' hq=>?_)
  ·obtain⟨ea,T,C,H',rfl,hmc,ho,hbare,hun,hok,sm2,hea,heo,fl,hT,hTo⟩:=w
   have I2:Inv X ol σ H' s':=I.M6 ho hun hok hbare (λb z=>absurd z (by simp))
   exact hq ol _ _ ⟨ea,ZA T,C,σ,H',rfl,hmc,I2,λb o q _=>sm2 b o q,hea,λhex=>eG I hex heo,fl,(λt zt=>by cases zt;exact⟨hT,λhex=>eG I hex hTo⟩),λpp hpp=>⟨λzz=>(by have:=(I.pin pp hpp).1;rw[zz,heo]at this;cases this),λzz=>(by cases zz;have:=(I.pin pp hpp).1;rw[hTo]at this;cases this)⟩⟩
  ·cases r with
   |error ev=>exact hq
   |ok fl=>exact hq.elim
def xZ{o:OT}{H0:Hp}{P0:Ow}(E:Ev X.K B M H Z σ)(hi:Z[i]?=ZA (.ow o))(hs:σ[i]?=ZA (ZA v0)){r:Rs (T×OT)}(h:PostX X B M.u σ H (BG i Z r) Q):HE X (BC B M i) (M i) v0 H r Q:=by
 cases r with
 |bad=>exact h
 |err c=>exact h
 |ok p=>
  intro u H' m' s r hm rt;obtain⟨g1,g2,g3,g4⟩:=E.ret hi hs s r hm rt;exact h u H' _ g2 g1 g3 g4
theorem PostX.later{P:Ow}{r:Rs (T×En)}(h:PostX X B P σ H r Q)(s:Same H H1):PostX X B P σ H1 r Q:=by
 cases r with
 |bad=>exact h
 |err c=>exact XA.later h (SameO.of s) λ_ z=>z.elim
 |ok p=>exact λv H' M' s' E' o' r'=>h v H' M' (λb o e nb=>s' b o (s _ _ e) nb) E' (λa z=>(o' a z).imp_right (fO s)) r'
def qg{o:OT}(h:(Sl.ow o::ts.map Sl.va)[k]?=ZA (.ow o')):k=0:=by
 cases k with
 |zero=>rfl
 |succ k=>
  rw[Pq,Oc]at h
  cases z:ts[k]? <;> rw[z]at h <;> cases h
def qf{o:OT}(r:Reps K O H ts vs){t:T}(h:(Sl.ow o::ts.map Sl.va)[k]?=ZA (.va t)):∃w,(v0::vs)[k]?=ZA w/\Rep K O H t w:=by
 cases k with
 |zero=>cases h
 |succ k=>
  rw[Pq,Oc]at h
  cases z:ts[k]? with
  |none=>rw[z]at h;cases h
  |some u=>
   rw[z]at h;cases h;exact r.get z
end
variable{p:Pos}
section
variable {fs:V3}{p2:Pos}{y m:Str}
def HX{pl:Sem Bool}(i:Nat)(hc:Cls X.K (bO X.K c))(hm:xp X.K (bO X.K c) m f)(F:EN X.prog X.w X.K X.mg X.base k f fd ps n 0 g)(hr:Room k X.A)(hb:Binds X.K fd ps [])(hps:ps.length=n)(hl:∀Z ts,fs Z=.ok ts->ts.length+1=n)(ha:qB X (e::es) fs)
  (hN:autoParam (X.N[i]?=ZA x) aqd._auto_1) (hv:autoParam (lJ X.env.scope x) aqe._auto_1) (hd:autoParam ((x == ("__debug__" : Str))=ZD) aqb._auto_1) (hcd:autoParam ((x == ("__classdict__" : Str))=ZD) aqb._auto_1)
  (hst:autoParam (NW (e::es) X.env=(ZD,eval e X.env)::NW es X.env) aqd._auto_1) (hpl:autoParam ((backTo pos (NW es X.env)).any (·.1)=ZD) aqd._auto_1)
  (ht:eval (.Call (.Attribute (.Name x p2) m apos) (e::es) [] pos) X.env=(do
   let ov <-eval (.Name x p2) X.env
   standAt apos.atName
   let (f,first) <-holding [ov] (RS ov m pl)
   Uc pos f first (backTo pos (NW (e::es) X.env)) (R5 pos (QH [] X.env))):=by rfl):
  Bi X (.Call (.Attribute (.Name x p2) m apos) (e::es) [] pos) (c8 i c m g fs):=by
 intro ol s σ H Q I ⟨Z,B,M,E,h⟩;unfold c8 at h
 split at h
 ·rename_i c' ns ls hi
  split at h
  ·rename_i hcc
   obtain⟨h1,h2⟩:=hcc;subst h1;obtain⟨v0,s0,q,dx,as,e1,e2,e3,e4,e5,e6,e7,e8⟩:=E.env.own i _ hi;subst e1;refine Rv (pl:=pl) (bU (eF (pos:=p2) hN hv hd hcd ol s σ H (λv H'=>v=.ref q/\H'=H) I ⟨_,s0,rfl,rfl⟩) λu s1 ⟨v,H1,I1,rx,ev,eH⟩=>?_) ht
   subst ev eH;obtain rfl:u=.ref q:=rx;refine lC I1 e4 hc hm (oq (by rw[oa (by rw[NP];exact e6)];exact h2)) ?_
   refine PK (first:=[.ref q]) (h₀:=X.base) I.ok.mod.kin hm.kp (bU (ha pos ol s1 σ H1 (λvs H2=>∃ts,fs Z=.ok ts/\Same H1 H2/\Reps X.K (OO B M) H2 ts vs) I1 ⟨Z,OO B M,E.o,?_⟩) λus s2 ⟨vs,H2,I2,r,ts,q1,sm,rs⟩=>⟨I2.kIn,?_⟩) hst hpl
   ·cases z:fs Z with
    |bad=>rw[z]at h;exact h.elim
    |err c=>rw[z]at h;exact h
    |ok ts=>exact λH' s' vs rs=>⟨ts,rfl,s',rs⟩
   ·rw[q1,ay]at h
    have E2:=E.same sm;refine B9 (us:=.ref q::us) (vs:=.ref q::vs) (v:=.ref q) F hr hb hps I2 (.cons rfl r) (E2.args (o:=.ob c' ns ls) hi s0 (by rw[NS,NS,NP,rs.length]) rfl rfl (λk o' z=>qg z) λk t z=>qf rs z) ?_ rfl (xZ (H0:=H1) (P0:=kY) E2 hi s0 (h.later sm))
    rw[NS,NP];exact hl Z ts q1
  ·exact h.elim
 ·exact h.elim
def EY{pl:Sem Bool}(i:Nat)(hc:Cls X.K (bO X.K c))(hm:xp X.K (bO X.K c) m f)(F:EN X.prog X.w X.K X.mg X.base k f fd ps 1 0 g)(hr:Room k X.A)(hb:Binds X.K fd ps [])(hps:ps.length=1)
  (hN:autoParam (X.N[i]?=ZA x) aqd._auto_1) (hv:autoParam (lJ X.env.scope x) aqe._auto_1) (hd:autoParam ((x == ("__debug__" : Str))=ZD) aqb._auto_1) (hcd:autoParam ((x == ("__classdict__" : Str))=ZD) aqb._auto_1)
  (ht:eval (.Call (.Attribute (.Name x p2) m apos) [] [] pos) X.env=(do
   let ov <-eval (.Name x p2) X.env
   standAt apos.atName
   let (f,first) <-holding [ov] (RS ov m pl)
   Uc pos f first (backTo pos (NW [] X.env)) (R5 pos (QH [] X.env))):=by rfl):
  Bi X (.Call (.Attribute (.Name x p2) m apos) [] [] pos) (c8 i c m g ai):=by
 intro ol s σ H Q I ⟨Z,B,M,E,h⟩;unfold c8 at h
 split at h
 ·rename_i c' ns ls hi
  split at h
  ·rename_i hcc
   obtain⟨h1,h2⟩:=hcc;subst h1;obtain⟨v0,s0,q,dx,as,e1,e2,e3,e4,e5,e6,e7,e8⟩:=E.env.own i _ hi;subst e1;refine Rv (pl:=pl) (bU (eF (pos:=p2) hN hv hd hcd ol s σ H (λv H'=>v=.ref q/\H'=H) I ⟨_,s0,rfl,rfl⟩) λu s1 ⟨v,H1,I1,rx,ev,eH⟩=>?_) ht
   subst ev eH;obtain rfl:u=.ref q:=rx;refine lC I1 e4 hc hm (oq (by rw[oa (by rw[NP];exact e6)];exact h2)) ?_
   exact Tq (first:=[.ref q]) I1.kIn hm.kp (B9 (us:=[.ref q]) (vs:=[.ref q]) (v:=.ref q) F hr hb hps I1 (.cons rfl .nil) (E.args (o:=.ob c' ns ls) hi s0 rfl rfl rfl (λk o' z=>qg (ts:=[]) z) λk t z=>qf (ts:=[]) Reps.GE z) rfl rfl (xZ (H0:=H1) (P0:=kY) E hi s0 h))
  ·exact h.elim
 ·exact h.elim
def KI(i:Nat)(F:EN X.prog X.w X.K X.mg X.base k f fd ps n 0 g)(hr:Room k X.A)(hm:X.mg y=ZA (.ref f))(hk:PF X.K (.ref f)=ZC)(hb:Binds X.K fd ps [])(hps:ps.length=n)(hl:∀Z ts,fs Z=.ok ts->ts.length+1=n)(ha:qB X es fs)
  (hN:autoParam (X.N[i]?=ZA x) aqd._auto_1) (hv:autoParam (lJ X.env.scope x) aqe._auto_1) (hd:autoParam ((x == ("__debug__" : Str))=ZD) aqb._auto_1) (hcd:autoParam ((x == ("__classdict__" : Str))=ZD) aqb._auto_1)
  (hg:autoParam (Gl X y) aqd._auto_1) (hdb:autoParam ((y == ("__debug__" : Str))=ZD) aqb._auto_1) (he:autoParam (NW (.Name x p2::es) X.env=(ZD,eval (.Name x p2) X.env)::NW es X.env) aqd._auto_1) (hpl:autoParam ((backTo pos (NW es X.env)).any (·.1)=ZD) aqd._auto_1):
  Bi X (.Call (.Name y p) (.Name x p2::es) [] pos) (xC i g fs):=by
 intro ol s σ H Q I ⟨Z,B,M,E,h⟩;unfold xC at h
 split at h
 ·rename_i o hi
  obtain⟨v0,s0,r0⟩:=E.env.own i _ hi;refine Oz (fR I hg hm ?_ hdb)
  refine PK (h₀:=X.base) I.ok.mod.kin hk (bU (br (eF (pos:=p2) hN hv hd hcd) ha he pos ol s σ H (λws H2=>∃ts vs,ws=v0::vs/\fs Z=.ok ts/\Same H H2/\Reps X.K (OO B M) H2 ts vs) I ⟨v0,s0,Z,OO B M,E.o,?_⟩) λus s2 ⟨ws,H2,I2,r,ts,vs,e1,q1,sm,rs⟩=>⟨I2.kIn,?_⟩) he hpl
  ·cases z:fs Z with
   |bad=>rw[z]at h;exact h.elim
   |err c=>rw[z]at h;exact h
   |ok ts=>exact λH' s' vs rs=>⟨ts,vs,rfl,rfl,s',rs⟩
  ·subst e1
   rw[q1,ay]at h
   have E2:=E.same sm;refine B9 (v:=v0) F hr hb hps I2 r (E2.args (o:=o) hi s0 (by rw[NS,NS,NP,rs.length]) rfl rfl (λk o' z=>qg z) λk t z=>qf rs z) ?_ rfl (xZ (H0:=H) (P0:=kY) E2 hi s0 (h.later sm))
   rw[NS,NP];exact hl Z ts q1
 ·exact h.elim
end
variable{G:V4}{a:ZG}{fb:V5}
section
variable {b c:ZG}{x y:En->Rs (T×En)}{fs:V3}{p2:Pos}{bV:List ZG}
def KH(E:Ev X.K B M H Z σ)(he:∀c,x Z=.err c->XA X kY H c)(hb:x Z≠ .bad):
  tX X x σ H λv H1=>∃p M1,x Z=.ok p/\SameO M.u H H1/\Ev X.K B M1 H1 p.2 σ/\(∀a,M1.u a->M.u a\/Nw X.K H a)/\Rep X.K (OO B M1) H1 p.1 v:=by
 refine⟨Z,B,M,E,?_⟩
 cases z:x Z with
 |bad=>exact(hb z).elim
 |err c=>exact he c z
 |ok p=>exact λv H' M' s e o r=>⟨p,M',rfl,s,e,o,r⟩
def PostXB(X:Cx)(B P:Ow)(σ:L2.St)(H:Hp)(r:Rs (Bool×En))(Q:Bool->Hp->Prop):Prop:=match r with
 |.ok p=>∀H' M',SameO P H H'->Ev X.K B M' H' p.2 σ->(∀a,M'.u a->P a\/Nw X.K H a)->Q p.1 H'
 |.err c=>XA X kY H c
 |.bad=>False
def tXB(X:Cx)(f:En->Rs (Bool×En)):TT:=λσ H Q=>∃Z B M,Ev X.K B M H Z σ/\PostXB X B M.u σ H (f Z) Q
abbrev Kt(X:Cx)(e:ZG)(f:En->Rs (Bool×En)):Prop:=PT X e (tXB X f)
def EW{f:V6}(h:rk X a f):Kt X a (EX f):=PT.imp h λσ H Q hh_=>by
 obtain⟨Z,B,M,E,q⟩:=hh_;refine⟨Z,OO B M,E.o,?_⟩
 unfold EX at q
 cases z:f Z with
 |bad=>rw[z]at q;exact q
 |err c=>rw[z]at q;exact q
 |ok t=>
  rw[z,ay]at q;exact λH' s=>q H' M (SameO.of s) (E.same s) λ_ w=>.inl w
def BF{g:T->T->Rs T}{p:T×En}{M1:Mn}{vx:V}(ho:OpT X (OG op) g)(hb:cy X b fb)(I1:Inv X ol σ H1 s1)(r1:RelV vx v)(sm:SameO M.u H H1)(E1:Ev X.K B M1 H1 p.2 σ)
  (gr:∀a,M1.u a->M.u a\/Nw X.K H a) (rt:Rep X.K (OO B M1) H1 p.1 vx) (h:PostX X B M.u σ H (EK (fb p.2 >>= g p.1) >>= λt=>.ok (t,p.2)) Q):
  wpAny (model X.prog X.w) X.A (eval b X.env) (λu s2=>wpAny (model X.prog X.w) X.A (OG op v u) (EP X ol σ Q) X.xe s2) X.xe s1:=by
 cases z:fb p.2 with
 |bad=>rw[z]at h;exact h.elim
 |err c=>rw[z]at h;exact h.elim
 |ok t2=>
  rw[z,ay]at h;refine bU (hb ol s1 σ H1 (λu H2=>Same H1 H2/\Rep X.K (OO B M1) H2 t2 u) I1 ⟨p.2,OO B M1,E1.o,by rw[z];exact λH' s u r=>⟨s,r⟩⟩) λu s2 hh_=>?_
  obtain⟨y,H2,I2,r2,s',rt2⟩:=hh_;refine ho ol s2 σ H2 (OO B M1) p.1 t2 vx y v u Q I2 (λp=>(E1.same s').o.fresh) (rt.same s') rt2 r1 r2 ?_
  cases z2:g p.1 t2 with
  |bad=>rw[z2]at h;exact h.elim
  |err c=>rw[z2]at h;exact h.elim
  |ok t3=>
   rw[z2]at h;exact λH' s3 v r=>h v H' M1 (λb o e nb=>s3 _ _ (s' _ _ (sm b o e nb))) ((E1.same s').same s3) gr r
def HU{g:T->T->Rs T}(ho:OpT X (OG op) g)(ha:Bi X a x)(hb:cy X b fb)(hm:autoParam (P9 op b=ZD) aqd._auto_1):Kt X (.Compare a [op] [b] pos) (HV (EZ g x fb)):=by
 intro ol s σ H Q I ⟨Z,B,M,E,h⟩
 have h':PostX X B M.u σ H (EZ g x fb Z) λv H'=>∃k,v=.bl k/\Q k H':=by
  unfold HV at h
  cases z:EZ g x fb Z with
  |bad=>rw[z]at h;exact h
  |err c=>rw[z]at h;exact h
  |ok p=>
   rw[z,ay]at h;obtain⟨t,Z'⟩:=p
   cases t with
   |bl k=>exact λv H' M' s e o r=>⟨k,Rep.FM.mp r,h H' M' s e o⟩
   |_=>exact h.elim
 unfold EZ at h';refine RD (bU (ha ol s σ H _ I (KH E (λc z=>by rw[z]at h';exact h') (λz=>by rw[z]at h';exact h'))) λv s1 ⟨vx,H1,I1,r1,p,M1,hx,sm,E1,gr,rt⟩=>?_) hm
 rw[hx,ay]at h';refine bU (BF ho hb I1 r1 sm E1 gr rt h') λu s2 q2=>bU q2 λd s3 hh_=>?_
 obtain⟨z,H3,I3,r3,k,ez,q3⟩:=hh_;subst ez;cases r3;exact OL ⟨H3,I3,q3⟩
def PostXB.later{P P1:Ow}{r:Rs (Bool×En)}{Q:Bool->Hp->Prop}(h:PostXB X B P σ H (EK r) Q)(s:SameO P H H1)(sub:∀a,P1 a->P a\/Nw X.K H a):PostXB X B P1 σ H1 r Q:=by
 cases r with
 |bad=>exact h
 |err c=>exact h.elim
 |ok p=>exact λH' M' s' E' o'=>h H' M' (s.trans s' sub) E' λa z=>(o' a z).elim (sub a) (gy s)
abbrev My(X:Cx)(e:ZG)(f:En->Rs (Bool×En)):Prop:=PW X e (tXB X f)
variable {f g:En->Rs (Bool×En)}
def HS(ha:Kt X a f):My X (.BoolOp .Or [a] pos) f:=xY ha
def KD(ha:Kt X a f)(hb:My X (.BoolOp .Or (b::bV) pos) g):My X (.BoolOp .Or (a::b::bV) pos) (sR f g):=by
 intro wh ol s σ H Q I ⟨Z,B,M,E,h⟩;refine Cp ha hb wh ol s σ H Q I ⟨Z,B,M,E,?_⟩
 unfold sR at h
 cases z:f Z with
 |bad=>rw[z]at h;exact h
 |err c=>rw[z]at h;exact h
 |ok p=>
  rw[z,ay]at h;obtain⟨k,Z'⟩:=p;intro H' M' s' E' o'
  cases k with
  |true=>rw[if_pos rfl];exact(show PostXB X B M.u σ H (.ok (ZC,Z')) Q by simpa using h) H' M' s' E' o'
  |false=>rw[if_neg NZ];exact⟨Z',B,M',E',PostXB.later (by simpa using h) s' o'⟩
def xt_w(h:My X e f):Kt X e f:=h.pt
def IE{A C:List ZF}{F:V4}(hc:Kt X c f)(ha:mG X A F)(hb:mG X C G):oH X (.If c A C pos) (xU f F G):=PS.imp (vS hc ha hb) λD σ H hh_=>by
 obtain⟨Z,B,M,E,h⟩:=hh_;refine⟨Z,B,M,E,?_⟩
 unfold xU at h
 cases z:f Z with
 |bad=>rw[z]at h;exact h.elim
 |err c=>rw[z]at h;exact PostF.xa h
 |ok p=>
  rw[z,ay]at h;obtain⟨k,Z'⟩:=p;intro H' M' s' E' o'
  cases k with
  |true=>refine L2.iteT ?_;exact⟨Z',B,M',E',PostF.later (by simpa using h) s' o'⟩
  |false=>refine L2.iteF ?_;exact⟨Z',B,M',E',PostF.later (by simpa using h) s' o'⟩
end
def PostM(X:Cx)(B P:Ow)(j:Nat)(σ:L2.St)(H:Hp)(r:Rs Fx)(D:nj):Prop:=match r with
 |.ok (.nx Z')=>∀σ' H' M',SameO P H H'->Ev X.K B M' H' Z' σ'->(∀a,M'.u a->P a\/Nw X.K H a)->σ'[j]?=σ[j]?->D.nx σ' H'
 |.ok (.rt t Z')=>∀v σ' H' M',SameO P H H'->Ev X.K B M' H' Z' σ'->(∀a,M'.u a->P a\/Nw X.K H a)->σ'[j]?=σ[j]?->Rep X.K (OO B M') H' t v->D.rt v H'
 |.err c=>XA X kY H c
 |.bad=>False
def tPM(X:Cx)(j:Nat)(F:En->Rs Fx):TS:=λD σ H=>∃Z B M,Ev X.K B M H Z σ/\PostM X B M.u j σ H (F Z) D
abbrev G6(X:Cx)(j:Nat)(s:ZF)(F:En->Rs Fx):Prop:=PS X s (tPM X j F)
abbrev Bj(X:Cx)(j:Nat)(s:List ZF)(F:En->Rs Fx):Prop:=PSs X s (tPM X j F)
variable{D:nj}{F:En->Rs Fx}{r:Rs Fx}{st:ZF}
section
variable {c:ZG}{x:En->Rs (T×En)}{fs:V3}{p2:Pos}
def PostM.later{P P1:Ow}{σ1:L2.St}(h:PostM X B P j σ H (EK r) D)(s:SameO P H H1)(sub:∀a,P1 a->P a\/Nw X.K H a)(hj:σ1[j]?=σ[j]?):PostM X B P1 j σ1 H1 r D:=by
 have back:∀a,P1 a\/Nw X.K H1 a->P a\/Nw X.K H a:=λa z=>z.elim (sub a) (gy s)
 cases r with
 |bad=>exact h
 |err c=>exact h.elim
 |ok f=>
  cases f with
  |nx Z'=>exact λσ' H' M' s' E' o' k=>h σ' H' M' (s.trans s' sub) E' (λa z=>back a (o' a z)) (k.trans hj)
  |rt t Z'=>exact λv σ' H' M' s' E' o' k r=>h v σ' H' M' (s.trans s' sub) E' (λa z=>back a (o' a z)) (k.trans hj) r
def PostM.same{P:Ow}(h:PostM X B P j σ H r D)(s:Same H H1):PostM X B P j σ H1 r D:=by
 cases r with
 |err c=>exact XA.later h (SameO.of s) λ_ z=>z.elim
 |bad=>exact h
 |ok f=>exact PostM.later (r:=.ok f) h (SameO.of s) (λa z=>.inl z) rfl
def LQ:Bj X j [] mN:=PSs.imp oh λD σ H ⟨Z,B,M,E,h⟩=>h σ H M (λ_ _ e _=>e) E (λa z=>.inl z) rfl
def LP(h:G6 X j st F):Bj X j [st] F:=ff h
def Jx{bV:List ZF}{G:En->Rs Fx}(h1:G6 X j st F)(h2:Bj X j bV G):Bj X j (st::bV) (nV F G):=PSs.imp (iP h1 h2) λD σ H hh_=>by
 obtain⟨Z,B,M,E,h⟩:=hh_;refine⟨Z,B,M,E,?_⟩
 unfold nV at h
 cases q:F Z with
 |bad=>rw[q]at h;exact h.elim
 |err c=>rw[q]at h;exact h
 |ok f=>
  rw[q]at h
  cases f with
  |nx Z'=>exact λσ' H' M' s' E' o' k=>⟨Z',B,M',E',PostM.later h s' o' k⟩
  |rt t Z'=>exact h
def m_ex(ha:Bi X a x)(hs:autoParam (OR a ZB pos.line X.env=pure ZD) aqd._auto_1):G6 X j (.Expr a pos) (xy x):=PS.imp (oj ha hs) λD σ H hh_=>by
 obtain⟨Z,B,M,E,h⟩:=hh_;refine⟨Z,B,M,E,?_⟩
 unfold xy at h
 cases z:x Z with
 |bad=>rw[z]at h;exact h.elim
 |err c=>rw[z]at h;exact h
 |ok p=>rw[z,ay]at h;exact λv H' M' s' E' o' r=>h σ H' M' s' E' o' rfl
def LN(ha:Bi X a x):G6 X j (.Return (ZA a) pos) (lA x):=PS.imp (iu ha) λD σ H hh_=>by
 obtain⟨Z,B,M,E,h⟩:=hh_;refine⟨Z,B,M,E,?_⟩
 unfold lA at h
 cases z:x Z with
 |bad=>rw[z]at h;exact h.elim
 |err c=>rw[z]at h;exact h
 |ok p=>rw[z,ay]at h;exact λv H' M' s' E' o' r=>h v σ H' M' s' E' o' rfl r
def m_if{f:V6}{A C:List ZF}{G:En->Rs Fx}(hc:rk X c f)(ha:Bj X j A F)(hb:Bj X j C G):G6 X j (.If c A C pos) (Jy f F G):=PS.imp (vS hc ha hb) λD σ H hh_=>by
 obtain⟨Z,B,M,E,h⟩:=hh_;refine⟨Z,OO B M,E.o,?_⟩
 unfold Jy at h
 cases q:f Z with
 |bad=>rw[q]at h;exact h.elim
 |err c=>rw[q]at h;exact h
 |ok k=>
  rw[q,ay]at h;intro H' s
  have E':Ev X.K B M H' Z σ:=E.same s
  cases k with
  |true=>refine L2.iteT ?_;exact⟨Z,B,M,E',PostM.same (by simpa using h) s⟩
  |false=>refine L2.iteF ?_;exact⟨Z,B,M,E',PostM.same (by simpa using h) s⟩
def Ev.blank(E:Ev K B M H Z σ):Ev K (OO B M) noM H (N9 σ.length .em) σ:=
 ⟨⟨by simp,λi t e=>(by rw[Pd]at e;split at e <;> cases e),λi o e=>(by rw[Pd]at e;split at e <;> cases e),λ_ _ z=>z.elim,λ_ _ _ z=>z.elim,λa z=>E.env.trk a (z.elim id λ⟨_,w⟩=>w.elim)⟩,λa ⟨_,z⟩=>z.elim⟩
def LU{c:Str}(h:oH X st (xW c)):G6 X j st (Gg c):=PS.imp h λD σ H hh_=>by
 obtain⟨Z,B,M,E,q⟩:=hh_;refine⟨_,_,_,E.blank,?_⟩
 exact XA.later (P:=kY) q (λ_ _ e _=>e) λ_ ⟨_,z⟩=>z.elim
end
variable{b:ZE}
section
variable{f:Str}
theorem rK:∀{ns:List Str}{as:List ZE},ns.length=as.length->ns.contains f=ZC->∃as1 d as2,as=as1++d::as2/\putF f (.ref b) (ns.zip (as.map V.ref))=ns.zip ((as1++b::as2).map V.ref) ∧
  ∀{O:Ow}{H:Hp}{ls:List (List T)}{l:List T}{vs:List V},H b=ZA (.lst vs)->Reps K O H l vs->LsR K O H ls as->LsR K O H (lD f l ns ls) (as1++b::as2)
 |[],as,_,h=>by cases h
 |n::ns,[],hl,_=>by cases hl
 |n::ns,d::as,hl,h=>by
  by_cases z:n=f
  ·subst z
   refine⟨[],d,as,rfl,?_,λ{O H ls l vs} e1 e2 r=>?_⟩
   ·show(if n=n then(n,V.ref b)::_ else _)=_
    rw[if_pos rfl];rfl
   ·cases ls with
    |nil=>cases (show d::as=[]from r)
    |cons u ls=>
     obtain⟨b',bs,ws,f1,f2,f3,f4⟩:=r;cases f1
     show LsR K O H (if n=n then l::ls else _) _
     rw[if_pos rfl];exact⟨b,as,vs,rfl,e1,e2,f4⟩
  ·have h':ns.contains f=ZC:=by
    rw[OW,RP]at h;rcases h with h|h
    ·exact absurd (eq_of_beq h).symm z
    ·exact h
   obtain⟨as1,d',as2,g1,g2,g3⟩:=rK (f:=f) (b:=b) (by simpa using hl) h'
   refine⟨d::as1,d',as2,by rw[g1];rfl,?_,λ{O H ls l vs} e1 e2 r=>?_⟩
   ·show(if n=f then _ else(n,V.ref d)::putF f (.ref b) (ns.zip (as.map V.ref)))=_
    rw[if_neg z,g2];rfl
   ·cases ls with
    |nil=>cases (show d::as=[]from r)
    |cons u ls=>
     obtain⟨b',bs,ws,f1,f2,f3,f4⟩:=r;cases f1
     show LsR K O H (if n=f then _ else u::lD f l ns ls) _
     rw[if_neg z];exact⟨d,_,ws,rfl,f2,f3,g3 e1 e2 f4⟩
theorem zi:∀{ns:List Str}{as:List ZE},ns.length=as.length->ns.contains f=ZD->putF f (.ref b) (ns.zip (as.map V.ref))=(ns++[f]).zip ((as++[b]).map V.ref)
 |[],[],_,_=>rfl
 |n::ns,[],hl,_=>by cases hl
 |n::ns,d::as,hl,h=>by
  rw[OW,Tc]at h
  show(if n=f then _ else(n,V.ref d)::putF f (.ref b) (ns.zip (as.map V.ref)))=_
  rw[if_neg (λz=>by rw[z,beq_self_eq_true]at h;exact Bool.noConfusion h.1),zi (by simpa using hl) h.2];rfl
theorem LsR.app(e1:H b=ZA (.lst vs))(e2:Reps K O H l vs):∀{ls:List (List T)}{as:List ZE},LsR K O H ls as->LsR K O H (ls++[l]) (as++[b])
 |[],as,r=>by cases (show as=[]from r);exact⟨b,[],vs,rfl,e1,e2,rfl⟩
 |u::ls,as,⟨d,ds,ws,f1,f2,f3,f4⟩=>by subst f1;exact⟨d,ds++[b],ws,rfl,f2,f3,LsR.app e1 e2 f4⟩
end
section
variable {fs:V3}{p2 p4:Pos}
def LS(i:Nat){n f:Str}(hc:Cls X.K (bO X.K c))(hn:NoAttr X.K (bO X.K c) f)(ha:qB X es fs)(hN:autoParam (X.N[i]?=ZA n) aqd._auto_1)(hv:autoParam (lJ X.env.scope n) aqe._auto_1)
  (hd:autoParam ((n == ("__debug__" : Str))=ZD) aqb._auto_1) (hcd:autoParam ((n == ("__classdict__" : Str))=ZD) aqb._auto_1) (hs:autoParam (OR (.List es p4) (ZA (.Attribute (.Name n p2) f p3)) pos.line X.env=pure ZD) aqd._auto_1):
  G6 X j (.Assign [.Attribute (.Name n p2) f p3] (.List es p4) pos) (AN i c f fs):=PS.imp (IW (eF hN hv hd hcd) (zl ha) hs) λD σ H hh_=>by
 obtain⟨Z,B,M,E,h⟩:=hh_;unfold AN at h
 split at h
 ·rename_i c' ns ls hi
  refine⟨Z,OO B M,E.o,?_⟩
  cases z:fs Z with
  |bad=>rw[z]at h;exact h.elim
  |err c=>rw[z]at h;exact h
  |ok l=>
   rw[z,ay]at h;intro H1 s1 vs rs
   split at h
   ·rename_i hcc
    obtain⟨h1,h2,h3⟩:=hcc;subst h1;refine⟨by rw[<-rs.length];exact h2,λb hb=>?_⟩
    have E1:=E.same s1;obtain⟨v0,s0,p,dx,as,e1,e2,⟨n1,n2,n3,n4⟩,e4,e5,e6,e7,e8⟩:=E1.env.own i _ hi;subst e1
    have nb:∀{d:ZE}{o:HO},H1 d=ZA o->d≠b:=λe z=>by rw[z,hb.1]at e;cases e
    have mb:∀a,M i a->a≠b:=λa w=>nb (E1.env.trk a (.inr ⟨i,w⟩)).some.choose_spec
    have pb:p≠b:=nb e4
    have hbas:b∉as:=λw=>mb b ((e2 b).mpr (.inr (.inr w))) rfl
    have sm1:Same H1 (upd H1 b (.lst vs)):=bj hb.1 _;refine⟨_,s0,p,_,dx,_,rfl,sm1 _ _ e4,hc,hn,by rw[List.length_zip,NP,<-e6];simpa using h3,?_⟩
    have key:∀(ns':List Str)(as':List ZE)(ls':List (List T)),putF f (.ref b) (ns.zip (as.map V.ref))=ns'.zip (as'.map V.ref)->ns'.length=as'.length->ns'.Nodup->as'.Nodup->(∀a,a∈as'->a=b\/a∈as) →
      (∀{O:Ow}{H:Hp},H b=ZA (.lst vs)->Reps X.K O H l vs->LsR X.K O H ls as->LsR X.K O H ls' as')->PostM X B M.u j σ H (.ok (.nx (Z.set i (.ow (.ob c' ns' ls'))))) D->D.nx σ (upd (upd H1 b (.lst vs)) p (.ins (bO X.K c') dx (putF f (.ref b) (ns.zip (as.map V.ref))))):=λns' as' ls' k1 k2 k3 k4 k5 k6 k7=>by
     rw[k1]
     generalize hm:(λa=>a=p\/a=dx\/a∈as':Ow)=m
     have hsub:∀a,m a->M i a\/Nw X.K H1 a:=λa w=>by
      subst hm;rcases w with w|w|w
      ·exact .inl ((e2 a).mpr (.inl w))
      ·exact .inl ((e2 a).mpr (.inr (.inl w)))
      ·exact(k5 a w).elim (λy=>.inr (y▸hb)) λy=>.inl ((e2 a).mpr (.inr (.inr y)))
     have hO:∀a,OO B (M.set i m) a->OO B M a\/Nw X.K H1 a:=λa w=>w.elim (λy=>.inl (.inl y)) λy=>(Mn.KF y).elim (λq=>(hsub a q).imp_left λt=>.inr ⟨i,t⟩) λq=>.inl (.inr q)
     have sm2:SameO (λa=>a=p) (upd H1 b (.lst vs)) (upd (upd H1 b (.lst vs)) p (.ins (bO X.K c') dx (ns'.zip (as'.map V.ref)))):=λd o e ne=>by rw[aB ne];exact e
     have smi:SameO (M i) H1 (upd (upd H1 b (.lst vs)) p (.ins (bO X.K c') dx (ns'.zip (as'.map V.ref)))):=λd o e ne=>sm2 d o (sm1 _ _ e) λw=>ne ((e2 d).mpr (.inl w))
     have nin:∀a∈as',a≠p:=λa ha w=>(k5 a ha).elim (λy=>pb (w▸y)) λy=>n1 (w▸y)
     have rp:∀{t:List T}{ws:List V},Reps X.K (OO B M) H1 t ws->Reps X.K (OO B (M.set i m)) (upd (upd H1 b (.lst vs)) p (.ins (bO X.K c') dx (ns'.zip (as'.map V.ref)))) t ws:=λr=>r.move (P:=M i) (λa w=>.inl (.inr ⟨i,w⟩)) hO smi
     have smp:SameO (λa=>a=p) H1 (upd (upd H1 b (.lst vs)) p (.ins (bO X.K c') dx (ns'.zip (as'.map V.ref)))):=λd o e ne=>sm2 d o (sm1 _ _ e) ne
     have fin:=k6 (O:=OO B (M.set i m)) (H:=upd (upd H1 b (.lst vs)) p (.ins (bO X.K c') dx (ns'.zip (as'.map V.ref)))) (by rw[aB (OZ pb)];exact aG) (rp rs) (e8.move (P:=λa=>a=p) (λa w=>.inl (.inr ⟨i,(e2 a).mpr (.inl w)⟩)) hO smp λd hd w=>n1 (w▸hd))
     have ndx:dx∉as':=λw=>(k5 dx w).elim (nb e5) n2
     obtain⟨g1,g2,g3⟩:=E1.back (m:=m) (o':=.ob c' ns' ls') hi s0 smi ⟨p,dx,as',rfl,λd=>by subst hm;exact Rg,⟨λw=>nin p w rfl,ndx,n3,k4⟩,aG,by rw[aB n3];exact sm1 _ _ e5,k2,k3,fin⟩ hsub
     exact k7 σ _ _ (λd o e ne=>g2 d o (s1 _ _ e) ne) g1 (λa w=>(g3 a w).imp_right (fO s1)) rfl
    cases hf:ns.contains f with
    |true=>
     rw[hf,if_pos rfl]at h;obtain⟨as1,d,as2,q1,q2,q3⟩:=rK (K:=X.K) (f:=f) (b:=b) e6 hf;subst q1;refine key ns (as1++b::as2) (lD f l ns ls) q2 (by rw[e6];simp) e7 ?_ (λa w=>?_) (λa1 a2 a3=>q3 a1 a2 a3) h
     ·rw[OK]at n4 ⊢
      obtain⟨m1,m2,m3⟩:=n4
      have nb1:b∉as1:=λw=>hbas (Ol _ w)
      have nb2:b∉as2:=λw=>hbas (Od _ (NJ _ w))
      refine⟨m1,Oe.mpr ⟨nb2,(Oe.mp m2).2⟩,λu hu w hw=>?_⟩
      rcases NR.mp hw with hw|hw
      ·exact λy=>nb1 (by rw[<-hw,<-y];exact hu)
      ·exact m3 u hu w (NJ _ hw)
     ·rcases Og.mp w with w|w
      ·exact .inr (Ol _ w)
      ·rcases NR.mp w with w|w
       ·exact .inl w
       ·exact .inr (Od _ (NJ _ w))
    |false=>
     rw[hf,if_neg NZ]at h;refine key (ns++[f]) (as++[b]) (ls++[l]) (zi e6 hf) (by simp[e6]) ?_ ?_ (λa w=>?_) (λa1 a2 a3=>LsR.app a1 a2 a3) h
     ·rw[OK]
      refine⟨e7,by simp,λu hu w hw y=>?_⟩
      rw[N0.mp hw]at y
      have:ns.contains f=ZC:=by rw[List.contains_iff_mem,<-y];exact hu
      rw[hf]at this;cases this
     ·rw[OK]
      exact⟨n4,by simp,λu hu w hw y=>hbas (by rw[<-N0.mp hw,<-y];exact hu)⟩
     ·rcases Og.mp w with w|w
      ·exact .inr w
      ·exact .inl (N0.mp w)
   ·exact h.elim
 ·exact h.elim
end
variable{N:List Str}
def oR(E:Ev K B M H sls (vs.map ZA))(hl:sls.length<=N.length):Ev K B M H (fG N.length sls) (start N vs):=by
 have hlen:sls.length=vs.length:=by rw[E.env.len,NP]
 have low:∀(i:Nat)(z:Sl),(fG N.length sls)[i]?=ZA z->z=.em\/(sls[i]?=ZA z/\(start N vs)[i]?=(vs.map ZA)[i]?):=λi z e=>by
  unfold fG at e;unfold L2.start
  by_cases hi:i<sls.length
  ·rw[O5 hi]at e
   exact .inr ⟨e,O5 (by rw[NP,<-hlen];exact hi)⟩
  ·rw[Pu (by omega),Pd]at e
   split at e
   ·cases e;exact .inl rfl
   ·cases e
 refine⟨⟨by unfold fG L2.start;simp;omega,λi t e=>?_,λi o e=>?_,E.env.sub,E.env.dis,E.env.trk⟩,E.mine⟩
 ·rcases low i _ e with z|⟨e1,e2⟩
  ·cases z
  ·rw[e2];exact E.env.val i t e1
 ·rcases low i _ e with z|⟨e1,e2⟩
  ·cases z
  ·rw[e2];exact E.env.own i o e1
def F3{f:Fx}{p:T×OT}(h:qN j f=.ok p):(∃Z,f=.nx Z/\p.1=.non/\Z[j]?=ZA (.ow p.2))\/∃Z,f=.rt p.1 Z/\Z[j]?=ZA (.ow p.2):=by
 cases f with
 |nx Z=>
  unfold qN at h
  dsimp only at h
  split at h
  ·rename_i o e;cases h;exact .inl ⟨Z,rfl,rfl,e⟩
  ·cases h
 |rt t Z=>
  unfold qN at h
  dsimp only at h
  split at h
  ·rename_i o e;cases h;exact .inr ⟨Z,rfl,e⟩
  ·cases h
variable{mg:V0}{qual:Str}
section
variable {base:ZH}
def Mi(Fn:L2.Fun K x qual st f fd)(S:aA N ps (aj st))(hn:ps.length=n)
  (hbody:∀(cdv:NK)(A:Oq)(outer:List Env)(s:NO)(H:Hp)(E:XK),Room k (A.deeper (envOfC qual (aj st) s.heap.objs.size f cdv)) →
   Bj (gn CX0 P w K mg base N qual (aj st) f cdv A outer s H E).nox j (bD st) F):FnOk P w K mg base CX0 (k+1) f fd ps (spE K n j (iJ n j N.length F)):=by
 have hpl:ps.length<=N.length:=by have:=congrArg O0 S.pre;rw[OS]at this;omega
 refine Fn.ok S (λvs H Q E h=>?_) (λcdv A outer s H vs Q E hr h=>?_)
 ·obtain⟨sls,B,m,v,Ea,hl,_⟩:=h
  rw[<-NP (as:=vs) (f:=ZA),<-Ea.env.len,hl,hn]
 ·obtain⟨sls,B,m,v,Ea,hl,hv,h⟩:=h
  refine⟨_,hbody cdv A outer s H E hr,fG N.length sls,B,one j m,oR Ea (by omega),?_⟩
  have hjs:(start N vs)[j]?=ZA (ZA v):=by
   unfold L2.start;rw[O5 (by rw[NP];exact(NU.mp hv).1),Oc,hv];rfl
  unfold iJ at h;rw[if_pos hl]at h
  have fin:∀{p:T×OT}{Z':En}{σ':L2.St}{H':Hp}{M':Mn}{u:V},(∀u H' m',SameO m H H'->ORep K (BM B m') m' H' p.2 v->(∀a,m' a->m a\/Nw K H a)->Rep K (BM B m') H' p.1 u->Q u H')->Z'[j]?=ZA (.ow p.2) →
    SameO (one j m).u H H'->Ev K B M' H' Z' σ'->(∀a,M'.u a->(one j m).u a\/Nw K H a)->σ'[j]?=(start N vs)[j]?->Rep K (OO B M') H' p.1 u->Q u H':=λ{p Z' σ' H' M' u} h hj s' E' o' k r=>by
   obtain⟨v',e1,e2⟩:=E'.env.own j _ hj;rw[k,hjs]at e1;cases e1
   have sub:∀a,BM B (M' j) a->OO B M' a:=λa z=>z.imp_right λy=>⟨j,y⟩
   exact h u H' (M' j) (λb o e n=>s' b o e λz=>n (one_u.mp z)) (e2.move (P:=kY) (λ_ z=>z.elim) (λa z=>.inl (sub a z)) (λb u q _=>q) λ_ _ z=>z) (λa z=>(o' a ⟨j,z⟩).imp_left one_u.mp) (r.less sub)
  cases q:F (fG N.length sls)with
  |bad=>rw[q]at h;exact h.elim
  |err c=>rw[q]at h;exact h.elim
  |ok fl=>
   rw[q,ay]at h
   cases q2:qN j fl with
   |bad=>rw[q2]at h;exact h.elim
   |err c=>rw[q2]at h;exact h.elim
   |ok p=>
    rw[q2]at h;rcases F3 q2 with⟨Z',rfl,e1,e2⟩|⟨Z',rfl,e2⟩
    ·exact λσ' H' M' s' E' o' k=>fin h e2 s' E' o' k (by rw[e1];exact Rep.Ni)
    ·exact λu σ' H' M' s' E' o' k r=>fin h e2 s' E' o' k r
def zS(Fn:L2.Fun K x qual st f fd)(S:aA N ps (aj st)){outer:List Env}{args:Args}
  (hr:Room (k+1) A) (e0:Env0 P w K mg base A outer s H) (hb:R7 s fd args (ps.zip us)) (r:Vals vs us) (hlen:vs.length=ps.length) (hR:∀ev s',ML P w mg outer H s c ev s'->R (.error ev) s')
  (hbody:∀cdv,Room k (A.deeper (envOfC qual (aj st) s.heap.objs.size f cdv))->∀xe,∃t,PSs ((gn CX0 P w K mg base N qual (aj st) f cdv A outer s H E0).FB xe) (bD st) t ∧
   (XA ((gn CX0 P w K mg base N qual (aj st) f cdv A outer s H E0).FB xe) kY H c->t {nx:=λ_ _=>False,rt:=λ_ _=>False,bk:=λ_ _=>False,ct:=λ_ _=>False} (start N vs) H)):
  codeAny (model P w) A (.call (.ref f) args) R s:=by
 obtain⟨oc,od,kV,doc,pm,an,cdv,ct,osl,rfl,lk,hcd⟩:=Fn.ex
 have KX:K.In s.heap:=e0.mod.kin.keeps λb o e=>(e0.bs b o e).1
 have lim:s.heap.NoLimit:=e0.mod.nolimit.keeps λb o e=>(e0.bs b o e).1
 have hkind:∀y∈ps.zip us,(aj st).names.lookup y.1=ZA .local\/((aj st).names.lookup y.1=ZA .cell/\((PX (s.heap.objs.size+1) (aj st).names []).lookup y.1).isSome=ZC):=λ⟨n,v⟩ hy=>by
  rcases S.par n (Qy hy).1 with q|q
  ·exact .inl q
  ·exact .inr ⟨q,PZ _ _ _ (.inl q)⟩
 refine QF hr.depth (KX _ _ lk) rfl S.co S.gen rfl (Ra KX hcd) (hb _ _ _ _ ?_)
 refine P3 S.kind hkind λenv he s1 x=>?_
 subst he;refine⟨lim.keeps x.toInCall.keep,S2 ?_⟩
 let xe:V1:=λev s'=>wpAny (model P w) (A.deeper (envOfC qual (aj st) s.heap.objs.size f cdv)) (leaving (envOfC qual (aj st) s.heap.objs.size f cdv) ev) (λ_ s''=>R (.error ev) s'') (λe' s''=>R (.error e') s'') s'
 obtain⟨t,ht,hgo⟩:=hbody cdv (hr.deeper _) xe
 have I:Inv ((gn CX0 P w K mg base N qual (aj st) f cdv A outer s H E0).FB xe) [] (start N vs) H s1:=(kE S hr.hd e0 hlen r x).FB _;refine Pr (ht [] s1 (start N vs) H _ I (hgo ?_)) (λfl s' z=>?_) λe s' hs=>hs
 rotate_left
 ·cases fl with
  |next=>obtain⟨_,_,_,z⟩:=z;exact z.elim
  |cont=>obtain⟨_,_,_,z⟩:=z;exact z.elim
  |brk=>obtain⟨_,_,_,z⟩:=z;exact z.elim
  |ret v=>obtain⟨_,_,_,_,_,z⟩:=z;exact z.elim
 intro ol ev s' w'
 show wpAny _ _ _ _ _ _
 obtain⟨e,T,C,σ',H',rfl,hm,I',sm,he,heo,fl,hT,_⟩:=w'
 have heo:=heo rfl
 have hT:∀t,T=ZA t->H' t=ZB/\s.heap.get? t=ZB:=λt z=>⟨(hT t z).1,(hT t z).2 rfl⟩
 refine Dd (base:=base) (outer:=outer) (L:=s.heap.objs.size) I'.ok.frames I'.stack rfl fl λh' T' g=>hR _ _ ?_
 have hex:((gn CX0 P w K mg base N qual (aj st) f cdv A outer s H E0).FB xe).ex=[]:=rfl
 have Tn:H' T'=ZB/\s.heap.get? T'=ZB:=by
  rcases g.new with z|z
  ·exact hT T' z
  ·exact⟨jL I' z,eG I' hex z⟩
 have out:∀b o,s.heap.get? b=ZA o->b≠s.heap.objs.size:=λb o q z=>by
  have:=NY q;rw[z]at this;exact absurd this (Oo _)
 have mem:∀b,b∈m6 ((envOfC qual (aj st) s.heap.objs.size f cdv)::outer)->b=s.heap.objs.size\/b∈m6 outer:=λb z=>by
  have z':b∈s.heap.objs.size::m6 outer:=z;exact NR.mp z'
 have ne:∀b o,s.heap.get? b=ZA o->b≠e/\T≠ZA b:=λb o q=>⟨λz=>(by subst z;rw[show s.heap.get? b=ZB from heo]at q;cases q),λz=>(by rw[show s.heap.get? b=ZB from(hT b z).2]at q;cases q)⟩
 have keepH:∀b u,H' b≠ZB->s'.heap.get? b=ZA u->h'.get? b=ZA u:=λb u hb q=>by
  refine g.keep b u (λz=>hb (I'.KM b z)) (λz=>hb (by rw[z];exact he)) (λz=>hb (hT b z).1) q
 refine⟨e,T',C,H',rfl,hm,I'.os,I'.bare,⟨λb o q n hb hx=>?_,λb o q n hb hx=>?_,λb o q n hx=>I'.base.free b o q n hx,λb o q hx=>?_,I'.base.tups,I'.base.frzs,I'.base.tbls⟩,λa o q=>?_,λb o q=>sm b o q λz=>z,he,heo,g.flt,Tn.1,Tn.2⟩
 ·exact g.keep b o (λz=>(mem b z).elim (out b o q) hb) (ne b o q).1 (ne b o q).2 (I'.base.keep b o q n hb hx)
 ·obtain⟨sl,q1⟩:=I'.base.slot b o q n hb hx
  obtain⟨sl',q2⟩:=g.slot b _ (NJ _ hb) q1;exact⟨sl',q2⟩
 ·obtain⟨o',q1⟩:=I'.base.there b o q hx
  by_cases z:b∈m6 ((envOfC qual (aj st) s.heap.objs.size f cdv)::outer)
  ·obtain⟨sl,q2⟩:=g.slot b o' z q1
   exact⟨_,q2⟩
  ·exact⟨o',g.keep b o' z (ne b o q).1 (ne b o q).2 q1⟩
 ·refine(I'.hok a o q).M0 (λb u hb z=>keepH b u ?_ z) (λ_ z=>z) λ_ _ z=>z
  rcases hb with rfl|hb
  ·rw[q];simp
  ·rw[hb];simp
def BI{m:Nat}(h:iJ n j m F sls=.err c):F (fG m sls)=.err c:=by
 unfold iJ at h
 split at h
 ·cases z:F (fG m sls)with
  |bad=>rw[z]at h;cases h
  |err c'=>rw[z]at h;cases h;rfl
  |ok f=>
   rw[z,ay]at h;cases f <;> unfold qN at h <;> dsimp only at h <;> split at h <;> cases h
 ·cases h
def DS(Fn:L2.Fun K x qual st f fd)(S:aA N ps (aj st))(hn:ps.length=n)
  (hbody:∀(cdv:NK)(A:Oq)(outer:List Env)(s:NO)(H:Hp)(E:XK),Room k (A.deeper (envOfC qual (aj st) s.heap.objs.size f cdv)) →
   ∀xe,Bj ((gn CX0 P w K mg base N qual (aj st) f cdv A outer s H E).FB xe) j (bD st) F):EN P w K mg base (k+1) f fd ps n j (iJ n j N.length F):=
 ⟨Mi Fn S hn λcdv A outer s H E hr=>hbody cdv A outer s H E hr _,λA outer s H args us vs B m sls c R hr e0 hb r Ea hl hg hR=>by
  have hpl:ps.length<=N.length:=by have:=congrArg O0 S.pre;rw[OS]at this;omega
  refine zS Fn S hr e0 hb r ?_ hR λcdv hr' xe=>⟨_,hbody cdv A outer s H E0 hr' xe,λxa=>⟨fG N.length sls,B,one j m,oR Ea (by omega),?_⟩⟩
  ·rw[<-NP (as:=vs) (f:=ZA),<-Ea.env.len,hl,hn]
  ·rw[BI hg];exact xa⟩
end
def Ay(M:Mk X.K (bO X.K c) f)(F:EN X.prog X.w X.K X.mg X.base k f fd ps n 0 g)(hr:Room (k+1) X.A)(hb:Binds X.K fd ps [])(hn:ts.length+1=n)(hps:ps.length=n)(I:Inv X ol σ H s)(r:Vals vs us)(rs:Reps X.K O H ts vs)(mt:∀a,O a->Mtb H a){o:OT}
  (hg:g (.ow (.ob c [] [])::ts.map Sl.va)=.ok (.non,o)) (h:∀p H' m,Same H H'->ORep X.K (BM O m) m H' o (.ref p)->(∀a,m a->Nw X.K H a)->Q (.ref p) H'):wpAny (model X.prog X.w) X.A (call (.ref (bO X.K c)) us) (EP X ol σ Q) X.xe s:=by
 have nk:∀q,s.heap.objs.size<=q->X.K.lookup q=ZB:=λq hq=>by
  cases z:X.K.lookup q with
  |none=>rfl
  |some o=>exact absurd (NY (I.kIn _ o z)) (Nat.not_lt.mpr hq)
 generalize hp:s.heap.objs.size+1=p
 have np:Nw X.K H p:=⟨I.hok.fresh (by omega),nk p (by omega)⟩
 generalize hd:s.heap.objs.size=dx at hp
 have nd:Nw X.K H dx:=⟨I.hok.fresh (by omega),nk dx (by omega)⟩
 have ne:dx≠p:=by omega
 have sm0:Same H (upd (upd H dx (.own p)) p (.ins (bO X.K c) dx [])):=λb o e=>by
  rw[aB (λz=>by rw[z,np.1]at e;cases e),aB (λz=>by rw[z,nd.1]at e;cases e)];exact e
 have hm:∀a,(λa=>a=p\/a=dx:Ow) a->Nw X.K H a:=λa z=>z.elim (λy=>y▸np) λy=>y▸nd
 have subO:∀a,OO O (one 0 λa=>a=p\/a=dx) a->O a\/Nw X.K H a:=λa z=>(one_oo.mp z).imp_right (hm a)
 have hlen:=rs.length
 have Ea:Ev X.K O (one 0 λa=>a=p\/a=dx) (upd (upd H dx (.own p)) p (.ins (bO X.K c) dx [])) (.ow (.ob c [] [])::ts.map Sl.va) ((V.ref p::vs).map ZA):=by
  refine⟨⟨by simp[hlen],λi t e=>?_,λi o' e=>?_,λi a z=>.inr ⟨i,z⟩,λi k a z1 z2=>?_,λa z=>?_⟩,λa z y=>?_⟩
  ·obtain⟨w,e1,e2⟩:=qf (v0:=V.ref p) rs e
   exact⟨w,by rw[Oc,e1];rfl,(e2.more subO).same sm0⟩
  ·have hi:=qg e
   subst hi;cases e;refine⟨.ref p,rfl,p,dx,[],rfl,λb=>?_,⟨by simp,by simp,ne,by simp⟩,aG,?_,rfl,by simp,rfl⟩
   ·rw[show one 0 (λa=>a=p\/a=dx) 0=_ from Mn.MY];simp
   ·rw[aB ne];exact aG
  ·unfold one Mn.set at z1 z2
   by_cases h1:i=0
   ·by_cases h2:k=0
    ·rw[h1,h2]
    ·rw[if_neg h2]at z2;exact z2.elim
   ·rw[if_neg h1]at z1;exact z1.elim
  ·rcases one_oo.mp z with y|y|y
   ·exact(mt a y).same sm0
   ·rw[y];exact .inr (.inr ⟨_,aG,rfl⟩)
   ·rw[y];exact .inr (.inr ⟨_,by rw[aB ne];exact aG,rfl⟩)
  ·obtain⟨o,e⟩:=(mt a y).some
   rw[(hm a (one_u.mp z)).1]at e;cases e
 have hq:spE X.K n 0 g (.ref p::(vs++[])) (upd (upd H dx (.own p)) p (.ins (bO X.K c) dx [])) (λv H2=>v=.non/\Q (.ref p) H2) E0:=by
  refine⟨_,O,_,.ref p,by rw[Oi];exact Ea,by simp[hn],rfl,?_⟩
  rw[hg];intro u H' m' s' ro hm' rt;refine⟨Rep.IR.mp rt,h p H' m' (λb o e=>s' b o (sm0 _ _ e) λz=>?_) ro λa z=>?_⟩
  ·rw[(hm b z).1]at e;cases e
  ·rcases hm' a z with y|y
   ·exact hm a y
   ·exact fO sm0 y
 have I2:=Inv.made (C:=bO X.K c) I;rw[hd,hp]at I2
 have r2:Vals (V.ref p::(vs++[])) (N1 p::(us++[])):=.cons rfl (r.append .nil)
 have hl:(N1 p::us++[]).length=ps.length:=by rw[Oi,NS,<-r.length,<-hlen,hps,hn]
 refine Rp (wH (f:=f) I.kIn M.makes M.init (beq_iff_eq.mp M.fn) ?_)
 rw[hd,hp]
 have hb2:=hb _ (N1 p::us) I2.kIn hl;rw[SD]at hb2;refine Qa (F.h.run _ X.stack _ _ ⟨N1 p::us,[]⟩ (N1 p::(us++[])) _ _ E0 (hr.make (bO X.K c) us []) (I2.Na.make (bO X.K c) us []) hb2 r2 hq) λr s' hq'=>?_
 cases r with
 |error e=>exact hq'.elim
 |ok fl=>
  cases fl with
  |ret u=>
   obtain⟨v,H',I3,rv,ev,q3⟩:=I2.after hq';subst ev
   exact⟨rv,⟨V.ref p,H',I3,rfl,q3⟩⟩
  |next=>exact P4 hq'
  |brk=>exact P4 hq'
  |cont=>exact P4 hq'
variable{body:List ZF}
def LM{suite:List ZF}{b0:ZF}{h:Str->Rs T}{ce n:Str}{CE:ZE}{np hpos:Pos}(hst:X.stack=X.env::X.outer)(hfe:X.env.frame=ZA X.env.locals)(hcl:∀x c,X.env.cells.lookup x≠ZA c)(hex:X.ex=[])
  (hN:X.N.Nodup) (hi:X.N[i]?=ZA n) (hloc:X.env.scope.names.lookup n=ZA .local) (hm:X.mg ce=ZA (.ref CE)) (OE:OX X.K CE bmE)
  (hb:∀pn xe,Bj {X with pn:=pn,xe:=xe} j body F) (hs:mF X i (b0::suite) CE h) (hg:autoParam (Gl X ce) aqd._auto_1) (hd:autoParam ((ce == ("__debug__" : Str))=ZD) aqb._auto_1):
  G6 X j (.Try body [.ExceptHandler (ZA (.Name ce np)) (ZA n) (b0::suite) hpos] [] [] pos) (wI F h):=by
 intro ol s σ H D I ⟨Z,B,M,E,hq⟩;refine UV ?_
 unfold wI at hq
 cases q:F Z with
 |bad=>rw[q]at hq;exact hq.elim
 |ok fl=>
  rw[q]at hq;refine Pr (hb X.pn (λ_ _=>False) ol s σ H D (I.FB _) ⟨Z,B,M,E,by rw[q];cases fl <;> exact hq⟩) (λf s1 r=>?_) (λe s1 z=>z.elim)
  cases f with
  |next=>obtain⟨σ7,H7,I7,q7⟩:=r;exact QC ⟨σ7,H7,I7.FB _,q7⟩
  |ret u=>obtain⟨x7,σ7,H7,I7,r7,q7⟩:=r;exact⟨x7,σ7,H7,I7.FB _,r7,q7⟩
  |brk=>obtain⟨σ7,H7,I7,q7⟩:=r;exact⟨σ7,H7,I7.FB _,q7⟩
  |cont=>obtain⟨σ7,H7,I7,q7⟩:=r;exact⟨σ7,H7,I7.FB _,q7⟩
 |err c=>
  rw[q]at hq
  cases q2:h c with
  |bad=>simp only[q2]at hq;exact hq.elim
  |err c'=>simp only[q2]at hq;exact hq.elim
  |ok t=>
   simp only[q2]at hq
   have hq':∀v H',Same H H'->Rep X.K (OO B M) H' t v->D.rt v H':=λv H' s' r=>hq v σ H' M (SameO.of s') (E.same s') (λa z=>.inl z) rfl r
   refine Pr (hb (X.pn++ol) _ [] s σ H {nx:=λ_ _=>False,rt:=λ_ _=>False,bk:=λ_ _=>False,ct:=λ_ _=>False} ((Tr.Inv.Nm ol I).FB _) ⟨Z,B,M,E,?_⟩) (λfl s' z=>?_) λ_ _ z=>z
   rotate_left
   ·cases fl with
    |next=>obtain⟨_,_,_,z⟩:=z;exact z.elim
    |cont=>obtain⟨_,_,_,z⟩:=z;exact z.elim
    |brk=>obtain⟨_,_,_,z⟩:=z;exact z.elim
    |ret v=>obtain⟨_,_,_,_,_,z⟩:=z;exact z.elim
   rw[q];intro pins1 ev s1 w;obtain⟨e,T,C,σ1,H1,rfl,hmc,I1,smn,he,heo,fl,hT,hpp⟩:=w
   have sm:Same H H1:=λb o z=>smn b o z λy=>y
   have I1:Inv X ol σ1 H1 s1:=Tr.Inv.Nl (X:=X) I1
   have hpp:∀p∈X.pn++ol,p.1≠e/\T≠ZA p.1:=λp hp=>hpp p (Ol _ hp)
   have heo:=heo hex
   have hT:∀t,T=ZA t->H1 t=ZB/\X.s₀.heap.get? t=ZB:=λt z=>⟨(hT t z).1,(hT t z).2 hex⟩
   show wpAny _ _ _ _ _ _
   have hfr:X.A.frames=ZA (X.env::X.outer):=by rw[<-hst];exact I1.ok.frames
   have hstk:s1.heap.FunFrames X.base (X.env::X.outer):=by rw[<-hst];exact I1.stack
   refine Hl hfr hstk hfe fl λh' T' g=>?_
   have I2:=Inv.gone I1 hst hfe hcl hex g he heo hT hpp
   have Tn:H1 T'=ZB/\X.s₀.heap.get? T'=ZB/\∀p∈X.pn++ol,p.1≠T':=by
    rcases g.new with z|z
    ·exact⟨(hT T' z).1,(hT T' z).2,λp hp y=>(hpp p hp).2 (by rw[z,y])⟩
    ·exact⟨jL I1 z,eG I1 hex z,λp hp y=>by have:=(I1.pin p hp).1;rw[y,z]at this;cases this⟩
   obtain⟨bm,OC,hin,run⟩:=hs c C t hmc q2;obtain⟨hTe,oe,ev,hoe,hoc,hod,h1,oT,ts,hoT,hdT,h3⟩:=g.flt
   have nfr:∀b o vs,h'.get? b=ZA o->o.data=.fields vs->b∉(X.env::X.outer).filterMap (·.frame):=λb o vs hb hd z=>by
    have:=I2.stack;rw[hst]at this;obtain⟨_,o',ho',hnf⟩:=this.mem z;rw[show h'.get? b=ZA o' from ho']at hb
    cases hb;exact hnf vs hd
   have hel:e≠X.env.locals:=λz=>nfr e oe ev hoe hod (by rw[O8,hfe];exact z▸NN)
   have hef:e∉X.fs:=λz=>nfr e oe ev hoe hod (by rw[O8,hfe];exact NJ _ z)
   have hcell:∀v,oe.data≠ .cell v:=λv z=>by rw[hod]at z;cases z
   have I3:Inv (uW X e oe) ol σ1 H1 {s1 with heap:=h'}:=oy I2 hoe he hel hef hcell
   refine TF (S6 (fR (X:=uW X e oe) I3 hg hm ?_ hd)) (by intro z;cases z)
   obtain⟨nm,qq,N,bs,hdct,sn,sub,ab,col,dd,k0,k1,k2,k3,k5,mN,hC,_⟩:=OC.at_ h' I3.kIn;obtain⟨nm',qq',N',bs',hdct',sn',sub',ab',col',dd',k0',k1',k2',k3',k5',mN',hD,_,_,TD⟩:=OE.at_ h' I3.kIn;refine rY hC hD hoe hoc (TD.tail.hasType (by decide)) hin (R9 ?_)
   refine Tf hoe hod h1 hoT hdT (OY.mp h3).1 ?_
   generalize hU:h'.update T' (RL (·.setIfInBounds 3 Ov))=h2
   have kp:∀b,b≠T'->h2.get? b=h'.get? b:=λb hb=>by rw[<-hU];exact Qw _ _ (OZ hb)
   have hT2:h2.get? T'=ZA (RL (·.setIfInBounds 3 Ov) oT):=by rw[<-hU];exact Ry _ hoT (RA (P6 hdT _))
   have hoe2:h2.get? e=ZA oe:=(kp e (OZ hTe)).trans hoe
   have g2:EE ((X.env::X.outer).filterMap (·.frame)) C e (ZA T') h' h2 T':=⟨⟨hTe,oe,ev,hoe2,hoc,hod,h1,_,_,hT2,P6 hdT _,by simp[(OY.mp h3).1]⟩,.inl rfl,λb o _ _ n3 q=>(kp b λz=>n3 (by rw[z])).trans q,λb o m q=>⟨o.slots,(kp b λz=>nfr T' oT ts hoT hdT (z▸m)).trans q⟩⟩
   have I4:Inv X ol σ1 H1 {s1 with heap:=h2}:=Inv.gone (s:={s1 with heap:=h'}) I2 hst hfe hcl hex g2 he heo (λt z=>by cases z;exact⟨Tn.1,Tn.2.1⟩) λp hp=>⟨(hpp p hp).1,λz=>Tn.2.2 p hp (Ou z).symm⟩
   have I5:Inv (uW X e oe) ol σ1 H1 {s1 with heap:=h2}:=oy I4 hoe2 he hel hef hcell
   refine lN (X:=uW X e oe) (v:=.ref e) I5 hN hi (.inl hloc) rfl (λs3 I6=>?_) (.inr hloc)
   have hil:i<σ1.length:=by
    rw[I1.len];exact(NU.mp hi).1
   refine Pr (run e oe ev hoc hod ol s3 _ H1 (OO B M) (λv H'=>Same H1 H'/\Rep X.K (OO B M) H' t v) I6 he (λz=>?_) (by simp[hil]) (λp hp z=>?_) λv H' s' r=>⟨s',r⟩) (λf s4 r=>?_) λ_ _ z=>z.elim
   ·rw[hst]at z
    exact nfr e oe ev hoe hod z
   ·obtain⟨o,ho⟩:=(E.env.trk p z).some
    have:=sm p o ho;rw[hp]at this;cases this
   ·cases f with
    |next=>obtain⟨_,_,_,z⟩:=r;exact z.elim
    |brk=>obtain⟨_,_,_,z⟩:=r;exact z.elim
    |cont=>obtain⟨_,_,_,z⟩:=r;exact z.elim
    |ret u=>
     obtain⟨v,σ',H',I7,rv,s',rt⟩:=r;obtain⟨m,hn,_⟩:=I7.loc;refine wpAny_nameGoes (show X.env.kindOf n=ZA .local from hloc) hn (by rw[I.ok.kind];rfl) λh8 m8 hn8 hs8=>?_
     exact⟨v,_,H',Inv.forget (zQ I.ok I7) hcl hn8 hs8,rv,hq' v H' (λb o y=>s' b o (sm b o y)) rt⟩
structure QE (X:Cx)(e:ZG)(f:V5):Prop where
 h:cy X e f
structure QA (X:Cx)(e:List ZG)(f:V3):Prop where
 h:qB X e f
structure QT (X:Cx)(e:ZG)(f:V6):Prop where
 h:rk X e f
structure QW (X:Cx)(e:ZG)(f:V6):Prop where
 h:HF X e f
structure QS (X:Cx)(e:ZF)(f:V4):Prop where
 h:oH X e f
structure Bh (X:Cx)(e:List ZF)(f:V4):Prop where
 h:mG X e f
structure QG (X:Cx)(e:ZG)(f:T->En->Rs En):Prop where
 h:EM X e f
structure MO (X:Cx)(e:List ZG)(f:List T->En->Rs En):Prop where
 h:EC X e f
structure QI (X:Cx)(t e:ZG)(f:V3):Prop where
 h:Bs X t e f
structure QO (X:Cx)(e:Option ZG)(f:En->Rs (Option Int)):Prop where
 h:Mz X e f
structure MN (X:Cx)(e:List ZG)(f:V6):Prop where
 h:Bt X e (BN X f)
def af(i:Nat)(hN:autoParam ((Cx.N X)[i]?=ZA x) aqd._auto_1)(hv:autoParam (lJ (Qu (Cx.env X)) x) aqe._auto_1)(hd:autoParam ((x == NX "__debug__")=ZD) aqb._auto_1)(hcd:autoParam ((x == NX "__classdict__")=ZD) aqb._auto_1):QE X (Oy x pos) (vr i):=
 ⟨Lf (i:=i) (hN:=hN) (hv:=hv) (hd:=hd) (hcd:=hcd)⟩
variable{i:Int}
def ao:QE X (Sx (Const.int i) j pos) (cn (T.int i)):=
 ⟨Lo ⟩
def nr{i:Bool}:QE X (Sx (Const.bool i) j pos) (cn (T.bl i)):=
 ⟨q_bl ⟩
def bN:QE X (Sx Const.none j pos) (cn T.non):=
 ⟨Lk ⟩
def iW{i:Str}:QE X (Sx (Const.str i) j pos) (cn (T.str i)):=
 ⟨Lh ⟩
def EU{u:NK}(hm:Cx.mg X x=ZA u)(r:L2.RelV (V.int i) u)(hg:autoParam (Gl X x) aqd._auto_1)(hd:autoParam ((x == NX "__debug__")=ZD) aqb._auto_1):QE X (Oy x pos) (cn (T.int i)):=
 ⟨IQ (hm:=hm) (r:=r) (hg:=hg) (hd:=hd)⟩
def ah:QA X [] ai:=
 ⟨IP ⟩
def ag{X:Cx}{e:ZG}{es:List ZG}{f:V5}{g:V3}(he:QE X e f)(hr:QA X es g)(hn:autoParam (bu e=ZC) aqd._auto_1):QA X (e::es) (ae f g):=
 ⟨qa_c (he:=he.h) (hr:=hr.h) (hn:=hn)⟩
def aM{f:V3}(h:QA X es f):QE X (Expr.Tuple es x1 pos) (aK f):=
 ⟨Lg (h:=h.h)⟩
def ip{X:Cx}{es:List ZG}{pos:Pos}{f:V3}(h:QA X es f):QE X (Expr.List es pos) (fz f):=
 ⟨Lm (h:=h.h)⟩
variable{b:ZG}{g:T->T->Rs T}
def ax{op:Operator}(ho:OpT X (PH op) g)(ha:QE X a fa)(hb:QE X b fb):QE X (Expr.BinOp a op b pos) (o2 g fa fb):=
 ⟨Ls (ho:=ho) (ha:=ha.h) (hb:=hb.h)⟩
def iq(ho:OpT X (OG op) g)(ha:QE X a fa)(hb:QE X b fb)(hm:autoParam (P9 op b=ZD) aqd._auto_1):QE X (SV a [op] [b] pos) (o2 g fa fb):=
 ⟨Lr (ho:=ho) (ha:=ha.h) (hb:=hb.h) (hm:=hm)⟩
def lj(ha:QE X a fa):QE X (UF UnaryOp.USub a pos) (o1 jP fa):=
 ⟨Ll (ha:=ha.h)⟩
variable{c:ZG}
def vi{fc:V5}{g':T->T->Rs T}(ho:OpT X (OG op) g)(ho':OpT X (OG op') g')(ha:QE X a fa)(hb:QE X b fb)(hc:QE X c fc)(hm:autoParam (Vf [op,op'] [b,c]=ZD) aqf._auto_1):QE X (SV a [op,op'] [b,c] pos) (ch g g' fa fb fc):=
 ⟨FN (ho:=ho) (ho':=ho') (ha:=ha.h) (hb:=hb.h) (hc:=hc.h) (hm:=hm)⟩
def df{f:V5}(h:QE X e f)(he:autoParam (∀(whole:Sem NK),PySem.isTrue e (Cx.env X) whole=(do let v <-whole;standAt (Expr.pos e);holding [v] (truthy v))) aqc._auto_1):QT X e (tb f):=
 ⟨Iw (h:=h.h) (he:=he)⟩
def bc(ho:OpT X (OG op) g)(ha:QE X a fa)(hb:QE X b fb)(hm:autoParam (P9 op b=ZD) aqd._auto_1):QT X (SV a [op] [b] pos) (tb (o2 g fa fb)):=
 ⟨Iz (ho:=ho) (ha:=ha.h) (hb:=hb.h) (hm:=hm)⟩
def rz{fc:V5}{g':T->T->Rs T}(ho:OpT X (OG op) g)(ho':OpT X (OG op') g')(ha:QE X a fa)(hb:QE X b fb)(hc:QE X c fc)(hm:autoParam (Vf [op,op'] [b,c]=ZD) aqf._auto_1):QT X (SV a [op,op'] [b,c] pos) (tb (ch g g' fa fb fc)):=
 ⟨Cf (ho:=ho) (ho':=ho') (ha:=ha.h) (hb:=hb.h) (hc:=hc.h) (hm:=hm)⟩
variable{f:V6}
def oJ(ha:QT X a f):QW X (Qi S8 [a] pos) f:=
 ⟨Fu (ha:=ha.h)⟩
def kq(ha:QT X a f):QW X (Qi TU [a] pos) f:=
 ⟨Iu (ha:=ha.h)⟩
def sO{g:V6}{bV:List ZG}(ha:QT X a f)(hb:QW X (Qi S8 (b::bV) pos) g):QW X (Qi S8 (a::b::bV) pos) (lI f g):=
 ⟨Iv (ha:=ha.h) (hb:=hb.h)⟩
def mH{g:V6}{bV:List ZG}(ha:QT X a f)(hb:QW X (Qi TU (b::bV) pos) g):QW X (Qi TU (a::b::bV) pos) (nR f g):=
 ⟨K9 (ha:=ha.h) (hb:=hb.h)⟩
def lK(h:QW X e f):QT X e f:=
 ⟨qt_w (h:=h.h)⟩
def dC(ha:QT X a f):QT X (UF UnaryOp.Not a pos) (cH f):=
 ⟨Iy (ha:=ha.h)⟩
def fF{op:BoolOp}(h:QE X a fa):QE X (Qi op [a] pos) fa:=
 ⟨Li (h:=h.h)⟩
def eV{bV:List ZG}(ha:QE X a fa)(hb:QE X (Qi S8 (b::bV) pos) fb):QE X (Qi S8 (a::b::bV) pos) (dt fa fb):=
 ⟨Lu (ha:=ha.h) (hb:=hb.h)⟩
def Hb{bV:List ZG}(ha:QE X a fa)(hb:QE X (Qi TU (b::bV) pos) fb):QE X (Qi TU (a::b::bV) pos) (EJ fa fb):=
 ⟨q_or (ha:=ha.h) (hb:=hb.h)⟩
def HN(ha:QE X a fa):QE X (UF UnaryOp.Not a pos) (o1 Ga fa):=
 ⟨Lj (ha:=ha.h)⟩
def vh(hc:QT X c f)(ha:QE X a fa)(hb:QE X b fb):QE X (Expr.IfExp c a b pos) (yD f fa fb):=
 ⟨q_if (hc:=hc.h) (ha:=ha.h) (hb:=hb.h)⟩
def aH(ha:QE X a fa)(hb:QE X b fb)(hs:autoParam (Ah b) aqg._auto_1):QE X (PR a b pos) (o2 aV fa fb):=
 ⟨q_ix (ha:=ha.h) (hb:=hb.h) (hs:=hs)⟩
def cF:QO X ZB pN:=
 ⟨FD ⟩
def cE(ha:QE X a fa):QO X (ZA a) (pS fa):=
 ⟨FC (ha:=ha.h)⟩
def cG{lo hi:Option ZG}{p2:Pos}{fl fu:En->Rs (Option Int)}(ha:QE X a fa)(hl:QO X lo fl)(hu:QO X hi fu):QE X (PR a (Expr.Slice lo hi ZB p2) pos) (sl fa fl fu):=
 ⟨FK (ha:=ha.h) (hl:=hl.h) (hu:=hu.h)⟩
variable{g:List T->Rs T}
def cf{fs:V3}{id:String}(hc:CallT X (QK id) g)(hm:Cx.mg X x=ZB)(hv:OF x=ZA (QK id))(ha:QA X (e::es) fs)(hn:autoParam (bF (e::es)=ZC) aqd._auto_1)(hg:autoParam (Gl X x) aqd._auto_1)(h1:autoParam (x≠NX "__name__") aqb._auto_1)(h2:autoParam ((x == NX "__debug__")=ZD) aqb._auto_1):QE X (P8 (Oy x p) (e::es) [] pos) (cl g fs):=
 ⟨q_cB (hc:=hc) (hm:=hm) (hv:=hv) (ha:=ha.h) (hn:=hn) (hg:=hg) (h1:=h1) (h2:=h2)⟩
def oM{fs:V3}(hc:CallT X (Rn Ty) g)(hm:Cx.mg X x=ZB)(hv:OF x=ZA (Rn Ty))(ha:QA X (e::es) fs)(hn:autoParam (bF (e::es)=ZC) aqd._auto_1)(hg:autoParam (Gl X x) aqd._auto_1)(h1:autoParam (x≠NX "__name__") aqb._auto_1)(h2:autoParam ((x == NX "__debug__")=ZD) aqb._auto_1):QE X (P8 (Oy x p) (e::es) [] pos) (cl g fs):=
 ⟨q_cT (hc:=hc) (hm:=hm) (hv:=hv) (ha:=ha.h) (hn:=hn) (hg:=hg) (h1:=h1) (h2:=h2)⟩
def zq_c{fs:V3}{f:ZE}(F:EF (Cx.prog X) (Cx.w X) (Cx.K X) (Cx.mg X) (Cx.base X) k f fd ps n g)(hr:Room k (Cx.A X))(hm:Cx.mg X x=ZA (N1 f))(hk:W.keepIn (Cx.K X) (N1 f)=ZC)(hb:L2.Binds (Cx.K X) fd ps [])(hl:∀(Z:En)(ts:List T),fs Z=Rs.ok ts->O0 ts=n)(ha:QA X (e::es) fs)(hps:autoParam (O0 ps=n) aqd._auto_1)(hn:autoParam (bF (e::es)=ZC) aqd._auto_1)(hg:autoParam (Gl X x) aqd._auto_1)(h2:autoParam ((x == NX "__debug__")=ZD) aqb._auto_1):QE X (P8 (Oy x p) (e::es) [] pos) (cl g fs):=
 ⟨q_c (F:=F) (hr:=hr) (hm:=hm) (hk:=hk) (hb:=hb) (hl:=hl) (ha:=ha.h) (hps:=hps) (hn:=hn) (hg:=hg) (h2:=h2)⟩
def By{p2:Pos}{tn:Str}(hm:Cx.mg X (NX "isinstance")=ZB)(hmt:Cx.mg X tn=ZB)(hv:OF tn=ZA (Rn Ty))(ha:QE X a fa)(hn:autoParam (bu a=ZC) aqd._auto_1)(hg:autoParam (Gl X (NX "isinstance")) aqd._auto_1)(hgt:autoParam (Gl X tn) aqd._auto_1)(h1:autoParam (tn≠NX "__name__") aqb._auto_1)(h2:autoParam ((tn == NX "__debug__")=ZD) aqb._auto_1):QE X (P8 (Oy (NX "isinstance") p) [a,Oy tn p2] [] pos) (o1 (Gz Ty) fa):=
 ⟨q_is (hm:=hm) (hmt:=hmt) (hv:=hv) (ha:=ha.h) (hn:=hn) (hg:=hg) (hgt:=hgt) (h1:=h1) (h2:=h2)⟩
def ar(i:Nat)(hN:Ph (Cx.N X))(hi:autoParam ((Cx.N X)[i]?=ZA x) aqd._auto_1)(hx:autoParam (L2.Loc (Qu (Cx.env X)) x) aqh._auto_1)(hf:autoParam (Cx.fn X x=ZC\/Px x (Tw (Qu (Cx.env X)))=ZA NameKind.local) aqa._auto_1):QG X (Oy x pos) (gN i):=
 ⟨FI (i:=i) (hN:=hN) (hi:=hi) (hx:=hx) (hf:=hf)⟩
def cU:MO X [] nI:=
 ⟨FH ⟩
variable{g:T->En->Rs En}{gs:List T->En->Rs En}
def aO(h1:QG X e g)(h2:MO X es gs)(hs:autoParam (List.map (λx=>Prod.snd x) (PB (e::es) (Cx.env X))=assign e (Cx.env X)::List.map (λx=>Prod.snd x) (PB es (Cx.env X))) aqd._auto_1):MO X (e::es) (eR g gs):=
 ⟨Cm (h1:=h1.h) (h2:=h2.h) (hs:=hs)⟩
def dX(hc:Cx.calm X=ZC)(h:MO X es gs)(hn:autoParam (O0 (PB es (Cx.env X))=n) aqd._auto_1)(hst:autoParam (List.findIdx? (λx=>Prod.fst x) (PB es (Cx.env X))=ZB) aqd._auto_1):QG X (Expr.Tuple es k pos) (gT n gs):=
 ⟨IM (hc:=hc) (h:=h.h) (hn:=hn) (hst:=hst)⟩
variable{tg:ZG}
def dF{fs:V3}(hm:Cx.mg X (NX "range")=ZB)(ha:QA X [a] fs)(hg:autoParam (Gl X (NX "range")) aqd._auto_1)(hs:autoParam (NW [a] (Cx.env X)=[(ZD,eval a (Cx.env X))]) aqd._auto_1):QI X tg (P8 (Oy (NX "range") p) [a] [] pos) (iR fs):=
 ⟨AA (hm:=hm) (ha:=ha.h) (hg:=hg) (hs:=hs)⟩
def xA{fs:V3}(hm:Cx.mg X (NX "range")=ZB)(ha:QA X [a,b] fs)(hg:autoParam (Gl X (NX "range")) aqd._auto_1)(hs:autoParam (NW [a,b] (Cx.env X)=[(ZD,eval a (Cx.env X)),(ZD,eval b (Cx.env X))]) aqd._auto_1)(hs2:autoParam (NW [b] (Cx.env X)=[(ZD,eval b (Cx.env X))]) aqd._auto_1):QI X tg (P8 (Oy (NX "range") p) [a,b] [] pos) (iR fs):=
 ⟨Az (hm:=hm) (ha:=ha.h) (hg:=hg) (hs:=hs) (hs2:=hs2)⟩
def dE:MN X [] bT:=
 ⟨FF ⟩
def vf(h:QT X c f):MN X [c] f:=
 ⟨FE (h:=h.h)⟩
variable{N':List Str}{fc:V6}{fe:V5}{fi:V3}{ifs:List ZG}{iter:ZG}{tgt:T->En->Rs En}
def jm{elt:ZG}{src:List (Option Nat)}(hc:Cx.calm X=ZC)(S:LcScope X scope N' src)(hi:QI X tg iter fi)(block:∀(cl:List (Str×ZE))(C:ZE)(s₀:NO)(H₀:Hp)(fp:List ZE),QG (cm X scope cl N' C s₀ H₀ fp) tg tgt/\MN (cm X scope cl N' C s₀ H₀ fp) ifs fc/\QE (cm X scope cl N' C s₀ H₀ fp) elt fe)(hs:autoParam (∀(x:NK),OM iter (Cx.env X) x=pure x) aqc._auto_1):QE X (TV elt [{target:=tg,iter:=iter,ifs:=ifs,is_async:=0}] scope pos) (ig fi src tgt fc fe):=
 ⟨q_lc (hc:=hc) (S:=S) (hi:=hi.h) (block:=λa1 a2 a3 a4 a5=>⟨(block a1 a2 a3 a4 a5).1.h,(block a1 a2 a3 a4 a5).2.1.h,(block a1 a2 a3 a4 a5).2.2.h⟩) (hs:=hs)⟩
def bL:Bh X [] sN:=
 ⟨ID ⟩
variable{F:V4}
def au{bV:List ZF}(h1:QS X st F)(h2:Bh X bV G):Bh X (st::bV) (aD F G):=
 ⟨FA (h1:=h1.h) (h2:=h2.h)⟩
def aw(h:QS X st F):Bh X [st] F:=
 ⟨IC (h:=h.h)⟩
def aI(ha:QE X a fa):QS X (Stmt.Return (ZA a) pos) (aR fa):=
 ⟨IA (ha:=ha.h)⟩
def ck{A B:List ZF}(hc:QT X c f)(ha:Bh X A F)(hb:Bh X B G):QS X (Stmt.If c A B pos) (eZ f F G):=
 ⟨Lc (hc:=hc.h) (ha:=ha.h) (hb:=hb.h)⟩
def HL{elt:ZG}{spos py:Pos}{src:List (Option Nat)}(i:Nat){y:Str}(hc:Cx.calm X=ZC)(S:LcScope X scope N' src)(hi:QI X tg iter fi)(block:∀(cl:List (Str×ZE))(C:ZE)(s₀:NO)(H₀:Hp)(fp:List ZE),QG (cm X scope cl N' C s₀ H₀ fp) tg tgt/\MN (cm X scope cl N' C s₀ H₀ fp) ifs fc/\QE (cm X scope cl N' C s₀ H₀ fp) elt fe)(hN:Ph (Cx.N X))(hiy:autoParam ((Cx.N X)[i]?=ZA y) aqd._auto_1)(hy:autoParam (L2.Loc (Qu (Cx.env X)) y) aqh._auto_1)(hsw:autoParam (OR (TV elt [{target:=tg,iter:=iter,ifs:=ifs,is_async:=0}] scope pos) (ZA (Oy y py)) (Q2 spos) (Cx.env X)=pure ZC) aqd._auto_1)(hf:autoParam (Cx.fn X y=ZC\/Px y (Tw (Qu (Cx.env X)))=ZA NameKind.local) aqa._auto_1)(hs:autoParam (∀(x:NK),OM iter (Cx.env X) x=pure x) aqc._auto_1):QS X (RQ [Oy y py] (TV elt [{target:=tg,iter:=iter,ifs:=ifs,is_async:=0}] scope pos) spos) (cj (ig fi src tgt fc fe) (gN i)):=
 ⟨Lb (i:=i) (hc:=hc) (S:=S) (hi:=hi.h) (block:=λa1 a2 a3 a4 a5=>⟨(block a1 a2 a3 a4 a5).1.h,(block a1 a2 a3 a4 a5).2.1.h,(block a1 a2 a3 a4 a5).2.2.h⟩) (hN:=hN) (hiy:=hiy) (hy:=hy) (hsw:=hsw) (hf:=hf) (hs:=hs)⟩
def aJ(ha:QE X a fa)(hg:QG X tg g)(hs:autoParam (T3 [tg] a (Q2 pos) (Cx.env X)=pure ZD) aqd._auto_1)(hw:autoParam (T4 [tg] a (Cx.env X)=pure ZB) aqd._auto_1)(h1:autoParam (List.map (λx=>Prod.snd x) (PB [tg] (Cx.env X))=[assign tg (Cx.env X)]) aqd._auto_1):QS X (RQ [tg] a pos) (cj fa g):=
 ⟨II (ha:=ha.h) (hg:=hg.h) (hs:=hs) (hw:=hw) (h1:=h1)⟩
def fU(ha:QE X a fa)(hs:autoParam (OR a ZB (Q2 pos) (Cx.env X)=pure ZD) aqd._auto_1):QS X (Stmt.Expr a pos) (xV fa):=
 ⟨Fz (ha:=ha.h) (hs:=hs)⟩
def cC(hc:Cx.calm X=ZC)(hi:QI X tg iter fi)(hg:QG (Cx.nox X) tg g)(hb:Bh (Cx.nox X) body F)(hs:autoParam (∀(x:NK),OM iter (Cx.env X) x=pure x) aqc._auto_1):QS X (Stmt.For tg iter body [] pos) (fH fi g F):=
 ⟨IF (hc:=hc) (hi:=hi.h) (hg:=hg.h) (hb:=hb.h) (hs:=hs)⟩
def Aj(n:Nat)(hc:QT (Cx.nox X) c fc)(hb:Bh (Cx.nox X) body F):QS X (Stmt.While c body [] pos) (bZ fc F n):=
 ⟨Cg (n:=n) (hc:=hc.h) (hb:=hb.h)⟩
def cz(ha:QE X a fa):QI X tg a (iS fa):=
 ⟨IL (ha:=ha.h)⟩
def jA{fs:V3}{elts:List ZG}{tpos:Pos}(hm:Cx.mg X (NX "enumerate")=ZB)(ha:QA X [a] fs)(hg:autoParam (Gl X (NX "enumerate")) aqd._auto_1)(hs:autoParam (NW [a] (Cx.env X)=[(ZD,eval a (Cx.env X))]) aqd._auto_1):QI X (Expr.Tuple elts kk tpos) (P8 (Oy (NX "enumerate") p) [a] [] pos) (iE fs):=
 ⟨FG (hm:=hm) (ha:=ha.h) (hg:=hg) (hs:=hs)⟩
def jz{p2:Pos}(i:Nat){f:V3}(hN:Ph (Cx.N X))(ha:QA X es f)(hi:autoParam ((Cx.N X)[i]?=ZA x) aqd._auto_1)(hx:autoParam (L2.Loc (Qu (Cx.env X)) x) aqh._auto_1)(hs:autoParam (OR (Expr.List es p2) (ZA (Oy x p3)) (Q2 pos) (Cx.env X)=pure ZD) aqd._auto_1)(hf:autoParam (Cx.fn X x=ZC\/Px x (Tw (Qu (Cx.env X)))=ZA NameKind.local) aqa._auto_1):QS X (RQ [Oy x p3] (Expr.List es p2) pos) (jI i f):=
 ⟨Fw (i:=i) (hN:=hN) (ha:=ha.h) (hi:=hi) (hx:=hx) (hs:=hs) (hf:=hf)⟩
def iV{p2:Pos}(i:Nat)(ha:QE X a fa)(hN:autoParam ((Cx.N X)[i]?=ZA x) aqd._auto_1)(hv:autoParam (lJ (Qu (Cx.env X)) x) aqe._auto_1)(hn:autoParam (bu a=ZC) aqd._auto_1)(hbase:autoParam (On (Oy x p2) (NX "append") (Cx.env X) (eval (Oy x p2) (Cx.env X))=eval (Oy x p2) (Cx.env X)) aqd._auto_1)(hline:autoParam ((Tx apos == Q2 cpos)=ZC) aqd._auto_1)(hd:autoParam ((x == NX "__debug__")=ZD) aqb._auto_1)(hcd:autoParam ((x == NX "__classdict__")=ZD) aqb._auto_1)(hsw:autoParam (OR (P8 (Q0 (Oy x p2) (NX "append") apos) [a] [] cpos) ZB (Q2 pos) (Cx.env X)=pure ZD) aqd._auto_1):QS X (Stmt.Expr (P8 (Q0 (Oy x p2) (NX "append") apos) [a] [] cpos) pos) (jw i fa):=
 ⟨IJ (i:=i) (ha:=ha.h) (hN:=hN) (hv:=hv) (hn:=hn) (hbase:=hbase) (hline:=hline) (hd:=hd) (hcd:=hcd) (hsw:=hsw)⟩
def sP{p2:Pos}(i:Nat)(ha:QE X a fa)(hN:autoParam ((Cx.N X)[i]?=ZA x) aqd._auto_1)(hv:autoParam (lJ (Qu (Cx.env X)) x) aqe._auto_1)(hn:autoParam (bu a=ZC) aqd._auto_1)(hbase:autoParam (On (Oy x p2) (NX "extend") (Cx.env X) (eval (Oy x p2) (Cx.env X))=eval (Oy x p2) (Cx.env X)) aqd._auto_1)(hline:autoParam ((Tx apos == Q2 cpos)=ZC) aqd._auto_1)(hd:autoParam ((x == NX "__debug__")=ZD) aqb._auto_1)(hcd:autoParam ((x == NX "__classdict__")=ZD) aqb._auto_1)(hsw:autoParam (OR (P8 (Q0 (Oy x p2) (NX "extend") apos) [a] [] cpos) ZB (Q2 pos) (Cx.env X)=pure ZD) aqd._auto_1):QS X (Stmt.Expr (P8 (Q0 (Oy x p2) (NX "extend") apos) [a] [] cpos) pos) (o8 i fa):=
 ⟨IG (i:=i) (ha:=ha.h) (hN:=hN) (hv:=hv) (hn:=hn) (hbase:=hbase) (hline:=hline) (hd:=hd) (hcd:=hcd) (hsw:=hsw)⟩
def iU(i:Nat)(h:QS X st F):QS X st (nP i F):=
 ⟨IH (i:=i) (h:=h.h)⟩
def eU(i:Nat){f:V5}(h:QE X e f):QE X e (ln i f):=
 ⟨q_ln (i:=i) (h:=h.h)⟩
def HK(i:Nat)(h:QT X e f):QT X e (JA i f):=
 ⟨La (i:=i) (h:=h.h)⟩
def HM:QS X (Stmt.Continue pos) Hj:=
 ⟨Ld ⟩
def iI{c:Str}{msg:Str}{C:ZE}{np p1:Pos}(O:OX X.K C bm)(hm:X.mg c=ZA (.ref C))(hc:autoParam (X.calm=ZC) aqd._auto_1)(hg:autoParam (Gl X c) aqd._auto_1)(hd:autoParam ((c == ("__debug__" : Str))=ZD) aqb._auto_1):
  QS X (.Raise (ZA (.Call (.Name c np) [.Constant (.str msg) j p1] [] cpos)) ZB pos) (xW c):=⟨Ci O.own hc hm hg hd⟩
def sQ{base:ZH}{f:ZE}(Fn:L2.Fun K x qual st f fd)(S:aA N ps (aj st))(hn:ps.length=n)
  (hbody:∀(cdv:NK)(A:Oq)(outer:List Env)(s:NO)(H:Hp)(E:XK),Room k (A.deeper (envOfC qual (aj st) s.heap.objs.size f cdv)) →
   ∀xe,Bh ((gn CX0 P w K mg base N qual (aj st) f cdv A outer s H E).FB xe) (bD st) F):EF P w K mg base (k+1) f fd ps n (val n N.length F):=J2 Fn S hn λcdv A outer s H E hr xe=>(hbody cdv A outer s H E hr xe).h
def dg(hu:RC (Cx.A X)+1<cLine)(ha:QE X a fa)(hb:QE X b fb)(hs:autoParam (Bk b) aqg._auto_1):QE X (PR a b pos) (o2 bJ fa fb):=
 ⟨Lq (hu:=hu) (ha:=ha.h) (hb:=hb.h) (hs:=hs)⟩
def yY(hu:RC (Cx.A X)+1<cLine)(ha:QE X a fa)(hb:QE X b fb)(hn:autoParam (bu b=ZC) aqd._auto_1)(hbase:autoParam (On a (NX "get") (Cx.env X) (eval a (Cx.env X))=eval a (Cx.env X)) aqd._auto_1)(hline:autoParam ((Tx apos == Q2 cpos)=ZC) aqd._auto_1):QE X (P8 (Q0 a (NX "get") apos) [b] [] cpos) (oD jv fa fb):=
 ⟨IS (hu:=hu) (ha:=ha.h) (hb:=hb.h) (hn:=hn) (hbase:=hbase) (hline:=hline)⟩
def Am(hu:RC (Cx.A X)+61<cLine)(ha:QE X a fa)(hb:QE X b fb)(hn:autoParam (bu b=ZC) aqd._auto_1)(hbase:autoParam (On a (NX "index") (Cx.env X) (eval a (Cx.env X))=eval a (Cx.env X)) aqd._auto_1)(hline:autoParam ((Tx apos == Q2 cpos)=ZC) aqd._auto_1):QE X (P8 (Q0 a (NX "index") apos) [b] [] cpos) (oL hZ fa fb):=
 ⟨Cn (hu:=hu) (ha:=ha.h) (hb:=hb.h) (hn:=hn) (hbase:=hbase) (hline:=hline)⟩
def Bx{f:V5}{p2:Pos}(i:Nat)(hu:RC (Cx.A X)+8<cLine)(hc:Cx.calm X=ZC)(hm:Cx.mg X (NX "dict")=ZB)(hN:Ph (Cx.N X))(ha:QE X e f)(hst:autoParam (bu e=ZC) aqd._auto_1)(hg:autoParam (Gl X (NX "dict")) aqd._auto_1)(hi:autoParam ((Cx.N X)[i]?=ZA x) aqd._auto_1)(hx:autoParam (L2.Loc (Qu (Cx.env X)) x) aqh._auto_1)(hs:autoParam (OR (P8 (Oy (NX "dict") p) [e] [] p2) (ZA (Oy x p3)) (Q2 pos) (Cx.env X)=pure ZD) aqd._auto_1)(hf:autoParam (Cx.fn X x=ZC\/Px x (Tw (Qu (Cx.env X)))=ZA NameKind.local) aqa._auto_1):QS X (RQ [Oy x p3] (P8 (Oy (NX "dict") p) [e] [] p2) pos) (rH i f):=
 ⟨Fy (i:=i) (hu:=hu) (hc:=hc) (hm:=hm) (hN:=hN) (ha:=ha.h) (hst:=hst) (hg:=hg) (hi:=hi) (hx:=hx) (hs:=hs) (hf:=hf)⟩
def ES{fc:V5}{p2:Pos}(i:Nat)(hu:RC (Cx.A X)+1<cLine)(hb:QE X b fb)(hc:QE X c fc)(hN:autoParam ((Cx.N X)[i]?=ZA x) aqd._auto_1)(hv:autoParam (lJ (Qu (Cx.env X)) x) aqe._auto_1)(hd:autoParam ((x == NX "__debug__")=ZD) aqb._auto_1)(hcd:autoParam ((x == NX "__classdict__")=ZD) aqb._auto_1)(hs:autoParam (OR c (ZA (PR (Oy x p2) b p3)) (Q2 pos) (Cx.env X)=pure ZD) aqd._auto_1):QS X (RQ [PR (Oy x p2) b p3] c pos) (Aw i fb fc):=
 ⟨IB (i:=i) (hu:=hu) (hb:=hb.h) (hc:=hc.h) (hN:=hN) (hv:=hv) (hd:=hd) (hcd:=hcd) (hs:=hs)⟩
def oK{fc:V5}{p2 p4:Pos}(i:Nat)(hu:RC (Cx.A X)+1<cLine)(ha:QE X a fa)(hb:QE X b fb)(hc:QE X c fc)(hsl:autoParam (Bk a) aqg._auto_1)(hN:autoParam ((Cx.N X)[i]?=ZA x) aqd._auto_1)(hv:autoParam (lJ (Qu (Cx.env X)) x) aqe._auto_1)(hd:autoParam ((x == NX "__debug__")=ZD) aqb._auto_1)(hcd:autoParam ((x == NX "__classdict__")=ZD) aqb._auto_1)(hs:autoParam (OR c (ZA (PR (PR (Oy x p2) a p3) b p4)) (Q2 pos) (Cx.env X)=pure ZD) aqd._auto_1):QS X (RQ [PR (PR (Oy x p2) a p3) b p4] c pos) (jq i fa fb fc):=
 ⟨Fv (i:=i) (hu:=hu) (ha:=ha.h) (hb:=hb.h) (hc:=hc.h) (hsl:=hsl) (hN:=hN) (hv:=hv) (hd:=hd) (hcd:=hcd) (hs:=hs)⟩
end Tr
namespace Tr
open PySem PySem.Spec L2
def LcScope.byN{X:Cx}{N N':List Str}{src:List (Option Nat)}(hN:X.N=N)(hk:scope.kind=.function)(h:JC scope.names N scope.names N' src=ZC)
  (hf:(scope.names.all λy=>y.2 != .free||(X.env.scope.names.lookup y.1 == ZA .cell||X.env.scope.names.lookup y.1 == ZA .free))=ZC):LcScope X scope N' src:=by
 have z:=LcScope.by (X:={X with env:={X.env with scope:=scope}}) hN rfl hk h
 refine⟨hk,z.cel,z.loc,z.len,z.from_,λx hx=>?_⟩
 have:=Ob.mp hf _ hx;simp only[bne_self_eq_false,Sw,RP]at this
 show X.env.scope.names.lookup x=_\/X.env.scope.names.lookup x=_
 rcases this with z|z
 ·exact .inl (by simpa using z)
 ·exact .inr (by simpa using z)
end Tr
namespace Tr
open PySem PySem.Spec PyProof.Rows L2 PySem.W
def DO(h:ZH):(DP h).In h:=by
 have key:∀(l:List Nat)(a:ZE)(o:Obj),(l.filterMap λa=>(h.get? a).map λo=>(a,o)).lookup a=ZA o->h.get? a=ZA o:=by
  intro l
  induction l with
  |nil=>intro a o e;cases e
  |cons b r ih=>
   intro a o e
   cases hb:h.get? b with
   |none=>rw[List.filterMap_cons_none (by rw[hb];rfl)]at e;exact ih a o e
   |some ob=>
    rw[List.filterMap_cons_some (b:=(b,ob)) (by rw[hb];rfl),OJ]at e
    cases q:a == b with
    |true=>rw[q]at e;cases e;rw[eq_of_beq q];exact hb
    |false=>rw[q]at e;exact ih a o e
 exact λa o e=>key _ a o e
variable{K:Frag}{n:Str}{st:ZF}
def Hz(e:obF K n=exF n st):∃f fd,nsIn K Ox n=ZA (ZA (.ref f))/\L2.Fun K n n st f fd:=by
 unfold obF at e
 split at e
 ·rename_i f hf
  split at e
  ·rename_i oc od d sl hl
   cases d;unfold exF at e;simp only[Sf,Su]at e;obtain⟨h1,h2,h3,h4,h5,h6,h7,h8,h9,h10,h11⟩:=e;subst h1 h2 h3 h4 h5 h6 h7 h8 h9;exact⟨f,_,hf,DM hl h10 h11⟩
  ·cases e
 ·cases e
def pE{N:ZE}(e:LF K N n=ZC):nsIn K N n=ZA ZB:=by
 unfold LF at e
 split at e
 ·assumption
 ·cases e
def Jp{i:Int}(e:MI K n=ZA i):∃t,nsIn K Ox n=ZA (ZA (.int i t)):=by
 unfold MI at e
 split at e
 ·rename_i i' t h;cases e;exact⟨t,h⟩
 ·cases e
def oO:∀{l:List NK},zc l=ZC->l=n9:=by
 intro l e;unfold zc at e
 split at e
 ·simp only[NL,beq_iff_eq]at e
  obtain⟨⟨⟨h1,h2⟩,h3⟩,h4⟩:=e;subst h1 h2 h3 h4;rfl
 ·cases e
variable{C:ZE}
def ix{D:Option ZE}(e:F8 K D n=ZA C):nsIn K Ox n=ZA (ZA (.ref C)) ∧
  ∃nm q N bs bm hd sn su ab co dd k0 k1 k2 k3 k5,under D bm=ZC/\K.lookup C=ZA (Pe nm q C N bs bm hd sn su ab co dd k0 k1 k2 k3 k5 "ValueError.__new__")/\∀h:ZH,K.In h->∃mN,h.Ns N mN/\∀n∈calmNames,mN n=ZB:=by
 unfold F8 at e
 split at e
 ·rename_i C' hC
  split at e
  ·rename_i t dd c k0 k1 k2 k3 b k5 hl
   split at e
   ·rename_i E m ob oe es ep oz hm hN
    split at e
    ·rename_i hq
     cases e;simp only[NL,beq_iff_eq,Um]at hq;obtain⟨⟨⟨⟨⟨⟨h1,h2⟩,h3⟩,h4⟩,h5⟩,h6⟩,h7⟩:=hq
     have z:=Ob.mp h5;refine⟨hC,c.name,c.qualname,c.ns,c.bases,m,c.hasDict,c.slotNames,c.subclasses,c.abstract,c.collection,dd,k0,k1,k2,k3,k5,h7,?_,LH hN h4 (pE (z _ (.head _))) (pE (z _ (.tail _ (.head _)))) (pE (z _ (.tail _ (.tail _ (.head _))))) (pE (z _ (.tail _ (.tail _ (.tail _ (.head _))))))⟩
     rw[hl];cases c;simp only at hm h3;subst h1 h2 hm h3 h6
     rfl
    ·cases e
   ·cases e
  ·cases e
 ·cases e
def ox0(e:F8 K ZB n=ZA C):OX K C n9:=by
 obtain⟨_,_,_,_,_,_,_,_,_,_,_,_,_,_,_,_,_,hu,hl,hn⟩:=ix e;cases oO hu;exact F2 hl hn
variable{m:Str}
def Kw{D:ZE}(e:F8 K (ZA D) n=ZA C)(d:F8 K ZB m=ZA D):OX K C (.ref D::n9):=by
 obtain⟨_,_,_,_,_,bm,_,_,_,_,_,_,_,_,_,_,_,hu,hl,hn⟩:=ix e;obtain⟨_,_,_,_,_,_,_,_,_,_,_,_,_,_,_,_,_,hu',hl',hn'⟩:=ix d;cases oO hu';unfold under at hu;simp only at hu
 split at hu
 ·rw[NL]at hu
  cases eq_of_beq hu.1;cases oO hu.2;exact CL hl hn hl' hn'
 ·cases hu
def gH{o:Option α}{r:List (Option α)}{l:List α}(e:yS (o::r)=ZA l):∃a l',o=ZA a/\l=a::l'/\yS r=ZA l':=by
 cases o with
 |none=>cases e
 |some a=>
  unfold yS at e
  split at e
  ·rename_i l' h;cases e;exact⟨a,l',rfl,rfl,h⟩
  ·cases e
def Ey{l:List α}(e:yS ([]:List (Option α))=ZA l):l=[]:=by cases e;rfl
theorem rQ:∀{l:List ZE},ur l=ZC->l.Nodup
 |[],_=>.nil
 |a::r,h=>by
  unfold ur at h;rw[NL]at h;refine Oe.mpr ⟨λhm=>?_,rQ h.2⟩
  have:=Ob.mp h.1 a hm
  simp at this
def Jo{es:List Str}(e:MH K (m::es)=ZC):∃D l,F8 K ZB m=ZA D/\yS (es.map (F8 K (ZA D)))=ZA l/\(l++[D]).Nodup:=by
 rw[MH]at e
 split at e
 ·rename_i D hD
  split at e
  ·rename_i l hl;exact⟨D,l,hD,hl,rQ e⟩
  ·cases e
 ·cases e
variable{h:ZH}{mg:V0}{ps:List Str}{x:Str}
section
variable {S:EH}{top:Nat->ZF}
theorem mW{f g:α->β}:∀{l:List α}(j:Nat){a:α},l.map f=l.map g->l[j]?=ZA a->f a=g a
 |[],_,_,_,q=>by cases q
 |b::l,0,a,e,q=>by cases q;exact(List.cons.inj e).1
 |b::l,j+1,a,e,q=>mW (l:=l) j (List.cons.inj e).2 q
def cM(j:Nat)(X:K.In h)(G:h.Ns Ox mg)(e:yd S K=xG S top)(q:S.tab[j]?=ZA (n,i))
  (hb:∀(kV doc pm:NK)(an:Option ZE)(cdv ct:NK)(us:List NK),us.length=ps.length->UX (fnOf n n (gD (top i)) (bD (top i)) (aj (top i)) .none kV doc pm an cdv ct) ⟨us,[]⟩=pure (ps.zip us)):
  ∃f fd,Fn K mg n (top i) ps f fd:=by
 obtain⟨f,fd,h1,h2⟩:=Hz (mW j (congrArg (·.1) e) q)
 exact⟨f,fd,h2,h2.binds hb,mg_of X G h1⟩
def L5(j:Nat){fa:ZE}(X:K.In h)(G:h.Ns Ox mg)(e:yd S K=xG S top)(q:S.tab[j]?=ZA (n,i))(hfa:mg n=ZA (.ref fa))
  (hb:∀(kV doc pm:NK)(an:Option ZE)(cdv ct u:NK),UX (fnOf n n (gD (top i)) (bD (top i)) (aj (top i)) .none kV doc pm an cdv ct) ⟨[u],[]⟩=pure [(x,u)]):
  ∃fd,Fn K mg n (top i) [x] fa fd/\∀(s:NO)(u:NK),R7 s fd ⟨[u],[]⟩ [(x,u)]:=by
 obtain⟨f,fd,h1,h2⟩:=Hz (mW j (congrArg (·.1) e) q)
 have z:=hfa.symm.trans (mg_of X G h1);cases z
 have hh:=h2;obtain⟨oc,od,kV,doc,pm,an,cdv,ct,osl,rfl,lk,hcd⟩:=hh.ex;exact⟨_,⟨h2,.all λus hl=>match us,hl with|[u],_=>hb kV doc pm an cdv ct u,mg_of X G h1⟩,λs u=>.of_eq (hb kV doc pm an cdv ct u)⟩
def gk(j:Nat)(X:K.In h)(G:h.Ns Ox mg)(e:yd S K=xG S top)(q:S.zs[j]?=ZA n):mg n=ZB:=
 mg_none_of X G (pE (Ob.mp (congrArg (·.2.1) e:S.zs.all (LF K Ox)=ZC) n (Qk q)))
def sd(j:Nat){i:Int}(X:K.In h)(G:h.Ns Ox mg)(e:yd S K=xG S top)(q:S.cs[j]?=ZA (n,i)):∃t,mg n=ZA (.int i t):=by
 obtain⟨t,ht⟩:=Jp (mW (f:=λc=>MI K c.1) (g:=λc=>ZA c.2) j (congrArg (·.2.2.1) e) q)
 exact⟨t,mg_of X G ht⟩
def Mc(e:yd S K=xG S top):MH K S.es=ZC:=congrArg (·.2.2.2) e
end
variable{loose:List Str}
def left_of{p:N8}{Xt:NO->Bool}{Yf:NO->α}{Ya:OV->α}{g0:Bool}
  (e:opening p=plainProg p.main.scope.names) (hN:Nat.ble 600 N=ZC) (f:∀s,fenceModules? p s=ZA s)
  (h:∀(w:OV)(os:Ur),(topFrom treeTable p w N ⟨boot_heap w.params,⟨[]⟩,boot_drawn,boot_toks,os⟩).map (λs=>(openSeen q loose (Vb p.main.body) Xt g0 s,Yf s))=ZA (openGood q loose,Ya w)):
  LeftO p q loose Xt Yf Ya N g0:=λw=>by
 obtain⟨⟨h0,gs,d,k,os⟩,e1,e2⟩:=Qx.mp (boot_open e hN f w);simp only[Su]at e2;obtain⟨rfl,rfl,rfl,rfl⟩:=e2;unfold openEnds;rw[e1];exact h w os
structure Cl (P:N8)(w:OV)(K:Frag)(mg:V0)(base:ZH)(k:Nat)(x:Str)(n:Nat)(m:List T->Rs T):Prop where
 ex:∃f fd ps,mg x=ZA (.ref f)/\keepIn K (.ref f)=ZC/\Binds K fd ps []/\ps.length=n/\EF P w K mg base k f fd ps n m
abbrev g9(K:Frag)(mg:V0)(x:Str)(st:ZF)(ps:List Str):Prop:=∃f fd,Fn K mg x st ps f fd
variable{n:Nat}
section
variable {base:ZH}{N:List Str}{F:V4}
def bK(H:g9 K mg x st ps)(S:aA N ps (aj st))(hn:ps.length=n)
  (hbody:∀(f:ZE)(cdv:NK)(A:Oq)(outer:List Env)(s:NO)(H:Hp)(E:XK),Room k (A.deeper (envOfC x (aj st) s.heap.objs.size f cdv)) →
   ∀xe,Bh ((gn CX0 P w K mg base N x (aj st) f cdv A outer s H E).FB xe) (bD st) F):Cl P w K mg base (k+1) x n (val n N.length F):=by
 obtain⟨f,fd,h⟩:=H;exact⟨f,fd,ps,h.mg,h.fn.kp,h.bd,hn,sQ h.fn S hn (hbody f)⟩
end
variable{X:Cx}{es:List ZG}{g:List T->Rs T}
section
variable {e:ZG}{fs:V3}{pos p:Pos}
def a6(c:Cl X.prog X.w X.K X.mg X.base k x n g)(hr:Room k' X.A)(ha:QA X (e::es) fs)(hk:autoParam (k<=k') aqb._auto_1)(hl:∀(Z:En)(ts:List T),fs Z=.ok ts->ts.length=n:=by repeat first|exact xo|refine xn ?_)
  (hn:autoParam (bF (e::es)=ZC) aqd._auto_1) (hg:autoParam (Gl X x) aqd._auto_1) (h2:autoParam ((x == NX "__debug__")=ZD) aqb._auto_1):QE X (.Call (.Name x p) (e::es) [] pos) (cl g fs):=by
 obtain⟨f,fd,ps,h1,h3,h4,h5,h6⟩:=c.ex;exact zq_c h6 (hr.mono hk) h1 h3 h4 hl ha h5 hn hg h2
def vg{i:Int}(h:∃t,X.mg x=ZA (.int i t))(hg:autoParam (Gl X x) aqd._auto_1)(hd:autoParam ((x == NX "__debug__")=ZD) aqb._auto_1):QE X (.Name x pos) (cn (.int i)):=by
 obtain⟨t,h⟩:=h;exact EU h ⟨_,rfl⟩ hg hd
end
def Gd{q:Str}(e:LG K C m q=Mp m q st):∃f fd,xp K C m f/\L2.Fun K m q st f fd:=by
 unfold LG at e
 split at e
 ·rename_i f hf
  split at e
  ·rename_i oc od d sl hl
   cases d;unfold Mp at e;simp only[Sf,Su]at e;obtain⟨h1,h2,h3,h4,h5,h6,h7,h8,h9,h10,h11,h12⟩:=e;subst h1 h2 h3 h4 h5 h6 h7 h8 h9;exact⟨f,_,⟨hf,h12,h11⟩,DM hl h10 h11⟩
  ·cases e
 ·cases e
def Gb{f:Str}(e:Js K C f=ZC):NoAttr K C f:=by
 unfold Js at e
 split at e
 ·assumption
 ·cases e
def Fj(e:Ik K C=ZC):findIn K (.ref C) "__setattr__" =ZA (ZA (.builtin "object.__setattr__")):=by
 unfold Ik at e
 split at e
 ·rename_i b h;rw[h,eq_of_beq e]
 ·cases e
structure rq (K:Frag)(mg:V0)(c:Str):Prop where
 cl:Cls K (bO K c)
 mg:mg c=ZA (.ref (bO K c))
 mks:makesIn K (bO K c)=ZC
 kp:keepIn K (.ref (bO K c))=ZC
abbrev qD(K:Frag)(c m q:Str)(st:ZF)(ps:List Str):Prop:=∃f fd,xp K (bO K c) m f/\L2.Fun K m q st f fd/\Binds K fd ps []
section
variable {top:Nat->ZF}{A:Ha}
def Md(X:K.In h)(G:h.Ns Ox mg)(e:obK K A=exK top A):rq K mg A.c/\(∀f∈A.as,NoAttr K (bO K A.c) f)/\A.ms.map (λ(m:Str×Str×Nat)=>LG K (bO K A.c) m.1 m.2.1)=A.ms.map (λ(m:Str×Str×Nat)=>Mp m.1 m.2.1 (dm (top A.i) m.2.2)):=by
 unfold obK at e
 split at e
 ·rename_i C hC
  unfold exK at e;simp only[Sf,Su]at e;obtain⟨e1,e2⟩:=e
  have hc:bO K A.c=C:=by unfold bO;rw[hC]
  unfold HB at e1;simp only[NL]at e1;obtain⟨⟨⟨⟨⟨⟨h1,h2⟩,h3⟩,h4⟩,h5⟩,h6⟩,h7⟩:=e1;rw[hc];exact⟨⟨by rw[hc];exact⟨h1,h2,h3,Fj h4⟩,by rw[hc];exact mg_of X G hC,by rw[hc];exact h5,by rw[hc];exact h6⟩,λf hf=>Gb (Ob.mp h7 f hf),e2⟩
 ·cases e
def jV(j:Nat){q:Str}(e:A.ms.map (λ(m:Str×Str×Nat)=>LG K (bO K A.c) m.1 m.2.1)=A.ms.map (λ(m:Str×Str×Nat)=>Mp m.1 m.2.1 (dm (top A.i) m.2.2)))(z:A.ms[j]?=ZA (m,q,i))
  (hb:∀(kV doc pm:NK)(an:Option ZE)(cdv ct:NK)(us:List NK),us.length=ps.length->UX (fnOf m q (gD (dm (top A.i) i)) (bD (dm (top A.i) i)) (aj (dm (top A.i) i)) .none kV doc pm an cdv ct) ⟨us,[]⟩=pure (ps.zip us)):
  qD K A.c m q (dm (top A.i) i) ps:=by
 obtain⟨f,fd,h1,h2⟩:=Gd (mW j e z);exact⟨f,fd,h1,h2,h2.binds hb⟩
end
def hookC(S:xw)(top:Nat->ZF):Hook:=
 ⟨_,λs=>CT S (DP s.heap),λ_=>BJ S top,λ_ h=>∃K:Frag,K.In h/\CT S K=BJ S top,λ_ s e=>⟨_,DO s.heap,e⟩,λ_ _ _ ⟨K,a,b⟩ k=>⟨K,a.keeps k,b⟩⟩
def walk_c{l:OpenLaw}{XP:(V0)->ZH->Prop}{d:DefRec}{S:xw}{top:Nat->ZF}{CX:Bu}{sp:Frag->Sp}
  (hn:l.most=ZA n) (hn2:n<=sizeLine) (hdf:d.params.defaults=[]) (hr:Room k callerA)
  (F:∀(w:OV)(K:Frag)(mg:V0)(fa:ZE)(h:ZH),K.In h->CT S K=BJ S top->h.Ns Ox mg->mg d.name=ZA (.ref fa) →
   ∃fd:Ot,(∀(s:NO)(u:NK),R7 s fd ⟨[u],[]⟩ [(x,u)])/\∀base:ZH,K.In base->base.Ns Ox mg->FnOk l.prog w K mg base CX k fa fd [x] (sp K))
  (hsp:∀(K:Frag)(H:Hp)(a:ZE)(ns:List Int),ns.length<=n->Ku H->SqL K H a (ns.map V.int)->sp K [.ref a] H (λv _=>v=.bl ZC) λ_ _ _=>False)
  (hCX:∀(H:Hp)(s:NO)(e:NK)(s':NO),CX [] H s (λ_ _ _=>False) e s'->False):
  WalkO q loose XP (hookC S top).says l.row.toRowW d [] (λf vs=>PySem.call f vs):=by
 refine Att.attach_call hn hdf λw s₀ s₁ mg mb fa o pm cd doc a vs ns G Y ho hd hcd hmg hobj hints hlen hg=>?_
 obtain⟨K,KX,e⟩:=Y;obtain⟨fd,hb,hF⟩:=F w K mg fa _ KX e G.T.g hmg;exact Dg KX G.T.g G.T.b G.T.builtins G.T.nolimit hg hobj hints (OB hlen hn2) hr hF hb (λH hO hS=>hsp K H a ns hlen hO hS) λH e s'=>hCX H s₁ e s'
structure Ml (P:N8)(w:OV)(K:Frag)(mg:V0)(base:ZH)(k:Nat)(c m:Str)(g:List T->Rs T):Prop where
 ex:∃f fd ps,xp K (bO K c) m f/\Binds K fd ps []/\ps.length=1/\EF P w K mg base k f fd ps 1 g
structure Mm (P:N8)(w:OV)(K:Frag)(mg:V0)(base:ZH)(k:Nat)(c m:Str)(n:Nat)(g:List Sl->Rs (T×OT)):Prop where
 ex:∃f fd ps,xp K (bO K c) m f/\Binds K fd ps []/\ps.length=n/\EN P w K mg base k f fd ps n 0 g
structure Ce (P:N8)(w:OV)(K:Frag)(mg:V0)(base:ZH)(k:Nat)(x:Str)(n j:Nat)(g:List Sl->Rs (T×OT)):Prop where
 ex:∃f fd ps,mg x=ZA (.ref f)/\keepIn K (.ref f)=ZC/\Binds K fd ps []/\ps.length=n/\EN P w K mg base k f fd ps n j g
structure QX (X:Cx)(e:ZG)(f:En->Rs (T×En)):Prop where
 h:Bi X e f
structure Kz (X:Cx)(e:ZG)(f:En->Rs (Bool×En)):Prop where
 h:Kt X e f
structure MM (X:Cx)(e:ZG)(f:En->Rs (Bool×En)):Prop where
 h:My X e f
structure QM (X:Cx)(j:Nat)(e:ZF)(f:En->Rs Fx):Prop where
 h:G6 X j e f
structure Br (X:Cx)(j:Nat)(e:List ZF)(f:En->Rs Fx):Prop where
 h:Bj X j e f
variable{F:En->Rs Fx}
section
variable {base:ZH}{c q:Str}{N:List Str}
def Hn{F:V4}(H:qD K c m q st ps)(S:aA N ps (aj st))(hn:ps.length=1)
  (hbody:∀(f:ZE)(cdv:NK)(A:Oq)(outer:List Env)(s:NO)(H:Hp)(E:XK),Room k (A.deeper (envOfC q (aj st) s.heap.objs.size f cdv)) →
   ∀xe,Bh ((gn CX0 P w K mg base N q (aj st) f cdv A outer s H E).FB xe) (bD st) F):Ml P w K mg base (k+1) c m (val 1 N.length F):=by
 obtain⟨f,fd,h1,h2,h3⟩:=H;exact⟨f,fd,ps,h1,h3,hn,sQ h2 S hn (hbody f)⟩
def rX(H:qD K c m q st ps)(S:aA N ps (aj st))(hn:ps.length=n)
  (hbody:∀(f:ZE)(cdv:NK)(A:Oq)(outer:List Env)(s:NO)(H:Hp)(E:XK),Room k (A.deeper (envOfC q (aj st) s.heap.objs.size f cdv)) →
   ∀xe,Br ((gn CX0 P w K mg base N q (aj st) f cdv A outer s H E).FB xe) 0 (bD st) F):Mm P w K mg base (k+1) c m n (iJ n 0 N.length F):=by
 obtain⟨f,fd,h1,h2,h3⟩:=H;exact⟨f,fd,ps,h1,h3,hn,DS h2 S hn λcdv A outer s H E hr xe=>(hbody f cdv A outer s H E hr xe).h⟩
def Mw(H:g9 K mg x st ps)(S:aA N ps (aj st))(hn:ps.length=n)
  (hbody:∀(f:ZE)(cdv:NK)(A:Oq)(outer:List Env)(s:NO)(H:Hp)(E:XK),Room k (A.deeper (envOfC x (aj st) s.heap.objs.size f cdv)) →
   ∀xe,Br ((gn CX0 P w K mg base N x (aj st) f cdv A outer s H E).FB xe) j (bD st) F):Ce P w K mg base (k+1) x n j (iJ n j N.length F):=by
 obtain⟨f,fd,h⟩:=H;exact⟨f,fd,ps,h.mg,h.fn.kp,h.bd,hn,DS h.fn S hn λcdv A outer s H E hr xe=>(hbody f cdv A outer s H E hr xe).h⟩
end
variable{s:ZF}
section
variable {a b e c o:ZG}{bV:List ZG}{fa fb fo:V5}{fs:V3}{pos p p2 p3 p4 apos cpos spos:Pos}{y n cn' f:Str}{l:Nat}{ge:List Sl->Rs (T×OT)}{ex ey:En->Rs (T×En)}{tx ty:En->Rs (Bool×En)}
def sM(h:QE X a fa):QX X a (xP fa):=⟨HW h.h⟩
def Bz(C:rq X.K X.mg m)(hn:NoAttr X.K (bO X.K m) f)(ha:QE X a fa)(hb:autoParam (On a f X.env (eval a X.env)=eval a X.env) aqd._auto_1):QE X (.Attribute a f pos) (o1 (yH m f) fa):=⟨Lp C.cl hn ha.h hb⟩
def gw{pl:Sem Bool}(C:rq X.K X.mg n)(M:Ml X.prog X.w X.K X.mg X.base k n m g)(hr:Room k' X.A)(ho:QE X o fo)(hk:autoParam (k<=k') aqb._auto_1)
  (ht:eval (.Call (.Attribute o m apos) [] [] pos) X.env=(do
   let ov <-eval o X.env
   standAt apos.atName
   let (f,first) <-holding [ov] (RS ov m pl)
   Uc pos f first (backTo pos (NW [] X.env)) (R5 pos (QH [] X.env))):=by rfl):QE X (.Call (.Attribute o m apos) [] [] pos) (wB n m g fo ai):=by
 obtain⟨f,fd,ps,h1,h2,h3,h4⟩:=M.ex;exact⟨FL (pl:=pl) C.cl h1 h4 (hr.mono hk) h2 h3 ho.h ht⟩
def HJ(i:Nat)(C:rq X.K X.mg m)(hn:NoAttr X.K (bO X.K m) f)(ha:QE X a fa)(hN:autoParam (X.N[i]?=ZA x) aqd._auto_1)(hv:autoParam (lJ X.env.scope x) aqe._auto_1)(hs:autoParam (bu a=ZC) aqd._auto_1)
  (hb1:autoParam (On (.Name x p2) f X.env (eval (.Name x p2) X.env)=eval (.Name x p2) X.env) aqd._auto_1)
  (hbase:autoParam (On (.Attribute (.Name x p2) f p3) "append" X.env (eval (.Attribute (.Name x p2) f p3) X.env)=eval (.Attribute (.Name x p2) f p3) X.env) aqd._auto_1) (hline:autoParam ((apos.endLine == cpos.line)=ZC) aqd._auto_1)
  (hd:autoParam ((x == ("__debug__" : Str))=ZD) aqb._auto_1) (hcd:autoParam ((x == ("__classdict__" : Str))=ZD) aqb._auto_1):QX X (.Call (.Attribute (.Attribute (.Name x p2) f p3) "append" apos) [a] [] cpos) (Ao i m f fa):=⟨KJ i C.cl hn ha.h hN hv hs hb1 hbase hline hd hcd⟩
def HH(i:Nat)(C:rq X.K X.mg m)(hn:NoAttr X.K (bO X.K m) f)(hN:autoParam (X.N[i]?=ZA x) aqd._auto_1)(hv:autoParam (lJ X.env.scope x) aqe._auto_1)
  (hb1:autoParam (On (.Name x p2) f X.env (eval (.Name x p2) X.env)=eval (.Name x p2) X.env) aqd._auto_1)
  (hbase:autoParam (On (.Attribute (.Name x p2) f p3) "pop" X.env (eval (.Attribute (.Name x p2) f p3) X.env)=eval (.Attribute (.Name x p2) f p3) X.env) aqd._auto_1) (hline:autoParam ((apos.endLine == cpos.line)=ZC) aqd._auto_1)
  (hd:autoParam ((x == ("__debug__" : Str))=ZD) aqb._auto_1) (hcd:autoParam ((x == ("__classdict__" : Str))=ZD) aqb._auto_1):QX X (.Call (.Attribute (.Attribute (.Name x p2) f p3) "pop" apos) [] [] cpos) (An i m f):=⟨KG i C.cl hn hN hv hb1 hbase hline hd hcd⟩
def JB{fs:V3}(h:∀(Z:En)(ts:List T),fs Z=.ok ts->ts.length=l)(Z:En)(ts:List T)(z:fs Z=.ok ts):ts.length+1=l+1:=congrArg (· +1) (h Z ts z)
def ko{pl:Sem Bool}(i:Nat)(C:rq X.K X.mg n)(M:Mm X.prog X.w X.K X.mg X.base k n m (l+1) ge)(hr:Room k' X.A)(ha:QA X (e::es) fs)(hk:autoParam (k<=k') aqb._auto_1)(hl:∀(Z:En)(ts:List T),fs Z=.ok ts->ts.length=l:=by repeat first|exact xo|refine xn ?_)
  (hN:autoParam (X.N[i]?=ZA x) aqd._auto_1) (hv:autoParam (lJ X.env.scope x) aqe._auto_1) (hd:autoParam ((x == ("__debug__" : Str))=ZD) aqb._auto_1) (hcd:autoParam ((x == ("__classdict__" : Str))=ZD) aqb._auto_1)
  (hns:autoParam (bF (e::es)=ZC) aqd._auto_1)
  (ht:eval (.Call (.Attribute (.Name x p2) m apos) (e::es) [] pos) X.env=(do
   let ov <-eval (.Name x p2) X.env
   standAt apos.atName
   let (f,first) <-holding [ov] (RS ov m pl)
   Uc pos f first (backTo pos (NW (e::es) X.env)) (R5 pos (QH [] X.env))):=by rfl):QX X (.Call (.Attribute (.Name x p2) m apos) (e::es) [] pos) (c8 i n m ge fs):=by
 obtain⟨f,fd,ps,h1,h2,h3,h4⟩:=M.ex
 have hn2:bu e=ZC/\bF es=ZC:=O6.mp hns;exact⟨HX (pl:=pl) i C.cl h1 h4 (hr.mono hk) h2 h3 (JB hl) ha.h hN hv hd hcd (bp hn2.1) (eX hn2.2) ht⟩
def Bw{pl:Sem Bool}(i:Nat)(C:rq X.K X.mg n)(M:Mm X.prog X.w X.K X.mg X.base k n m 1 ge)(hr:Room k' X.A)(hk:autoParam (k<=k') aqb._auto_1)
  (hN:autoParam (X.N[i]?=ZA x) aqd._auto_1) (hv:autoParam (lJ X.env.scope x) aqe._auto_1) (hd:autoParam ((x == ("__debug__" : Str))=ZD) aqb._auto_1) (hcd:autoParam ((x == ("__classdict__" : Str))=ZD) aqb._auto_1)
  (ht:eval (.Call (.Attribute (.Name x p2) m apos) [] [] pos) X.env=(do
   let ov <-eval (.Name x p2) X.env
   standAt apos.atName
   let (f,first) <-holding [ov] (RS ov m pl)
   Uc pos f first (backTo pos (NW [] X.env)) (R5 pos (QH [] X.env))):=by rfl):QX X (.Call (.Attribute (.Name x p2) m apos) [] [] pos) (c8 i n m ge ai):=by
 obtain⟨f,fd,ps,h1,h2,h3,h4⟩:=M.ex;exact⟨EY (pl:=pl) i C.cl h1 h4 (hr.mono hk) h2 h3 hN hv hd hcd ht⟩
def HI(i:Nat)(M:Ce X.prog X.w X.K X.mg X.base k y (l+1) 0 ge)(hr:Room k' X.A)(ha:QA X es fs)(hk:autoParam (k<=k') aqb._auto_1)(hl:∀(Z:En)(ts:List T),fs Z=.ok ts->ts.length=l:=by repeat first|exact xo|refine xn ?_)
  (hN:autoParam (X.N[i]?=ZA x) aqd._auto_1) (hv:autoParam (lJ X.env.scope x) aqe._auto_1) (hd:autoParam ((x == ("__debug__" : Str))=ZD) aqb._auto_1) (hcd:autoParam ((x == ("__classdict__" : Str))=ZD) aqb._auto_1)
  (hg:autoParam (Gl X y) aqd._auto_1) (hdb:autoParam ((y == ("__debug__" : Str))=ZD) aqb._auto_1) (hns:autoParam (bF es=ZC) aqd._auto_1):QX X (.Call (.Name y p) (.Name x p2::es) [] pos) (xC i ge fs):=by
 obtain⟨f,fd,ps,h1,h0,h2,h3,h4⟩:=M.ex;exact⟨KI i h4 (hr.mono hk) h1 h0 h2 h3 (JB hl) ha.h hN hv hd hcd hg hdb rfl (eX hns)⟩
def ve{t:V6}(h:QT X a t):Kz X a (EX t):=⟨EW h.h⟩
def ER{r:T->T->Rs T}(ho:OpT X (OG op) r)(ha:QX X a ex)(hb:QE X b fb)(hm:autoParam (P9 op b=ZD) aqd._auto_1):Kz X (.Compare a [op] [b] pos) (HV (EZ r ex fb)):=⟨HU ho ha.h hb.h hm⟩
def EO(ha:Kz X a tx):MM X (.BoolOp .Or [a] pos) tx:=⟨HS ha.h⟩
def Bv(ha:Kz X a tx)(hb:MM X (.BoolOp .Or (b::bV) pos) ty):MM X (.BoolOp .Or (a::b::bV) pos) (sR tx ty):=⟨KD ha.h hb.h⟩
def KA(h:MM X e tx):Kz X e tx:=⟨xt_w h.h⟩
def ET{A C:List ZF}{F G:V4}(hc:Kz X c tx)(ha:Bh X A F)(hb:Bh X C G):QS X (.If c A C pos) (xU tx F G):=⟨IE hc.h ha.h hb.h⟩
def BB:Br X j [] mN:=⟨LQ⟩
def gh(h:QM X j s F):Br X j [s] F:=⟨LP h.h⟩
def lL{ss:List ZF}{G:En->Rs Fx}(h1:QM X j s F)(h2:Br X j ss G):Br X j (s::ss) (nV F G):=⟨Jx h1.h h2.h⟩
def rA(ha:QX X a ex)(hs:autoParam (OR a ZB pos.line X.env=pure ZD) aqd._auto_1):QM X j (.Expr a pos) (xy ex):=⟨m_ex ha.h hs⟩
def oN(ha:QX X a ex):QM X j (.Return (ZA a) pos) (lA ex):=⟨LN ha.h⟩
def Hd{t:V6}{A C:List ZF}{G:En->Rs Fx}(hc:QT X c t)(ha:Br X j A F)(hb:Br X j C G):QM X j (.If c A C pos) (Jy t F G):=⟨m_if hc.h ha.h hb.h⟩
def BE{d:Str}(h:QS X s (xW d)):QM X j s (Gg d):=⟨LU h.h⟩
def HR(i:Nat)(C:rq X.K X.mg m)(hn:NoAttr X.K (bO X.K m) f)(ha:QA X es fs)(hN:autoParam (X.N[i]?=ZA n) aqd._auto_1)(hv:autoParam (lJ X.env.scope n) aqe._auto_1)
  (hd:autoParam ((n == ("__debug__" : Str))=ZD) aqb._auto_1) (hcd:autoParam ((n == ("__classdict__" : Str))=ZD) aqb._auto_1) (hs:autoParam (OR (.List es p4) (ZA (.Attribute (.Name n p2) f p3)) pos.line X.env=pure ZD) aqd._auto_1):
  QM X j (.Assign [.Attribute (.Name n p2) f p3] (.List es p4) pos) (AN i m f fs):=⟨LS i C.cl hn ha.h hN hv hd hcd hs⟩
def HQ{body suite:List ZF}{b0:ZF}{h:Str->Rs T}{ce:Str}{CE:ZE}(i:Nat){np hpos:Pos}(hN:X.N.Nodup)(hm:X.mg ce=ZA (.ref CE))(OE:OX X.K CE bmE)
  (hb:∀pn xe,Br {X with pn:=pn,xe:=xe} j body F) (hs:mF X i (b0::suite) CE h) (hst:autoParam (X.stack=X.env::X.outer) aqd._auto_1) (hfe:autoParam (X.env.frame=ZA X.env.locals) aqd._auto_1) (hcl:∀x c,X.env.cells.lookup x≠ZA c) (hex:autoParam (X.ex=[]) aqd._auto_1)
  (hi:autoParam (X.N[i]?=ZA n) aqd._auto_1) (hloc:autoParam (X.env.scope.names.lookup n=ZA .local) aqd._auto_1) (hg:autoParam (Gl X ce) aqd._auto_1) (hd:autoParam ((ce == ("__debug__" : Str))=ZD) aqb._auto_1):
  QM X j (.Try body [.ExceptHandler (ZA (.Name ce np)) (ZA n) (b0::suite) hpos] [] [] pos) (wI F h):=⟨LM hst hfe hcl hex hN hi hloc hm OE (λpn xe=>(hb pn xe).h) hs hg hd⟩
end
end Tr
namespace Tr
open PySem PySem.Spec PyProof.Rows L2
variable{X:Cx}{c:ZG}{f:V6}{pos:Pos}
section
variable {a:ZG}
def x_if{b:ZG}{x y:En->Rs (T×En)}(hc:rk X c f)(ha:Bi X a x)(hb:Bi X b y):Bi X (.IfExp c a b pos) (E5 f x y):=PE.imp (vW hc ha hb) λσ H Q hh_=>by
 obtain⟨Z,B,M,E,h⟩:=hh_;refine⟨Z,OO B M,E.o,?_⟩
 unfold E5 at h
 cases q:f Z with
 |bad=>rw[q]at h;exact h
 |err c=>rw[q]at h;exact h
 |ok k=>
  rw[q,ay]at h;intro H' s
  have E':Ev X.K B M H' Z σ:=E.same s
  cases k with
  |true=>refine L2.iteT ?_;exact⟨Z,B,M,E',PostX.later (by simpa using h) s⟩
  |false=>refine L2.iteF ?_;exact⟨Z,B,M,E',PostX.later (by simpa using h) s⟩
def KC{b:ZG}{x y:En->Rs (T×En)}(hc:QT X c f)(ha:QX X a x)(hb:QX X b y):QX X (.IfExp c a b pos) (E5 f x y):=⟨x_if hc.h ha.h hb.h⟩
end
def Ag(X:Cx)(B P:Ow)(H:Hp)(r:Rs (T ⊕ OT))(D:nj):Prop:=match r with
 |.ok (.inl t)=>∀v H',SameO P H H'->Rep X.K B H' t v->D.rt v H'
 |.ok (.inr o)=>∀v H' m,SameO P H H'->ORep X.K (BM B m) m H' o v->(∀a,m a->P a\/Nw X.K H a)->D.rt v H'
 |.err c=>XA X kY H c
 |.bad=>False
def tPN(X:Cx)(F:En->Rs (T ⊕ OT)):TS:=λD σ H=>∃Z B M,Ev X.K B M H Z σ/\Ag X B M.u H (F Z) D
abbrev MQ(X:Cx)(s:ZF)(F:En->Rs (T ⊕ OT)):Prop:=PS X s (tPN X F)
abbrev MR(X:Cx)(s:List ZF)(F:En->Rs (T ⊕ OT)):Prop:=PSs X s (tPN X F)
variable{F:En->Rs (T ⊕ OT)}{H:Hp}{O:Ow}{Q:VK}{b0 st:ZF}{body suite:List ZF}{ce:Str}{e:ZG}{es:List ZG}{f:ZE}{h:Str->Rs T}{hpos p spos:Pos}{ps:List Str}{σ:L2.St}
section
variable {ol:V2}{vs:List V}{ts:List T}{B:Ow}{g:List Sl->Rs (T×OT)}{c:Str}
def Ax(M:Mk X.K (bO X.K c) f)(F:EN X.prog X.w X.K X.mg X.base k f fd ps n 0 g)(hr:Room (k+1) X.A)(hb:Binds X.K fd ps [])(hn:ts.length+1=n)(hps:ps.length=n)(I:Inv X ol σ H s)(r:Vals vs us)(rs:Reps X.K O H ts vs)(mt:∀a,O a->Mtb H a){d:Str}
  (hg:g (.ow (.ob c [] [])::ts.map Sl.va)=.err d) (h:XA X kY H d):wpAny (model X.prog X.w) X.A (call (.ref (bO X.K c)) us) (EP X ol σ Q) X.xe s:=by
 have nk:∀q,s.heap.objs.size<=q->X.K.lookup q=ZB:=λq hq=>by
  cases z:X.K.lookup q with
  |none=>rfl
  |some o=>exact absurd (NY (I.kIn _ o z)) (Nat.not_lt.mpr hq)
 generalize hp:s.heap.objs.size+1=p
 have np:Nw X.K H p:=⟨I.hok.fresh (by omega),nk p (by omega)⟩
 generalize hd:s.heap.objs.size=dx at hp
 have nd:Nw X.K H dx:=⟨I.hok.fresh (by omega),nk dx (by omega)⟩
 have ne:dx≠p:=by omega
 have sm0:Same H (upd (upd H dx (.own p)) p (.ins (bO X.K c) dx [])):=λb o e=>by
  rw[aB (λz=>by rw[z,np.1]at e;cases e),aB (λz=>by rw[z,nd.1]at e;cases e)];exact e
 have hm:∀a,(λa=>a=p\/a=dx:Ow) a->Nw X.K H a:=λa z=>z.elim (λy=>y▸np) λy=>y▸nd
 have subO:∀a,OO O (one 0 λa=>a=p\/a=dx) a->O a\/Nw X.K H a:=λa z=>(one_oo.mp z).imp_right (hm a)
 have hlen:=rs.length
 have Ea:Ev X.K O (one 0 λa=>a=p\/a=dx) (upd (upd H dx (.own p)) p (.ins (bO X.K c) dx [])) (.ow (.ob c [] [])::ts.map Sl.va) ((V.ref p::vs).map ZA):=by
  refine⟨⟨by simp[hlen],λi t e=>?_,λi o' e=>?_,λi a z=>.inr ⟨i,z⟩,λi k a z1 z2=>?_,λa z=>?_⟩,λa z y=>?_⟩
  ·obtain⟨w,e1,e2⟩:=qf (v0:=V.ref p) rs e
   exact⟨w,by rw[Oc,e1];rfl,(e2.more subO).same sm0⟩
  ·have hi:=qg e
   subst hi;cases e;refine⟨.ref p,rfl,p,dx,[],rfl,λb=>?_,⟨by simp,by simp,ne,by simp⟩,aG,?_,rfl,by simp,rfl⟩
   ·rw[show one 0 (λa=>a=p\/a=dx) 0=_ from Mn.MY];simp
   ·rw[aB ne];exact aG
  ·unfold one Mn.set at z1 z2
   by_cases h1:i=0
   ·by_cases h2:k=0
    ·rw[h1,h2]
    ·rw[if_neg h2]at z2;exact z2.elim
   ·rw[if_neg h1]at z1;exact z1.elim
  ·rcases one_oo.mp z with y|y|y
   ·exact(mt a y).same sm0
   ·rw[y];exact .inr (.inr ⟨_,aG,rfl⟩)
   ·rw[y];exact .inr (.inr ⟨_,by rw[aB ne];exact aG,rfl⟩)
  ·obtain⟨o,e⟩:=(mt a y).some
   rw[(hm a (one_u.mp z)).1]at e;cases e
 have I2:=Inv.made (C:=bO X.K c) I;rw[hd,hp]at I2
 have r2:Vals (V.ref p::(vs++[])) (N1 p::(us++[])):=.cons rfl (r.append .nil)
 have hl:(N1 p::us++[]).length=ps.length:=by rw[Oi,NS,<-r.length,<-hlen,hps,hn]
 refine Rp (wH (f:=f) I.kIn M.makes M.init (beq_iff_eq.mp M.fn) ?_)
 rw[hd,hp]
 have hb2:=hb _ (N1 p::us) I2.kIn hl;rw[SD]at hb2
 have Ea':Ev X.K O (one 0 λa=>a=p\/a=dx) (upd (upd H dx (.own p)) p (.ins (bO X.K c) dx [])) (.ow (.ob c [] [])::ts.map Sl.va) ((V.ref p::(vs++[])).map ZA):=by rw[Oi];exact Ea
 refine Qa (F.x _ X.stack _ _ ⟨N1 p::us,[]⟩ (N1 p::(us++[])) _ O _ _ d (λr s'=>match r with|.error ev=>X.xe ev s'|_=>False) (hr.make (bO X.K c) us []) (I2.Na.make (bO X.K c) us []) hb2 r2 Ea' (by simp[hn]) hg λev s' w=>?_) λr s' hq'=>?_
 ·obtain⟨ea,T,C,H',rfl,hmc,ho,hbare,hun,hok,sm2,hea,heo,fl,hT,hTo⟩:=w
  have I3:Inv X ol σ H' s':=I2.M6 ho hun hok hbare (λb z=>absurd z (by simp))
  exact h ol _ _ ⟨ea,ZA T,C,σ,H',rfl,hmc,I3,λb o q _=>sm2 b o (sm0 _ _ q),hea,λhex=>eG I2 hex heo,fl,(λt zt=>by cases zt;exact⟨hT,λhex=>eG I2 hex hTo⟩),λpp hpp=>⟨λzz=>(by have:=(I2.pin pp hpp).1;rw[zz,heo]at this;cases this),λzz=>(by cases zz;have:=(I2.pin pp hpp).1;rw[hTo]at this;cases this)⟩⟩
 ·cases r with
  |error e=>exact hq'
  |ok fl=>exact hq'.elim
def Jv{fs:V3}(M:Mk X.K (bO X.K c) f)(F:EN X.prog X.w X.K X.mg X.base k f fd ps n 0 g)(hr:Room (k+1) X.A)(hm:X.mg c=ZA (.ref (bO X.K c)))(hb:Binds X.K fd ps [])(hps:ps.length=n)
  (hl:∀Z ts,fs Z=.ok ts->ts.length+1=n) (ha:qB X (e::es) fs) (hg:autoParam (Gl X c) aqd._auto_1) (hdb:autoParam ((c == ("__debug__" : Str))=ZD) aqb._auto_1) (he:autoParam (NW (e::es) X.env=(ZD,eval e X.env)::NW es X.env) aqd._auto_1) (hpl:autoParam ((backTo pos (NW es X.env)).any (·.1)=ZD) aqd._auto_1):
  MQ X (.Return (ZA (.Call (.Name c p) (e::es) [] pos)) spos) (k8 c g fs):=by
 let te:TE:=λσ H Q=>∃Z B M',Ev X.K B M' H Z σ/\Ag X B M'.u H (k8 c g fs Z) {nx:=λ_ _=>False,rt:=Q}
 have pe:PE X (.Call (.Name c p) (e::es) [] pos) te:=by
  intro ol s σ H Q I ⟨Z,B,M',E,h⟩;unfold k8 at h;refine Oz (fR I hg hm ?_ hdb)
  refine PK (h₀:=X.base) I.ok.mod.kin M.kp (bU (ha pos ol s σ H (λvs H2=>∃ts,fs Z=.ok ts/\Same H H2/\Reps X.K (OO B M') H2 ts vs) I ⟨Z,OO B M',E.o,?_⟩) λus s1 ⟨vs,H1,I1,r,ts,q1,sm,rs⟩=>⟨I1.kIn,?_⟩) he hpl
  ·cases z:fs Z with
   |bad=>rw[z]at h;exact h.elim
   |err c=>rw[z]at h;exact h
   |ok ts=>exact λH' s' vs rs=>⟨ts,rfl,s',rs⟩
  ·rw[q1,ay]at h
   cases z:g (.ow (.ob c [] [])::ts.map Sl.va)with
   |bad=>rw[z]at h;exact h.elim
   |err d=>rw[z]at h;exact Ax M F hr hb (hl Z ts q1) hps I1 r rs (E.same sm).env.trk z (XA.later h (SameO.of sm) λ_ z=>z.elim)
   |ok q=>
    rw[z,ay]at h;obtain⟨t,o⟩:=q
    cases t with
    |non=>
     have h':∀v H' m,SameO M'.u H H'->ORep X.K (BM B m) m H' o v->(∀a,m a->M'.u a\/Nw X.K H a)->Q v H':=h;refine Ay M F hr hb (hl Z ts q1) hps I1 r rs (E.same sm).env.trk z λq H' m s' ro hm'=>h' _ H' m (SameO.of (sm.trans s')) ?_ λa w=>.inr (fO sm (hm' a w))
     exact ro.move (P:=kY) (λ_ z=>z.elim) (λa z=>.inl (z.imp_left .inl)) (λb u q _=>q) λ_ _ z=>z
    |_=>exact h.elim
 exact PS.imp (iu pe) λD σ H ⟨Z,B,M',E,h⟩=>⟨Z,B,M',E,by
  cases z:k8 c g fs Z with
  |bad=>rw[z]at h;exact h
  |err c=>rw[z]at h;exact h
  |ok q=>rw[z]at h;cases q <;> exact h⟩
def LJ(h:MQ X st F):MR X [st] F:=ff h
def LI{n:Str}{CE:ZE}{np:Pos}(hst:X.stack=X.env::X.outer)(hfe:X.env.frame=ZA X.env.locals)(hcl:∀x c,X.env.cells.lookup x≠ZA c)(hex:X.ex=[])
  (hN:X.N.Nodup) (hi:X.N[i]?=ZA n) (hloc:X.env.scope.names.lookup n=ZA .local) (hm:X.mg ce=ZA (.ref CE)) (OE:OX X.K CE bmE)
  (hb:∀pn xe,MR {X with pn:=pn,xe:=xe} body F) (hs:mF X i (b0::suite) CE h) (hg:autoParam (Gl X ce) aqd._auto_1) (hd:autoParam ((ce == ("__debug__" : Str))=ZD) aqb._auto_1):
  MQ X (.Try body [.ExceptHandler (ZA (.Name ce np)) (ZA n) (b0::suite) hpos] [] [] pos) (wA F h):=by
 intro ol s σ H D I ⟨Z,B,M,E,hq⟩;refine UV ?_
 unfold wA at hq
 cases q:F Z with
 |bad=>rw[q]at hq;exact hq.elim
 |ok fl=>
  rw[q]at hq;refine Pr (hb X.pn (λ_ _=>False) ol s σ H D (I.FB _) ⟨Z,B,M,E,by rw[q];cases fl <;> exact hq⟩) (λf s1 r=>?_) (λe s1 z=>z.elim)
  cases f with
  |next=>obtain⟨σ7,H7,I7,q7⟩:=r;exact QC ⟨σ7,H7,I7.FB _,q7⟩
  |ret u=>obtain⟨x7,σ7,H7,I7,r7,q7⟩:=r;exact⟨x7,σ7,H7,I7.FB _,r7,q7⟩
  |brk=>obtain⟨σ7,H7,I7,q7⟩:=r;exact⟨σ7,H7,I7.FB _,q7⟩
  |cont=>obtain⟨σ7,H7,I7,q7⟩:=r;exact⟨σ7,H7,I7.FB _,q7⟩
 |err c=>
  rw[q]at hq
  cases q2:h c with
  |bad=>simp only[q2]at hq;exact hq.elim
  |err c'=>simp only[q2]at hq;exact hq.elim
  |ok t=>
   simp only[q2]at hq
   have hq':∀v H',Same H H'->Rep X.K B H' t v->D.rt v H':=λv H' s' r=>hq v H' (SameO.of s') r
   refine Pr (hb (X.pn++ol) _ [] s σ H {nx:=λ_ _=>False,rt:=λ_ _=>False,bk:=λ_ _=>False,ct:=λ_ _=>False} ((Tr.Inv.Nm ol I).FB _) ⟨Z,B,M,E,?_⟩) (λfl s' z=>?_) λ_ _ z=>z
   rotate_left
   ·cases fl with
    |next=>obtain⟨_,_,_,z⟩:=z;exact z.elim
    |cont=>obtain⟨_,_,_,z⟩:=z;exact z.elim
    |brk=>obtain⟨_,_,_,z⟩:=z;exact z.elim
    |ret v=>obtain⟨_,_,_,_,_,z⟩:=z;exact z.elim
   rw[q];intro pins1 ev s1 w;obtain⟨e,T,C,σ1,H1,rfl,hmc,I1,smn,he,heo,fl,hT,hpp⟩:=w
   have sm:Same H H1:=λb o z=>smn b o z λy=>y
   have I1:Inv X ol σ1 H1 s1:=Tr.Inv.Nl (X:=X) I1
   have hpp:∀p∈X.pn++ol,p.1≠e/\T≠ZA p.1:=λp hp=>hpp p (Ol _ hp)
   have heo:=heo hex
   have hT:∀t,T=ZA t->H1 t=ZB/\X.s₀.heap.get? t=ZB:=λt z=>⟨(hT t z).1,(hT t z).2 hex⟩
   show wpAny _ _ _ _ _ _
   have hfr:X.A.frames=ZA (X.env::X.outer):=by rw[<-hst];exact I1.ok.frames
   have hstk:s1.heap.FunFrames X.base (X.env::X.outer):=by rw[<-hst];exact I1.stack
   refine Hl hfr hstk hfe fl λh' T' g=>?_
   have I2:=Inv.gone I1 hst hfe hcl hex g he heo hT hpp
   have Tn:H1 T'=ZB/\X.s₀.heap.get? T'=ZB/\∀p∈X.pn++ol,p.1≠T':=by
    rcases g.new with z|z
    ·exact⟨(hT T' z).1,(hT T' z).2,λp hp y=>(hpp p hp).2 (by rw[z,y])⟩
    ·exact⟨jL I1 z,eG I1 hex z,λp hp y=>by have:=(I1.pin p hp).1;rw[y,z]at this;cases this⟩
   obtain⟨bm,OC,hin,run⟩:=hs c C t hmc q2;obtain⟨hTe,oe,ev,hoe,hoc,hod,h1,oT,ts,hoT,hdT,h3⟩:=g.flt
   have nfr:∀b o vs,h'.get? b=ZA o->o.data=.fields vs->b∉(X.env::X.outer).filterMap (·.frame):=λb o vs hb hd z=>by
    have:=I2.stack;rw[hst]at this;obtain⟨_,o',ho',hnf⟩:=this.mem z;rw[show h'.get? b=ZA o' from ho']at hb
    cases hb;exact hnf vs hd
   have hel:e≠X.env.locals:=λz=>nfr e oe ev hoe hod (by rw[O8,hfe];exact z▸NN)
   have hef:e∉X.fs:=λz=>nfr e oe ev hoe hod (by rw[O8,hfe];exact NJ _ z)
   have hcell:∀v,oe.data≠ .cell v:=λv z=>by rw[hod]at z;cases z
   have I3:Inv (uW X e oe) ol σ1 H1 {s1 with heap:=h'}:=oy I2 hoe he hel hef hcell
   refine TF (S6 (fR (X:=uW X e oe) I3 hg hm ?_ hd)) (by intro z;cases z)
   obtain⟨nm,qq,N,bs,hdct,sn,sub,ab,col,dd,k0,k1,k2,k3,k5,mN,hC,_⟩:=OC.at_ h' I3.kIn;obtain⟨nm',qq',N',bs',hdct',sn',sub',ab',col',dd',k0',k1',k2',k3',k5',mN',hD,_,_,TD⟩:=OE.at_ h' I3.kIn;refine rY hC hD hoe hoc (TD.tail.hasType (by decide)) hin (R9 ?_)
   refine Tf hoe hod h1 hoT hdT (OY.mp h3).1 ?_
   generalize hU:h'.update T' (RL (·.setIfInBounds 3 Ov))=h2
   have kp:∀b,b≠T'->h2.get? b=h'.get? b:=λb hb=>by rw[<-hU];exact Qw _ _ (OZ hb)
   have hT2:h2.get? T'=ZA (RL (·.setIfInBounds 3 Ov) oT):=by rw[<-hU];exact Ry _ hoT (RA (P6 hdT _))
   have hoe2:h2.get? e=ZA oe:=(kp e (OZ hTe)).trans hoe
   have g2:EE ((X.env::X.outer).filterMap (·.frame)) C e (ZA T') h' h2 T':=⟨⟨hTe,oe,ev,hoe2,hoc,hod,h1,_,_,hT2,P6 hdT _,by simp[(OY.mp h3).1]⟩,.inl rfl,λb o _ _ n3 q=>(kp b λz=>n3 (by rw[z])).trans q,λb o m q=>⟨o.slots,(kp b λz=>nfr T' oT ts hoT hdT (z▸m)).trans q⟩⟩
   have I4:Inv X ol σ1 H1 {s1 with heap:=h2}:=Inv.gone (s:={s1 with heap:=h'}) I2 hst hfe hcl hex g2 he heo (λt z=>by cases z;exact⟨Tn.1,Tn.2.1⟩) λp hp=>⟨(hpp p hp).1,λz=>Tn.2.2 p hp (Ou z).symm⟩
   have I5:Inv (uW X e oe) ol σ1 H1 {s1 with heap:=h2}:=oy I4 hoe2 he hel hef hcell
   refine lN (X:=uW X e oe) (v:=.ref e) I5 hN hi (.inl hloc) rfl (λs3 I6=>?_) (.inr hloc)
   have hil:i<σ1.length:=by
    rw[I1.len];exact(NU.mp hi).1
   refine Pr (run e oe ev hoc hod ol s3 _ H1 B (λv H'=>Same H1 H'/\Rep X.K B H' t v) I6 he (λz=>?_) (by simp[hil]) (λp hp z=>?_) λv H' s' r=>⟨s',r⟩) (λf s4 r=>?_) λ_ _ z=>z.elim
   ·rw[hst]at z
    exact nfr e oe ev hoe hod z
   ·obtain⟨o,ho⟩:=(E.env.trk p (.inl z)).some
    have:=sm p o ho;rw[hp]at this;cases this
   ·cases f with
    |next=>obtain⟨_,_,_,z⟩:=r;exact z.elim
    |brk=>obtain⟨_,_,_,z⟩:=r;exact z.elim
    |cont=>obtain⟨_,_,_,z⟩:=r;exact z.elim
    |ret u=>
     obtain⟨v,σ',H',I7,rv,s',rt⟩:=r;obtain⟨m,hn,_⟩:=I7.loc;refine wpAny_nameGoes (show X.env.kindOf n=ZA .local from hloc) hn (by rw[I.ok.kind];rfl) λh8 m8 hn8 hs8=>?_
     exact⟨v,_,H',Inv.forget (zQ I.ok I7) hcl hn8 hs8,rv,hq' v H' (λb o y=>s' b o (sm b o y)) rt⟩
end
def spS(K:NI)(n:Nat)(g:List T->Rs (T ⊕ OT)):Sp:=λvs H Q _=>∃ts O,Reps K O H ts vs/\(∀a,O a->Mtb H a)/\ts.length=n ∧
 match g ts with
 |.ok (.inl t)=>∀v H',Same H H'->Rep K O H' t v->Q v H'
 |.ok (.inr o)=>∀v H' m,Same H H'->ORep K (BM O m) m H' o v->(∀a,m a->Nw K H a)->Q v H'
 |_=>False
def FnXS(P:N8)(w:OV)(K:NI)(mg:V0)(base:ZH)(k:Nat)(f:ZE)(fd:Ot)(ps:List Str)(n:Nat)(g:List T->Rs (T ⊕ OT)):Prop:=
 ∀(A:Oq)(outer:List Env)(s:NO)(H:Hp)(args:Args)(us:List NK)(vs:List V)(O:Ow)(ts:List T)(c:Str)(R:Th->NO->Prop),Room k A->Env0 P w K mg base A outer s H->R7 s fd args (ps.zip us)->Vals vs us →
  Reps K O H ts vs->(∀a,O a->Mtb H a)->ts.length=n->g ts=.err c->(∀ev s',ML P w mg outer H s c ev s'->R (.error ev) s')->codeAny (model P w) A (.call (.ref f) args) R s
structure FnS (P:N8)(w:OV)(K:NI)(mg:V0)(base:ZH)(k:Nat)(f:ZE)(fd:Ot)(ps:List Str)(n:Nat)(g:List T->Rs (T ⊕ OT)):Prop where
 h:FnOk P w K mg base CX0 k f fd ps (spS K n g)
 x:FnXS P w K mg base k f fd ps n g
variable{N:List Str}{g:List T->Rs (T ⊕ OT)}{mg:V0}{x:Str}
section
variable {base:ZH}
def FnS.plain(F:FnS P w K mg base k f fd ps n g):EF P w K mg base k f fd ps n (iw g):=by
 refine⟨F.h.imp λvs H Q E ⟨ts,O,h1,h2,h3,h4⟩=>⟨ts,O,h1,h2,h3,?_⟩,λA outer s H args us vs O ts c R hr e0 hb r rs mt hl hg hR=>F.x A outer s H args us vs O ts c R hr e0 hb r rs mt hl ?_ hR⟩
 ·unfold iw at h4
  cases z:g ts with
  |bad=>rw[z]at h4;exact h4
  |err c=>rw[z]at h4;exact h4
  |ok q=>rw[z]at h4;cases q <;> first|exact h4|exact h4.elim
 ·unfold iw at hg
  cases z:g ts with
  |bad=>rw[z]at hg;cases hg
  |err c'=>rw[z]at hg;cases hg;rfl
  |ok q=>rw[z]at hg;cases q <;> cases hg
def J0{qual:Str}(Fn:L2.Fun K x qual st f fd)(S:aA N ps (aj st))(hn:ps.length=n)
  (hbody:∀(cdv:NK)(A:Oq)(outer:List Env)(s:NO)(H:Hp)(E:XK),Room k (A.deeper (envOfC qual (aj st) s.heap.objs.size f cdv)) →
   ∀xe,MR ((gn CX0 P w K mg base N qual (aj st) f cdv A outer s H E).FB xe) (bD st) F):FnS P w K mg base (k+1) f fd ps n (xF n N.length F):=by
 have hpl:ps.length<=N.length:=by have:=congrArg O0 S.pre;rw[OS]at this;omega
 have no:∀a,¬noM.u a:=λa ⟨_,z⟩=>z
 refine⟨Fn.ok S (λvs H Q E h=>?_) (λcdv A outer s H vs Q E hr h=>?_),λA outer s H args us vs O ts c R hr e0 hb r rs mt hl hg hR=>?_⟩
 ·obtain⟨ts,O,r,_,hl,_⟩:=h
  rw[<-r.length,hl,hn]
 ·obtain⟨ts,O,r,trk,hl,h⟩:=h
  refine⟨_,hbody cdv A outer s H E hr _,aQ N.length ts,O,noM,kr r (by omega) trk,?_⟩
  unfold xF at h;rw[if_pos hl]at h
  cases q:F (aQ N.length ts)with
  |bad=>rw[q]at h;exact h.elim
  |err c=>rw[q]at h;exact h.elim
  |ok z=>
   rw[q]at h
   cases z with
   |inl t=>exact λv H' s' r'=>h v H' (λb o e=>s' b o e (no b)) r'
   |inr o=>exact λv H' m s' ro hm=>h v H' m (λb o e=>s' b o e (no b)) ro λa z=>(hm a z).elim (λw=>(no a w).elim) id
 ·refine zS Fn S hr e0 hb r (by rw[<-rs.length,hl,hn]) hR λcdv hr' xe=>⟨_,hbody cdv A outer s H E0 hr' xe,λxa=>⟨aQ N.length ts,O,noM,kr rs (by omega) mt,?_⟩⟩
  unfold xF at hg;rw[if_pos hl]at hg;rw[hg];exact xa
end
variable{p3:Pos}
section
variable {fs:V3}{n0:Str}
def Ck(i:Nat)(F:FnS X.prog X.w X.K X.mg X.base k f fd ps n g)(hr:Room k X.A)(hm:X.mg x=ZA (.ref f))(hk:PF X.K (.ref f)=ZC)(hb:Binds X.K fd ps [])(hps:ps.length=n)(hl:∀Z ts,fs Z=.ok ts->ts.length=n)(hN:X.N.Nodup)(ha:qB X (e::es) fs)
  (hi:autoParam (X.N[i]?=ZA n0) aqd._auto_1) (hx:autoParam (Loc X.env.scope n0) aqh._auto_1) (hs:autoParam (OR (.Call (.Name x p) (e::es) [] pos) (ZA (.Name n0 p3)) spos.line X.env=pure ZD) aqd._auto_1) (hf:autoParam (X.fn n0=ZC\/X.env.scope.names.lookup n0=ZA .local) aqa._auto_1)
  (hg:autoParam (Gl X x) aqd._auto_1) (hdb:autoParam ((x == ("__debug__" : Str))=ZD) aqb._auto_1) (he:autoParam (NW (e::es) X.env=(ZD,eval e X.env)::NW es X.env) aqd._auto_1) (hpl:autoParam ((backTo pos (NW es X.env)).any (·.1)=ZD) aqd._auto_1):
  oH X (.Assign [.Name n0 p3] (.Call (.Name x p) (e::es) [] pos) spos) (jJ i g fs):=by
 let te:TE:=λσ H Q=>∃Z B M,Ev X.K B M H Z σ/\Ag X (OO B M) kY H (fs Z >>= g) {nx:=λ_ _=>False,rt:=Q}
 have pe:PE X (.Call (.Name x p) (e::es) [] pos) te:=by
  intro ol s σ H Q I ⟨Z,B,M,E,h⟩;refine Oz (fR I hg hm ?_ hdb)
  refine PK (h₀:=X.base) I.ok.mod.kin hk (bU (ha pos ol s σ H (λvs H2=>∃ts,fs Z=.ok ts/\Same H H2/\Reps X.K (OO B M) H2 ts vs) I ⟨Z,OO B M,E.o,?_⟩) λus s1 ⟨vs,H1,I1,r,ts,q1,sm,rs⟩=>⟨I1.kIn,?_⟩) he hpl
  ·cases z:fs Z with
   |bad=>rw[z]at h;exact h.elim
   |err c=>rw[z]at h;exact h
   |ok ts=>exact λH' s' vs rs=>⟨ts,rfl,s',rs⟩
  ·rw[q1,ay]at h
   have mt:=(E.same sm).env.trk
   cases z:g ts with
   |bad=>rw[z]at h;exact h.elim
   |err c=>
    rw[z]at h
    have hlen:us.length=ps.length:=by rw[<-r.length,<-rs.length,hl Z ts q1,hps]
    have hb':=hb s1 us I1.kIn (by rw[Oi];exact hlen)
    rw[Oi]at hb';refine Rp (Qa (F.x X.A X.stack s1 H1 ⟨us,[]⟩ us vs (OO B M) ts c (λr s'=>match r with|.error ev=>X.xe ev s'|_=>False) hr I1.Na hb' r rs mt (hl Z ts q1) z λev s' w=>?_) λr s' hq=>?_)
    ·obtain⟨ea,T,C,H',rfl,hmc,ho,hbare,hun,hok,sm2,hea,heo,fl,hT,hTo⟩:=w
     have I2:Inv X ol σ H' s':=I1.M6 ho hun hok hbare (λb z=>absurd z (by simp))
     exact h ol _ _ ⟨ea,ZA T,C,σ,H',rfl,hmc,I2,λb o q _=>sm2 b o (sm b o q),hea,λhex=>eG I1 hex heo,fl,(λt zt=>by cases zt;exact⟨hT,λhex=>eG I1 hex hTo⟩),λpp hpp=>⟨λzz=>(by have:=(I1.pin pp hpp).1;rw[zz,heo]at this;cases this),λzz=>(by cases zz;have:=(I1.pin pp hpp).1;rw[hTo]at this;cases this)⟩⟩
    ·cases r with
     |error ev=>exact hq
     |ok fl=>exact hq.elim
   |ok q=>
    rw[z]at h;refine tI (E:=E0) (dvs:=[]) (ds:=[]) F.h hr hb .nil vZ I1 r ⟨ts,OO B M,by simpa using rs,mt,hl Z ts q1,?_⟩
    rw[z]
    cases q with
    |inl t=>exact λv H' s' r'=>h v H' (SameO.of (sm.trans s')) r'
    |inr o=>exact λv H' m s' ro hm'=>h v H' m (SameO.of (sm.trans s')) ro λa w=>.inr (fO sm (hm' a w))
 refine PS.imp (mL hN hi hx pe hs hf) λD σ H ⟨Z,B,M,E,h⟩=>⟨Z,B,M,E,?_⟩
 unfold jJ at h
 cases z:fs Z with
 |bad=>rw[z]at h;exact h
 |err c=>rw[z]at h;exact PostF.xa h
 |ok ts=>
  rw[z,ay]at h
  show Ag X (OO B M) kY H (g ts) _
  cases z2:g ts with
  |bad=>rw[z2]at h;exact h
  |err c=>rw[z2]at h;exact PostF.xa h
  |ok q=>
   rw[z2,ay]at h
   by_cases hl:i<Z.length
   ·rw[if_pos hl]at h
    cases q with
    |inl t=>
     intro v H' s' r
     have s':Same H H':=λb o e=>s' b o e λz=>z
     exact h _ H' M (SameO.of s') ⟨(E.env.same s').set hl r,E.mine⟩ λa z=>.inl z
    |inr o=>
     intro v H' m s' ro hm'
     have s':Same H H':=λb o e=>s' b o e λz=>z
     obtain⟨E2,sub⟩:=E.new (m:=m) (o:=o) (v:=v) hl (λa w=>(hm' a w).elim (λy=>y.elim) id) s' (ro.move (P:=kY) (λ_ z=>z.elim) (λa z=>.inl (z.elim (λw=>.inl (.inl w)) λw=>(Mn.KF w).elim .inr λy=>.inl (.inr y))) (λb u q _=>q) λ_ _ z=>z)
     exact h _ _ _ (SameO.of s') E2 sub
   ·rw[if_neg hl]at h;exact h.elim
end
variable{f:V6}
def LR{A bV:List ZF}{F G:En->Rs Fx}(hc:rk X c f)(ha:Bj X j A F)(hr:Bj X j bV G):Bj X j (.If c A [] pos::bV) (pO f F G):=PSs.imp (iP (vS hc ha oh) hr) λD σ H hh_=>by
 obtain⟨Z,B,M,E,h⟩:=hh_;refine⟨Z,OO B M,E.o,?_⟩
 unfold pO at h
 cases q:f Z with
 |bad=>rw[q]at h;exact h.elim
 |err c=>rw[q]at h;exact h
 |ok k=>
  rw[q,ay]at h;intro H' s
  have E':Ev X.K B M H' Z σ:=E.same s
  cases k with
  |true=>
   refine L2.iteT ⟨Z,B,M,E',?_⟩
   replace h:PostM X B M.u j σ H (MJ (F Z)) D:=by simpa using h
   have h:=PostM.same h s
   cases z:F Z with
   |bad=>rw[z]at h;exact h
   |err c=>rw[z]at h;exact h
   |ok fl=>
    rw[z]at h
    cases fl with
    |nx Z'=>exact h.elim
    |rt t Z'=>exact h
  |false=>
   refine L2.iteF ?_
   exact⟨Z,B,M,E',PostM.same (by simpa using h) s⟩
def BD{A bV:List ZF}{F G:En->Rs Fx}(hc:QT X c f)(ha:Br X j A F)(hr:Br X j bV G):Br X j (.If c A [] pos::bV) (pO f F G):=⟨LR hc.h ha.h hr.h⟩
structure QN (X:Cx)(e:ZF)(f:En->Rs (T ⊕ OT)):Prop where
 h:MQ X e f
structure QNs (X:Cx)(e:List ZF)(f:En->Rs (T ⊕ OT)):Prop where
 h:MR X e f
structure Cs_ (P:N8)(w:OV)(K:NI)(mg:V0)(base:ZH)(k:Nat)(x:Str)(n:Nat)(g:List T->Rs (T ⊕ OT)):Prop where
 ex:∃f fd ps,mg x=ZA (.ref f)/\PF K (.ref f)=ZC/\Binds K fd ps []/\ps.length=n/\FnS P w K mg base k f fd ps n g
def Cs_.cl{base:ZH}(c:Cs_ P w K mg base k x n g):Cl P w K mg base k x n (iw g):=by
 obtain⟨f,fd,ps,h1,h2,h3,h4,h5⟩:=c.ex;exact⟨f,fd,ps,h1,h2,h3,h4,h5.plain⟩
def Mv{base:ZH}(H:g9 K mg x st ps)(S:aA N ps (aj st))(hn:ps.length=n)
  (hbody:∀(f:ZE)(cdv:NK)(A:Oq)(outer:List Env)(s:NO)(H:Hp)(E:XK),Room k (A.deeper (envOfC x (aj st) s.heap.objs.size f cdv)) →
   ∀xe,QNs ((gn CX0 P w K mg base N x (aj st) f cdv A outer s H E).FB xe) (bD st) F):Cs_ P w K mg base (k+1) x n (xF n N.length F):=by
 obtain⟨f,fd,h⟩:=H;exact⟨f,fd,ps,h.mg,h.fn.kp,h.bd,hn,J0 h.fn S hn λcdv A outer s H E hr xe=>(hbody f cdv A outer s H E hr xe).h⟩
section
variable {fs:V3}{n m:Str}{l:Nat}{ge:List Sl->Rs (T×OT)}
def BA{s:ZF}(h:QN X s F):QNs X [s] F:=⟨LJ h.h⟩
def EV(C:rq X.K X.mg m)(M:Mm X.prog X.w X.K X.mg X.base k m "__init__" (l+1) ge)(hr:Room k' X.A)(ha:QA X (e::es) fs)(hk:autoParam (k+1<=k') aqb._auto_1)(hl:∀(Z:En)(ts:List T),fs Z=.ok ts->ts.length=l:=by repeat first|exact xo|refine xn ?_)
  (hg:autoParam (Gl X m) aqd._auto_1) (hdb:autoParam ((m == ("__debug__" : Str))=ZD) aqb._auto_1) (hns:autoParam (bF (e::es)=ZC) aqd._auto_1):QN X (.Return (ZA (.Call (.Name m p) (e::es) [] pos)) spos) (k8 m ge fs):=by
 obtain⟨f,fd,ps,h1,h2,h3,h4⟩:=M.ex
 have hn2:bu e=ZC/\bF es=ZC:=O6.mp hns;exact⟨Jv ⟨C.mks,h1.at_,h1.fn,C.kp⟩ h4 (hr.mono hk) C.mg h2 h3 (JB hl) ha.h hg hdb (bp hn2.1) (eX hn2.2)⟩
def HP{CE:ZE}(i:Nat){np:Pos}(hN:X.N.Nodup)(hm:X.mg ce=ZA (.ref CE))(OE:OX X.K CE bmE)
  (hb:∀pn xe,QNs {X with pn:=pn,xe:=xe} body F) (hs:mF X i (b0::suite) CE h) (hst:autoParam (X.stack=X.env::X.outer) aqd._auto_1) (hfe:autoParam (X.env.frame=ZA X.env.locals) aqd._auto_1) (hcl:∀x c,X.env.cells.lookup x≠ZA c) (hex:autoParam (X.ex=[]) aqd._auto_1)
  (hi:autoParam (X.N[i]?=ZA n) aqd._auto_1) (hloc:autoParam (X.env.scope.names.lookup n=ZA .local) aqd._auto_1) (hg:autoParam (Gl X ce) aqd._auto_1) (hd:autoParam ((ce == ("__debug__" : Str))=ZD) aqb._auto_1):
  QN X (.Try body [.ExceptHandler (ZA (.Name ce np)) (ZA n) (b0::suite) hpos] [] [] pos) (wA F h):=⟨LI hst hfe hcl hex hN hi hloc hm OE (λpn xe=>(hb pn xe).h) hs hg hd⟩
def Al(i:Nat)(hN:X.N.Nodup)(c:Cs_ X.prog X.w X.K X.mg X.base k x l g)(hr:Room k' X.A)(ha:QA X (e::es) fs)(hk:autoParam (k<=k') aqb._auto_1)(hl:∀(Z:En)(ts:List T),fs Z=.ok ts->ts.length=l:=by repeat first|exact xo|refine xn ?_)
  (hi:autoParam (X.N[i]?=ZA n) aqd._auto_1) (hx:autoParam (Loc X.env.scope n) aqh._auto_1) (hs:autoParam (OR (.Call (.Name x p) (e::es) [] pos) (ZA (.Name n p3)) spos.line X.env=pure ZD) aqd._auto_1) (hf:autoParam (X.fn n=ZC\/X.env.scope.names.lookup n=ZA .local) aqa._auto_1)
  (hg:autoParam (Gl X x) aqd._auto_1) (hdb:autoParam ((x == ("__debug__" : Str))=ZD) aqb._auto_1) (hns:autoParam (bF (e::es)=ZC) aqd._auto_1):QS X (.Assign [.Name n p3] (.Call (.Name x p) (e::es) [] pos) spos) (jJ i g fs):=by
 obtain⟨f,fd,ps,h1,h2,h3,h4,h5⟩:=c.ex
 have hn2:bu e=ZC/\bF es=ZC:=O6.mp hns;exact⟨Ck i (FnS.mk (h5.h.mono hk) λA outer s H args us vs O ts c R hr=>h5.x A outer s H args us vs O ts c R (hr.mono hk)) hr h1 h2 h3 h4 hl hN ha.h hi hx hs hf hg hdb (bp hn2.1) (eX hn2.2)⟩
end
theorem PairsAt.snoc{b kb:ZE}{p:List Key×V}(h1:H b=ZA (.tup [.ref kb,p.2]))(h2:H kb=ZA (.tup (p.1.map kV))):∀{xs:List V}{ps:List (List Key×V)},PairsAt H xs ps->PairsAt H (xs++[.ref b]) (ps++[p])
 |[],_,h=>by
  unfold PairsAt at h;subst h
  exact⟨b,kb,p,[],rfl,rfl,h1,h2,rfl⟩
 |x::xs,_,⟨b',kb',p',r,e1,e2,e3,e4,e5⟩=>by
  subst e1;exact⟨b',kb',p',r++[p],rfl,e2,e3,e4,e5.snoc h1 h2⟩
theorem PairsAt.move{H':Hp}{D:ZE}{zs:List V}(hD:H D=ZA (.lst zs))(s:SameO (λa=>a=D) H H'):∀{xs:List V}{ps:List (List Key×V)},PairsAt H xs ps->PairsAt H' xs ps
 |[],_,h=>h
 |x::xs,_,⟨b,kb,p,r,e1,e2,e3,e4,e5⟩=>⟨b,kb,p,r,e1,e2,s _ _ e3 (jQ e3 hD (λz=>nomatch z)),s _ _ e4 (jQ e4 hD (λz=>nomatch z)),e5.move hD s⟩
theorem PairsAt.len:∀{xs:List V}{ps:List (List Key×V)},PairsAt H xs ps->xs.length=ps.length
 |[],_,h=>by unfold PairsAt at h;subst h;rfl
 |x::xs,_,⟨b,kb,p,r,e1,e2,e3,e4,e5⟩=>by subst e1;rw[NS,NS,e5.len]
variable{Z:En}{kk:List (List Key)}{l:List T}
def wK{src:List (Option Nat)}{wi:TI}{te:TE}(E:EnvO X.K O H Z σ)(hwi:∀R,(∀H1,Same H H1->∀J,MV X.K O H1 l J->R J H1)->wi σ H R)(hz:l.length<=1000)(hk:l.map keyOf=kk.map ZA)(hs:0<src.length)
  (Acc:Hp->ZE->List V->Prop) (a0:∀H1 D,Same H H1->Nw X.K H1 D->Acc (upd H1 D (.lst [])) D [])
  (am:∀H1 H2 D vs ys,Acc H1 D vs->H1 D=ZA (.lst ys)->SameO (λa=>a=D) H1 H2->Acc H2 D vs)
  (hte:∀t∈l,∀σ' H' O' D vs ys (Q':VK),EnvM X.K O' noM H' ((b9 src Z).set 0 (.va t)) σ'->Acc H' D vs->H' D=ZA (.lst ys)->(∀v H'',Same H' H''->Acc H'' D (vs++[v])->Q' v H'')->te σ' H' Q')
  (hq:∀H1 D ys ps H',Same H H1->Nw X.K H1 D->Same H1 H'->H' D=ZA (.lst ys)->PairsAt H' ys ps->ps.map (·.1)=kk->Acc H' D (ps.map (·.2))->Q (.ref D) H'):
  Ih X.K wi src (BO X (gN 0)) vt (Fb (hV (oQ 0) (hV te vA))) σ H Q:=by
 refine hwi _ λH1 s1 J hJ D hD hK=>?_
 have nD:Nw X.K H1 D:=⟨hD,hK⟩
 have E1:=E.same s1
 have lk:l.length=kk.length:=by have:=congrArg O0 hk;rwa [NP,NP]at this
 have hlen:0<(b9 src Z).length:=by unfold b9;rw[NP];exact hs
 let O':Ow:=λa=>O a\/a=D
 have subO:∀a,O' a->O a\/Nw X.K H1 a:=λa z=>z.elim .inl λw=>.inr (w▸nD)
 refine⟨λi m σ' ys H'=>m=l.length - i/\i<=l.length/\ys.length=i/\H' D=ZA (.lst ys)/\SameO (λa=>a=D) (upd H1 D (.lst [])) H' ∧
  ∃s0 ps,EnvM X.K O' noM H' ((b9 src Z).set 0 s0) σ'/\PairsAt H' ys ps/\ps.map (·.1)=kk.take i/\Acc H' D (ps.map (·.2)),⟨l.length,?_⟩,?_⟩
 ·have sN:Same H1 (upd H1 D (.lst [])):=bj hD _
  refine⟨by omega,Qg _,rfl,aG,λb o e _=>e,(b9 src Z)[0],[],?_,rfl,rfl,a0 H1 D s1 nD⟩
  rw[SQ]
  exact(wL E1 src).move (P:=λa=>a=D) (λa z=>.inr (z▸nD)) subO (λb o e _=>sN b o e) λa z=>by
   rcases z with z|z
   ·exact(E1.mtb a z).same sN
   ·rw[z];exact .inl ⟨_,aG⟩
 ·rintro i m σ' ys H' ⟨rfl,hi',hyl,hDl,hsm,s0,ps,E',hp,hkk,hacc⟩
  refine⟨hDl,?_⟩
  have sm1:SameO (λa=>a=D) H1 H':=λb o e nb=>hsm b o (by rw[aB nb];exact e) nb
  have it:=hJ (λa=>a=D) O' (λa z=>.inr (z▸nD)) subO i H' sm1 (λa z=>(E'.trk a z).some)
  by_cases hlt:i<l.length
  ·refine .inr ?_
   obtain⟨go,yl⟩:=it.2 l[i] (by simp)
   refine⟨go,by rw[hyl,QD];omega,λxx Hc y=>?_⟩
   obtain⟨sc,rx⟩:=yl xx Hc y
   have Ec:=E'.same sc
   have eg:gN 0 l[i] ((b9 src Z).set 0 s0)=.ok ((b9 src Z).set 0 (.va l[i])):=by unfold gN;rw[if_pos (by rw[Pa];exact hlen),UG]
   refine⟨(b9 src Z).set 0 s0,O',noM,l[i],Ec,rx,?_⟩
   rw[eg];intro σ1 Eg;unfold vt
   dsimp only
   rw[if_pos rfl];obtain⟨kv,ekv,rkv⟩:=Eg.val 0 l[i] (by rw[Of hlen])
   refine⟨kv,ekv,?_⟩
   have aC:Acc Hc D (ps.map (·.2)):=am H' Hc D _ ys hacc hDl λb o e _=>sc b o e
   have DC:Hc D=ZA (.lst ys):=sc _ _ hDl;refine hte l[i] (Pt hlt) σ1 Hc O' D _ ys _ Eg aC DC λv H4 s4 acc4=>⟨by show 2<=sizeLine;rw[QD];omega,λp hpn=>?_⟩
   have D4:H4 D=ZA (.lst ys):=s4 _ _ DC
   have pD:p≠D:=λz=>by rw[z,D4]at hpn;cases hpn
   have E4:=Eg.same s4
   have ki:kk[i]'(by omega)=kk[i]'(by omega):=rfl
   have hki:keyOf l[i]=ZA (kk[i]'(by omega)):=by
    have:=congrArg (λz=>z[i]?) hk
    simp only[Oc,N7 hlt,N7 (show i<kk.length by omega),U8]at this
    exact Ou this
   obtain⟨kb,rfl,hkb⟩:=ja hki (rkv.same s4)
   have s46:SameO (λa=>a=D) H4 (upd (upd H4 p (.tup [.ref kb,v])) D (.lst (ys++[.ref p]))):=λb o e nb=>by
    rw[aB nb,aB (λz=>by rw[z,hpn]at e;cases e)];exact e
   refine⟨by rw[aB (OZ pD)];exact D4,l.length - (i+1),by omega,rfl,hlt,?_,aG,λb o e nb=>s46 b o (s4 _ _ (sc _ _ (hsm b o e nb))) nb,.va l[i],ps++[(kk[i]'(by omega),v)],?_,?_,?_,?_⟩
   ·rw[NT,hyl];rfl
   ·exact E4.move (λa z=>.inl (.inr z)) (λa z=>.inl z) s46 λaa z=>by
     by_cases hz:aa=D
     ·rw[hz];exact .inl ⟨_,aG⟩
     ·exact(E4.trk aa z).at λo e=>s46 _ _ e hz
   ·refine((hp.same (sc.trans s4)).move D4 s46).snoc (kb:=kb) (p:=(kk[i]'(by omega),v)) ?_ ?_
    ·rw[aB pD,aG]
    ·exact s46 _ _ hkb (jQ hkb D4 (λz=>nomatch z))
   ·rw[O4,hkk]
    show kk.take i++[kk[i]'(by omega)]=kk.take (i+1)
    rw[List.take_append_getElem]
   ·rw[O4]
    exact am H4 _ D _ ys acc4 D4 s46
  ·refine .inl ⟨it.1 (by omega),?_⟩
   have sF:Same H1 H':=λb o e=>sm1 b o e λz=>by rw[z,hD]at e;cases e
   exact hq H1 D ys ps H' s1 nD sF hDl hp (by rw[hkk,SG (by omega)]) hacc
def sW(K:NI)(t:TE):TE:=λσ H Q=>t σ H λv H'=>∃a xs ps,v=.ref a/\H' a=ZA (.lst xs)/\xs.length<=1000/\PairsAt H' xs ps/\∀q,Nw K H' q->Q (.ref q) (upd H' q (.dT (fB [] ps)))
def vX{t:TE}(hu:X.A.units+8<cLine)(hc:X.calm=ZC)(hm:X.mg "dict" =ZB)(ha:PE X e t)(hg:Gl X "dict")(hs:bu e=ZC):PE X (.Call (.Name "dict" p) [e] [] pos) (sW X.K t):=by
 have h1:NW [e] X.env=(ZD,eval e X.env)::NW [] X.env:=bp hs;intro ol s σ H Q I hq;refine Oz (gU I hg hm (show OF "dict" =ZA (.type "dict")by decide+kernel) ?_ (by decide) (by decide))
 refine O7 (bU (br (te:=t) ha dH h1 pos ol s σ H (λzs H'=>match zs with|[v] =>∃a xs ps,v=.ref a/\H' a=ZA (.lst xs)/\xs.length<=1000/\PairsAt H' xs ps/\∀q,Nw X.K H' q->Q (.ref q) (upd H' q (.dT (fB [] ps)))|_=>False) I ?_) λus s1 hh=>?_) h1 rfl
 ·exact hq
 ·obtain⟨vs,H1,I1,r1,hv⟩:=hh
  match vs,hv,r1 with
  |[v],hv,r1=>
  obtain⟨a,xs,ps,ev,e1,e2,e3,e4⟩:=hv;subst ev;obtain⟨u,rfl,ru⟩:=r1.one;obtain rfl:u=N1 a:=ru;exact xg (I1.ok.hd hc) hu I1 e1 e2 e3 λq s' nw I'=>⟨.ref q,_,I',rfl,e4 q nw⟩
theorem mK:∀(ps kvs:List (List Key×V)),((kvs++ps).map (·.1)).Nodup->fB kvs ps=kvs++ps
 |[],kvs,_=>by rw[fB,Oi]
 |p::ps,kvs,h=>by
  have e:dG kvs p.1 p.2=kvs++[p]:=by
   unfold dG;rw[if_neg];intro z;obtain⟨q,hq,e⟩:=RF.mp z
   have e:=of_decide_eq_true e;rw[O4,OK]at h;exact h.2.2 q.1 (Oj.mpr ⟨q,hq,rfl⟩) p.1 (by simp) e
  rw[fB,e,mK ps (kvs++[p]) (by rw[Om];exact h),Om]
  rfl
def gQ(kk:List (List Key)):List (List Key×V):=kk.map λk=>(k,V.non)
def Im:∀{ps:List (List Key×V)},ps.map (·.1)=kk->(∀v∈ps.map (·.2),v=V.non)->ps=gQ kk:=by
 intro ps h1 h2;subst h1;unfold gQ;rw[P7]
 conv=>lhs;rw[<-Tv ps]
 exact OP λp hp=>Prod.ext rfl (h2 p.2 (Oj.mpr ⟨p,hp,rfl⟩))
variable{N':List Str}
def tPI0(K:NI)(f:V3):TI:=λσ H R=>∃Z O,EnvO K O H Z σ/\match f Z with
 |.ok ts=>∀H',Same H H'->∀J,MV K O H' ts J->R J H'
 |_=>False
def tPI0.up{f:V3}{R:It->Hp->Prop}(h:tPI0 X.K f σ H R):ME X f σ H R:=by
 obtain⟨Z,O,E,h⟩:=h;refine⟨Z,O,E,?_⟩
 cases q:f Z with
 |ok t=>rw[q]at h;exact h
 |err c=>rw[q]at h;exact h.elim
 |bad=>rw[q]at h;exact h.elim
def xM(X:Cx)(src:List (Option Nat)):TE:=sW X.K (Ih X.K (tPI0 X.K (iS (vr 1))) src (BO X (gN 0)) vt (Fb (hV (oQ 0) (hV (tC .non) vA))))
def Ja{eb tb ib:ZG}{q1 pc lp:Pos}{jj:Nat}{src:List (Option Nat)}{x1}(hu:X.A.units+8<cLine)(hc:X.calm=ZC)(hm:X.mg "dict" =ZB)(hg:Gl X "dict")(S:LcScope X sc N' src)(hi:Bs X tb ib (iS (vr 1)))
  (blk:∀cl C s₀ H₀ fp,EM (cm X sc cl N' C s₀ H₀ fp) tb (gN 0)/\PE (cm X sc cl N' C s₀ H₀ fp) eb (oQ 0)/\bu eb=ZC) (hs:∀x,OM ib X.env x=pure x):
  PE X (.Call (.Name "dict" p) [.ListComp (.Tuple [eb,.Constant .none jj pc] x1 q1) [⟨tb,ib,[],0⟩] sc lp] [] pos) (xM X src):=
 PE.imp (vX hu hc hm (vV hc S hi (λcl C s₀ H₀ fp=>⟨(blk cl C s₀ H₀ fp).1,tR,tS (br (blk cl C s₀ H₀ fp).2.1 (br CD dH (bp rfl)) (bp (blk cl C s₀ H₀ fp).2.2))⟩) hs) hg rfl) λσ H Q h=>tPI0.up h
def Cb{src:List (Option Nat)}(E:EnvO X.K O H Z σ)(hf:iS (vr 1) Z=.ok l)(hz:l.length<=1000)(hk:l.map keyOf=kk.map ZA)(hn:kk.Nodup)(hs:0<src.length)
  (hq:∀d H',Same H H'->Nw X.K H d->H' d=ZA (.dT (gQ kk))->Q (.ref d) H'):xM X src σ H Q:=by
 have lk:l.length=kk.length:=by have:=congrArg O0 hk;rwa [NP,NP]at this
 unfold xM sW;refine wK (X:=X) (te:=tC .non) E (λR h=>⟨Z,O,E,by rw[hf];exact h⟩) hz hk hs (λ_ _ vs=>∀v∈vs,v=V.non) (λ_ _ _ _ v h=>nomatch h) (λ_ _ _ _ _ h _ _=>h) (λt ht σ' H' O' D vs ys Q' _ acc _ k=>k _ H' (Same.refl H') λv hv=>?_) λH1 D ys ps H' s1 nD s2 hD hp h1 h2=>?_
 ·rcases Og.mp hv with z|z
  ·exact acc v z
  ·exact N0.mp z
 ·have e:ps=gQ kk:=Im h1 h2
  refine⟨D,ys,ps,rfl,hD,by rw[hp.len,e];unfold gQ;rw[NP];omega,hp,λq nq=>?_⟩
  have e2:fB [] ps=gQ kk:=by rw[mK ps [] (by rw[Po,h1];exact hn),Po,e]
  rw[e2];exact hq q _ ((s1.trans s2).trans (bj nq.1 _)) (fO (s1.trans s2) nq) aG
theorem vQ:∀(l:List T)(kk:List (List Key)),l.length=kk.length->Reps K O H (l.map λ_=>T.non) ((gQ kk).map (·.2))
 |[],[],_=>Reps.GE
 |_::l,_::kk,h=>Reps.FS Rep.Ni (vQ l kk (by simpa using h))
 |[],_::_,h=>by simp at h
 |_::_,[],h=>by simp at h
theorem vN(hk:l.map keyOf=kk.map ZA):∀{m:List T}{ds:List ZE},m.length=ds.length->(∀d∈ds,H d=ZA (.dT (gQ kk)))->RowsR K O H (m.map λ_=>(l,l.map λ_=>T.non)) ds
 |[],[],_,_=>rfl
 |_::m,d::ds,h,hd=>⟨d,ds,gQ kk,rfl,hd d NN,by unfold gQ;rw[P7];exact hk,vQ l kk (by have:=congrArg O0 hk;rwa [NP,NP]at this),vN hk (by simpa using h) λe he=>hd e (NJ _ he)⟩
 |[],_::_,h,_=>by simp at h
 |_::_,[],h,_=>by simp at h
theorem zI:∀{l:List T},nH l=ZC->∃kk:List (List Key),l.map keyOf=kk.map ZA
 |[],_=>⟨[],rfl⟩
 |t::l,h=>by
  unfold nH at h;rw[NL]at h;obtain⟨kk,e⟩:=zI h.2;obtain⟨k,ek⟩:=Q9.mp h.1;exact⟨k::kk,by rw[NM,NM,ek,e]⟩
def Cj(i j:Nat){ea r ta ia:ZG}{q1 lp p2:Pos}{x1}{src:List (Option Nat)}(hu:X.A.units+8<cLine)(hc:X.calm=ZC)(hm:X.mg "dict" =ZB)(hN:X.N.Nodup)
  (S:LcScope X sc N' [ZB,ZA j]) (hi:Bs X ta ia (iS (vr j))) (hsr:0<src.length)
  (blk:∀cl C s₀ H₀ fp,EM (cm X sc cl N' C s₀ H₀ fp) ta (gN 0)/\PE (cm X sc cl N' C s₀ H₀ fp) ea (oQ 0)/\PE (cm X sc cl N' C s₀ H₀ fp) r (xM X src)) (h1:autoParam (bu ea=ZC) aqd._auto_1) (h2:autoParam (bu r=ZC) aqd._auto_1)
  (hs:autoParam (∀x,OM ia X.env x=pure x) aqc._auto_1) (hg:autoParam (Gl X "dict") aqd._auto_1) (hix:autoParam (X.N[i]?=ZA x) aqd._auto_1) (hx:autoParam (Loc X.env.scope x) aqh._auto_1)
  (hsw:autoParam (OR (.Call (.Name "dict" p) [.ListComp (.Tuple [ea,r] x1 q1) [⟨ta,ia,[],0⟩] sc lp] [] p2) (ZA (.Name x p3)) pos.line X.env=pure ZD) aqd._auto_1)
  (hf:autoParam (X.fn x=ZC\/X.env.scope.names.lookup x=ZA .local) aqa._auto_1):
  oH X (.Assign [.Name x p3] (.Call (.Name "dict" p) [.ListComp (.Tuple [ea,r] x1 q1) [⟨ta,ia,[],0⟩] sc lp] [] p2) pos) (o7 i j):=
 PS.imp (mL hN hix hx (vX hu hc hm (vV (g:=BO X (gN 0)) (tc:=vt) (te:=Fb (hV (oQ 0) (hV (xM X src) vA))) hc S hi (λcl C s₀ H₀ fp=>⟨(blk cl C s₀ H₀ fp).1,tR,tS (br (blk cl C s₀ H₀ fp).2.1 (br (blk cl C s₀ H₀ fp).2.2 dH (bp h2)) (bp h1))⟩) hs) hg rfl) hsw hf) λD σ H hh_=>by
  obtain⟨Z,B,M,E,h⟩:=hh_;unfold o7 at h
  cases qj:Z[j]? with
  |none=>rw[qj]at h;exact h.elim
  |some z=>
   rw[qj]at h
   match z,h,qj with
   |.va (.lst l),h,qj=>
    dsimp only at h
    by_cases hh:i<Z.length/\nH l=ZC/\(l.map keyOf).Nodup/\l.length<=1000
    ·rw[if_pos hh]at h
     obtain⟨hl,hky,hnd,hz⟩:=hh;obtain⟨kk,hk⟩:=zI hky
     have lk:l.length=kk.length:=by have:=congrArg O0 hk;rwa [NP,NP]at this
     have hn:kk.Nodup:=by
      rw[hk]at hnd;exact(Uo.mp hnd).imp λh z=>h (by rw[z])
     have fj:iS (vr j) Z=.ok l:=by unfold iS vr;rw[qj];rfl
     have hlc:b9 [ZB,ZA j] Z=[.em,.va (.lst l)]:=by unfold b9;simp[qj]
     unfold BP sW
     refine wK (X:=X) (te:=xM X src) E.o (λR h=>⟨Z,OO B M,E.o,by rw[fj];exact h⟩) hz hk (by simp)
      (λH' D vs=>H D=ZB/\Same H H'/\∃ds:List ZE,vs=ds.map V.ref/\ds.Nodup/\∀d∈ds,Nw X.K H d/\H' d=ZA (.dT (gQ kk)))
      (λH1 D s1 nD=>⟨(fO s1 nD).1,s1.trans (bj nD.1 _),[],rfl,Qh,λd h=>nomatch h⟩)
      (λH1 H2 D vs ys ⟨c1,c2,ds,c3,c4,c5⟩ hD s=>⟨c1,(λb o e=>s b o (c2 b o e) (λz=>by rw[z,c1]at e;cases e)),ds,c3,c4,λd hd=>⟨(c5 d hd).1,s _ _ (c5 d hd).2 (jQ (c5 d hd).2 hD (λz=>nomatch z))⟩⟩)
      (λt ht σ' H' O' D vs ys Q' E' ⟨c1,c2,ds,c3,c4,c5⟩ hD k=>Cb (l:=l) (kk:=kk) ⟨noM,E'⟩ (by rw[hlc];rfl) hz hk hn hsr λd H'' s' nd hd=>?_) λH1 D ys ps H' s1 nD s2 hD hp e1 ⟨c1,c2,ds,c3,c4,c5⟩=>?_
     ·refine k _ H'' s' ⟨c1,c2.trans s',ds++[d],by rw[c3,O4];rfl,?_,λe he=>?_⟩
      ·refine OK.mpr ⟨c4,by simp,λu hu w hw=>?_⟩
       rw[N0.mp hw];intro z
       have:=(c5 u hu).2;rw[z,nd.1]at this;cases this
      ·rcases Og.mp he with z|z
       ·exact⟨(c5 e z).1,s' _ _ (c5 e z).2⟩
       ·rw[N0.mp z]
        exact⟨fO c2 nd,hd⟩
     ·have hpl:ps.length=kk.length:=by rw[<-e1,NP]
      refine⟨D,ys,ps,rfl,hD,by rw[hp.len];omega,hp,λq nq=>?_⟩
      have e2:fB [] ps=ps:=by rw[mK ps [] (by rw[Po,e1];exact hn),Po]
      rw[e2]
      have qd:q∉ds:=λz=>by have:=(c5 q z).2;rw[nq.1]at this;cases this
      have dl:ds.length=ps.length:=by have:=congrArg O0 c3;rw[NP,NP]at this;exact this.symm
      have hm':∀b,b=q\/b∈ds->Nw X.K H b:=λb z=>z.elim (λw=>w▸fO c2 nq) λw=>(c5 b w).1
      have sF:Same H (upd H' q (.dT ps)):=c2.trans (bj nq.1 _);obtain⟨E2,sub⟩:=E.new (m:=λb=>b=q\/b∈ds) (o:=.dd l (l.map λ_=>(l,l.map λ_=>.non))) (v:=.ref q) (H':=upd H' q (.dT ps)) hl hm' sF ⟨q,ps,ds,rfl,λb=>Rg,qd,c4,aG,by rw[hk,<-e1,P7];rfl,c3,vN hk (by omega) λd hd=>by rw[aB (show d≠q from λz=>qd (z▸hd))];exact(c5 d hd).2⟩
      exact h _ _ _ (SameO.of sF) E2 sub
    ·rw[if_neg hh]at h;exact h.elim
   |.em,h,_=>exact h.elim
   |.ow _,h,_=>exact h.elim
   |.va .non,h,_=>exact h.elim
   |.va (.bl _),h,_=>exact h.elim
   |.va (.int _),h,_=>exact h.elim
   |.va (.str _),h,_=>exact h.elim
   |.va (.tup _),h,_=>exact h.elim
   |.va (.scr _),h,_=>exact h.elim
   |.va (.dct _ _),h,_=>exact h.elim
def Ak(i j:Nat){ea r ta ia:ZG}{q1 lp p2:Pos}{x1}{src:List (Option Nat)}(hu:X.A.units+8<cLine)(hc:X.calm=ZC)(hm:X.mg "dict" =ZB)(hN:X.N.Nodup)
  (S:LcScope X sc N' [ZB,ZA j]) (hi:QI X ta ia (iS (vr j))) (hsr:0<src.length)
  (blk:∀cl C s₀ H₀ fp,QG (cm X sc cl N' C s₀ H₀ fp) ta (gN 0)/\PE (cm X sc cl N' C s₀ H₀ fp) ea (oQ 0)/\PE (cm X sc cl N' C s₀ H₀ fp) r (xM X src)) (h1:autoParam (bu ea=ZC) aqd._auto_1) (h2:autoParam (bu r=ZC) aqd._auto_1)
  (hs:autoParam (∀x,OM ia X.env x=pure x) aqc._auto_1) (hg:autoParam (Gl X "dict") aqd._auto_1) (hix:autoParam (X.N[i]?=ZA x) aqd._auto_1) (hx:autoParam (Loc X.env.scope x) aqh._auto_1)
  (hsw:autoParam (OR (.Call (.Name "dict" p) [.ListComp (.Tuple [ea,r] x1 q1) [⟨ta,ia,[],0⟩] sc lp] [] p2) (ZA (.Name x p3)) pos.line X.env=pure ZD) aqd._auto_1)
  (hf:autoParam (X.fn x=ZC\/X.env.scope.names.lookup x=ZA .local) aqa._auto_1):
  QS X (.Assign [.Name x p3] (.Call (.Name "dict" p) [.ListComp (.Tuple [ea,r] x1 q1) [⟨ta,ia,[],0⟩] sc lp] [] p2) pos) (o7 i j):=
 ⟨Cj i j hu hc hm hN S hi.h hsr (λcl C s₀ H₀ fp=>⟨(blk cl C s₀ H₀ fp).1.h,(blk cl C s₀ H₀ fp).2⟩) h1 h2 hs hg hix hx hsw hf⟩
def gg{P:List Str}(h1:autoParam (sc.kind=.function) aqd._auto_1)(h2:autoParam (sc.isCoroutine=ZD) aqd._auto_1)(h3:autoParam (sc.isGenerator=ZD) aqd._auto_1)(h4:autoParam (N.Nodup) aqi._auto_1)(h5:autoParam (N.take P.length=P) aqd._auto_1)
  (h6:autoParam (∀x∈P,sc.names.lookup x=ZA .local\/sc.names.lookup x=ZA .cell) aqi._auto_1) (h7:autoParam (∀y∈sc.names,y.2≠ .free) aqi._auto_1):aA N P sc:=⟨h1,h2,h3,h4,h5,h6,h7⟩
end Tr
namespace G
open PySem PySem.Spec PyProof.Rows L2 Tr
structure Bl (mg:V0):Prop where
 b_ValueError:mg "ValueError" =ZB
 b_all:mg "all" =ZB
 b_bool:mg "bool" =ZB
 b_dict:mg "dict" =ZB
 b_enumerate:mg "enumerate" =ZB
 b_int:mg "int" =ZB
 b_isinstance:mg "isinstance" =ZB
 b_len:mg "len" =ZB
 b_max:mg "max" =ZB
 b_min:mg "min" =ZB
 b_range:mg "range" =ZB
 b_tuple:mg "tuple" =ZB
structure Cs (mg:V0):Prop where
 MOST_CLOCKS:∃t,mg "MOST_CLOCKS" =ZA (.int 4 t)
 MOST_LETTERS:∃t,mg "MOST_LETTERS" =ZA (.int 8 t)
 MOST_READINGS:∃t,mg "MOST_READINGS" =ZA (.int 4 t)
 LAST_READING:∃t,mg "LAST_READING" =ZA (.int 99 t)
 SLOWEST:∃t,mg "SLOWEST" =ZA (.int 9 t)
 LONGEST:∃t,mg "LONGEST" =ZA (.int 999 t)
structure eE (K:NI)(mg:V0):Prop where
 k:rq K mg "Desk"
 a_kept:NoAttr K (bO K "Desk") "kept"
def u5:OF "bool" =ZA (.type "bool"):=by decide+kernel
def kf:OF "int" =ZA (.type "int"):=by decide+kernel
def dB:OF "tuple" =ZA (.type "tuple"):=by decide+kernel
structure Xs (K:NI)(mg:V0)(ac al bi bn bv ca ci:ZE):Prop where
 m_NoRecord:mg "NoRecord" =ZA (.ref ac)
 m_NoEvent:mg "NoEvent" =ZA (.ref al)
 m_NoNumber:mg "NoNumber" =ZA (.ref bi)
 m_NoWorld:mg "NoWorld" =ZA (.ref bn)
 m_Barred:mg "Barred" =ZA (.ref bv)
 m_Nothing:mg "Nothing" =ZA (.ref ca)
 m_ClockError:mg "ClockError" =ZA (.ref ci)
 o_NoRecord:OX K ac (.ref ci::n9)
 o_NoEvent:OX K al (.ref ci::n9)
 o_NoNumber:OX K bi (.ref ci::n9)
 o_NoWorld:OX K bn (.ref ci::n9)
 o_Barred:OX K bv (.ref ci::n9)
 o_Nothing:OX K ca (.ref ci::n9)
 o_ClockError:OX K ci n9
 d:[ac,al,bi,bn,bv,ca,ci].Nodup
abbrev bQ:ZF:=top 61
def aaK:aA ["_law_e","_law_flags"] ["_law_e"] (aj bQ):=⟨rfl,rfl,rfl,by decide+kernel,rfl,by decide+kernel,by decide+kernel⟩
def dv(j:Nat):T:=.tup [.str "refused",.int (j:Nat)]
def jb(c:Str):Rs T:=if c= "NoRecord" then .ok (dv 0)else if c= "NoEvent" then .ok (dv 1)else if c= "NoNumber" then .ok (dv 2)else if c= "NoWorld" then .ok (dv 3)else if c= "Barred" then .ok (dv 4)else if c= "Nothing" then .ok (dv 5)else .bad
variable{C bv ci al bi ac bn ca f:ZE}{ev:Array NK}{oe:Obj}
section
variable {mg:V0}{base:ZH}
def Xs.ne{D:ZE}(h:C≠D):(N1 C::n9).contains (.ref D)=ZD:=by
 rw[OW]
 have:(N1 D == N1 C)=ZD:=by rw[beq_eq_false_iff_ne];exact λz=>h (TH z).symm
 rw[this];rfl
def Cd{e:ZE}{outer:List Env}{H:Hp}{Q:VK}(S:Xs K mg ac al bi bn bv ca ci)(OC:OX K C (.ref ci::n9))
  (hc:oe.cls=.ref C) (hd:oe.data=.fields ev) (hi:mg "isinstance" =ZB) (hv:mg "ValueError" =ZB) (cr:ci≠ac) (db:ci≠al) (gt:ci≠bi) (ii:ci≠bn) (im:ci≠bv) (io:ci≠ca)
  {b0 b1 b2 b3 b4 b5:Bool} (h0:decide (C=ac)=b0) (h1:decide (C=al)=b1) (h2:decide (C=bi)=b2) (h3:decide (C=bn)=b3) (h4:decide (C=bv)=b4) (h5:decide (C=ca)=b5)
  (cnt:[b0,b1,b2,b3,b4,b5].countP id=1) (hj:[b0,b1,b2,b3,b4,b5][j]?=ZA ZC) (hno:∀m,m<j->[b0,b1,b2,b3,b4,b5][m]?=ZA ZD)
  (q:∀p H',Same H H'->H p=ZB->H' p=ZA (.tup [.str "refused",.int (j:Nat)])->Q (.ref p) H') (cdv:NK):
  ∃t,PSs (MK P w K mg base ["_law_e","_law_flags"] "_law_refused" (aj bQ) f cdv A outer s H e oe) (bD bQ) t/\t {nx:=λ_ _=>False,rt:=Q} (start ["_law_e","_law_flags"] [.ref e]) H:=by
 have nd:=aaK.nd
 have hp:(e,oe)∈(MK P w K mg base ["_law_e","_law_flags"] "_law_refused" (aj bQ) f cdv A outer s H e oe).pn:=NN
 refine⟨_,iP (mL (i:=1) nd rfl (Sg rfl) (x6 (br (mM rfl (Sg rfl) hp hc hd OC S.o_NoRecord b0 h0 (λ_=>Xs.ne cr) hi S.m_NoRecord) (br (mM rfl (Sg rfl) hp hc hd OC S.o_NoEvent b1 h1 (λ_=>Xs.ne db) hi S.m_NoEvent) (br (mM rfl (Sg rfl) hp hc hd OC S.o_NoNumber b2 h2 (λ_=>Xs.ne gt) hi S.m_NoNumber) dH)))))
  (iP (mL (i:=1) nd rfl (Sg rfl) (Ly CO (pv 1) (x6 (br (mM rfl (Sg rfl) hp hc hd OC S.o_NoWorld b3 h3 (λ_=>Xs.ne ii) hi S.m_NoWorld) (br (mM rfl (Sg rfl) hp hc hd OC S.o_Barred b4 h4 (λ_=>Xs.ne im) hi S.m_Barred) (br (mM rfl (Sg rfl) hp hc hd OC S.o_Nothing b5 h5 (λ_=>Xs.ne io) hi S.m_Nothing) dH))))))
  (iP (vS (PW.pt (Cp (FR Lz (vY Pc PySem.F.slot_list_count PySem.F.type_list_count AM (pv 1) (br CI dH)) CF (Jr _)) (xY (Cu (Ct (Jd rfl (Sg rfl) hp hc OC hi hv)))))) (ff Cw) oh)
  (ff (iu (tS (br CB (br (vY Pc Sq Sr AK (pv 1) (br CI dH)) dH))))))),?_⟩
 refine⟨rfl,rfl,rfl,(by show 3<=sizeLine;decide),λl1 n1=>?_⟩
 refine⟨.ref l1,rfl,rfl,rfl,rfl,(by show 3<=sizeLine;decide),λl2 n2=>?_⟩
 have ne21:l1≠l2:=λz=>by subst z;rw[aG]at n2;cases n2
 refine⟨l1,l2,[.bl b0,.bl b1,.bl b2],[.bl b3,.bl b4,.bl b5],rfl,rfl,by rw[aB ne21,aG],aG,(by show 3+3<=sizeLine;decide),λl3 n3=>?_⟩
 refine⟨.ref l3,rfl,.inl ⟨rfl,_,SqL.of aG⟩,⟨l3,[b0,b1,b2,b3,b4,b5],rfl,rfl,aG,?_⟩⟩
 have hz:(!decide (V.int (([b0,b1,b2,b3,b4,b5].countP id:Nat):Int)=V.int 1))=ZD:=by rw[cnt];simp
 refine⟨rfl,ZD,congrArg V.bl hz,iteF ⟨rfl,ZC,rfl,iteF ?_⟩⟩
 have hj6:j<6:=by have:=(NU.mp hj).1;simpa using this
 refine⟨.ref l3,rfl,.inl ⟨rfl,_,SqL.of aG⟩,⟨l3,[b0,b1,b2,b3,b4,b5],j,rfl,rfl,aG,hj,hno,by omega,(by show 2<=sizeLine;decide),λp np=>q p _ ?_ ?_ aG⟩⟩
 rotate_left
 ·have m3:p≠l3:=λz=>by subst z;rw[aG]at np;cases np
  have m2:p≠l2:=λz=>by subst z;rw[aB m3,aG]at np;cases np
  have m1:p≠l1:=λz=>by subst z;rw[aB m3,aB m2,aG]at np;cases np
  rw[aB m3,aB m2,aB m1]at np;exact np
 intro b o hb
 have m1:b≠l1:=λz=>by subst z;rw[n1]at hb;cases hb
 have m2:b≠l2:=λz=>by subst z;rw[aB m1,hb]at n2;cases n2
 have m3:b≠l3:=λz=>by subst z;rw[aB m2,aB m1,hb]at n3;cases n3
 have m4:b≠p:=λz=>by subst z;rw[aB m3,aB m2,aB m1,hb]at np;cases np
 rw[aB m4,aB m3,aB m2,aB m1];exact hb
end
section
variable {X:Cx}
def tRC(X:Cx)(i:Nat)(e:ZE)(j:Nat):TE:=λσ H Q=>σ[i]?=ZA (ZA (.ref e))/\H e=ZB/\e∉m6 X.stack/\∀p H',Same H H'->H p=ZB->H' p=ZA (.tup [.str "refused",.int (j:Nat)])->Q (.ref p) H'
def fJ{en:Str}{p p1 pos:Pos}{e:ZE}(hN:X.N[i]?=ZA en)(hv:lJ X.env.scope en)
  (Fn_:Fn X.K X.mg "_law_refused" bQ ["_law_e"] f fd) (S:Xs X.K X.mg ac al bi bn bv ca ci) (OC:OX X.K C (.ref ci::n9))
  (hc:oe.cls=.ref C) (hd:oe.data=.fields ev) (hi:X.mg "isinstance" =ZB) (hvv:X.mg "ValueError" =ZB) (cr:ci≠ac) (db:ci≠al) (gt:ci≠bi) (ii:ci≠bn) (im:ci≠bv) (io:ci≠ca)
  {b0 b1 b2 b3 b4 b5:Bool} (h0:decide (C=ac)=b0) (h1:decide (C=al)=b1) (h2:decide (C=bi)=b2) (h3:decide (C=bn)=b3) (h4:decide (C=bv)=b4) (h5:decide (C=ca)=b5)
  (cnt:[b0,b1,b2,b3,b4,b5].countP id=1) (hj:[b0,b1,b2,b3,b4,b5][j]?=ZA ZC) (hno:∀m,m<j->[b0,b1,b2,b3,b4,b5][m]?=ZA ZD) (hr:X.A.depth+3<Q1)
  (hg:autoParam (Gl (uW X e oe) "_law_refused") aqd._auto_1) (hde:autoParam ((en == ("__debug__" : Str))=ZD) aqb._auto_1) (hce:autoParam ((en == ("__classdict__" : Str))=ZD) aqb._auto_1)
  (he:autoParam (NW [.Name en p1] X.env=(ZD,eval (.Name en p1) X.env)::NW [] X.env) aqd._auto_1) (hpl:autoParam ((backTo pos (NW [] X.env)).any (·.1)=ZD) aqd._auto_1):
  PE (uW X e oe) (.Call (.Name "_law_refused" p) [.Name en p1] [] pos) (tRC X i e j):=by
 intro ol s σ H Q I ⟨hσ,hH,hf,q⟩;refine Oz (fR (X:=uW X e oe) I hg Fn_.mg ?_ (by decide))
 have hA:PA (uW X e oe) [.Name en p1] (hV (oQ i) vA):=br (eF (X:=uW X e oe) hN hv hde hce) dH he;refine PK (h₀:=X.base) I.ok.mod.kin Fn_.fn.kp (bU (hA pos ol s σ H (λvs H'=>vs=[.ref e]/\H'=H) I ⟨.ref e,hσ,rfl,rfl⟩) λus s1 ⟨vs,H1,I1,r,e1,e2⟩=>⟨I1.kIn,?_⟩) he hpl
 subst e1;subst e2;obtain⟨u,rfl,ru⟩:=kO r;cases ru
 have hoe:s1.heap.get? e=ZA oe:=(I1.pin (e,oe) (Ol _ NN)).1
 have hb:=Fn_.bd s1 [.ref e] I1.kIn rfl;refine Rp (Qa (J1 (Q:=Q) Fn_.fn aaK (vs:=[.ref e]) rfl hr I1.Na hb r hoe hH hf (λv z=>by rw[hd]at z;cases z) λcdv=>Cd S OC hc hd hi hvv cr db gt ii im io h0 h1 h2 h3 h4 h5 cnt hj hno q cdv) λr s' hq=>?_)
 cases r with
 |error ev=>exact hq.elim
 |ok fl=>
  cases fl with
  |ret u=>exact I1.after hq
  |next=>exact hq.elim
  |brk=>exact hq.elim
  |cont=>exact hq.elim
def kx{O:Ow}{H H':Hp}{p:ZE}(hO:∀p,H p=ZB->¬ O p)(hp:H p=ZB)(h:H' p=ZA (.tup [.str "refused",.int (j:Nat)])):Rep K O H' (dv j) (.ref p):=
 Rep.Fk.mpr ⟨p,_,rfl,hO p hp,h,Reps.FS (Rep.Np _) (Reps.FS (Rep.Gc _) Reps.GE)⟩
def vB{en:Str}{p p1 pos rp:Pos}(hN:X.N[i]?=ZA en)(hv:lJ X.env.scope en)
  (Fn_:Fn X.K X.mg "_law_refused" bQ ["_law_e"] f fd) (S:Xs X.K X.mg ac al bi bn bv ca ci) (hi:X.mg "isinstance" =ZB) (hvv:X.mg "ValueError" =ZB) (hr:X.A.depth+3<Q1)
  (hg:autoParam (∀e oe,Gl (uW X e oe) "_law_refused") aqg._auto_1) (hde:autoParam ((en == ("__debug__" : Str))=ZD) aqb._auto_1) (hce:autoParam ((en == ("__classdict__" : Str))=ZD) aqb._auto_1)
  (he:autoParam (NW [.Name en p1] X.env=(ZD,eval (.Name en p1) X.env)::NW [] X.env) aqd._auto_1) (hpl:autoParam ((backTo pos (NW [] X.env)).any (·.1)=ZD) aqd._auto_1):
  mF X i [.Return (ZA (.Call (.Name "_law_refused" p) [.Name en p1] [] pos)) rp] ci jb:=by
 have dd:=S.d
 have ap:∀{a b:ZE}(i j:Nat),i<j->[ac,al,bi,bn,bv,ca,ci][i]?=ZA a->[ac,al,bi,bn,bv,ca,ci][j]?=ZA b->a≠b:=λ{a b} i j hij ha hb z=>by
  have:=(List.getElem?_inj (NU.mp ha).1 dd).mp (ha.trans (z▸hb.symm))
  omega
 have hin:∀C:ZE,(N1 C:: .ref ci::n9).contains (.ref ci)=ZC:=λC=>by rw[OW,OW,beq_self_eq_true,UE,UD]
 have cr:ci≠ac:=(OZ (ap 0 6 (by decide) rfl rfl))
 have db:ci≠al:=(OZ (ap 1 6 (by decide) rfl rfl))
 have gt:ci≠bi:=(OZ (ap 2 6 (by decide) rfl rfl))
 have ii:ci≠bn:=(OZ (ap 3 6 (by decide) rfl rfl))
 have im:ci≠bv:=(OZ (ap 4 6 (by decide) rfl rfl))
 have io:ci≠ca:=(OZ (ap 5 6 (by decide) rfl rfl))
 intro c C t hm ht;unfold jb at ht
 by_cases z0:c= "NoRecord"
 ·rw[if_pos z0]at ht
  cases ht;rw[z0,S.m_NoRecord]at hm;cases hm;refine⟨_,S.o_NoRecord,hin _,λe oe ev hc hd ol s σ H O Q I hH hf hσ hO q=>?_⟩
  exact ff (iu (fJ hN hv Fn_ S S.o_NoRecord hc hd hi hvv cr db gt ii im io (b0:=ZC) (b1:=ZD) (b2:=ZD) (b3:=ZD) (b4:=ZD) (b5:=ZD) (by simp) (by rw[decide_eq_false (ap 0 1 (by decide) rfl rfl)]) (by rw[decide_eq_false (ap 0 2 (by decide) rfl rfl)]) (by rw[decide_eq_false (ap 0 3 (by decide) rfl rfl)]) (by rw[decide_eq_false (ap 0 4 (by decide) rfl rfl)]) (by rw[decide_eq_false (ap 0 5 (by decide) rfl rfl)]) (by decide) (j:=0) rfl (λm hm=>by omega) hr (hg e oe) hde hce he hpl)) ol s σ H _ I ⟨hσ,hH,hf,λp H' sm hp h=>q _ _ sm (kx hO hp h)⟩
 rw[if_neg z0]at ht
 by_cases z1:c= "NoEvent"
 ·rw[if_pos z1]at ht
  cases ht;rw[z1,S.m_NoEvent]at hm;cases hm;refine⟨_,S.o_NoEvent,hin _,λe oe ev hc hd ol s σ H O Q I hH hf hσ hO q=>?_⟩
  exact ff (iu (fJ hN hv Fn_ S S.o_NoEvent hc hd hi hvv cr db gt ii im io (b0:=ZD) (b1:=ZC) (b2:=ZD) (b3:=ZD) (b4:=ZD) (b5:=ZD) (by rw[decide_eq_false (OZ (ap 0 1 (by decide) rfl rfl))]) (by simp) (by rw[decide_eq_false (ap 1 2 (by decide) rfl rfl)]) (by rw[decide_eq_false (ap 1 3 (by decide) rfl rfl)]) (by rw[decide_eq_false (ap 1 4 (by decide) rfl rfl)]) (by rw[decide_eq_false (ap 1 5 (by decide) rfl rfl)]) (by decide) (j:=1) rfl (λm hm=>by match m,hm with|0,_=>rfl) hr (hg e oe) hde hce he hpl)) ol s σ H _ I ⟨hσ,hH,hf,λp H' sm hp h=>q _ _ sm (kx hO hp h)⟩
 rw[if_neg z1]at ht
 by_cases z2:c= "NoNumber"
 ·rw[if_pos z2]at ht
  cases ht;rw[z2,S.m_NoNumber]at hm;cases hm;refine⟨_,S.o_NoNumber,hin _,λe oe ev hc hd ol s σ H O Q I hH hf hσ hO q=>?_⟩
  exact ff (iu (fJ hN hv Fn_ S S.o_NoNumber hc hd hi hvv cr db gt ii im io (b0:=ZD) (b1:=ZD) (b2:=ZC) (b3:=ZD) (b4:=ZD) (b5:=ZD) (by rw[decide_eq_false (OZ (ap 0 2 (by decide) rfl rfl))]) (by rw[decide_eq_false (OZ (ap 1 2 (by decide) rfl rfl))]) (by simp) (by rw[decide_eq_false (ap 2 3 (by decide) rfl rfl)]) (by rw[decide_eq_false (ap 2 4 (by decide) rfl rfl)]) (by rw[decide_eq_false (ap 2 5 (by decide) rfl rfl)]) (by decide) (j:=2) rfl (λm hm=>by match m,hm with|0,_=>rfl|1,_=>rfl) hr (hg e oe) hde hce he hpl)) ol s σ H _ I ⟨hσ,hH,hf,λp H' sm hp h=>q _ _ sm (kx hO hp h)⟩
 rw[if_neg z2]at ht
 by_cases z3:c= "NoWorld"
 ·rw[if_pos z3]at ht
  cases ht;rw[z3,S.m_NoWorld]at hm;cases hm;refine⟨_,S.o_NoWorld,hin _,λe oe ev hc hd ol s σ H O Q I hH hf hσ hO q=>?_⟩
  exact ff (iu (fJ hN hv Fn_ S S.o_NoWorld hc hd hi hvv cr db gt ii im io (b0:=ZD) (b1:=ZD) (b2:=ZD) (b3:=ZC) (b4:=ZD) (b5:=ZD) (by rw[decide_eq_false (OZ (ap 0 3 (by decide) rfl rfl))]) (by rw[decide_eq_false (OZ (ap 1 3 (by decide) rfl rfl))]) (by rw[decide_eq_false (OZ (ap 2 3 (by decide) rfl rfl))]) (by simp) (by rw[decide_eq_false (ap 3 4 (by decide) rfl rfl)]) (by rw[decide_eq_false (ap 3 5 (by decide) rfl rfl)]) (by decide) (j:=3) rfl (λm hm=>by match m,hm with|0,_=>rfl|1,_=>rfl|2,_=>rfl) hr (hg e oe) hde hce he hpl)) ol s σ H _ I ⟨hσ,hH,hf,λp H' sm hp h=>q _ _ sm (kx hO hp h)⟩
 rw[if_neg z3]at ht
 by_cases z4:c= "Barred"
 ·rw[if_pos z4]at ht
  cases ht;rw[z4,S.m_Barred]at hm;cases hm;refine⟨_,S.o_Barred,hin _,λe oe ev hc hd ol s σ H O Q I hH hf hσ hO q=>?_⟩
  exact ff (iu (fJ hN hv Fn_ S S.o_Barred hc hd hi hvv cr db gt ii im io (b0:=ZD) (b1:=ZD) (b2:=ZD) (b3:=ZD) (b4:=ZC) (b5:=ZD) (by rw[decide_eq_false (OZ (ap 0 4 (by decide) rfl rfl))]) (by rw[decide_eq_false (OZ (ap 1 4 (by decide) rfl rfl))]) (by rw[decide_eq_false (OZ (ap 2 4 (by decide) rfl rfl))]) (by rw[decide_eq_false (OZ (ap 3 4 (by decide) rfl rfl))]) (by simp) (by rw[decide_eq_false (ap 4 5 (by decide) rfl rfl)]) (by decide) (j:=4) rfl (λm hm=>by match m,hm with|0,_=>rfl|1,_=>rfl|2,_=>rfl|3,_=>rfl) hr (hg e oe) hde hce he hpl)) ol s σ H _ I ⟨hσ,hH,hf,λp H' sm hp h=>q _ _ sm (kx hO hp h)⟩
 rw[if_neg z4]at ht
 by_cases z5:c= "Nothing"
 ·rw[if_pos z5]at ht
  cases ht;rw[z5,S.m_Nothing]at hm;cases hm;refine⟨_,S.o_Nothing,hin _,λe oe ev hc hd ol s σ H O Q I hH hf hσ hO q=>?_⟩
  exact ff (iu (fJ hN hv Fn_ S S.o_Nothing hc hd hi hvv cr db gt ii im io (b0:=ZD) (b1:=ZD) (b2:=ZD) (b3:=ZD) (b4:=ZD) (b5:=ZC) (by rw[decide_eq_false (OZ (ap 0 5 (by decide) rfl rfl))]) (by rw[decide_eq_false (OZ (ap 1 5 (by decide) rfl rfl))]) (by rw[decide_eq_false (OZ (ap 2 5 (by decide) rfl rfl))]) (by rw[decide_eq_false (OZ (ap 3 5 (by decide) rfl rfl))]) (by rw[decide_eq_false (OZ (ap 4 5 (by decide) rfl rfl))]) (by simp) (by decide) (j:=5) rfl (λm hm=>by match m,hm with|0,_=>rfl|1,_=>rfl|2,_=>rfl|3,_=>rfl|4,_=>rfl) hr (hg e oe) hde hce he hpl)) ol s σ H _ I ⟨hσ,hH,hf,λp H' sm hp h=>q _ _ sm (kx hO hp h)⟩
 rw[if_neg z5]at ht;cases ht
end
end G
namespace G
open PySem Tr
abbrev evF:V4:=cj (o2 aP (vr 1) (ig (iR (ae (cl bP (ae (o2 aV (vr 3) (cn (.int 2))) ai)) ai)) [ZB,ZA 2] (gN 0) bT (aK (ae (vr 1) (ae (vr 0) ai))))) (gN 1)
def lh:V4:=
 (aD (cj (fz ai) (gN 1)) (aD (fH (iE (ae (vr 0) ai)) (gT 2 (eR (gN 2) (eR (gN 3) nI))) evF) (aR (vr 1))))
def bY:List T->Rs T:=val 1 4 lh
def ji:V4:=
 (aD (cj (cl iZ (ae (ig (iS (sl (o2 aV (vr 0) (cn (.int 0))) pN (pS (cn (.int 2))))) [ZB] (gN 0) bT (o2 aP (sl (vr 0) pN (pS (cn (.int 2)))) (aK (ae (sl (o2 aV (vr 0) (cn (.int 2))) pN (pS (cn (.int 2)))) ai)))) ai)) (gN 1)) (aD (cj (cl bY (ae (vr 1) ai)) (gN 2)) (aR (aK (ae (vr 1) (ae (cl iZ (ae (ig (iS (o2 aV (vr 0) (cn (.int 1)))) [ZB,ZA 2] (gN 0) (lI (tb (o2 AZ (o2 aV (vr 0) (cn (.int 0))) (vr 1))) (tb (o2 AZ (o2 aV (vr 0) (cn (.int 1))) (vr 1)))) (vr 0)) ai)) ai))))))
def gB:List T->Rs T:=val 1 3 ji
def sJ:V4:=
 (aR (dt (o1 (Gz "tuple") (vr 0)) (ch Bq Bq (vr 1) (cl bP (ae (vr 0) ai)) (vr 2))))
def aS:List T->Rs T:=val 3 3 sJ
def yW:V4:=
 (aR (dt (o1 (Gz "int") (vr 0)) (o1 Ga (o1 (Gz "bool") (vr 0)))))
def i8:List T->Rs T:=val 1 1 yW
def kh:V4:=
 (aR (dt (cl i8 (ae (vr 0) ai)) (ch Bq Bq (vr 1) (vr 0) (vr 2))))
def a8:List T->Rs T:=val 3 3 kh
def ni:V4:=
 (aR (dt (cl a8 (ae (vr 0) (ae (cn (.int 1)) (ae (cn (.int 9)) ai)))) (cl a8 (ae (vr 1) (ae (vr 0) (ae (cn (.int 9)) ai))))))
def gE:List T->Rs T:=val 2 2 ni
def Ai:V4:=
 (aR (cl rj (ae (ig (iR (ae (o2 cZ (cl bP (ae (vr 0) ai)) (cn (.int 1))) ai)) [ZB,ZA 0] (gN 0) bT (o2 pP (o2 aV (vr 1) (vr 0)) (o2 aV (vr 1) (o2 aP (vr 0) (cn (.int 1)))))) ai)))
def kC:List T->Rs T:=val 1 1 Ai
def fx:V4:=
 (aD (eZ (cH (tb (cl aS (ae (vr 0) (ae (cn (.int 1)) (ae (cn (.int 4)) ai)))))) (aR (cn (.bl ZD))) sN) (aR (dt (cl rj (ae (ig (iS (vr 0)) [ZB] (gN 0) bT (cl a8 (ae (vr 0) (ae (cn (.int 0)) (ae (cn (.int 99)) ai))))) ai)) (cl kC (ae (vr 0) ai)))))
def b8:List T->Rs T:=val 1 1 fx
def jf:V4:=
 (aR (dt (cl aS (ae (vr 0) (ae (cn (.int 3)) (ae (cn (.int 3)) ai)))) (dt (cl gE (ae (o2 aV (vr 0) (cn (.int 0))) (ae (o2 aV (vr 0) (cn (.int 1))) ai))) (cl b8 (ae (o2 aV (vr 0) (cn (.int 2))) ai)))))
def dJ:List T->Rs T:=val 1 1 jf
def jg:V4:=
 (aR (dt (cl aS (ae (vr 0) (ae (cn (.int 1)) (ae (cn (.int 4)) ai)))) (cl rj (ae (ig (iS (vr 0)) [ZB] (gN 0) bT (cl dJ (ae (vr 0) ai))) ai))))
def dZ:List T->Rs T:=val 1 1 jg
def jd:V4:=
 (aD (eZ (nR (cH (tb (cl aS (ae (vr 1) (ae (cn (.int 2)) (ae (cn (.int 2)) ai)))))) (cH (tb (cl a8 (ae (o2 aV (vr 1) (cn (.int 0))) (ae (cn (.int 0)) (ae (o2 cZ (cl bP (ae (vr 0) ai)) (cn (.int 1))) ai))))))) (aR (cn (.bl ZD))) sN) (aR (cl a8 (ae (o2 aV (vr 1) (cn (.int 1))) (ae (cn (.int 0)) (ae (o2 cZ (cl bP (ae (o2 aV (o2 aV (vr 0) (o2 aV (vr 1) (cn (.int 0)))) (cn (.int 2))) ai)) (cn (.int 1))) ai))))))
def dI:List T->Rs T:=val 2 2 jd
def je:V4:=
 (aR (dt (cl a8 (ae (vr 0) (ae (cn (.int 0)) (ae (cn (.int 999)) ai)))) (EJ (o2 jX (vr 1) (cn .non)) (cl a8 (ae (vr 1) (ae (vr 0) (ae (cn (.int 999)) ai)))))))
def eI:List T->Rs T:=val 2 2 je
def eQ:V4:=
 (aD (eZ (nR (cH (tb (cl aS (ae (vr 1) (ae (cn (.int 4)) (ae (cn (.int 4)) ai)))))) (cH (tb (cl eI (ae (o2 aV (vr 1) (cn (.int 2))) (ae (o2 aV (vr 1) (cn (.int 3))) ai)))))) (aR (cn (.bl ZD))) sN) (aR (dt (cl dI (ae (vr 0) (ae (o2 aV (vr 1) (cn (.int 0))) ai))) (dt (cl dI (ae (vr 0) (ae (o2 aV (vr 1) (cn (.int 1))) ai))) (o2 pM (o2 aV (vr 1) (cn (.int 0))) (o2 aV (vr 1) (cn (.int 1))))))))
def cp:List T->Rs T:=val 2 2 eQ
def iF:V4:=
 (aR (dt (cl aS (ae (vr 1) (ae (cn (.int 0)) (ae (cn (.int 8)) ai)))) (cl rj (ae (ig (iS (vr 1)) [ZB,ZA 0] (gN 0) bT (cl cp (ae (vr 1) (ae (vr 0) ai)))) ai))))
def dA:List T->Rs T:=val 2 2 iF
def il:V4:=
 (aR (dt (cl aS (ae (vr 0) (ae (cn (.int 2)) (ae (cn (.int 2)) ai)))) (dt (cl dZ (ae (o2 aV (vr 0) (cn (.int 0))) ai)) (cl dA (ae (o2 aV (vr 0) (cn (.int 0))) (ae (o2 aV (vr 0) (cn (.int 1))) ai))))))
def bH:List T->Rs T:=val 1 1 il
def ee:V4:=
 (eZ (cH (tb (cl bH (ae (vr 0) ai)))) (xW "NoRecord") sN)
def aY:List T->Rs T:=val 1 1 ee
abbrev peF:V4:=o8 1 (ig (iR (ae (cl bP (ae (o2 aV (vr 3) (cn (.int 2))) ai)) ai)) [ZB,ZA 2] (gN 0) bT (aK (ae (vr 1) (ae (vr 0) ai))))
def qE:V4:=
 (aD (xV (cl aY (ae (vr 0) ai))) (aD (jI 1 ai) (aD (fH (iE (ae (o2 aV (vr 0) (cn (.int 0))) ai)) (gT 2 (eR (gN 2) (eR (gN 3) nI))) peF) (nP 1 (aR (vr 1))))))
def jR:List T->Rs T:=val 1 4 qE
def kj:V4:=
 (aD (cj (oD jv (vr 0) (o2 aV (vr 1) (cn (.int 1)))) (gN 3)) (aR (EJ (o2 jX (vr 3) (cn .non)) (o2 pP (o2 aP (o2 aV (vr 2) (cn (.int 0))) (o2 aV (vr 1) (cn (.int 2)))) (o2 aV (vr 3) (cn (.int 0)))))))
def dM:List T->Rs T:=val 3 4 kj
abbrev EI:V4:=(aD (cj (ln 2 (oD jv (vr 2) (o2 aV (vr 5) (cn (.int 0))))) (gN 6)) (aD (eZ (nR (tb (o2 jX (vr 6) (cn .non))) (cH (JA 2 (tb (cl dM (ae (vr 2) (ae (vr 5) (ae (vr 6) ai)))))))) Hj sN) (aD (cj (o2 aP (o2 aV (vr 6) (cn (.int 1))) (fz (ae (vr 4) ai))) (gN 7)) (aD (cj (ig (iS (vr 7)) [ZB,ZA 0] (gN 0) bT (o2 aV (o2 aV (vr 1) (vr 0)) (cn (.int 0)))) (gN 8)) (aD (eZ (tb (o2 AZ (o2 aV (vr 5) (cn (.int 1))) (vr 8))) (aR (aK (ae (cn .non) (ae (sl (vr 7) (pS (oL hZ (vr 8) (o2 aV (vr 5) (cn (.int 1))))) pN) ai)))) sN) (aD (Aw 2 (o2 aV (vr 5) (cn (.int 1))) (aK (ae (o2 aP (o2 aV (vr 6) (cn (.int 0))) (o2 aV (vr 5) (cn (.int 2)))) (ae (vr 7) ai)))) (cj (cn (.bl ZC)) (gN 3))))))))
def kg:V4:=
 (aD (rH 2 (ig (iS (vr 1)) [ZB] (gN 0) bT (aK (ae (vr 0) (ae (aK (ae (cn (.int 0)) (ae (fz ai) ai))) ai))))) (aD (cj (cn (.bl ZC)) (gN 3)) (aD (bZ (tb (vr 3)) (aD (cj (cn (.bl ZD)) (gN 3)) (fH (iE (ae (vr 0) ai)) (gT 2 (eR (gN 4) (eR (gN 5) nI))) EI)) FU) (nP 2 (aR (aK (ae (vr 2) (ae (cn .non) ai))))))))
def gR:List T->Rs T:=val 2 9 kg
def fL:V4:=
 (aD (cj (cl jR (ae (vr 0) ai)) (gN 2)) (aD (cj (o2 aV (cl gR (ae (vr 1) (ae (vr 2) ai))) (cn (.int 0))) (gN 3)) (aD (eZ (tb (o2 jX (vr 3) (cn .non))) (aR (cn .non)) sN) (aR (cl iZ (ae (ig (iS (vr 2)) [ZB,ZA 3] (gN 0) bT (o2 aV (o2 bJ (vr 1) (vr 0)) (cn (.int 0)))) ai))))))
def dY:List T->Rs T:=val 2 4 fL
abbrev bcF:V4:=(aD (cj (aK (ae (vr 0) (ae (vr 4) ai))) (gN 5)) (aD (cj (aK (ae (vr 0) (ae (o2 aP (vr 4) (cn (.int 1))) ai))) (gN 6)) (aD (cj (o2 cZ (o2 aV (vr 2) (o2 aP (vr 4) (cn (.int 1)))) (o2 aV (vr 2) (vr 4))) (gN 7)) (aD (jw 3 (aK (ae (vr 5) (ae (vr 6) (ae (o2 b6 (vr 7) (o2 aV (vr 1) (cn (.int 1)))) ai))))) (jw 3 (aK (ae (vr 6) (ae (vr 5) (ae (o2 b6 (o1 jP (vr 7)) (o2 aV (vr 1) (cn (.int 0)))) ai)))))))))
def fw:V4:=
 (aD (cj (o2 aV (vr 1) (cn (.int 2))) (gN 2)) (aD (jI 3 ai) (aD (fH (iR (ae (o2 cZ (cl bP (ae (vr 2) ai)) (cn (.int 1))) ai)) (gN 4) bcF) (nP 3 (aR (vr 3))))))
def cJ:List T->Rs T:=val 2 8 fw
def eJ:V4:=
 (aD (jI 1 (ae (aK (ae (o2 aV (vr 0) (cn (.int 1))) (ae (o2 aV (vr 0) (cn (.int 0))) (ae (o1 jP (o2 aV (vr 0) (cn (.int 2)))) ai)))) ai)) (aD (eZ (tb (o2 dw (o2 aV (vr 0) (cn (.int 3))) (cn .non))) (jw 1 (aK (ae (o2 aV (vr 0) (cn (.int 0))) (ae (o2 aV (vr 0) (cn (.int 1))) (ae (o2 aV (vr 0) (cn (.int 3))) ai))))) sN) (nP 1 (aR (vr 1)))))
def cx:List T->Rs T:=val 1 2 eJ
abbrev bdF:V4:=o8 1 (cl cJ (ae (vr 2) (ae (vr 3) ai)))
def qF:V4:=
 (aD (xV (cl aY (ae (vr 0) ai))) (aD (jI 1 ai) (aD (fH (iE (ae (o2 aV (vr 0) (cn (.int 0))) ai)) (gT 2 (eR (gN 2) (eR (gN 3) nI))) bdF) (aD (fH (iS (o2 aV (vr 0) (cn (.int 1)))) (gN 4) (o8 1 (cl cx (ae (vr 4) ai)))) (nP 1 (aR (vr 1)))))))
def iQ:List T->Rs T:=val 1 5 qF
def G8:V4:=
 (aR (cl dY (ae (vr 0) (ae (cl iQ (ae (vr 0) ai)) ai))))
def ml:List T->Rs T:=val 1 1 G8
def xq:V4:=
 (aR (o2 dw (cl ml (ae (vr 0) ai)) (cn .non)))
def b7:List T->Rs T:=val 1 1 xq
def ft:V4:=
 (eZ (cH (tb (cl b7 (ae (vr 0) ai)))) (xW "NoWorld") sN)
def cI:List T->Rs T:=val 1 1 ft
def gq:En->Rs Fx:=
 (nV (xy (xP (cl cI (ae (vr 1) ai)))) (AN 0 "Desk" "kept" (ae (vr 1) ai)))
def dy:List Sl->Rs (T×OT):=iJ 2 0 2 gq
def vd:En->Rs (T ⊕ OT):=
 (wA (k8 "Desk" dy (ae (vr 0) ai)) jb)
def bB:List T->Rs (T ⊕ OT):=xF 1 2 vd
abbrev KN:V4:=(eZ (lI (tb (o2 dw (ln 2 (o2 bJ (o2 bJ (vr 2) (vr 3)) (vr 6))) (cn .non))) (tb (o2 dw (ln 2 (o2 bJ (o2 bJ (vr 2) (vr 6)) (vr 4))) (cn .non)))) (aD (cj (o2 aP (ln 2 (o2 bJ (o2 bJ (vr 2) (vr 3)) (vr 6))) (ln 2 (o2 bJ (o2 bJ (vr 2) (vr 6)) (vr 4)))) (gN 7)) (eZ (nR (tb (o2 jX (ln 2 (o2 bJ (o2 bJ (vr 2) (vr 3)) (vr 4))) (cn .non))) (tb (o2 pP (vr 7) (ln 2 (o2 bJ (o2 bJ (vr 2) (vr 3)) (vr 4)))))) (jq 2 (vr 3) (vr 4) (vr 7)) sN)) sN)
def jh:V4:=
 (aD (o7 2 0) (aD (fH (iS (vr 0)) (gN 3) (jq 2 (vr 3) (vr 3) (cn (.int 0)))) (aD (fH (iS (vr 1)) (gT 3 (eR (gN 3) (eR (gN 4) (eR (gN 5) nI)))) (eZ (nR (tb (o2 jX (ln 2 (o2 bJ (o2 bJ (vr 2) (vr 3)) (vr 4))) (cn .non))) (tb (o2 pP (vr 5) (ln 2 (o2 bJ (o2 bJ (vr 2) (vr 3)) (vr 4)))))) (jq 2 (vr 3) (vr 4) (vr 5)) sN)) (aD (fH (iS (vr 0)) (gN 6) (fH (iS (vr 0)) (gN 3) (fH (iS (vr 0)) (gN 4) KN))) (nP 2 (aR (yD (tb (o2 kN (ig (iS (vr 0)) [ZB,ZA 2] (gN 0) (tb (o2 pP (o2 bJ (o2 bJ (vr 1) (vr 0)) (vr 0)) (cn (.int 0)))) (vr 0)) (fz ai))) (vr 2) (cn .non))))))))
def gA:List T->Rs T:=val 2 8 jh
abbrev lkF:V4:=(aD (cj (o2 cZ (o2 aV (vr 5) (vr 6)) (o2 aV (vr 5) (o2 cZ (vr 6) (cn (.int 1))))) (gN 7)) (aD (jw 1 (aK (ae (aK (ae (vr 2) (ae (o2 cZ (vr 6) (cn (.int 1))) ai))) (ae (aK (ae (vr 2) (ae (vr 6) ai))) (ae (o2 b6 (vr 4) (vr 7)) ai))))) (jw 1 (aK (ae (aK (ae (vr 2) (ae (vr 6) ai))) (ae (aK (ae (vr 2) (ae (o2 cZ (vr 6) (cn (.int 1))) ai))) (ae (o2 cZ (cn (.int 0)) (o2 b6 (vr 3) (vr 7))) ai)))))))
abbrev llF:V4:=(aD (jw 1 (aK (ae (vr 9) (ae (vr 8) (ae (o2 cZ (cn (.int 0)) (vr 10)) ai))))) (eZ (tb (o2 dw (vr 11) (cn .non))) (jw 1 (aK (ae (vr 8) (ae (vr 9) (ae (vr 11) ai))))) sN))
def iH:V4:=
 (aD (jI 1 ai) (aD (fH (iE (ae (o2 aV (vr 0) (cn (.int 0))) ai)) (gT 2 (eR (gN 2) (eR (gT 3 (eR (gN 3) (eR (gN 4) (eR (gN 5) nI)))) nI))) (fH (iR (ae (cn (.int 1)) (ae (cl bP (ae (vr 5) ai)) ai))) (gN 6) lkF)) (aD (fH (iS (o2 aV (vr 0) (cn (.int 1)))) (gT 4 (eR (gN 8) (eR (gN 9) (eR (gN 10) (eR (gN 11) nI))))) llF) (nP 1 (aR (vr 1))))))
def fQ:List T->Rs T:=val 1 12 iH
def yX:V4:=
 (aR (o2 dw (cl gA (ae (cl bY (ae (o2 aV (vr 0) (cn (.int 0))) ai)) (ae (cl fQ (ae (vr 0) ai)) ai))) (cn .non)))
def di:List T->Rs T:=val 1 1 yX
def rn:V4:=
 (aR (o2 aV (o1 (yH "Desk" "kept") (vr 0)) (o1 jP (cn (.int 1)))))
def aZ:List T->Rs T:=val 1 1 rn
def km:V4:=
 (aD (eZ (tb (o2 kN (vr 0) (fz ai))) (aR (o2 b6 (cn (.int 7)) (vr 1))) sN) (aR (o2 aP (o2 aV (vr 0) (o2 mj (vr 1) (cl bP (ae (vr 0) ai)))) (o2 b6 (cn (.int 6553)) (o2 mx (vr 1) (cl bP (ae (vr 0) ai)))))))
def fW:List T->Rs T:=val 2 2 km
def jk:V4:=
 (aD (cj (o2 mj (o2 aP (o2 b6 (o2 mj (cl fW (ae (vr 0) (ae (vr 1) ai))) (cn (.int 2147483563))) (cn (.int 69069))) (o2 b6 (cn (.int 104723)) (o2 aP (vr 1) (cn (.int 1))))) (cn (.int 2147483563))) (gN 3)) (aD (cj (o2 mj (o2 aP (o2 b6 (vr 3) (vr 3)) (o2 mx (vr 3) (cn (.int 3)))) (cn (.int 2147483399))) (gN 3)) (aR (o2 mj (o2 mx (o2 mj (o2 aP (o2 b6 (vr 3) (vr 3)) (o2 mx (vr 3) (cn (.int 7)))) (cn (.int 2147483647))) (cn (.int 11))) (vr 2)))))
def aF:List T->Rs T:=val 3 4 jk
def eh:V4:=
 (aD (cj (cl bY (ae (vr 2) ai)) (gN 3)) (aD (eZ (tb (o2 pP (cl bP (ae (vr 3) ai)) (cn (.int 2)))) (aR (cn .non)) sN) (aD (cj (cl aF (ae (vr 0) (ae (vr 1) (ae (cl bP (ae (vr 3) ai)) ai)))) (gN 4)) (aD (cj (o2 mj (o2 aP (o2 aP (vr 4) (cn (.int 1))) (cl aF (ae (vr 0) (ae (o2 aP (vr 1) (cn (.int 1))) (ae (o2 cZ (cl bP (ae (vr 3) ai)) (cn (.int 1))) ai))))) (cl bP (ae (vr 3) ai))) (gN 5)) (aD (cj (cl aF (ae (vr 0) (ae (o2 aP (vr 1) (cn (.int 2))) (ae (cn (.int 8)) ai)))) (gN 6)) (aD (cj (yD (tb (o2 kN (cl aF (ae (vr 0) (ae (o2 aP (vr 1) (cn (.int 3))) (ae (cn (.int 3)) ai)))) (cn (.int 0)))) (cn .non) (o2 aP (vr 6) (cl aF (ae (vr 0) (ae (o2 aP (vr 1) (cn (.int 4))) (ae (cn (.int 9)) ai)))))) (gN 7)) (aR (aK (ae (o2 aV (vr 3) (vr 4)) (ae (o2 aV (vr 3) (vr 5)) (ae (vr 6) (ae (vr 7) ai))))))))))))
def bM:List T->Rs T:=val 3 8 eh
abbrev clF:V4:=cj (o2 aP (vr 3) (aK (ae (o2 aP (o2 aP (o2 aV (vr 3) (o1 jP (cn (.int 1)))) (cn (.int 1))) (cl aF (ae (vr 0) (ae (o2 aP (o2 aP (vr 1) (cn (.int 3))) (vr 4)) (ae (cn (.int 5)) ai))))) ai))) (gN 3)
def jl:V4:=
 (aD (cj (o2 aP (cn (.int 1)) (cl aF (ae (vr 0) (ae (vr 1) (ae (cn (.int 3)) ai))))) (gN 2)) (aD (cj (aK (ae (cl aF (ae (vr 0) (ae (o2 aP (vr 1) (cn (.int 2))) (ae (cn (.int 6)) ai)))) ai)) (gN 3)) (aD (fH (iR (ae (cl aF (ae (vr 0) (ae (o2 aP (vr 1) (cn (.int 1))) (ae (cn (.int 3)) ai)))) ai)) (gN 4) clF) (aR (aK (ae (vr 2) (ae (o2 aP (vr 2) (cl aF (ae (vr 0) (ae (o2 aP (vr 1) (cn (.int 6))) (ae (cn (.int 3)) ai))))) (ae (vr 3) ai))))))))
def cK:List T->Rs T:=val 2 5 jl
abbrev leF:V4:=aD (cj (cl bM (ae (vr 0) (ae (o2 aP (o2 aP (vr 1) (cn (.int 31))) (o2 b6 (cn (.int 6)) (vr 5))) (ae (vr 3) ai)))) (gN 6)) (cj (o2 aP (vr 4) (o2 b6 (fz (ae (vr 6) ai)) (cl wU (ae (o2 dw (vr 6) (cn .non)) ai)))) (gN 4))
def iG:V4:=
 (aD (cj (cl iZ (ae (ig (iR (ae (o2 aP (cn (.int 1)) (cl aF (ae (vr 0) (ae (vr 1) (ae (cn (.int 3)) ai))))) ai)) [ZB,ZA 0,ZA 1] (gN 0) bT (cl cK (ae (vr 1) (ae (o2 aP (o2 aP (vr 2) (cn (.int 1))) (o2 b6 (cn (.int 8)) (vr 0))) ai)))) ai)) (gN 3)) (aD (cj (fz ai) (gN 4)) (aD (fH (iR (ae (cl aF (ae (vr 0) (ae (o2 aP (vr 1) (cn (.int 30))) (ae (o2 aP (vr 2) (cn (.int 1))) ai)))) ai)) (gN 5) leF) (aR (aK (ae (vr 3) (ae (cl iZ (ae (vr 4) ai)) ai)))))))
def fP:List T->Rs T:=val 3 7 iG
abbrev X2:V4:=(eZ (tb (o2 kN (vr 1) (cn (.int 0)))) (aD (cj (aK (ae (vr 3) (ae (o2 aP (vr 4) (aK (ae (vr 5) ai))) ai))) (gN 8)) (aR (yD (tb (cl bH (ae (vr 8) ai))) (aK (ae (vr 8) (ae (cl bP (ae (vr 4) ai)) ai))) (aK (ae (cn .non) (ae (aK (ae (cn (.str "refused")) (ae (cn (.int 0)) ai))) ai)))))) sN)
abbrev X3:V4:=(eZ (tb (o2 kN (vr 1) (cn (.int 2)))) (aD (eZ (cH (tb (ch Bq pP (cn (.int 0)) (vr 6) (cl bP (ae (vr 4) ai))))) (aR (aK (ae (cn .non) (ae (aK (ae (cn (.str "refused")) (ae (cn (.int 2)) ai))) ai)))) sN) (aR (aK (ae (aK (ae (vr 3) (ae (o2 aP (sl (vr 4) pN (pS (vr 6))) (sl (vr 4) (pS (o2 aP (vr 6) (cn (.int 1)))) pN)) ai))) (ae (cn .non) ai))))) sN)
abbrev X4:V4:=(eZ (cH (tb (ch Bq pP (cn (.int 0)) (vr 6) (cl bP (ae (vr 3) ai))))) (aR (aK (ae (cn .non) (ae (aK (ae (cn (.str "refused")) (ae (cn (.int 2)) ai))) ai)))) sN)
abbrev X5:V4:=(cj (o2 aV (vr 3) (vr 6)) (gT 3 (eR (gN 9) (eR (gN 10) (eR (gN 11) nI)))))
abbrev X6:V4:=(cj (aK (ae (o2 aP (o2 aP (sl (vr 3) pN (pS (vr 6))) (aK (ae (aK (ae (vr 9) (ae (vr 10) (ae (o2 aP (vr 11) (aK (ae (vr 7) ai))) ai)))) ai))) (sl (vr 3) (pS (o2 aP (vr 6) (cn (.int 1)))) pN)) (ae (vr 4) ai))) (gN 8))
abbrev X7:V4:=(aR (yD (tb (cl bH (ae (vr 8) ai))) (aK (ae (vr 8) (ae (aK (ae (vr 6) (ae (cl bP (ae (vr 11) ai)) ai))) ai))) (aK (ae (cn .non) (ae (aK (ae (cn (.str "refused")) (ae (cn (.int 0)) ai))) ai)))))
def kl:V4:=
 (aD (cj (vr 0) (gT 2 (eR (gN 3) (eR (gN 4) nI)))) (aD (cj (vr 2) (gT 3 (eR (gN 5) (eR (gN 6) (eR (gN 7) nI))))) (aD X2 (aD X3 (aD X4 (aD X5 (aD X6 X7)))))))
def cq:List T->Rs T:=val 3 12 kl
def xu:V4:=
 (aR (o2 cZ (cl bP (ae (o1 (yH "Desk" "kept") (vr 0)) ai)) (cn (.int 1))))
def de:List T->Rs T:=val 1 1 xu
def gf:En->Rs Fx:=
 (nV (Jy (cH (tb (cl b7 (ae (vr 1) ai)))) (Gg "Barred") mN) (xy (Ao 0 "Desk" "kept" (vr 1))))
def bR:List Sl->Rs (T×OT):=iJ 2 0 2 gf
def fZ:V4:=
 (aD (xV (cl aY (ae (vr 0) ai))) (aR (vr 0)))
def c9:List T->Rs T:=val 1 1 fZ
def iD:V4:=
 (aD (xV (cl aY (ae (vr 0) ai))) (aR (cl c9 (ae (aK (ae (o2 aV (vr 0) (cn (.int 0))) (ae (o2 aP (o2 aV (vr 0) (cn (.int 1))) (aK (ae (vr 1) ai))) ai))) ai))))
def dz:List T->Rs T:=val 2 2 iD
def gd:En->Rs Fx:=
 (nV (xy (c8 0 "Desk" "keep" bR (ae (cl dz (ae (ln 0 (wB "Desk" "record" aZ (vr 0) ai)) (ae (vr 1) ai))) ai))) (lA (xP (o2 cZ (cl bP (ae (o2 aV (ln 0 (wB "Desk" "record" aZ (vr 0) ai)) (cn (.int 1))) ai)) (cn (.int 1))))))
def eO:List Sl->Rs (T×OT):=iJ 2 0 2 gd
def ef:V4:=
 (eZ (cH (tb (cl a8 (ae (vr 1) (ae (cn (.int 0)) (ae (o2 cZ (vr 0) (cn (.int 1))) ai)))))) (xW "NoNumber") sN)
def cR:List T->Rs T:=val 2 2 ef
def jc:V4:=
 (aD (cj (o2 aV (vr 0) (cn (.int 0))) (gN 3)) (aR (cl c9 (ae (aK (ae (o2 aP (o2 aP (sl (vr 3) pN (pS (vr 1))) (aK (ae (vr 2) ai))) (sl (vr 3) (pS (o2 aP (vr 1) (cn (.int 1)))) pN)) (ae (o2 aV (vr 0) (cn (.int 1))) ai))) ai))))
def gz:List T->Rs T:=val 3 4 jc
def dW:V4:=
 (aD (xV (cl aY (ae (vr 0) ai))) (aD (xV (cl cR (ae (cl bP (ae (o2 aV (vr 0) (cn (.int 0))) ai)) (ae (vr 1) ai)))) (aD (cj (o2 aV (o2 aV (vr 0) (cn (.int 0))) (vr 1)) (gN 3)) (aR (cl gz (ae (vr 0) (ae (vr 1) (ae (aK (ae (o2 aV (vr 3) (cn (.int 0))) (ae (o2 aV (vr 3) (cn (.int 1))) (ae (o2 aP (o2 aV (vr 3) (cn (.int 2))) (aK (ae (vr 2) ai))) ai)))) ai))))))))
def cW:List T->Rs T:=val 3 4 dW
def kn:En->Rs Fx:=
 (nV (xy (c8 0 "Desk" "keep" bR (ae (cl cW (ae (ln 0 (wB "Desk" "record" aZ (vr 0) ai)) (ae (vr 1) (ae (vr 2) ai)))) ai))) (lA (xP (aK (ae (vr 1) (ae (o2 cZ (cl bP (ae (o2 aV (o2 aV (o2 aV (ln 0 (wB "Desk" "record" aZ (vr 0) ai)) (cn (.int 0))) (vr 1)) (cn (.int 2))) ai)) (cn (.int 1))) ai))))))
def dN:List Sl->Rs (T×OT):=iJ 3 0 3 kn
def cY:V4:=
 (aD (xV (cl aY (ae (vr 0) ai))) (aD (cj (o2 aV (vr 0) (cn (.int 1))) (gN 2)) (aD (xV (cl cR (ae (cl bP (ae (vr 2) ai)) (ae (vr 1) ai)))) (aR (aK (ae (o2 aV (vr 0) (cn (.int 0))) (ae (o2 aP (sl (vr 2) pN (pS (vr 1))) (sl (vr 2) (pS (o2 aP (vr 1) (cn (.int 1)))) pN)) ai)))))))
def cv:List T->Rs T:=val 2 3 cY
def xv:En->Rs Fx:=
 (xy (c8 0 "Desk" "keep" bR (ae (cl cv (ae (ln 0 (wB "Desk" "record" aZ (vr 0) ai)) (ae (vr 1) ai))) ai)))
def dO:List Sl->Rs (T×OT):=iJ 2 0 2 xv
def gc:En->Rs Fx:=
 (nV (Jy (tb (o2 kN (ln 0 (wB "Desk" "many" de (vr 0) ai)) (cn (.int 0)))) (Gg "Nothing") mN) (xy (An 0 "Desk" "kept")))
def da:List Sl->Rs (T×OT):=iJ 1 0 1 gc
abbrev tdB:En->Rs Fx:=pO (tb (o2 kN (vr 1) (cn (.int 0)))) (lA (c8 0 "Desk" "take" eO (ae (o2 aV (vr 2) (cn (.int 0))) ai))) (pO (tb (o2 kN (vr 1) (cn (.int 1)))) (lA (c8 0 "Desk" "read" dN (ae (o2 aV (vr 2) (cn (.int 1))) (ae (o2 aV (vr 2) (cn (.int 2))) ai)))) (lA (E5 (tb (o2 kN (vr 1) (cn (.int 2)))) (c8 0 "Desk" "drop" dO (ae (o2 aV (vr 2) (cn (.int 1))) ai)) (c8 0 "Desk" "undo" da ai))))
def xt:En->Rs Fx:=
 (wI tdB jb)
def bz:List Sl->Rs (T×OT):=iJ 3 0 4 xt
abbrev B0:V4:=(cj (o2 aP (cn (.int 80)) (o2 b6 (cn (.int 12)) (vr 4))) (gN 5))
abbrev B1:V4:=(cj (o2 aV (vr 3) (o1 jP (cn (.int 1)))) (gN 6))
abbrev B2:V4:=(cj (o2 aV (fz (ae (cn (.int 0)) (ae (cn (.int 0)) (ae (cn (.int 0)) (ae (cn (.int 1)) (ae (cn (.int 2)) (ae (cn (.int 3)) ai))))))) (cl aF (ae (vr 0) (ae (vr 5) (ae (cn (.int 6)) ai))))) (gN 7))
abbrev B3:V4:=(cj (cl bM (ae (vr 0) (ae (o2 aP (vr 5) (cn (.int 4))) (ae (o2 aV (vr 6) (cn (.int 0))) ai)))) (gN 8))
abbrev B4:V4:=(cj (o2 aV (o2 aV (o2 aV (vr 6) (cn (.int 0))) (cn (.int 0))) (cn (.int 2))) (gN 9))
abbrev B5:V4:=(cj (aK (ae (vr 8) (ae (o2 cZ (cl aF (ae (vr 0) (ae (o2 aP (vr 5) (cn (.int 1))) (ae (cn (.int 4)) ai)))) (cn (.int 1))) (ae (o2 cZ (o2 aP (o2 aV (vr 9) (o1 jP (cn (.int 1)))) (cl aF (ae (vr 0) (ae (o2 aP (vr 5) (cn (.int 2))) (ae (cn (.int 9)) ai))))) (cn (.int 1))) ai)))) (gN 10))
abbrev B6:V4:=(eZ (tb (o2 kN (vr 7) (cn (.int 3)))) (aD (cj (yD (tb (o2 kN (cl bP (ae (vr 3) ai)) (cn (.int 1)))) (aK (ae (cn (.str "refused")) (ae (cn (.int 5)) ai))) (cn .non)) (gN 11)) (cj (sl (vr 3) pN (pS (cl rg (ae (cn (.int 1)) (ae (o2 cZ (cl bP (ae (vr 3) ai)) (cn (.int 1))) ai))))) (gN 3))) (aD (cj (cl cq (ae (vr 6) (ae (vr 7) (ae (vr 10) ai)))) (gT 2 (eR (gN 12) (eR (gN 11) nI)))) (aD (eZ (lI (tb (o2 dw (vr 12) (cn .non))) (cH (tb (cl di (ae (vr 12) ai))))) (cj (aK (ae (cn .non) (ae (aK (ae (cn (.str "refused")) (ae (cn (.int 4)) ai))) ai))) (gT 2 (eR (gN 12) (eR (gN 11) nI)))) sN) (cj (o2 aP (vr 3) (o2 b6 (fz (ae (vr 12) ai)) (cl wU (ae (o2 dw (vr 12) (cn .non)) ai)))) (gN 3)))))
abbrev B7:V4:=(xU (sR (HV (EZ pM (xC 2 bz (ae (vr 7) (ae (vr 10) ai))) (vr 11))) (sR (EX (tb (o2 pM (ln 2 (wB "Desk" "record" aZ (vr 2) ai)) (o2 aV (vr 3) (o1 jP (cn (.int 1))))))) (EX (tb (o2 pM (ln 2 (wB "Desk" "many" de (vr 2) ai)) (o2 cZ (cl bP (ae (vr 3) ai)) (cn (.int 1)))))))) (aR (cn (.bl ZD))) sN)
def EG:V4:=
 (aD (cj (cl gB (ae (cl fP (ae (vr 0) (ae (cn (.int 0)) (ae (cn (.int 2)) ai)))) ai)) (gN 1)) (aD (jJ 2 bB (ae (vr 1) ai)) (aD (eZ (cH (tb (cl di (ae (vr 1) ai)))) (aR (ln 2 (o2 kN (vr 2) (aK (ae (cn (.str "refused")) (ae (cn (.int 3)) ai)))))) sN) (aD (eZ (nR (tb (o2 pM (cl (iw bB) (ae (sl (vr 1) pN (pS (cn (.int 1)))) ai)) (aK (ae (cn (.str "refused")) (ae (cn (.int 0)) ai))))) (tb (o2 pM (cl (iw bB) (ae (aK (ae (o2 aV (vr 1) (cn (.int 0))) (ae (cn .non) ai))) ai)) (aK (ae (cn (.str "refused")) (ae (cn (.int 0)) ai)))))) (aR (cn (.bl ZD))) sN) (aD (cj (fz (ae (vr 1) ai)) (gN 3)) (aD (fH (iR (ae (cl rg (ae (cn (.int 1)) (ae (cl C3 (ae (cn (.int 10)) (ae (cl bP (ae (vr 0) ai)) ai))) ai))) ai)) (gN 4) (aD B0 (aD B1 (aD B2 (aD B3 (aD B4 (aD B5 (aD B6 B7)))))))) (aR (cl di (ae (ln 2 (wB "Desk" "record" aZ (vr 2) ai)) ai)))))))))
def m_law:List T->Rs T:=val 1 13 EG
end G
namespace G
open PySem PySem.Spec PyProof.Rows L2 Tr
variable{bv ci al bi ac bn ca f_r:ZE}{mg:V0}
section
variable (P:N8)(w:OV)(base:ZH)
abbrev gP:ZF:=top 56
abbrev jO:List Str:=["_law_clocks","_law_found","_law_number","_law_clock_here"]
theorem aah:aA jO ["_law_clocks"] (aj gP):=gg
theorem pA(F:g9 K mg "_law_events" gP ["_law_clocks"])(B:Bl mg):Cl P w K mg base 1 "_law_events" 1 bY:=
 bK F aah rfl λf c A o s H E hr x=>(by(apply au;exact(aJ (ip ah) (ar 1 aah.nd));apply au;exact(cC rfl (jA B.b_enumerate (ag (af 0) ah)) (dX rfl (aO (ar 2 aah.nd) (aO (ar 3 aah.nd) cU))) (aw (aJ (ax aN (af 1) (jm (N':=["_law_place","_law_number"]) (src:=[ZB,ZA 2]) rfl (LcScope.by (N:=jO) (names:=(aj gP).names) rfl rfl rfl (by decide+kernel)) (dF B.b_range (ag (cf bX B.b_len Pg (ag (aH (af 3) ao) ah)) ah)) (λ_ _ _ _ _=>⟨(ar 0 (show Ph (["_law_place","_law_number"]:List Str)by decide+kernel)),dE,(aM (ag (af 1) (ag (af 0) ah)))⟩))) (ar 1 aah.nd))));exact aw (aI (af 1))))
abbrev fN:ZF:=top 58
abbrev iz:List Str:=["_law_record_here","_law_clocks","_law_row"]
theorem aaw:aA iz ["_law_record_here"] (aj fN):=gg
theorem qS(F:g9 K mg "_law_small" fN ["_law_record_here"])(aa8:Cl P w K mg base 1 "_law_events" 1 bY)(B:Bl mg):Cl P w K mg base 2 "_law_small" 1 gB:=
 bK F aaw rfl λf c A o s H E hr x=>(by(apply au;exact(aJ (oM ke B.b_tuple dB (ag (jm (N':=["_law_clock_here"]) (src:=[ZB]) rfl (LcScope.by (N:=iz) (names:=(aj fN).names) rfl rfl rfl (by decide+kernel)) (cz (cG (aH (af 0) ao) cF (cE ao))) (λ_ _ _ _ _=>⟨(ar 0 (show Ph (["_law_clock_here"]:List Str)by decide+kernel)),dE,(ax aN (cG (af 0) cF (cE ao)) (aM (ag (cG (aH (af 0) ao) cF (cE ao)) ah)))⟩)) ah)) (ar 1 aaw.nd));apply au;exact(aJ (a6 aa8 hr (ag (af 1) ah)) (ar 2 aaw.nd));exact aw (aI (aM (ag (af 1) (ag (oM ke B.b_tuple dB (ag (jm (N':=["_law_letter_here","_law_row"]) (src:=[ZB,ZA 2]) rfl (LcScope.by (N:=iz) (names:=(aj fN).names) rfl rfl rfl (by decide+kernel)) (cz (aH (af 0) ao)) (λ_ _ _ _ _=>⟨(ar 0 (show Ph (["_law_letter_here","_law_row"]:List Str)by decide+kernel)),(vf (lK (sO (bc (CM (GA hr)) (aH (af 0) ao) (af 1)) (oJ (bc (CM (GA hr)) (aH (af 0) ao) (af 1)))))),(af 0)⟩)) ah)) ah))))))
abbrev oV:ZF:=top 17
abbrev yg:List Str:=["thing","least","most"]
theorem xT:aA yg ["thing","least","most"] (aj oV):=gg
theorem yc(F:g9 K mg "is_long" oV ["thing","least","most"])(B:Bl mg):Cl P w K mg base 1 "is_long" 3 aS:=
 bK F xT rfl λf c A o s H E hr x=>(aw (aI (eV (By B.b_isinstance B.b_tuple dB (af 0)) (fF (vi rN rN (af 1) (cf bX B.b_len Pg (ag (af 0) ah)) (af 2))))))
abbrev nu:ZF:=top 15
abbrev wj:List Str:=["thing"]
theorem vG:aA wj ["thing"] (aj nu):=gg
theorem v7(F:g9 K mg "is_whole" nu ["thing"])(B:Bl mg):Cl P w K mg base 1 "is_whole" 1 i8:=
 bK F vG rfl λf c A o s H E hr x=>(aw (aI (eV (By B.b_isinstance B.b_int kf (af 0)) (fF (HN (By B.b_isinstance B.b_bool u5 (af 0)))))))
abbrev lO:ZF:=top 16
abbrev uu:List Str:=["thing","least","most"]
theorem tf:aA uu ["thing","least","most"] (aj lO):=gg
theorem tZ(F:g9 K mg "is_within" lO ["thing","least","most"])(aaS:Cl P w K mg base 1 "is_whole" 1 i8):Cl P w K mg base 2 "is_within" 3 a8:=
 bK F tf rfl λf c A o s H E hr x=>(aw (aI (eV (a6 aaS hr (ag (af 0) ah)) (fF (vi rN rN (af 1) (af 0) (af 2))))))
abbrev oU:ZF:=top 20
abbrev yf:List Str:=["slow","fast"]
theorem xS:aA yf ["slow","fast"] (aj oU):=gg
theorem yb(F:g9 K mg "is_pace" oU ["slow","fast"])(aa2:Cl P w K mg base 2 "is_within" 3 a8)(C:Cs mg):Cl P w K mg base 3 "is_pace" 2 gE:=
 bK F xS rfl λf c A o s H E hr x=>(aw (aI (eV (a6 aa2 hr (ag (af 0) (ag ao (ag (vg C.SLOWEST) ah)))) (fF (a6 aa2 hr (ag (af 1) (ag (af 0) (ag (vg C.SLOWEST) ah))))))))
abbrev oS:ZF:=top 18
abbrev wg:List Str:=["numbers"]
theorem BY:aA wg ["numbers"] (aj oS):=gg
theorem CS(F:g9 K mg "rises" oS ["numbers"])(B:Bl mg):Cl P w K mg base 1 "rises" 1 kC:=
 bK F BY rfl λf c A o s H E hr x=>(aw (aI (cf (uY rfl) B.b_all boot_all (ag (jm (N':=["k","numbers"]) (src:=[ZB,ZA 0]) rfl (LcScope.by (N:=wg) (names:=(aj oS).names) rfl rfl rfl (by decide+kernel)) (dF B.b_range (ag (ax cV (cf bX B.b_len Pg (ag (af 0) ah)) ao) ah)) (λ_ _ _ _ _=>⟨(ar 0 (show Ph (["k","numbers"]:List Str)by decide+kernel)),dE,(iq nE (aH (af 1) (af 0)) (aH (af 1) (ax aN (af 0) ao)))⟩)) ah))))
abbrev gi:ZF:=top 19
abbrev jt:List Str:=["thing"]
theorem nN:aA jt ["thing"] (aj gi):=gg
theorem nT(F:g9 K mg "are_readings" gi ["thing"])(aa3:Cl P w K mg base 1 "is_long" 3 aS)(ab3:Cl P w K mg base 1 "rises" 1 kC)(aa2:Cl P w K mg base 2 "is_within" 3 a8)(B:Bl mg)(C:Cs mg):Cl P w K mg base 3 "are_readings" 1 b8:=
 bK F nN rfl λf c A o s H E hr x=>(au (ck (dC (df (a6 aa3 hr (ag (af 0) (ag ao (ag (vg C.MOST_READINGS) ah)))))) (aw (aI nr)) bL) (aw (aI (eV (cf (uY rfl) B.b_all boot_all (ag (jm (N':=["part"]) (src:=[ZB]) rfl (LcScope.by (N:=jt) (names:=(aj gi).names) rfl rfl rfl (by decide+kernel)) (cz (af 0)) (λ_ _ _ _ _=>⟨(ar 0 (show Ph (["part"]:List Str)by decide+kernel)),dE,(a6 aa2 hr (ag (af 0) (ag ao (ag (vg C.LAST_READING) ah))))⟩)) ah)) (fF (a6 ab3 hr (ag (af 0) ah)))))))
abbrev nA:ZF:=top 21
abbrev wq:List Str:=["thing"]
theorem vJ:aA wq ["thing"] (aj nA):=gg
theorem wa(F:g9 K mg "is_clock" nA ["thing"])(aa3:Cl P w K mg base 1 "is_long" 3 aS)(aaX:Cl P w K mg base 3 "is_pace" 2 gE)(aat:Cl P w K mg base 3 "are_readings" 1 b8):Cl P w K mg base 4 "is_clock" 1 dJ:=
 bK F vJ rfl λf c A o s H E hr x=>(aw (aI (eV (a6 aa3 hr (ag (af 0) (ag ao (ag ao ah)))) (eV (a6 aaX hr (ag (aH (af 0) ao) (ag (aH (af 0) ao) ah))) (fF (a6 aat hr (ag (aH (af 0) ao) ah)))))))
abbrev ir:ZF:=top 22
abbrev kZ:List Str:=["thing"]
theorem qJ:aA kZ ["thing"] (aj ir):=gg
theorem qQ(F:g9 K mg "are_clocks" ir ["thing"])(aa3:Cl P w K mg base 1 "is_long" 3 aS)(aaT:Cl P w K mg base 4 "is_clock" 1 dJ)(B:Bl mg)(C:Cs mg):Cl P w K mg base 5 "are_clocks" 1 dZ:=
 bK F qJ rfl λf c A o s H E hr x=>(aw (aI (eV (a6 aa3 hr (ag (af 0) (ag ao (ag (vg C.MOST_CLOCKS) ah)))) (fF (cf (uY rfl) B.b_all boot_all (ag (jm (N':=["part"]) (src:=[ZB]) rfl (LcScope.by (N:=kZ) (names:=(aj ir).names) rfl rfl rfl (by decide+kernel)) (cz (af 0)) (λ_ _ _ _ _=>⟨(ar 0 (show Ph (["part"]:List Str)by decide+kernel)),dE,(a6 aaT hr (ag (af 0) ah))⟩)) ah))))))
abbrev nv:ZF:=top 23
abbrev wm:List Str:=["clocks","thing"]
theorem vH:aA wm ["clocks","thing"] (aj nv):=gg
theorem v8(F:g9 K mg "is_event" nv ["clocks","thing"])(aa2:Cl P w K mg base 2 "is_within" 3 a8)(aa3:Cl P w K mg base 1 "is_long" 3 aS)(B:Bl mg):Cl P w K mg base 3 "is_event" 2 dI:=
 bK F vH rfl λf c A o s H E hr x=>(au (ck (lK (mH (dC (df (a6 aa3 hr (ag (af 1) (ag ao (ag ao ah)))))) (kq (dC (df (a6 aa2 hr (ag (aH (af 1) ao) (ag ao (ag (ax cV (cf bX B.b_len Pg (ag (af 0) ah)) ao) ah))))))))) (aw (aI nr)) bL) (aw (aI (a6 aa2 hr (ag (aH (af 1) ao) (ag ao (ag (ax cV (cf bX B.b_len Pg (ag (aH (aH (af 0) (aH (af 1) ao)) ao) ah)) ao) ah)))))))
abbrev ny:ZF:=top 24
abbrev wo:List Str:=["least","most"]
theorem vI:aA wo ["least","most"] (aj ny):=gg
theorem v9(F:g9 K mg "is_delay" ny ["least","most"])(aa2:Cl P w K mg base 2 "is_within" 3 a8)(C:Cs mg):Cl P w K mg base 3 "is_delay" 2 eI:=
 bK F vI rfl λf c A o s H E hr x=>(aw (aI (eV (a6 aa2 hr (ag (af 0) (ag ao (ag (vg C.LONGEST) ah)))) (fF (Hb (iq rO (af 1) bN) (fF (a6 aa2 hr (ag (af 1) (ag (af 0) (ag (vg C.LONGEST) ah))))))))))
abbrev lQ:ZF:=top 25
abbrev uw:List Str:=["clocks","thing"]
theorem tj:aA uw ["clocks","thing"] (aj lQ):=gg
theorem ua(F:g9 K mg "is_letter" lQ ["clocks","thing"])(aaD:Cl P w K mg base 3 "is_event" 2 dI)(aa3:Cl P w K mg base 1 "is_long" 3 aS)(aaU:Cl P w K mg base 3 "is_delay" 2 eI):Cl P w K mg base 4 "is_letter" 2 cp:=
 bK F tj rfl λf c A o s H E hr x=>(au (ck (lK (mH (dC (df (a6 aa3 hr (ag (af 1) (ag ao (ag ao ah)))))) (kq (dC (df (a6 aaU hr (ag (aH (af 1) ao) (ag (aH (af 1) ao) ah)))))))) (aw (aI nr)) bL) (aw (aI (eV (a6 aaD hr (ag (af 0) (ag (aH (af 1) ao) ah))) (eV (a6 aaD hr (ag (af 0) (ag (aH (af 1) ao) ah))) (fF (iq (rM (jy hr)) (aH (af 1) ao) (aH (af 1) ao))))))))
abbrev gM:ZF:=top 26
abbrev jM:List Str:=["clocks","thing"]
theorem o5:aA jM ["clocks","thing"] (aj gM):=gg
theorem pq(F:g9 K mg "are_letters" gM ["clocks","thing"])(aa3:Cl P w K mg base 1 "is_long" 3 aS)(aaN:Cl P w K mg base 4 "is_letter" 2 cp)(B:Bl mg)(C:Cs mg):Cl P w K mg base 5 "are_letters" 2 dA:=
 bK F o5 rfl λf c A o s H E hr x=>(aw (aI (eV (a6 aa3 hr (ag (af 1) (ag ao (ag (vg C.MOST_LETTERS) ah)))) (fF (cf (uY rfl) B.b_all boot_all (ag (jm (N':=["part","clocks"]) (src:=[ZB,ZA 0]) rfl (LcScope.by (N:=jM) (names:=(aj gM).names) rfl rfl rfl (by decide+kernel)) (cz (af 1)) (λ_ _ _ _ _=>⟨(ar 0 (show Ph (["part","clocks"]:List Str)by decide+kernel)),dE,(a6 aaN hr (ag (af 1) (ag (af 0) ah)))⟩)) ah))))))
abbrev lP:ZF:=top 27
abbrev uv:List Str:=["thing"]
theorem ti:aA uv ["thing"] (aj lP):=gg
theorem t9(F:g9 K mg "is_record" lP ["thing"])(aa3:Cl P w K mg base 1 "is_long" 3 aS)(aaE:Cl P w K mg base 5 "are_clocks" 1 dZ)(aax:Cl P w K mg base 5 "are_letters" 2 dA):Cl P w K mg base 6 "is_record" 1 bH:=
 bK F ti rfl λf c A o s H E hr x=>(aw (aI (eV (a6 aa3 hr (ag (af 0) (ag ao (ag ao ah)))) (eV (a6 aaE hr (ag (aH (af 0) ao) ah)) (fF (a6 aax hr (ag (aH (af 0) ao) (ag (aH (af 0) ao) ah))))))))
abbrev jD:ZF:=top 28
abbrev pH:List Str:=["thing"]
theorem oZ:aA pH ["thing"] (aj jD):=gg
theorem pj(F:g9 K mg "need_record" jD ["thing"])(aag:Cl P w K mg base 6 "is_record" 1 bH)(S:Xs K mg ac al bi bn bv ca ci):Cl P w K mg base 7 "need_record" 1 aY:=
 bK F oZ rfl λf c A o s H E hr x=>(aw (ck (dC (df (a6 aag hr (ag (af 0) ah)))) (aw (iI S.o_NoRecord S.m_NoRecord)) bL))
abbrev mI:ZF:=top 30
abbrev rR:List Str:=["record","told","number","clock"]
theorem aaL:aA rR ["record"] (aj mI):=gg
theorem AE(F:g9 K mg "events" mI ["record"])(aa1:Cl P w K mg base 7 "need_record" 1 aY)(B:Bl mg):Cl P w K mg base 8 "events" 1 jR:=
 bK F aaL rfl λf c A o s H E hr x=>(by(apply au;exact(fU (a6 aa1 hr (ag (af 0) ah)));apply au;exact(jz 1 aaL.nd ah);apply au;exact(cC rfl (jA B.b_enumerate (ag (aH (af 0) ao) ah)) (dX rfl (aO (ar 2 aaL.nd) (aO (ar 3 aaL.nd) cU))) (aw (sP 1 (jm (N':=["k","number"]) (src:=[ZB,ZA 2]) rfl (LcScope.by (N:=rR) (names:=(aj mI).names) rfl rfl rfl (by decide+kernel)) (dF B.b_range (ag (cf bX B.b_len Pg (ag (aH (af 3) ao) ah)) ah)) (λ_ _ _ _ _=>⟨(ar 0 (show Ph (["k","number"]:List Str)by decide+kernel)),dE,(aM (ag (af 1) (ag (af 0) ah)))⟩)))));exact aw (iU 1 (aI (af 1)))))
abbrev lR:ZF:=top 43
abbrev uz:List Str:=["best","bound","ahead","known"]
theorem aaY:aA uz ["best","bound","ahead"] (aj lR):=gg
theorem ub(F:g9 K mg "is_better" lR ["best","bound","ahead"]):Cl P w K mg base 1 "is_better" 3 dM:=
 bK F aaY rfl λf c A o s H E hr x=>(au (aJ (yY (nY hr) (af 0) (aH (af 1) ao)) (ar 3 aaY.nd)) (aw (aI (Hb (iq rO (af 3) bN) (fF (iq nE (ax aN (aH (af 2) ao) (aH (af 1) ao)) (aH (af 3) ao)))))))
abbrev ku:ZF:=top 42
abbrev mS:List Str:=["limits","starts","best","moved","number","bound","ahead","walk","passed"]
theorem aab:aA mS ["limits","starts"] (aj ku):=gg
theorem AD(F:g9 K mg "settle" ku ["limits","starts"])(aaO:Cl P w K mg base 1 "is_better" 3 dM)(B:Bl mg):Cl P w K mg base 2 "settle" 2 gR:=
 bK F aab rfl λf c A o s H E hr x=>(by(apply au;exact(Bx 2 (hu8 hr) rfl B.b_dict aab.nd (jm (N':=["event"]) (src:=[ZB]) rfl (LcScope.by (N:=mS) (names:=(aj ku).names) rfl rfl rfl (by decide+kernel)) (cz (af 1)) (λ_ _ _ _ _=>⟨(ar 0 (show Ph (["event"]:List Str)by decide+kernel)),dE,(aM (ag (af 0) (ag (aM (ag ao (ag (ip ah) ah))) ah)))⟩)));apply au;exact(aJ nr (ar 3 aab.nd));apply au;exact(Aj FU (df (af 3)) (au (aJ nr (ar 3 aab.nd)) (aw (cC rfl (jA B.b_enumerate (ag (af 0) ah)) (dX rfl (aO (ar 4 aab.nd) (aO (ar 5 aab.nd) cU))) (by(apply au;exact(aJ (eU 2 (yY (nY hr) (af 2) (aH (af 5) ao))) (ar 6 aab.nd));apply au;exact(ck (lK (mH (bc rO (af 6) bN) (kq (dC (HK 2 (df (a6 aaO hr (ag (af 2) (ag (af 5) (ag (af 6) ah)))))))))) (aw HM) bL);apply au;exact(aJ (ax aN (aH (af 6) ao) (ip (ag (af 4) ah))) (ar 7 aab.nd));apply au;exact(HL 8 (N':=["step","limits"]) (src:=[ZB,ZA 0]) rfl (LcScope.by (N:=mS) (names:=(aj ku).names) rfl rfl rfl (by decide+kernel)) (cz (af 7)) (λ_ _ _ _ _=>⟨(ar 0 (show Ph (["step","limits"]:List Str)by decide+kernel)),dE,(aH (aH (af 1) (af 0)) ao)⟩) aab.nd);apply au;exact(ck (bc (CM (GA hr)) (aH (af 5) ao) (af 8)) (aw (aI (aM (ag bN (ag (cG (af 7) (cE (Am (GA hr) (af 8) (aH (af 5) ao))) cF) ah))))) bL);apply au;exact(ES 2 (nY hr) (aH (af 5) ao) (aM (ag (ax aN (aH (af 6) ao) (aH (af 5) ao)) (ag (af 7) ah))));exact aw (aJ nr (ar 3 aab.nd))))))));exact aw (iU 2 (aI (aM (ag (af 2) (ag bN ah)))))))
abbrev eY:ZF:=top 45
abbrev hY:List Str:=["record","limits","places","best"]
theorem aan:aA hY ["record","limits"] (aj eY):=gg
theorem mf(F:g9 K mg "greatest_world" eY ["record","limits"])(ab0:Cl P w K mg base 8 "events" 1 jR)(ab1:Cl P w K mg base 2 "settle" 2 gR)(B:Bl mg):Cl P w K mg base 9 "greatest_world" 2 dY:=
 bK F aan rfl λf c A o s H E hr x=>(by(apply au;exact(aJ (a6 ab0 hr (ag (af 0) ah)) (ar 2 aan.nd));apply au;exact(aJ (aH (a6 ab1 hr (ag (af 1) (ag (af 2) ah))) ao) (ar 3 aan.nd));apply au;exact(ck (bc rO (af 3) bN) (aw (aI bN)) bL);exact aw (aI (oM ke B.b_tuple dB (ag (jm (N':=["event","best"]) (src:=[ZB,ZA 3]) rfl (LcScope.by (N:=hY) (names:=(aj eY).names) rfl rfl rfl (by decide+kernel)) (cz (af 2)) (λ_ _ _ _ _=>⟨(ar 0 (show Ph (["event","best"]:List Str)by decide+kernel)),dE,(aH (dg (nY hr) (af 1) (af 0)) ao)⟩)) ah)))))
abbrev gL:ZF:=top 38
abbrev ly:List Str:=["number","clock","readings","told","k","first","second","steps"]
theorem aa5:aA ly ["number","clock"] (aj gL):=gg
theorem lu(F:g9 K mg "bounds_of_clock" gL ["number","clock"])(B:Bl mg):Cl P w K mg base 1 "bounds_of_clock" 2 cJ:=
 bK F aa5 rfl λf c A o s H E hr x=>(by(apply au;exact(aJ (aH (af 1) ao) (ar 2 aa5.nd));apply au;exact(jz 3 aa5.nd ah);apply au;exact(cC rfl (dF B.b_range (ag (ax cV (cf bX B.b_len Pg (ag (af 2) ah)) ao) ah)) (ar 4 aa5.nd) (by(apply au;exact(aJ (aM (ag (af 0) (ag (af 4) ah))) (ar 5 aa5.nd));apply au;exact(aJ (aM (ag (af 0) (ag (ax aN (af 4) ao) ah))) (ar 6 aa5.nd));apply au;exact(aJ (ax cV (aH (af 2) (ax aN (af 4) ao)) (aH (af 2) (af 4))) (ar 7 aa5.nd));apply au;exact(iV 3 (aM (ag (af 5) (ag (af 6) (ag (ax dh (af 7) (aH (af 1) ao)) ah)))));exact aw (iV 3 (aM (ag (af 6) (ag (af 5) (ag (ax dh (lj (af 7)) (aH (af 1) ao)) ah))))))));exact aw (iU 3 (aI (af 3)))))
abbrev gu:ZF:=top 39
abbrev kM:List Str:=["letter","told"]
theorem aas:aA kM ["letter"] (aj gu):=gg
theorem kK(F:g9 K mg "bounds_of_letter" gu ["letter"]):Cl P w K mg base 1 "bounds_of_letter" 1 cx:=
 bK F aas rfl λf c A o s H E hr x=>(by(apply au;exact(jz 1 aas.nd (ag (aM (ag (aH (af 0) ao) (ag (aH (af 0) ao) (ag (lj (aH (af 0) ao)) ah)))) ah));apply au;exact(ck (bc fg (aH (af 0) ao) bN) (aw (iV 1 (aM (ag (aH (af 0) ao) (ag (aH (af 0) ao) (ag (aH (af 0) ao) ah)))))) bL);exact aw (iU 1 (aI (af 1)))))
abbrev rF:ZF:=top 40
abbrev AH:List Str:=["record","told","number","clock","letter"]
theorem aav:aA AH ["record"] (aj rF):=gg
theorem AF(F:g9 K mg "bounds" rF ["record"])(aa1:Cl P w K mg base 7 "need_record" 1 aY)(aao:Cl P w K mg base 1 "bounds_of_clock" 2 cJ)(aal:Cl P w K mg base 1 "bounds_of_letter" 1 cx)(B:Bl mg):Cl P w K mg base 8 "bounds" 1 iQ:=
 bK F aav rfl λf c A o s H E hr x=>(by(apply au;exact(fU (a6 aa1 hr (ag (af 0) ah)));apply au;exact(jz 1 aav.nd ah);apply au;exact(cC rfl (jA B.b_enumerate (ag (aH (af 0) ao) ah)) (dX rfl (aO (ar 2 aav.nd) (aO (ar 3 aav.nd) cU))) (aw (sP 1 (a6 aao hr (ag (af 2) (ag (af 3) ah))))));apply au;exact(cC rfl (cz (aH (af 0) ao)) (ar 4 aav.nd) (aw (sP 1 (a6 aal hr (ag (af 4) ah)))));exact aw (iU 1 (aI (af 1)))))
abbrev vC:ZF:=top 46
abbrev CW:List Str:=["record"]
theorem BX:aA CW ["record"] (aj vC):=gg
theorem CP(F:g9 K mg "world" vC ["record"])(aap:Cl P w K mg base 9 "greatest_world" 2 dY)(ab2:Cl P w K mg base 8 "bounds" 1 iQ):Cl P w K mg base 10 "world" 1 ml:=
 bK F BX rfl λf c A o s H E hr x=>(aw (aI (a6 aap hr (ag (af 0) (ag (a6 ab2 hr (ag (af 0) ah)) ah)))))
abbrev lT:ZF:=top 47
abbrev uB:List Str:=["record"]
theorem tq:aA uB ["record"] (aj lT):=gg
theorem ud(F:g9 K mg "has_world" lT ["record"])(ab4:Cl P w K mg base 10 "world" 1 ml):Cl P w K mg base 11 "has_world" 1 b7:=
 bK F tq rfl λf c A o s H E hr x=>(aw (aI (iq fg (a6 ab4 hr (ag (af 0) ah)) bN)))
abbrev kS:ZF:=top 48
abbrev qX:List Str:=["record"]
theorem qI:aA qX ["record"] (aj kS):=gg
theorem qP(F:g9 K mg "need_world" kS ["record"])(aaj:Cl P w K mg base 11 "has_world" 1 b7)(S:Xs K mg ac al bi bn bv ca ci):Cl P w K mg base 12 "need_world" 1 cI:=
 bK F qI rfl λf c A o s H E hr x=>(aw (ck (dC (df (a6 aaj hr (ag (af 0) ah)))) (aw (iI S.o_NoWorld S.m_NoWorld)) bL))
abbrev iK:ZF:=dm (top 50) 0
abbrev mT:List Str:=["self","record"]
theorem mJ:aA mT ["self","record"] (aj iK):=gg
theorem mO(F:qD K "Desk" "__init__" "Desk.__init__" iK ["self","record"])(aaF:Cl P w K mg base 12 "need_world" 1 cI)(jp:eE K mg):Mm P w K mg base 13 "Desk" "__init__" 2 dy:=
 rX F mJ rfl λf c A o s H E hr x=>(lL (rA (sM (a6 aaF hr (ag (af 1) ah)))) (gh (HR 0 jp.k jp.a_kept (ag (af 1) ah))))
abbrev kX:ZF:=top 63
abbrev rf:List Str:=["_law_record_here","_law_e"]
theorem aaV:aA rf ["_law_record_here"] (aj kX):=gg
theorem qV(F:g9 K mg "_law_begun" kX ["_law_record_here"])(kt:Mm P w K mg base 13 "Desk" "__init__" 2 dy)(B:Bl mg)(jp:eE K mg)(S:Xs K mg ac al bi bn bv ca ci)(aaa:Fn K mg "_law_refused" bQ ["_law_e"] f_r fd_r):Cs_ P w K mg base 15 "_law_begun" 1 bB:=
 Mv F aaV rfl λf c A o s H E hr x=>(BA (HP 1 aaV.nd S.m_ClockError S.o_ClockError (λ_ _=>(BA (EV jp.k kt hr (ag (af 0) ah)))) (vB rfl (Sg rfl) aaa S B.b_isinstance B.b_ValueError (Hk hr)) (hcl:=λ_ _ z=>by cases z)))
abbrev fM:ZF:=top 60
abbrev iy:List Str:=["_law_places","_law_row","_law_far","_law_one","_law_other","_law_most","_law_middle","_law_whole"]
theorem aa7:aA iy ["_law_places","_law_row"] (aj fM):=gg
theorem qR(F:g9 K mg "_law_table" fM ["_law_places","_law_row"])(B:Bl mg):Cl P w K mg base 1 "_law_table" 2 gA:=
 bK F aa7 rfl λf c A o s H E hr x=>(by(apply au;exact(Ak 2 0 (N':=["_law_one","_law_places"]) (src:=[ZB]) (hu8 hr) rfl B.b_dict aa7.nd (LcScope.by (N:=iy) (names:=(aj fM).names) rfl rfl rfl (by decide+kernel)) (cz (af 0)) (by decide) (λ_ _ _ _ _=>⟨(ar 0 (show Ph (["_law_one","_law_places"]:List Str)by decide+kernel)),pv 0,Ja (hu8 hr) rfl B.b_dict rfl (LcScope.byN (N:=["_law_one","_law_places"]) (N':=["_law_other"]) rfl rfl (by decide+kernel) rfl) (cz (af 1)).h (λ_ _ _ _ _=>⟨(ar 0 (show Ph (["_law_other"]:List Str)by decide+kernel)).h,pv 0,rfl⟩) (λ_=>rfl)⟩));apply au;exact(cC rfl (cz (af 0)) (ar 3 aa7.nd) (aw (oK 2 (nY hr) (af 3) (af 3) ao)));apply au;exact(cC rfl (cz (af 1)) (dX rfl (aO (ar 3 aa7.nd) (aO (ar 4 aa7.nd) (aO (ar 5 aa7.nd) cU)))) (aw (ck (lK (mH (bc rO (eU 2 (dg (nY hr) (dg (nY hr) (af 2) (af 3)) (af 4))) bN) (kq (bc nE (af 5) (eU 2 (dg (nY hr) (dg (nY hr) (af 2) (af 3)) (af 4))))))) (aw (oK 2 (nY hr) (af 3) (af 4) (af 5))) bL)));apply au;exact(cC rfl (cz (af 0)) (ar 6 aa7.nd) (aw (cC rfl (cz (af 0)) (ar 3 aa7.nd) (aw (cC rfl (cz (af 0)) (ar 4 aa7.nd) (aw (ck (lK (sO (bc fg (eU 2 (dg (nY hr) (dg (nY hr) (af 2) (af 3)) (af 6))) bN) (oJ (bc fg (eU 2 (dg (nY hr) (dg (nY hr) (af 2) (af 6)) (af 4))) bN)))) (au (aJ (ax aN (eU 2 (dg (nY hr) (dg (nY hr) (af 2) (af 3)) (af 6))) (eU 2 (dg (nY hr) (dg (nY hr) (af 2) (af 6)) (af 4)))) (ar 7 aa7.nd)) (aw (ck (lK (mH (bc rO (eU 2 (dg (nY hr) (dg (nY hr) (af 2) (af 3)) (af 4))) bN) (kq (bc nE (af 7) (eU 2 (dg (nY hr) (dg (nY hr) (af 2) (af 3)) (af 4))))))) (aw (oK 2 (nY hr) (af 3) (af 4) (af 7))) bL))) bL)))))));exact aw (iU 2 (aI (vh (bc (jr (jy hr)) (jm (N':=["_law_one","_law_far"]) (src:=[ZB,ZA 2]) rfl (LcScope.by (N:=iy) (names:=(aj fM).names) rfl rfl rfl (by decide+kernel)) (cz (af 0)) (λ_ _ _ _ _=>⟨(ar 0 (show Ph (["_law_one","_law_far"]:List Str)by decide+kernel)),(vf (bc nE (dg (nY hr) (dg (nY hr) (af 1) (af 0)) (af 0)) ao)),(af 0)⟩)) (ip ah)) (af 2) bN)))))
abbrev jG:ZF:=top 59
abbrev pK:List Str:=["_law_record_here","_law_found","_law_number","_law_slow","_law_fast","_law_readings","_law_k","_law_steps","_law_one","_law_other","_law_least","_law_most"]
theorem aa4:aA pK ["_law_record_here"] (aj jG):=gg
theorem pB(F:g9 K mg "_law_bounds" jG ["_law_record_here"])(B:Bl mg):Cl P w K mg base 1 "_law_bounds" 1 fQ:=
 bK F aa4 rfl λf c A o s H E hr x=>(by(apply au;exact(jz 1 aa4.nd ah);apply au;exact(cC rfl (jA B.b_enumerate (ag (aH (af 0) ao) ah)) (dX rfl (aO (ar 2 aa4.nd) (aO (dX rfl (aO (ar 3 aa4.nd) (aO (ar 4 aa4.nd) (aO (ar 5 aa4.nd) cU)))) cU))) (aw (cC rfl (xA B.b_range (ag ao (ag (cf bX B.b_len Pg (ag (af 5) ah)) ah))) (ar 6 aa4.nd) (by(apply au;exact(aJ (ax cV (aH (af 5) (af 6)) (aH (af 5) (ax cV (af 6) ao))) (ar 7 aa4.nd));apply au;exact(iV 1 (aM (ag (aM (ag (af 2) (ag (ax cV (af 6) ao) ah))) (ag (aM (ag (af 2) (ag (af 6) ah))) (ag (ax dh (af 4) (af 7)) ah)))));exact aw (iV 1 (aM (ag (aM (ag (af 2) (ag (af 6) ah))) (ag (aM (ag (af 2) (ag (ax cV (af 6) ao) ah))) (ag (ax cV ao (ax dh (af 3) (af 7))) ah))))))))));apply au;exact(cC rfl (cz (aH (af 0) ao)) (dX rfl (aO (ar 8 aa4.nd) (aO (ar 9 aa4.nd) (aO (ar 10 aa4.nd) (aO (ar 11 aa4.nd) cU))))) (au (iV 1 (aM (ag (af 9) (ag (af 8) (ag (ax cV ao (af 10)) ah))))) (aw (ck (bc fg (af 11) bN) (aw (iV 1 (aM (ag (af 8) (ag (af 9) (ag (af 11) ah)))))) bL))));exact aw (iU 1 (aI (af 1)))))
abbrev nB:ZF:=top 64
abbrev wt:List Str:=["_law_record_here"]
theorem vK:aA wt ["_law_record_here"] (aj nB):=gg
theorem wb(F:g9 K mg "_law_has" nB ["_law_record_here"])(aaG:Cl P w K mg base 1 "_law_table" 2 gA)(aa8:Cl P w K mg base 1 "_law_events" 1 bY)(aay:Cl P w K mg base 1 "_law_bounds" 1 fQ):Cl P w K mg base 2 "_law_has" 1 di:=
 bK F vK rfl λf c A o s H E hr x=>(aw (aI (iq fg (a6 aaG hr (ag (a6 aa8 hr (ag (aH (af 0) ao) ah)) (ag (a6 aay hr (ag (af 0) ah)) ah))) bN)))
abbrev jH:ZF:=dm (top 50) 1
abbrev pL:List Str:=["self"]
theorem o6:aA pL ["self"] (aj jH):=gg
theorem pC(F:qD K "Desk" "record" "Desk.record" jH ["self"])(jp:eE K mg):Ml P w K mg base 1 "Desk" "record" aZ:=
 Hn F o6 rfl λf c A o s H E hr x=>(aw (aI (aH (Bz jp.k jp.a_kept (af 0)) (lj ao))))
abbrev lW:ZF:=top 52
abbrev uE:List Str:=["_law_script","_law_k"]
theorem tu:aA uE ["_law_script","_law_k"] (aj lW):=gg
theorem ug(F:g9 K mg "_law_cell" lW ["_law_script","_law_k"])(B:Bl mg):Cl P w K mg base 1 "_law_cell" 2 fW:=
 bK F tu rfl λf c A o s H E hr x=>(au (ck (bc (jr (jy hr)) (af 0) (ip ah)) (aw (aI (ax dh ao (af 1)))) bL) (aw (aI (ax aN (aH (af 0) (ax lr (af 1) (cf bX B.b_len Pg (ag (af 0) ah)))) (ax dh ao (ax om (af 1) (cf bX B.b_len Pg (ag (af 0) ah))))))))
abbrev kU:ZF:=top 53
abbrev qY:List Str:=["_law_script","_law_k","_law_many","_law_cell_here"]
theorem aaz:aA qY ["_law_script","_law_k","_law_many"] (aj kU):=gg
theorem qT(F:g9 K mg "_law_drawn" kU ["_law_script","_law_k","_law_many"])(aaP:Cl P w K mg base 1 "_law_cell" 2 fW):Cl P w K mg base 2 "_law_drawn" 3 aF:=
 bK F aaz rfl λf c A o s H E hr x=>(by(apply au;exact(aJ (ax lr (ax aN (ax dh (ax lr (a6 aaP hr (ag (af 0) (ag (af 1) ah))) ao) ao) (ax dh ao (ax aN (af 1) ao))) ao) (ar 3 aaz.nd));apply au;exact(aJ (ax lr (ax aN (ax dh (af 3) (af 3)) (ax om (af 3) ao)) ao) (ar 3 aaz.nd));exact aw (aI (ax lr (ax om (ax lr (ax aN (ax dh (af 3) (af 3)) (ax om (af 3) ao)) ao) ao) (af 2)))))
abbrev jF:ZF:=top 55
abbrev pJ:List Str:=["_law_script","_law_at","_law_clocks","_law_row","_law_place","_law_other","_law_least","_law_most"]
theorem aac:aA pJ ["_law_script","_law_at","_law_clocks"] (aj jF):=gg
theorem pz(F:g9 K mg "_law_letter" jF ["_law_script","_law_at","_law_clocks"])(aa8:Cl P w K mg base 1 "_law_events" 1 bY)(aa0:Cl P w K mg base 2 "_law_drawn" 3 aF)(B:Bl mg):Cl P w K mg base 3 "_law_letter" 3 bM:=
 bK F aac rfl λf c A o s H E hr x=>(by(apply au;exact(aJ (a6 aa8 hr (ag (af 2) ah)) (ar 3 aac.nd));apply au;exact(ck (bc nE (cf bX B.b_len Pg (ag (af 3) ah)) ao) (aw (aI bN)) bL);apply au;exact(aJ (a6 aa0 hr (ag (af 0) (ag (af 1) (ag (cf bX B.b_len Pg (ag (af 3) ah)) ah)))) (ar 4 aac.nd));apply au;exact(aJ (ax lr (ax aN (ax aN (af 4) ao) (a6 aa0 hr (ag (af 0) (ag (ax aN (af 1) ao) (ag (ax cV (cf bX B.b_len Pg (ag (af 3) ah)) ao) ah))))) (cf bX B.b_len Pg (ag (af 3) ah))) (ar 5 aac.nd));apply au;exact(aJ (a6 aa0 hr (ag (af 0) (ag (ax aN (af 1) ao) (ag ao ah)))) (ar 6 aac.nd));apply au;exact(aJ (vh (bc (jr (jy hr)) (a6 aa0 hr (ag (af 0) (ag (ax aN (af 1) ao) (ag ao ah)))) ao) bN (ax aN (af 6) (a6 aa0 hr (ag (af 0) (ag (ax aN (af 1) ao) (ag ao ah)))))) (ar 7 aac.nd));exact aw (aI (aM (ag (aH (af 3) (af 4)) (ag (aH (af 3) (af 5)) (ag (af 6) (ag (af 7) ah))))))))
abbrev kW:ZF:=top 54
abbrev qZ:List Str:=["_law_script","_law_at","_law_slow","_law_readings","_law_k"]
theorem aai:aA qZ ["_law_script","_law_at"] (aj kW):=gg
theorem qU(F:g9 K mg "_law_clock" kW ["_law_script","_law_at"])(aa0:Cl P w K mg base 2 "_law_drawn" 3 aF)(B:Bl mg):Cl P w K mg base 3 "_law_clock" 2 cK:=
 bK F aai rfl λf c A o s H E hr x=>(by(apply au;exact(aJ (ax aN ao (a6 aa0 hr (ag (af 0) (ag (af 1) (ag ao ah))))) (ar 2 aai.nd));apply au;exact(aJ (aM (ag (a6 aa0 hr (ag (af 0) (ag (ax aN (af 1) ao) (ag ao ah)))) ah)) (ar 3 aai.nd));apply au;exact(cC rfl (dF B.b_range (ag (a6 aa0 hr (ag (af 0) (ag (ax aN (af 1) ao) (ag ao ah)))) ah)) (ar 4 aai.nd) (aw (aJ (ax aN (af 3) (aM (ag (ax aN (ax aN (aH (af 3) (lj ao)) ao) (a6 aa0 hr (ag (af 0) (ag (ax aN (ax aN (af 1) ao) (af 4)) (ag ao ah))))) ah))) (ar 3 aai.nd))));exact aw (aI (aM (ag (af 2) (ag (ax aN (af 2) (a6 aa0 hr (ag (af 0) (ag (ax aN (af 1) ao) (ag ao ah))))) (ag (af 3) ah)))))))
abbrev gO:ZF:=top 57
abbrev jN:List Str:=["_law_script","_law_at","_law_most","_law_clocks","_law_letters","_law_k","_law_letter_here"]
theorem aad:aA jN ["_law_script","_law_at","_law_most"] (aj gO):=gg
theorem pw(F:g9 K mg "_law_record" gO ["_law_script","_law_at","_law_most"])(aa0:Cl P w K mg base 2 "_law_drawn" 3 aF)(aae:Cl P w K mg base 3 "_law_letter" 3 bM)(aaH:Cl P w K mg base 3 "_law_clock" 2 cK)(B:Bl mg):Cl P w K mg base 4 "_law_record" 3 fP:=
 bK F aad rfl λf c A o s H E hr x=>(by(apply au;exact(aJ (oM ke B.b_tuple dB (ag (jm (N':=["_law_k","_law_script","_law_at"]) (src:=[ZB,ZA 0,ZA 1]) rfl (LcScope.by (N:=jN) (names:=(aj gO).names) rfl rfl rfl (by decide+kernel)) (dF B.b_range (ag (ax aN ao (a6 aa0 hr (ag (af 0) (ag (af 1) (ag ao ah))))) ah)) (λ_ _ _ _ _=>⟨(ar 0 (show Ph (["_law_k","_law_script","_law_at"]:List Str)by decide+kernel)),dE,(a6 aaH hr (ag (af 1) (ag (ax aN (ax aN (af 2) ao) (ax dh ao (af 0))) ah)))⟩)) ah)) (ar 3 aad.nd));apply au;exact(aJ (ip ah) (ar 4 aad.nd));apply au;exact(cC rfl (dF B.b_range (ag (a6 aa0 hr (ag (af 0) (ag (ax aN (af 1) ao) (ag (ax aN (af 2) ao) ah)))) ah)) (ar 5 aad.nd) (au (aJ (a6 aae hr (ag (af 0) (ag (ax aN (ax aN (af 1) ao) (ax dh ao (af 5))) (ag (af 3) ah)))) (ar 6 aad.nd)) (aw (aJ (ax aN (af 4) (ax dh (ip (ag (af 6) ah)) (oM Ek B.b_int kf (ag (iq fg (af 6) bN) ah)))) (ar 4 aad.nd)))));exact aw (aI (aM (ag (af 3) (ag (oM ke B.b_tuple dB (ag (af 4) ah)) ah))))))
abbrev lV:ZF:=top 65
abbrev uD:List Str:=["_law_record_here","_law_ask","_law_some","_law_clocks","_law_letters","_law_letter_here","_law_number","_law_reading","_law_found","_law_slow","_law_fast","_law_readings"]
theorem aa6:aA uD ["_law_record_here","_law_ask","_law_some"] (aj lV):=gg
theorem uf(F:g9 K mg "_law_next" lV ["_law_record_here","_law_ask","_law_some"])(aag:Cl P w K mg base 6 "is_record" 1 bH)(B:Bl mg):Cl P w K mg base 7 "_law_next" 3 cq:=
 bK F aa6 rfl λf c A o s H E hr x=>(by(apply au;exact(aJ (af 0) (dX rfl (aO (ar 3 aa6.nd) (aO (ar 4 aa6.nd) cU))));apply au;exact(aJ (af 2) (dX rfl (aO (ar 5 aa6.nd) (aO (ar 6 aa6.nd) (aO (ar 7 aa6.nd) cU)))));apply au;exact(ck (bc (jr (jy hr)) (af 1) ao) (au (aJ (aM (ag (af 3) (ag (ax aN (af 4) (aM (ag (af 5) ah))) ah))) (ar 8 aa6.nd)) (aw (aI (vh (df (a6 aag hr (ag (af 8) ah))) (aM (ag (af 8) (ag (cf bX B.b_len Pg (ag (af 4) ah)) ah))) (aM (ag bN (ag (aM (ag iW (ag ao ah))) ah))))))) bL);apply au;exact(ck (bc (jr (jy hr)) (af 1) ao) (au (ck (dC (rz rN nE ao (af 6) (cf bX B.b_len Pg (ag (af 4) ah)))) (aw (aI (aM (ag bN (ag (aM (ag iW (ag ao ah))) ah))))) bL) (aw (aI (aM (ag (aM (ag (af 3) (ag (ax aN (cG (af 4) cF (cE (af 6))) (cG (af 4) (cE (ax aN (af 6) ao)) cF)) ah))) (ag bN ah)))))) bL);apply au;exact(ck (dC (rz rN nE ao (af 6) (cf bX B.b_len Pg (ag (af 3) ah)))) (aw (aI (aM (ag bN (ag (aM (ag iW (ag ao ah))) ah))))) bL);apply au;exact(aJ (aH (af 3) (af 6)) (dX rfl (aO (ar 9 aa6.nd) (aO (ar 10 aa6.nd) (aO (ar 11 aa6.nd) cU)))));apply au;exact(aJ (aM (ag (ax aN (ax aN (cG (af 3) cF (cE (af 6))) (aM (ag (aM (ag (af 9) (ag (af 10) (ag (ax aN (af 11) (aM (ag (af 7) ah))) ah)))) ah))) (cG (af 3) (cE (ax aN (af 6) ao)) cF)) (ag (af 4) ah))) (ar 8 aa6.nd));exact aw (aI (vh (df (a6 aag hr (ag (af 8) ah))) (aM (ag (af 8) (ag (aM (ag (af 6) (ag (cf bX B.b_len Pg (ag (af 11) ah)) ah))) ah))) (aM (ag bN (ag (aM (ag iW (ag ao ah))) ah)))))))
abbrev l0:ZF:=dm (top 50) 7
abbrev uI:List Str:=["self"]
theorem tF:aA uI ["self"] (aj l0):=gg
theorem uk(F:qD K "Desk" "many" "Desk.many" l0 ["self"])(B:Bl mg)(jp:eE K mg):Ml P w K mg base 1 "Desk" "many" de:=
 Hn F tF rfl λf c A o s H E hr x=>(aw (aI (ax cV (cf bX B.b_len Pg (ag (Bz jp.k jp.a_kept (af 0)) ah)) ao)))
abbrev l5:ZF:=dm (top 50) 2
abbrev uJ:List Str:=["self","record"]
theorem tG:aA uJ ["self","record"] (aj l5):=gg
theorem um(F:qD K "Desk" "keep" "Desk.keep" l5 ["self","record"])(aaj:Cl P w K mg base 11 "has_world" 1 b7)(jp:eE K mg)(S:Xs K mg ac al bi bn bv ca ci):Mm P w K mg base 12 "Desk" "keep" 2 bR:=
 rX F tG rfl λf c A o s H E hr x=>(lL (Hd (dC (df (a6 aaj hr (ag (af 1) ah)))) (gh (BE (iI S.o_Barred S.m_Barred))) BB) (gh (rA (HJ 0 jp.k jp.a_kept (af 1)))))
abbrev lS:ZF:=top 32
abbrev uA:List Str:=["thing"]
theorem tp:aA uA ["thing"] (aj lS):=gg
theorem uc(F:g9 K mg "if_record" lS ["thing"])(aa1:Cl P w K mg base 7 "need_record" 1 aY):Cl P w K mg base 8 "if_record" 1 c9:=
 bK F tp rfl λf c A o s H E hr x=>(au (fU (a6 aa1 hr (ag (af 0) ah))) (aw (aI (af 0))))
abbrev jC:ZF:=top 33
abbrev pG:List Str:=["record","letter"]
theorem oY:aA pG ["record","letter"] (aj jC):=gg
theorem ph(F:g9 K mg "with_letter" jC ["record","letter"])(aa1:Cl P w K mg base 7 "need_record" 1 aY)(aak:Cl P w K mg base 8 "if_record" 1 c9):Cl P w K mg base 9 "with_letter" 2 dz:=
 bK F oY rfl λf c A o s H E hr x=>(au (fU (a6 aa1 hr (ag (af 0) ah))) (aw (aI (a6 aak hr (ag (aM (ag (aH (af 0) ao) (ag (ax aN (aH (af 0) ao) (aM (ag (af 1) ah))) ah))) ah)))))
abbrev lY:ZF:=dm (top 50) 3
abbrev uG:List Str:=["self","letter"]
theorem tD:aA uG ["self","letter"] (aj lY):=gg
theorem ui(F:qD K "Desk" "take" "Desk.take" lY ["self","letter"])(ld:Mm P w K mg base 12 "Desk" "keep" 2 bR)(aaA:Cl P w K mg base 9 "with_letter" 2 dz)(lf:Ml P w K mg base 1 "Desk" "record" aZ)(B:Bl mg)(jp:eE K mg):Mm P w K mg base 13 "Desk" "take" 2 eO:=
 rX F tD rfl λf c A o s H E hr x=>(lL (rA (ko 0 jp.k ld hr (ag (a6 aaA hr (ag (eU 0 (gw jp.k lf hr (af 0))) (ag (af 1) ah))) ah))) (gh (oN (sM (ax cV (cf bX B.b_len Pg (ag (aH (eU 0 (gw jp.k lf hr (af 0))) ao) ah)) ao)))))
abbrev jE:ZF:=top 29
abbrev pI:List Str:=["many","thing"]
theorem o4:aA pI ["many","thing"] (aj jE):=gg
theorem pk(F:g9 K mg "need_number" jE ["many","thing"])(aa2:Cl P w K mg base 2 "is_within" 3 a8)(S:Xs K mg ac al bi bn bv ca ci):Cl P w K mg base 3 "need_number" 2 cR:=
 bK F o4 rfl λf c A o s H E hr x=>(aw (ck (dC (df (a6 aa2 hr (ag (af 1) (ag ao (ag (ax cV (af 0) ao) ah)))))) (aw (iI S.o_NoNumber S.m_NoNumber)) bL))
abbrev kR:ZF:=top 35
abbrev qW:List Str:=["record","number","clock","clocks"]
theorem aaW:aA qW ["record","number","clock"] (aj kR):=gg
theorem qO(F:g9 K mg "with_clock" kR ["record","number","clock"])(aak:Cl P w K mg base 8 "if_record" 1 c9):Cl P w K mg base 9 "with_clock" 3 gz:=
 bK F aaW rfl λf c A o s H E hr x=>(au (aJ (aH (af 0) ao) (ar 3 aaW.nd)) (aw (aI (a6 aak hr (ag (aM (ag (ax aN (ax aN (cG (af 3) cF (cE (af 1))) (aM (ag (af 2) ah))) (cG (af 3) (cE (ax aN (af 1) ao)) cF)) (ag (aH (af 0) ao) ah))) ah)))))
abbrev jo:ZF:=top 36
abbrev nU:List Str:=["record","clock","reading","old"]
theorem aaM:aA nU ["record","clock","reading"] (aj jo):=gg
theorem nS(F:g9 K mg "with_reading" jo ["record","clock","reading"])(aa1:Cl P w K mg base 7 "need_record" 1 aY)(aaf:Cl P w K mg base 3 "need_number" 2 cR)(aaI:Cl P w K mg base 9 "with_clock" 3 gz)(B:Bl mg):Cl P w K mg base 10 "with_reading" 3 cW:=
 bK F aaM rfl λf c A o s H E hr x=>(by(apply au;exact(fU (a6 aa1 hr (ag (af 0) ah)));apply au;exact(fU (a6 aaf hr (ag (cf bX B.b_len Pg (ag (aH (af 0) ao) ah)) (ag (af 1) ah))));apply au;exact(aJ (aH (aH (af 0) ao) (af 1)) (ar 3 aaM.nd));exact aw (aI (a6 aaI hr (ag (af 0) (ag (af 1) (ag (aM (ag (aH (af 3) ao) (ag (aH (af 3) ao) (ag (ax aN (aH (af 3) ao) (aM (ag (af 2) ah))) ah)))) ah)))))))
abbrev lZ:ZF:=dm (top 50) 4
abbrev uH:List Str:=["self","clock","reading"]
theorem tE:aA uH ["self","clock","reading"] (aj lZ):=gg
theorem uj(F:qD K "Desk" "read" "Desk.read" lZ ["self","clock","reading"])(ld:Mm P w K mg base 12 "Desk" "keep" 2 bR)(aau:Cl P w K mg base 10 "with_reading" 3 cW)(lf:Ml P w K mg base 1 "Desk" "record" aZ)(B:Bl mg)(jp:eE K mg):Mm P w K mg base 13 "Desk" "read" 3 dN:=
 rX F tE rfl λf c A o s H E hr x=>(lL (rA (ko 0 jp.k ld hr (ag (a6 aau hr (ag (eU 0 (gw jp.k lf hr (af 0))) (ag (af 1) (ag (af 2) ah)))) ah))) (gh (oN (sM (aM (ag (af 1) (ag (ax cV (cf bX B.b_len Pg (ag (aH (aH (aH (eU 0 (gw jp.k lf hr (af 0))) ao) (af 1)) ao) ah)) ao) ah)))))))
abbrev hW:ZF:=top 34
abbrev mi:List Str:=["record","number","letters"]
theorem aaC:aA mi ["record","number"] (aj hW):=gg
theorem md(F:g9 K mg "without_letter" hW ["record","number"])(aa1:Cl P w K mg base 7 "need_record" 1 aY)(aaf:Cl P w K mg base 3 "need_number" 2 cR)(B:Bl mg):Cl P w K mg base 8 "without_letter" 2 cv:=
 bK F aaC rfl λf c A o s H E hr x=>(by(apply au;exact(fU (a6 aa1 hr (ag (af 0) ah)));apply au;exact(aJ (aH (af 0) ao) (ar 2 aaC.nd));apply au;exact(fU (a6 aaf hr (ag (cf bX B.b_len Pg (ag (af 2) ah)) (ag (af 1) ah))));exact aw (aI (aM (ag (aH (af 0) ao) (ag (ax aN (cG (af 2) cF (cE (af 1))) (cG (af 2) (cE (ax aN (af 1) ao)) cF)) ah))))))
abbrev l6:ZF:=dm (top 50) 5
abbrev uK:List Str:=["self","number"]
theorem tH:aA uK ["self","number"] (aj l6):=gg
theorem uo(F:qD K "Desk" "drop" "Desk.drop" l6 ["self","number"])(ld:Mm P w K mg base 12 "Desk" "keep" 2 bR)(aaq:Cl P w K mg base 8 "without_letter" 2 cv)(lf:Ml P w K mg base 1 "Desk" "record" aZ)(jp:eE K mg):Mm P w K mg base 13 "Desk" "drop" 2 dO:=
 rX F tH rfl λf c A o s H E hr x=>(gh (rA (ko 0 jp.k ld hr (ag (a6 aaq hr (ag (eU 0 (gw jp.k lf hr (af 0))) (ag (af 1) ah))) ah))))
abbrev lX:ZF:=dm (top 50) 6
abbrev uF:List Str:=["self"]
theorem tw:aA uF ["self"] (aj lX):=gg
theorem uh(F:qD K "Desk" "undo" "Desk.undo" lX ["self"])(li:Ml P w K mg base 1 "Desk" "many" de)(jp:eE K mg)(S:Xs K mg ac al bi bn bv ca ci):Mm P w K mg base 2 "Desk" "undo" 1 da:=
 rX F tw rfl λf c A o s H E hr x=>(lL (Hd (bc (jr (jy hr)) (eU 0 (gw jp.k li hr (af 0))) ao) (gh (BE (iI S.o_Nothing S.m_Nothing))) BB) (gh (rA (HH 0 jp.k jp.a_kept))))
abbrev lU:ZF:=top 62
abbrev uC:List Str:=["_law_desk","_law_ask","_law_some","_law_e"]
theorem aaZ:aA uC ["_law_desk","_law_ask","_law_some"] (aj lU):=gg
theorem ue(F:g9 K mg "_law_told" lU ["_law_desk","_law_ask","_law_some"])(lm:Mm P w K mg base 13 "Desk" "take" 2 eO)(lv:Mm P w K mg base 13 "Desk" "read" 3 dN)(lw:Mm P w K mg base 13 "Desk" "drop" 2 dO)(o0:Mm P w K mg base 2 "Desk" "undo" 1 da)(B:Bl mg)(jp:eE K mg)(S:Xs K mg ac al bi bn bv ca ci)(aaa:Fn K mg "_law_refused" bQ ["_law_e"] f_r fd_r):Ce P w K mg base 14 "_law_told" 3 0 bz:=
 Mw F aaZ rfl λf c A o s H E hr x=>(gh (HQ 3 aaZ.nd S.m_ClockError S.o_ClockError (λ_ _=>(BD (bc (jr (jy hr)) (af 1) ao) (gh (oN (ko 0 jp.k lm hr (ag (aH (af 2) ao) ah)))) (BD (bc (jr (jy hr)) (af 1) ao) (gh (oN (ko 0 jp.k lv hr (ag (aH (af 2) ao) (ag (aH (af 2) ao) ah))))) (gh (oN (KC (bc (jr (jy hr)) (af 1) ao) (ko 0 jp.k lw hr (ag (aH (af 2) ao) ah)) (Bw 0 jp.k o0 hr))))))) (vB rfl (Sg rfl) aaa S B.b_isinstance B.b_ValueError (Hk hr)) (hcl:=λ_ _ z=>by cases z)))
theorem El{X:Cx}{j1 j2 j3 j4 j5 j6:Nat}{p1 p2 p3 p4 p5 p6 p7:Pos}:QE X (.List [(.Constant (.int 0) j1 p1),(.Constant (.int 0) j2 p2),(.Constant (.int 0) j3 p3),(.Constant (.int 1) j4 p4),(.Constant (.int 2) j5 p5),(.Constant (.int 3) j6 p6)] p7) (fz (ae (cn (.int 0)) (ae (cn (.int 0)) (ae (cn (.int 0)) (ae (cn (.int 1)) (ae (cn (.int 2)) (ae (cn (.int 3)) ai))))))):=by
 refine @ip X _ _ _ ?_
 refine @ag X _ _ _ _ ?_ ?_ rfl
 ·exact ao
 refine @ag X _ _ _ _ ?_ ?_ rfl
 ·exact ao
 refine @ag X _ _ _ _ ?_ ?_ rfl
 ·exact ao
 refine @ag X _ _ _ _ ?_ ?_ rfl
 ·exact ao
 refine @ag X _ _ _ _ ?_ ?_ rfl
 ·exact ao
 refine @ag X _ _ _ _ ?_ ?_ rfl
 ·exact ao
 exact ah
abbrev BS:ZF:=top 66
abbrev Jt:List Str:=["_law_script","_law_first","_law_desk","_law_rows","_law_k","_law_here","_law_record_here","_law_ask","_law_letter_here","_law_readings","_law_some","_law_due","_law_found"]
theorem aa9:aA Jt ["_law_script"] (aj BS):=gg
theorem Jn{f:ZE}(ab5:Fn K mg "law" BS ["_law_script"] f fd)(aaJ:Cl P w K mg base 2 "_law_small" 1 gB)(aam:Cs_ P w K mg base 15 "_law_begun" 1 bB)(aar:Cl P w K mg base 2 "_law_has" 1 di)(lf:Ml P w K mg base 1 "Desk" "record" aZ)(aaB:Cl P w K mg base 4 "_law_record" 3 fP)(aae:Cl P w K mg base 3 "_law_letter" 3 bM)(aa0:Cl P w K mg base 2 "_law_drawn" 3 aF)(aaQ:Cl P w K mg base 7 "_law_next" 3 cq)(li:Ml P w K mg base 1 "Desk" "many" de)(aaR:Ce P w K mg base 14 "_law_told" 3 0 bz)(B:Bl mg)(jp:eE K mg):EF P w K mg base 16 f fd ["_law_script"] 1 m_law:=
 sQ ab5.fn aa9 rfl λc A o s H E hr x=>(by(apply au;exact(aJ (a6 aaJ hr (ag (a6 aaB hr (ag (af 0) (ag ao (ag ao ah)))) ah)) (ar 1 aa9.nd));apply au;exact(Al 2 aa9.nd aam hr (ag (af 1) ah));apply au;exact(ck (dC (df (a6 aar hr (ag (af 1) ah)))) (aw (aI (eU 2 (iq (jr (jy hr)) (af 2) (aM (ag iW (ag ao ah))))))) bL);apply au;exact(ck (lK (mH (bc (rM (jy hr)) (a6 aam.cl hr (ag (cG (af 1) cF (cE ao)) ah)) (aM (ag iW (ag ao ah)))) (kq (bc (rM (jy hr)) (a6 aam.cl hr (ag (aM (ag (aH (af 1) ao) (ag bN ah))) ah)) (aM (ag iW (ag ao ah))))))) (aw (aI nr)) bL);apply au;exact(aJ (ip (ag (af 1) ah)) (ar 3 aa9.nd));apply au;exact(cC rfl (dF B.b_range (ag (cf (Ej rfl) B.b_max boot_max (ag ao (ag (cf (Kk rfl) B.b_min boot_min (ag ao (ag (cf bX B.b_len Pg (ag (af 0) ah)) ah))) ah))) ah)) (ar 4 aa9.nd) (by(apply au;exact(aJ (ax aN ao (ax dh ao (af 4))) (ar 5 aa9.nd));apply au;exact(aJ (aH (af 3) (lj ao)) (ar 6 aa9.nd));apply au;exact(aJ (aH El (a6 aa0 hr (ag (af 0) (ag (af 5) (ag ao ah))))) (ar 7 aa9.nd));apply au;exact(aJ (a6 aae hr (ag (af 0) (ag (ax aN (af 5) ao) (ag (aH (af 6) ao) ah)))) (ar 8 aa9.nd));apply au;exact(aJ (aH (aH (aH (af 6) ao) ao) ao) (ar 9 aa9.nd));apply au;exact(aJ (aM (ag (af 8) (ag (ax cV (a6 aa0 hr (ag (af 0) (ag (ax aN (af 5) ao) (ag ao ah)))) ao) (ag (ax cV (ax aN (aH (af 9) (lj ao)) (a6 aa0 hr (ag (af 0) (ag (ax aN (af 5) ao) (ag ao ah))))) ao) ah)))) (ar 10 aa9.nd));apply au;exact(ck (bc (jr (jy hr)) (af 7) ao) (au (aJ (vh (bc (jr (jy hr)) (cf bX B.b_len Pg (ag (af 3) ah)) ao) (aM (ag iW (ag ao ah))) bN) (ar 11 aa9.nd)) (aw (aJ (cG (af 3) cF (cE (cf (Ej rfl) B.b_max boot_max (ag ao (ag (ax cV (cf bX B.b_len Pg (ag (af 3) ah)) ao) ah))))) (ar 3 aa9.nd)))) (by(apply au;exact(aJ (a6 aaQ hr (ag (af 6) (ag (af 7) (ag (af 10) ah)))) (dX rfl (aO (ar 12 aa9.nd) (aO (ar 11 aa9.nd) cU))));apply au;exact(ck (lK (sO (bc fg (af 12) bN) (oJ (dC (df (a6 aar hr (ag (af 12) ah))))))) (aw (aJ (aM (ag bN (ag (aM (ag iW (ag ao ah))) ah))) (dX rfl (aO (ar 12 aa9.nd) (aO (ar 11 aa9.nd) cU))))) bL);exact aw (aJ (ax aN (af 3) (ax dh (ip (ag (af 12) ah)) (oM Ek B.b_int kf (ag (iq fg (af 12) bN) ah)))) (ar 3 aa9.nd)))));exact aw (ET (KA (Bv (ER (rM (jy hr)) (HI 2 aaR hr (ag (af 7) (ag (af 10) ah))) (af 11)) (Bv (ve (bc (rM (jy hr)) (eU 2 (gw jp.k lf hr (af 2))) (aH (af 3) (lj ao)))) (EO (ve (bc (rM (jy hr)) (eU 2 (gw jp.k li hr (af 2))) (ax cV (cf bX B.b_len Pg (ag (af 3) ah)) ao))))))) (aw (aI nr)) bL))));exact aw (aI (a6 aar hr (ag (eU 2 (gw jp.k lf hr (af 2))) ah)))))
end
@[elab_as_elim] theorem dQ {α:Type} {p:List α->Prop} (h:∀a0,p [a0]):∀us:List α,us.length=1->p us
 |[a0],_=>h a0
@[elab_as_elim] theorem fD {α:Type} {p:List α->Prop} (h:∀a0 a1,p [a0,a1]):∀us:List α,us.length=2->p us
 |[a0,a1],_=>h a0 a1
@[elab_as_elim] theorem jU {α:Type} {p:List α->Prop} (h:∀a0 a1 a2,p [a0,a1,a2]):∀us:List α,us.length=3->p us
 |[a0,a1,a2],_=>h a0 a1 a2
def all_ok{l:PySem.W.OpenLaw}{h:ZH}{fa:ZE}(X:K.In h)(e0:CT asks K=BJ asks top)(G:h.Ns Ox mg)(hfa:mg "law" =ZA (.ref fa)):
  ∃fd:Ot,(∀(s:NO)(v:NK),R7 s fd ⟨[v],[]⟩ [("_law_script",v)])/\∀base:ZH,K.In base->base.Ns Ox mg->FnOk l.prog w K mg base CX0 16 fa fd ["_law_script"] (spP K 1 m_law):=by
 have e:yd Ew K=xG Ew top:=congrArg (·.1) e0
 obtain⟨kc0,ka0,km0⟩:=Md (A:=⟨"Desk",50,["kept"],[("__init__","Desk.__init__",0),("record","Desk.record",1),("many","Desk.many",7),("keep","Desk.keep",2),("take","Desk.take",3),("read","Desk.read",4),("drop","Desk.drop",5),("undo","Desk.undo",6)]⟩) X G (mW 0 (congrArg (·.2) e0) rfl)
 have jp:eE K mg:=⟨kc0,ka0 _ (by decide)⟩
 have B:Bl mg:=⟨gk 0 X G e rfl,gk 1 X G e rfl,gk 2 X G e rfl,gk 3 X G e rfl,gk 4 X G e rfl,gk 5 X G e rfl,gk 6 X G e rfl,gk 7 X G e rfl,gk 8 X G e rfl,gk 9 X G e rfl,gk 10 X G e rfl,gk 11 X G e rfl⟩
 have C:Cs mg:=⟨sd 0 X G e rfl,sd 1 X G e rfl,sd 2 X G e rfl,sd 3 X G e rfl,sd 4 X G e rfl,sd 5 X G e rfl⟩;obtain⟨ci,ls,xD,xl,nd⟩:=Jo (Mc e);obtain⟨ac,ls0,x_NoRecord,rfl,xl0⟩:=gH xl;obtain⟨al,ls1,x_NoEvent,rfl,xl1⟩:=gH xl0;obtain⟨bi,ls2,x_NoNumber,rfl,xl2⟩:=gH xl1;obtain⟨bn,ls3,x_NoWorld,rfl,xl3⟩:=gH xl2;obtain⟨bv,ls4,x_Barred,rfl,xl4⟩:=gH xl3;obtain⟨ca,ls5,x_Nothing,rfl,xl5⟩:=gH xl4
 cases Ey xl5
 have S:Xs K mg ac al bi bn bv ca ci:=⟨QJ X G (ix x_NoRecord).1,QJ X G (ix x_NoEvent).1,QJ X G (ix x_NoNumber).1,QJ X G (ix x_NoWorld).1,QJ X G (ix x_Barred).1,QJ X G (ix x_Nothing).1,QJ X G (ix xD).1,Kw x_NoRecord xD,Kw x_NoEvent xD,Kw x_NoNumber xD,Kw x_NoWorld xD,Kw x_Barred xD,Kw x_Nothing xD,ox0 xD,nd⟩
 obtain⟨fd43,ab5,bnd⟩:=L5 (n:="law") (i:=66) (x:="_law_script") 43 X G e rfl hfa λ_ _ _ _ _ _ _=>rfl
 obtain⟨f44,fd44,aaa⟩:=cM (n:="_law_refused") (i:=61) (ps:=["_law_e"]) 44 X G e rfl λ_ _ _ _ _ _=>dQ λ_=>rfl
 refine⟨fd43,bnd,λbase _ _=>?_⟩
 have aa8:=pA l.prog w base (cM 0 X G e rfl λ_ _ _ _ _ _=>dQ λ_=>rfl) B
 have aaJ:=qS l.prog w base (cM 1 X G e rfl λ_ _ _ _ _ _=>dQ λ_=>rfl) aa8 B
 have aa3:=yc l.prog w base (cM 2 X G e rfl λ_ _ _ _ _ _=>jU λ_ _ _=>rfl) B
 have aaS:=v7 l.prog w base (cM 3 X G e rfl λ_ _ _ _ _ _=>dQ λ_=>rfl) B
 have aa2:=tZ l.prog w base (cM 4 X G e rfl λ_ _ _ _ _ _=>jU λ_ _ _=>rfl) aaS
 have aaX:=yb l.prog w base (cM 5 X G e rfl λ_ _ _ _ _ _=>fD λ_ _=>rfl) aa2 C
 have ab3:=CS l.prog w base (cM 6 X G e rfl λ_ _ _ _ _ _=>dQ λ_=>rfl) B
 have aat:=nT l.prog w base (cM 7 X G e rfl λ_ _ _ _ _ _=>dQ λ_=>rfl) aa3 ab3 aa2 B C
 have aaT:=wa l.prog w base (cM 8 X G e rfl λ_ _ _ _ _ _=>dQ λ_=>rfl) aa3 aaX aat
 have aaE:=qQ l.prog w base (cM 9 X G e rfl λ_ _ _ _ _ _=>dQ λ_=>rfl) aa3 aaT B C
 have aaD:=v8 l.prog w base (cM 10 X G e rfl λ_ _ _ _ _ _=>fD λ_ _=>rfl) aa2 aa3 B
 have aaU:=v9 l.prog w base (cM 11 X G e rfl λ_ _ _ _ _ _=>fD λ_ _=>rfl) aa2 C
 have aaN:=ua l.prog w base (cM 12 X G e rfl λ_ _ _ _ _ _=>fD λ_ _=>rfl) aaD aa3 aaU
 have aax:=pq l.prog w base (cM 13 X G e rfl λ_ _ _ _ _ _=>fD λ_ _=>rfl) aa3 aaN B C
 have aag:=t9 l.prog w base (cM 14 X G e rfl λ_ _ _ _ _ _=>dQ λ_=>rfl) aa3 aaE aax
 have aa1:=pj l.prog w base (cM 15 X G e rfl λ_ _ _ _ _ _=>dQ λ_=>rfl) aag S
 have ab0:=AE l.prog w base (cM 16 X G e rfl λ_ _ _ _ _ _=>dQ λ_=>rfl) aa1 B
 have aaO:=ub l.prog w base (cM 17 X G e rfl λ_ _ _ _ _ _=>jU λ_ _ _=>rfl)
 have ab1:=AD l.prog w base (cM 18 X G e rfl λ_ _ _ _ _ _=>fD λ_ _=>rfl) aaO B
 have aap:=mf l.prog w base (cM 19 X G e rfl λ_ _ _ _ _ _=>fD λ_ _=>rfl) ab0 ab1 B
 have aao:=lu l.prog w base (cM 20 X G e rfl λ_ _ _ _ _ _=>fD λ_ _=>rfl) B
 have aal:=kK l.prog w base (cM 21 X G e rfl λ_ _ _ _ _ _=>dQ λ_=>rfl)
 have ab2:=AF l.prog w base (cM 22 X G e rfl λ_ _ _ _ _ _=>dQ λ_=>rfl) aa1 aao aal B
 have ab4:=CP l.prog w base (cM 23 X G e rfl λ_ _ _ _ _ _=>dQ λ_=>rfl) aap ab2
 have aaj:=ud l.prog w base (cM 24 X G e rfl λ_ _ _ _ _ _=>dQ λ_=>rfl) ab4
 have aaF:=qP l.prog w base (cM 25 X G e rfl λ_ _ _ _ _ _=>dQ λ_=>rfl) aaj S
 have kt:=mO l.prog w base (jV 0 km0 rfl λ_ _ _ _ _ _=>fD λ_ _=>rfl) aaF jp
 have aam:=qV l.prog w base (cM 26 X G e rfl λ_ _ _ _ _ _=>dQ λ_=>rfl) kt B jp S aaa
 have aaG:=qR l.prog w base (cM 27 X G e rfl λ_ _ _ _ _ _=>fD λ_ _=>rfl) B
 have aay:=pB l.prog w base (cM 28 X G e rfl λ_ _ _ _ _ _=>dQ λ_=>rfl) B
 have aar:=wb l.prog w base (cM 29 X G e rfl λ_ _ _ _ _ _=>dQ λ_=>rfl) aaG aa8 aay
 have lf:=pC l.prog w base (jV 1 km0 rfl λ_ _ _ _ _ _=>dQ λ_=>rfl) jp
 have aaP:=ug l.prog w base (cM 30 X G e rfl λ_ _ _ _ _ _=>fD λ_ _=>rfl) B
 have aa0:=qT l.prog w base (cM 31 X G e rfl λ_ _ _ _ _ _=>jU λ_ _ _=>rfl) aaP
 have aae:=pz l.prog w base (cM 32 X G e rfl λ_ _ _ _ _ _=>jU λ_ _ _=>rfl) aa8 aa0 B
 have aaH:=qU l.prog w base (cM 33 X G e rfl λ_ _ _ _ _ _=>fD λ_ _=>rfl) aa0 B
 have aaB:=pw l.prog w base (cM 34 X G e rfl λ_ _ _ _ _ _=>jU λ_ _ _=>rfl) aa0 aae aaH B
 have aaQ:=uf l.prog w base (cM 35 X G e rfl λ_ _ _ _ _ _=>jU λ_ _ _=>rfl) aag B
 have li:=uk l.prog w base (jV 2 km0 rfl λ_ _ _ _ _ _=>dQ λ_=>rfl) B jp
 have ld:=um l.prog w base (jV 3 km0 rfl λ_ _ _ _ _ _=>fD λ_ _=>rfl) aaj jp S
 have aak:=uc l.prog w base (cM 36 X G e rfl λ_ _ _ _ _ _=>dQ λ_=>rfl) aa1
 have aaA:=ph l.prog w base (cM 37 X G e rfl λ_ _ _ _ _ _=>fD λ_ _=>rfl) aa1 aak
 have lm:=ui l.prog w base (jV 4 km0 rfl λ_ _ _ _ _ _=>fD λ_ _=>rfl) ld aaA lf B jp
 have aaf:=pk l.prog w base (cM 38 X G e rfl λ_ _ _ _ _ _=>fD λ_ _=>rfl) aa2 S
 have aaI:=qO l.prog w base (cM 39 X G e rfl λ_ _ _ _ _ _=>jU λ_ _ _=>rfl) aak
 have aau:=nS l.prog w base (cM 40 X G e rfl λ_ _ _ _ _ _=>jU λ_ _ _=>rfl) aa1 aaf aaI B
 have lv:=uj l.prog w base (jV 5 km0 rfl λ_ _ _ _ _ _=>jU λ_ _ _=>rfl) ld aau lf B jp
 have aaq:=md l.prog w base (cM 41 X G e rfl λ_ _ _ _ _ _=>fD λ_ _=>rfl) aa1 aaf B
 have lw:=uo l.prog w base (jV 6 km0 rfl λ_ _ _ _ _ _=>fD λ_ _=>rfl) ld aaq lf jp
 have o0:=uh l.prog w base (jV 7 km0 rfl λ_ _ _ _ _ _=>dQ λ_=>rfl) li jp S
 have aaR:=ue l.prog w base (cM 42 X G e rfl λ_ _ _ _ _ _=>jU λ_ _ _=>rfl) lm lv lw o0 B jp S aaa
 exact(Jn l.prog w base ab5 aaJ aam aar lf aaB aae aa0 aaQ li aaR B jp).h
end G
variable{M:Nat}{k:Bool}
namespace Tr
open PySem
abbrev RR(cs ls:List T):T:=.tup [.tup cs,.tup ls]
mutual
def T.pl:T->Bool
 |.scr _=>ZD
 |.dct _ _=>ZD
 |.ob _ _ _=>ZD
 |.tup l=>plS l
 |.lst l=>plS l
 |_=>ZC
def plS:List T->Bool
 |[] =>ZC
 |t::l=>t.pl&&plS l
end
theorem gx:∀{l:List T}{t:T},plS l=ZC->t∈l->t.pl=ZC
 |[],_,_,h=>by cases h
 |u::l,t,h,m=>by
  unfold plS at h;rw[NL]at h;rcases NR.mp m with rfl|m
  ·exact h.1
  ·exact gx h.2 m
mutual
theorem T.M4:∀(t:T),t.pl=ZC->t.nd=ZC
 |.non,_=>rfl
 |.bl _,_=>rfl
 |.int _,_=>rfl
 |.str _,_=>rfl
 |.scr _,h=>by cases h
 |.dct _ _,h=>by cases h
 |.ob _ _ _,h=>by cases h
 |.tup l,h=>by unfold T.pl at h;unfold T.nd;exact plS_nds l h
 |.lst l,h=>by unfold T.pl at h;unfold T.nd;exact plS_nds l h
theorem plS_nds:∀(l:List T),plS l=ZC->nds l=ZC
 |[],_=>rfl
 |t::l,h=>by
  unfold plS at h;rw[NL]at h;unfold nds;rw[T.M4 t h.1,plS_nds l h.2];rfl
end
variable{fe:V5}{h:T->T}
theorem yr:∀(ts:List T)(Z:En),0<Z.length->(∀t∈ts,fe (Z.set 0 (.va t))=.ok (h t))->d8 (gN 0) bT fe ts Z=.ok (ts.map h)
 |[],_,_,_=>rfl
 |t::r,Z,hl,hf=>by
  unfold d8
  have e1:gN 0 t Z=.ok (Z.set 0 (.va t)):=by unfold gN;rw[if_pos hl]
  have ih:=yr r (Z.set 0 (.va t)) (by rw[Pa];exact hl) (λu hu=>by rw[UG];exact hf u (NJ _ hu))
  simp only[e1,ay,bT,if_true,hf t NN,ih,NM]
variable{p:T->Bool}
theorem r8{fc:V6}:∀(ts:List T)(Z:En),0<Z.length->(∀t∈ts,fc (Z.set 0 (.va t))=.ok (p t)/\(p t=ZC->fe (Z.set 0 (.va t))=.ok (h t)))->d8 (gN 0) fc fe ts Z=.ok ((ts.filter p).map h)
 |[],_,_,_=>rfl
 |t::r,Z,hl,hf=>by
  unfold d8
  have e1:gN 0 t Z=.ok (Z.set 0 (.va t)):=by unfold gN;rw[if_pos hl]
  have ih:=r8 r (Z.set 0 (.va t)) (by rw[Pa];exact hl) (λu hu=>by rw[UG];exact hf u (NJ _ hu))
  obtain⟨h1,h2⟩:=hf t NN;simp only[e1,ay,h1]
  cases q:p t with
  |true=>simp only[if_true,h2 q,ay,ih,UO,q,NM]
  |false=>simp only[TM,if_false,ih,UO,q]
theorem sy(p:T->Bool):∀l:List T,qx (l.map λt=>T.bl (p t))=ZA (l.map p)
 |[] =>rfl
 |t::l=>by rw[NM,qx,sy p l];rfl
theorem all_map(p:T->Bool)(l:List T):rj [.lst (l.map λt=>T.bl (p t))]=.ok (.bl (l.all p)):=by
 simp only[rj,sy,List.all_map]
 rfl
def lH{l:List α}{k:Nat}{t:α}(h:l[k]?=ZA t):L2.atI l (k:Int)=ZA t:=by
 have hk:k<l.length:=(NU.mp h).1
 unfold L2.atI L2.ixN;rw[if_pos (by omega),if_pos (by omega),Py]
 exact h
def az{k:Nat}(h:n<=k)(hk:autoParam (k<=1000) aqb._auto_1):n<=sizeLine:=by unfold sizeLine;omega
variable{b:V6}{fi:V3}{g:T->En->Rs En}{ks:List T}{x:Rs T}
section
variable {f fa fb fc:V5}{fs:V3}{c:V6}{F G:V4}{Z Z' Z1 Z2:En}{t u r:T}{ts l m:List T}
def Dn(h:Z[i]?=ZA (.va t)):vr i Z=.ok t:=by unfold vr;rw[h]
variable{g:T->T->Rs T}
def aL(ha:fa Z=.ok t)(hb:fb Z=.ok u)(hg:g t u=x):o2 g fa fb Z=x:=by unfold o2;rw[ha,hb];exact hg
def L3{c:Str}(ha:fa Z=.err c):o2 g fa fb Z=.err c:=by unfold o2;rw[ha];rfl
def Gj{g:T->Rs T}(ha:fa Z=.ok t)(hg:g t=x):o1 g fa Z=x:=by unfold o1;rw[ha];exact hg
def L1{vs:List T}(ha:fa Z=.ok (.dct ks vs))(hb:fb Z=.ok u)(hg:g (.dct ks vs) u=x):oD g fa fb Z=x:=by unfold oD;rw[ha];show(fb Z >>= g (.dct ks vs))=_;rw[hb];exact hg
def k_oL(ha:fa Z=.ok (.lst ks))(hb:fb Z=.ok u)(hg:g (.lst ks) u=x):oL g fa fb Z=x:=by unfold oL;rw[ha];show(fb Z >>= g (.lst ks))=_;rw[hb];exact hg
def aq(h:f Z=.ok t)(hs:fs Z=.ok ts):ae f fs Z=.ok (t::ts):=by unfold ae;rw[h,hs];rfl
def zN{c:Str}(h:f Z=.err c):ae f fs Z=.err c:=by unfold ae;rw[h];rfl
variable{g:List T->Rs T}
def aU(h:fs Z=.ok ts)(hg:g ts=x):cl g fs Z=x:=by unfold cl;rw[h];exact hg
def Me{c:Str}(h:fs Z=.err c):cl g fs Z=.err c:=by unfold cl;rw[h];rfl
def bf(h:f Z=.ok (.bl k)):tb f Z=.ok k:=by unfold tb;rw[h];rfl
def L0{c:Str}(h:f Z=.err c):tb f Z=.err c:=by unfold tb;rw[h];rfl
def gY(h:b Z=.ok k):cH b Z=.ok (!k):=by unfold cH;rw[h];rfl
def JO{c:Str}(h:b Z=.err c):cH b Z=.err c:=by unfold cH;rw[h];rfl
def Ht(h:b Z=.ok ZC):nR b c Z=.ok ZC:=by unfold nR;rw[h];rfl
variable{x:Rs Bool}
def zK(h:b Z=.ok ZD)(h2:c Z=x):nR b c Z=x:=by unfold nR;rw[h];exact h2
def yA(h:b Z=.ok ZD):lI b c Z=.ok ZD:=by unfold lI;rw[h];rfl
def qe(h:b Z=.ok ZC)(h2:c Z=x):lI b c Z=x:=by unfold lI;rw[h];exact h2
def JM(h:fa Z=.ok (.bl ZC)):EJ fa fb Z=.ok (.bl ZC):=by unfold EJ;rw[h];rfl
def JN(h:fa Z=.ok (.bl ZD)):EJ fa fb Z=fb Z:=by unfold EJ;rw[h];rfl
def se{p:Bool}(h:b Z=.ok p):yD b fa fb Z=if p then fa Z else fb Z:=by unfold yD;rw[h];rfl
variable{g:T->En->Rs En}
def bW(h:f Z=.ok t)(hg:g t Z=.ok Z'):cj f g Z=.ok (.nx Z'):=by unfold cj;rw[h];show(match g t Z with|.ok Z'=>Rs.ok (Fl.nx Z')|_=>.bad)=_;rw[hg]
def aE(h:F Z=.ok (.nx Z')):aD F G Z=G Z':=by unfold aD;rw[h];rfl
def gX(h:F Z=.ok (.rt t)):aD F G Z=.ok (.rt t):=by unfold aD;rw[h];rfl
def Dp(h:F Z=.ok (.ct Z')):aD F G Z=.ok (.ct Z'):=by unfold aD;rw[h];rfl
def uO{c:Str}(h:F Z=.err c):aD F G Z=.err c:=by unfold aD;rw[h];rfl
def dS(h:b Z=.ok ZC):eZ b F G Z=F Z:=by unfold eZ;rw[h];rfl
def d7(h:b Z=.ok ZD):eZ b F G Z=G Z:=by unfold eZ;rw[h];rfl
def JT{c:Str}(h:b Z=.err c):eZ b F G Z=.err c:=by unfold eZ;rw[h];rfl
def cX(h:f Z=.ok t):aR f Z=.ok (.rt t):=by unfold aR;rw[h];rfl
def yw{c:Str}(h:f Z=.err c):aR f Z=.err c:=by unfold aR;rw[h];rfl
def rh(h:f Z=.ok t):xV f Z=.ok (.nx Z):=by unfold xV;rw[h];rfl
def zM{c:Str}(h:f Z=.err c):xV f Z=.err c:=by unfold xV;rw[h];rfl
def fX{x:Fl}(h:fi Z=.ok ts)(h2:bx g F ts Z=.ok x):fH fi g F Z=.ok x:=by unfold fH;rw[h];show(match bx g F ts Z with|.ok f=>Rs.ok f|_=>.bad)=_;rw[h2]
def dR(h:g t Z=.ok Z1)(h2:F Z1=.ok (.nx Z2)):bx g F (t::ts) Z=bx g F ts Z2:=by rw[bx,h];show(F Z1 >>= _)=_;rw[h2];rfl
def Gq(h:g t Z=.ok Z1)(h2:F Z1=.ok (.ct Z2)):bx g F (t::ts) Z=bx g F ts Z2:=by rw[bx,h];show(F Z1 >>= _)=_;rw[h2];rfl
def Gp(h:g t Z=.ok Z1)(h2:F Z1=.ok (.rt r)):bx g F (t::ts) Z=.ok (.rt r):=by rw[bx,h];show(F Z1 >>= _)=_;rw[h2];rfl
def Dm(h:c Z=.ok ZD):bZ c F (n+1) Z=.ok (.nx Z):=by unfold bZ;rw[h]
def wN(h:c Z=.ok ZC)(h2:F Z=.ok (.nx Z')):bZ c F (n+1) Z=bZ c F n Z':=by rw[bZ,h];simp only[h2]
def Dl(h:c Z=.ok ZC)(h2:F Z=.ok (.rt t)):bZ c F (n+1) Z=.ok (.rt t):=by rw[bZ,h];simp only[h2]
def cA{m:Nat}(hl:ts.length=n)(h:F (aQ m ts)=.ok (.rt t)):val n m F ts=.ok t:=by unfold val;rw[if_pos hl];unfold bS;rw[h];rfl
def gW{m:Nat}{c:Str}(hl:ts.length=n)(h:F (aQ m ts)=.err c):val n m F ts=.err c:=by unfold val;rw[if_pos hl];unfold bS;rw[h];rfl
def yv{m:Nat}(hl:ts.length=n)(h:F (aQ m ts)=.ok (.nx Z)):val n m F ts=.ok .non:=by unfold val;rw[if_pos hl];unfold bS;rw[h];rfl
def yz{src:List (Option Nat)}(hi:fi Z=.ok ts)(hs:ts.length<=sizeLine)(hn:0<src.length)(hf:∀t∈ts,fe ((b9 src Z).set 0 (.va t))=.ok (h t)):
  ig fi src (gN 0) bT fe Z=.ok (.lst (ts.map h)):=by
 have e:=yr (fe:=fe) (h:=h) ts (b9 src Z) (by unfold b9;rw[NP];exact hn) hf
 unfold ig;rw[hi,ay,if_pos hs,e]
def Hv{src:List (Option Nat)}{fc:V6}(hi:fi Z=.ok ts)(hs:ts.length<=sizeLine)(hn:0<src.length)
  (hf:∀t∈ts,fc ((b9 src Z).set 0 (.va t))=.ok (p t)/\(p t=ZC->fe ((b9 src Z).set 0 (.va t))=.ok (h t))):ig fi src (gN 0) fc fe Z=.ok (.lst ((ts.filter p).map h)):=by
 have e:=r8 (fc:=fc) (fe:=fe) (p:=p) (h:=h) ts (b9 src Z) (by unfold b9;rw[NP];exact hn) hf
 unfold ig;rw[hi,ay,if_pos hs,e]
def ba(h:fs Z=.ok ts)(hl:ts.length<=sizeLine):aK fs Z=.ok (.tup ts):=by unfold aK;rw[h];show la ts=_;unfold la;rw[if_pos hl]
def mn(h:fs Z=.ok ts)(hl:ts.length<=sizeLine):fz fs Z=.ok (.lst ts):=by unfold fz;rw[h];show lb ts=_;unfold lb;rw[if_pos hl]
def Dr{f:V3}(h:f Z=.ok l)(hi:i<Z.length)(hl:l.length<=1000):jI i f Z=.ok (.nx (Z.set i (.ow (.lst l)))):=by
 unfold jI;rw[h,ay,if_pos ⟨hi,az hl (by omega)⟩]
def yx(hi:i<Z.length):jI i ai Z=.ok (.nx (Z.set i (.ow (.lst [])))):=Dr rfl hi (Qg _)
def qc(h:f Z=.ok t)(hi:Z[i]?=ZA (.ow (.lst l)))(hl:l.length<=1000):jw i f Z=.ok (.nx (Z.set i (.ow (.lst (l++[t]))))):=by
 unfold jw;rw[hi];simp only[h,ay];rw[if_pos (by unfold sizeLine;omega)]
def Du(h:f Z=.ok (.lst m))(hi:Z[i]?=ZA (.ow (.lst l)))(hl:l.length+m.length<=1000):o8 i f Z=.ok (.nx (Z.set i (.ow (.lst (l++m))))):=by
 unfold o8;rw[hi];simp only[h,ay,J3];rw[if_pos (by unfold sizeLine;omega)]
def L9(h:f Z=.ok (.tup l)):iS f Z=.ok l:=by unfold iS;rw[h];rfl
def Dt(h:f Z=.ok (.lst l)):iS f Z=.ok l:=by unfold iS;rw[h];rfl
def Ma(h:fs Z=.ok [.lst l]):iE fs Z=.ok (cP 0 l):=by unfold iE;rw[h];rfl
def L6(e:l[n]?=ZA t):aV (.tup l) (.int (n:Int))=.ok t:=by show(match L2.atI l _ with|some t=>Rs.ok t|none=>.bad)=_;rw[lH e]
def JS(e:l[n]?=ZA t):aV (.lst l) (.int (n:Int))=.ok t:=by show(match L2.atI l _ with|some t=>Rs.ok t|none=>.bad)=_;rw[lH e]
def iA(h:fa Z=.ok (.tup l))(h2:fb Z=.ok (.int (n:Int)))(e:l[n]?=ZA t):o2 aV fa fb Z=.ok t:=aL h h2 (L6 e)
def L7(h:fa Z=.ok (.lst l))(h2:fb Z=.ok (.int (n:Int)))(e:l[n]?=ZA t):o2 aV fa fb Z=.ok t:=aL h h2 (JS e)
def AV{fl fu:En->Rs (Option Int)}(h:fe Z=.ok (.tup l))(h1:fl Z=.ok lo)(h2:fu Z=.ok hi):sl fe fl fu Z=.ok (.tup (n8 l lo hi)):=by
 unfold sl;rw[h,h1,h2];rfl
def Hs{fl fu:En->Rs (Option Int)}(h:fe Z=.ok (.lst l))(h1:fl Z=.ok lo)(h2:fu Z=.ok hi):sl fe fl fu Z=.ok (.lst (n8 l lo hi)):=by
 unfold sl;rw[h,h1,h2];rfl
def wO{i:Int}(h:f Z=.ok (.int i)):pS f Z=.ok (ZA i):=by unfold pS;rw[h];rfl
def kc(l:List T)(n:Nat):n8 l ZB (ZA (n:Int))=l.take n:=by
 unfold n8;rw[HT.sIx_none,HT.sIx_nat,List.drop_zero,SS,List.take_eq_take_iff];omega
def xi(l:List T)(n:Nat):n8 l (ZA (n:Int)) ZB=l.drop n:=by
 unfold n8;rw[HT.sIx_none,HT.sIx_nat]
 by_cases h:n<=l.length
 ·rw[U9 h]
  exact SG (by rw[Qt];omega)
 ·rw[UP (by omega),Rm (N3 _),Rm (by omega),List.take_nil]
def Gs{o:OT}(hi:Z[i]?=ZA (.ow o))(h:f (disown i Z)=.ok t)(hk:t.nk o.isD=ZC):ln i f Z=.ok t:=by
 unfold ln;rw[hi];simp only[h,ay,hk,if_true]
def L4(h:b (disown i Z)=.ok k):JA i b Z=.ok k:=h
def Dv{x:Rs Fl}(h:F (disown i Z)=x):nP i F Z=x:=h
end
def mk2(a b:T):la [a,b]=.ok (.tup [a,b]):=by unfold la;rw[if_pos (az (k:=1000) (by simp only[NS,U5];omega))]
def l7(n:Nat):(rng 0 n).length=n:=by unfold rng;rw[NP,Qo];omega
variable{h:Str->Rs T}{sls:List Sl}{y:En->Rs (Bool×En)}
section
variable {Z Z':En}{f fa fo:V5}{fs:V3}{t u:T}{ts l:List T}{x:En->Rs (T×En)}{c m n a:Str}{ns:List Str}{ls:List (List T)}{F G:En->Rs Fx}{o:OT}{g:List Sl->Rs (T×OT)}{d:Str}
def Hu{gm:List T->Rs T}{r:Rs T}(h:fo Z=.ok (.ob c ns ts))(hm:ns.contains m=ZD)(hs:fs Z=.ok l)(hg:gm (.ob c ns ts::l)=r):wB c m gm fo fs Z=r:=by
 unfold wB;rw[h];show(if _ then _ else _)=_;rw[if_pos ⟨rfl,hm⟩,hs];exact hg
def Hw(h:fa Z=.ok (.ob c ns ts))(hg:my a ns ts=ZA t):o1 (yH c a) fa Z=.ok t:=Gj h (by show(if _ then _ else _)=_;rw[if_pos rfl,hg])
def JJ(h:f Z=.ok t):xP f Z=.ok (t,Z):=by unfold xP;rw[h];rfl
def LY(h:f Z=.err d):xP f Z=.err d:=by unfold xP;rw[h];rfl
def JL(hi:Z[i]?=ZA (.ow (.ob c ns ls)))(hf:my a ns ls=ZA l)(h:fa Z=.ok t)(hl:l.length<=1000):Ao i c a fa Z=.ok (.non,Z.set i (.ow (.ob c ns (lD a (l++[t]) ns ls)))):=by
 unfold Ao;rw[hi];show(if _ then _ else _)=_;rw[if_pos rfl,hf];show(fa Z >>= _)=_;rw[h];show(if _ then _ else _)=_;rw[if_pos (by unfold sizeLine;omega)]
def JI(hi:Z[i]?=ZA (.ow (.ob c ns ls)))(hf:my a ns ls=ZA (l++[t])):An i c a Z=.ok (t,Z.set i (.ow (.ob c ns (lD a l ns ls)))):=by
 unfold An;rw[hi];show(if _ then _ else _)=_;rw[if_pos rfl,hf];simp
def Dh{r:Rs (T×OT)}(h:r=.ok (t,o)):BG i Z r=.ok (t,Z.set i (.ow o)):=by rw[h];rfl
def kD(hi:Z[i]?=ZA (.ow (.ob c ns ls)))(hm:ns.contains m=ZD)(hs:fs Z=.ok ts)(h:g (.ow (.ob c ns ls)::ts.map Sl.va)=.ok (t,o)):c8 i c m g fs Z=.ok (t,Z.set i (.ow o)):=by
 unfold c8;rw[hi];show(if _ then _ else _)=_;rw[if_pos ⟨rfl,hm⟩,hs];exact Dh h
def gV(hi:Z[i]?=ZA (.ow (.ob c ns ls)))(hm:ns.contains m=ZD)(hs:fs Z=.ok ts)(h:g (.ow (.ob c ns ls)::ts.map Sl.va)=.err d):c8 i c m g fs Z=.err d:=by
 unfold c8;rw[hi];show(if _ then _ else _)=_;rw[if_pos ⟨rfl,hm⟩,hs];show BG i Z _=_;rw[h];rfl
def Di(hi:Z[i]?=ZA (.ow (.ob c ns ls)))(hm:ns.contains m=ZD)(hs:fs Z=.err d):c8 i c m g fs Z=.err d:=by
 unfold c8;rw[hi];show(if _ then _ else _)=_;rw[if_pos ⟨rfl,hm⟩,hs];rfl
def JK(hi:Z[i]?=ZA (.ow o))(hs:fs Z=.ok ts){o':OT}(h:g (.ow o::ts.map Sl.va)=.ok (t,o')):xC i g fs Z=.ok (t,Z.set i (.ow o')):=by
 unfold xC;rw[hi];show(fs Z >>= _)=_;rw[hs];exact Dh h
def p8{k:Fx}(h:F Z=.ok (.nx Z'))(h2:G Z'=.ok k):nV F G Z=.ok k:=by unfold nV;rw[h];show EK (G Z')=_;rw[h2];rfl
def ij(h:F Z=.err d):nV F G Z=.err d:=by unfold nV;rw[h]
def wQ(h:x Z=.ok (t,Z')):xy x Z=.ok (.nx Z'):=by unfold xy;rw[h];rfl
def uP(h:x Z=.err d):xy x Z=.err d:=by unfold xy;rw[h];rfl
def mZ(h:x Z=.ok (t,Z')):lA x Z=.ok (.rt t Z'):=by unfold lA;rw[h];rfl
def mm(h:x Z=.err d):lA x Z=.err d:=by unfold lA;rw[h];rfl
def zL(h:b Z=.ok k):Jy b F G Z=if k then F Z else G Z:=by unfold Jy;rw[h];rfl
def JR(hi:Z[i]?=ZA (.ow (.ob c ns ls)))(hs:fs Z=.ok l)(hl:l.length<=1000)(hn:ns.length<1000):AN i c a fs Z=.ok (.nx (Z.set i (.ow (if ns.contains a then .ob c ns (lD a l ns ls)else .ob c (ns++[a]) (ls++[l]))))):=by
 unfold AN;rw[hi];show(fs Z >>= _)=_;rw[hs];show(if _ then _ else _)=_;rw[if_pos ⟨rfl,by unfold sizeLine;omega,hn⟩]
def JQ{k:Fx}(e:F Z=.ok k):wI F h Z=.ok k:=by unfold wI;rw[e]
def Gn(e:F Z=.err d)(e2:h d=.ok t):wI F h Z=.ok (.rt t Z):=by unfold wI;rw[e];simp only[e2]
def uN(hl:sls.length=N)(h:F (fG M sls)=.ok (.rt t Z))(hj:Z[j]?=ZA (.ow o)):iJ N j M F sls=.ok (t,o):=by unfold iJ;rw[if_pos hl,h];show qN j (.rt t Z)=_;unfold qN;simp only[hj]
def ou(hl:sls.length=N)(h:F (fG M sls)=.ok (.nx Z))(hj:Z[j]?=ZA (.ow o)):iJ N j M F sls=.ok (.non,o):=by unfold iJ;rw[if_pos hl,h];show qN j (.nx Z)=_;unfold qN;simp only[hj]
def fS(hl:sls.length=N)(h:F (fG M sls)=.err d):iJ N j M F sls=.err d:=by unfold iJ;rw[if_pos hl,h];rfl
def LZ{r:T->T->Rs T}{v:T}(h:x Z=.ok (t,Z'))(h2:f Z'=.ok u)(hr:r t u=.ok v):EZ r x f Z=.ok (v,Z'):=by unfold EZ;rw[h];show(EK (f Z' >>= _) >>= _)=_;rw[h2];show(EK (r t u) >>= _)=_;rw[hr];rfl
def LX{b:Bool}(h:x Z=.ok (.bl b,Z')):HV x Z=.ok (b,Z'):=by unfold HV;rw[h];rfl
def Hr(h:b Z=.ok k):EX b Z=.ok (k,Z):=by unfold EX;rw[h];rfl
def zJ{z:En->Rs (Bool×En)}{p:Bool×En}(h:y Z=.ok (ZD,Z'))(h2:z Z'=.ok p):sR y z Z=.ok p:=by unfold sR;rw[h];show EK (z Z')=_;rw[h2];rfl
def L8{A B:V4}{b:Bool}(h:y Z=.ok (b,Z')):xU y A B Z=if b then A Z' else B Z':=by unfold xU;rw[h];rfl
end
end Tr
variable{k:Nat}{s:Int}{w:List Nat}
namespace Gr
variable {ν:Type}[DecidableEq ν]
abbrev cu(ν:Type):=List (ν×ν×Int)
inductive Wk (L:cu ν):ν->ν->Int->Prop
 |nil (a:ν):Wk L a a 0
 |step {a b c:ν} {m s:Int}:(a,b,m)∈L->Wk L b c s->Wk L a c (m+s)
def Wk.one{L:cu ν}{a b:ν}(h:(a,b,m)∈L):Wk L a b m:=by
 have:=Wk.step h (Wk.nil (L:=L) b)
 rwa [Int.add_zero]at this
def Wk.app{L:cu ν}{a b c:ν}{t:Int}(h:Wk L a b s)(k:Wk L b c t):Wk L a c (s+t):=by
 induction h with
 |nil a=>rwa [Int.zero_add]
 |step e _ ih=>rw[Int.add_assoc];exact .step e (ih k)
def Holds(L:cu ν)(t:ν->Int):Prop:=∀a b m,(a,b,m)∈L->t b - t a<=m
def Holds.walk{L:cu ν}{t:ν->Int}(h:Holds L t){a b:ν}(w:Wk L a b s):t b - t a<=s:=by
 induction w with
 |nil a=>omega
 |step e _ ih=>have:=h _ _ _ e;omega
def nM(L:cu ν):Prop:=∀a s,Wk L a a s->0<=s
def Holds.Nv{L:cu ν}{t:ν->Int}(h:Holds L t):nM L:=λa s w=>by have:=h.walk w;omega
def Ch(L:cu ν):ν->List Nat->ν->Prop
 |a,[],b=>a=b
 |a,k::r,b=>∃c m,L[k]?=ZA (a,c,m)/\Ch L c r b
def most(L:cu ν)(k:Nat):Int:=match L[k]? with
 |some x=>x.2.2
 |none=>0
def fA(L:cu ν):List Nat->Int
 |[] =>0
 |k::r=>most L k+fA L r
theorem mC(L:cu ν):∀(p q:List Nat),fA L (p++q)=fA L p+fA L q
 |[],q=>by simp[fA]
 |k::p,q=>by rw[SD,fA,fA,mC L p q];omega
theorem Ch.wk{L:cu ν}:∀{ks:List Nat}{a b:ν},Ch L a ks b->Wk L a b (fA L ks)
 |[],a,b,h=>by cases h;exact .nil a
 |k::r,a,b,⟨c,m,e,h⟩=>by
  have:fA L (k::r)=m+fA L r:=by rw[fA,most,e]
  rw[this];exact .step (Qk e) h.wk
theorem Ch.app{L:cu ν}:∀{p q:List Nat}{a b c:ν},Ch L a p b->Ch L b q c->Ch L a (p++q) c
 |[],q,a,b,c,h,k=>by cases h;exact k
 |x::p,q,a,b,c,⟨d,m,e,h⟩,k=>⟨d,m,e,Ch.app h k⟩
theorem Ch.lt{L:cu ν}:∀{ks:List Nat}{a b:ν},Ch L a ks b->∀k∈ks,k<L.length
 |[],_,_,_,k,hk=>by simp at hk
 |x::r,a,b,⟨c,m,e,h⟩,k,hk=>by
  rcases NR.mp hk with rfl|hk
  ·exact(NU.mp e).1
  ·exact h.lt k hk
def Ch.snoc{L:cu ν}{p:List Nat}{a b c:ν}(h:Ch L a p b)(e:L[k]?=ZA (b,c,m)):Ch L a (p++[k]) c:=h.app ⟨c,m,e,rfl⟩
def src(L:cu ν)(k:Nat):Option ν:=(L[k]?).map (·.1)
abbrev cQ(ν:Type):=ν->Option (Int×List Nat)
def put(b:cQ ν)(v:ν)(x:Int×List Nat):cQ ν:=λu=>if u=v then ZA x else b u
variable{x:Int×List Nat}
def e9{b:cQ ν}{v:ν}:put b v x v=ZA x:=by unfold put;rw[if_pos rfl]
def lq{b:cQ ν}{u v:ν}(h:u≠v):put b v x u=b u:=by unfold put;rw[if_neg h]
def fy(L:cu ν)(ks:List Nat):List ν:=ks.filterMap (src L)
def fq(b:cQ ν)(v:ν)(d:Int):Bool:=match b v with
 |none=>ZC
 |some x=>decide (d<x.1)
def iO(L:cu ν)(b:cQ ν)(k:Nat)(x:ν×ν×Int):Sum (Option (cQ ν)) (List Nat):=match b x.1 with
 |none=>.inl ZB
 |some (d,w)=>if fq b x.2.1 (d+x.2.2)=ZC then
   if x.2.1∈fy L (w++[k])then .inr ((w++[k]).drop ((fy L (w++[k])).idxOf x.2.1))else .inl (ZA (put b x.2.1 (d+x.2.2,w++[k])))
  else .inl ZB
def jn(L:cu ν):Nat->cu ν->cQ ν->Bool->Sum (cQ ν×Bool) (List Nat)
 |_,[],b,mv=>.inl (b,mv)
 |k,x::r,b,mv=>match iO L b k x with
  |.inr q=>.inr q
  |.inl ZB=>jn L (k+1) r b mv
  |.inl (ZA b')=>jn L (k+1) r b' ZC
def settle(L:cu ν):Nat->cQ ν->Option (Sum (cQ ν) (List Nat))
 |0,_=>ZB
 |n+1,b=>match jn L 0 L b ZD with
  |.inr q=>ZA (.inr q)
  |.inl (b',ZC)=>settle L n b'
  |.inl (b',ZD)=>ZA (.inl b')
def tU(L:cu ν)(p q:List Nat):fy L (p++q)=fy L p++fy L q:=by unfold fy;rw[List.filterMap_append]
def tT{L:cu ν}{x:ν×ν×Int}(e:L[k]?=ZA x):fy L [k]=[x.1]:=by unfold fy src;simp[e]
def Ch.MW{L:cu ν}{r:List Nat}{a b:ν}(h:Ch L a (k::r) b):fy L (k::r)=a::fy L r:=by
 obtain⟨c,m,e,_⟩:=h;rw[show k::r=[k] ++r from rfl,tU,tT e];rfl
theorem Ch.cut{L:cu ν}{v:ν}:∀{ks:List Nat}{a b:ν},Ch L a ks b->v∈fy L ks->Ch L a (ks.take ((fy L ks).idxOf v)) v/\Ch L v (ks.drop ((fy L ks).idxOf v)) b/\(fy L ks).idxOf v<ks.length
 |[],a,b,_,hv=>by simp[fy]at hv
 |k::r,a,b,h,hv=>by
  rw[h.MW]at hv ⊢
  have h0:=h;obtain⟨c,m,e,h⟩:=h
  by_cases z:a=v
  ·subst z
   rw[List.idxOf_cons_self];exact⟨rfl,h0,by simp⟩
  ·have hv':v∈fy L r:=by
    rcases NR.mp hv with q|q
    ·exact absurd q.symm z
    ·exact q
   obtain⟨h1,h2,h3⟩:=h.cut hv'
   have ei:(a::fy L r).idxOf v=(fy L r).idxOf v+1:=by
    rw[Va]
    have:(a == v)=ZD:=by rw[beq_eq_false_iff_ne];exact z
    rw[this];rfl
   rw[ei];exact⟨⟨c,m,e,h1⟩,h2,by simpa using h3⟩
structure Kept (L:cu ν)(S:List ν)(b:cQ ν):Prop where
 walk:∀v d w,b v=ZA (d,w)->∃s∈S,Ch L s w v/\fA L w=d/\v∉fy L w/\(fy L w).Nodup/\∀p q u,w=p++q->Ch L s p u->∃d' w',b u=ZA (d',w')/\d'<=fA L p
 start:∀s∈S,∃d w,b s=ZA (d,w)/\d<=0
theorem Kept.put{L:cu ν}{S:List ν}{b:cQ ν}(K:Kept L S b){a c:ν}(e:L[k]?=ZA (a,c,m))(ha:b a=ZA (d,w))(hb:fq b c (d+m)=ZC)(hn:c∉fy L (w++[k])):
  Kept L S (put b c (d+m,w++[k])):=by
 have low:∀u d' w',b u=ZA (d',w')->∃d'' w'',Gr.put b c (d+m,w++[k]) u=ZA (d'',w'')/\d''<=d':=λu d' w' h=>by
  by_cases z:u=c
  ·subst z
   refine⟨_,_,e9,?_⟩
   unfold fq at hb;rw[h]at hb
   have:=of_decide_eq_true hb;omega
  ·exact⟨d',w',by rw[lq z];exact h,PM _⟩
 obtain⟨s,hs,h1,h2,h3,h4,h5⟩:=K.walk a d w ha
 have hch:Ch L s (w++[k]) c:=h1.snoc e
 have hcost:fA L (w++[k])=d+m:=by rw[mC,h2,fA,fA,most,e];simp
 refine⟨λv d' w' h=>?_,λs' hs'=>?_⟩
 ·by_cases z:v=c
  ·subst z
   rw[e9]at h;cases h;refine⟨s,hs,hch,hcost,hn,?_,λp q u hpq hp=>?_⟩
   ·rw[tU,tT e]
    exact OK.mpr ⟨h4,by simp,λx hx y hy=>by simp at hy;subst hy;exact λz=>h3 (z▸hx)⟩
   ·by_cases hq:q=[]
    ·subst hq
     rw[Oi]at hpq;subst hpq
     have:u=v:=by
      clear low hb hn h5
      have aux:∀{ks:List Nat}{x y z:ν},Ch L x ks y->Ch L x ks z->y=z:=by
       intro ks
       induction ks with
       |nil=>intro x y z h1 h2;cases h1;cases h2;rfl
       |cons k r ih=>
        rintro x y z ⟨c1,m1,e1,r1⟩ ⟨c2,m2,e2,r2⟩
        rw[e1]at e2;cases e2;exact ih r1 r2
      exact aux hp hch
     subst this;exact⟨_,_,e9,by rw[hcost];exact PM _⟩
    ·have hw:∃q',w=p++q':=by
      refine⟨q.dropLast,?_⟩
      have:=congrArg List.dropLast hpq;rw[List.dropLast_concat,List.dropLast_append_of_ne_nil hq]at this;exact this
     obtain⟨q',hw⟩:=hw;obtain⟨d1,w1,e1,l1⟩:=h5 p q' u hw hp;obtain⟨d2,w2,e2,l2⟩:=low u d1 w1 e1;exact⟨d2,w2,e2,by omega⟩
  ·rw[lq z]at h
   obtain⟨s',hs',g1,g2,g3,g4,g5⟩:=K.walk v d' w' h;refine⟨s',hs',g1,g2,g3,g4,λp q u hpq hp=>?_⟩
   obtain⟨d1,w1,e1,l1⟩:=g5 p q u hpq hp;obtain⟨d2,w2,e2,l2⟩:=low u d1 w1 e1;exact⟨d2,w2,e2,by omega⟩
 ·obtain⟨d1,w1,e1,l1⟩:=K.start s' hs'
  obtain⟨d2,w2,e2,l2⟩:=low s' d1 w1 e1;exact⟨d2,w2,e2,by omega⟩
def Bar(L:cu ν)(q:List Nat):Prop:=q≠ []/\(∃a,Ch L a q a)/\fA L q<0/\(fy L q).Nodup
theorem Ch.Nb{L:cu ν}:∀{ks:List Nat}{a b:ν}(i:Nat),Ch L a ks b->fy L (ks.drop i)=(fy L ks).drop i
 |[],_,_,i,_=>by simp[fy]
 |k::r,a,b,0,_=>rfl
 |k::r,a,b,i+1,h=>by
  have:=h;obtain⟨c,m,e,h'⟩:=this;rw[h.MW,Tz,Tz,h'.Nb i]
def Kept.round{L:cu ν}{S:List ν}{b:cQ ν}(K:Kept L S b){a c:ν}(e:L[k]?=ZA (a,c,m))(ha:b a=ZA (d,w))(hb:fq b c (d+m)=ZC)(hn:c∈fy L (w++[k])):
  Bar L ((w++[k]).drop ((fy L (w++[k])).idxOf c)):=by
 obtain⟨s,hs,h1,h2,h3,h4,h5⟩:=K.walk a d w ha
 have hch:Ch L s (w++[k]) c:=h1.snoc e
 have hcost:fA L (w++[k])=d+m:=by rw[mC,h2,fA,fA,most,e];simp
 obtain⟨c1,c2,c3⟩:=hch.cut hn
 generalize hi:(fy L (w++[k])).idxOf c=i at c1 c2 c3
 refine⟨λz=>?_,⟨c,c2⟩,?_,?_⟩
 ·have:=congrArg O0 z
  rw[Qt]at this
  simp at this c3
  omega
 ·have hsum:fA L ((w++[k]).take i)+fA L ((w++[k]).drop i)=d+m:=by rw[<-mC,SW,hcost]
  have hiw:i<=w.length:=by simp at c3;omega
  have ht:(w++[k]).take i=w.take i:=by rw[List.take_append_of_le_length hiw]
  rw[ht]at c1 hsum;obtain⟨d1,w1,e1,l1⟩:=h5 (w.take i) (w.drop i) c (SW i w).symm c1;unfold fq at hb;rw[e1]at hb
  have:=of_decide_eq_true hb;simp only at this;omega
 ·rw[hch.Nb,tU,tT e]
  refine(List.drop_sublist _ _).nodup (OK.mpr ⟨h4,by simp,λx hx y hy=>?_⟩)
  rw[N0.mp hy];exact λz=>h3 (by have z:x=a:=z;rw[<-z];exact hx)
def size(L:cu ν):Nat:=(L.map λx=>x.2.2.natAbs).sum
theorem kQ{f:Nat->Nat}:∀{ks rs:List Nat},ks.Nodup->(∀k∈ks,k∈rs)->(ks.map f).sum<=(rs.map f).sum
 |[],rs,_,_=>by simp
 |k::ks,rs,hn,hs=>by
  have hk:k∈rs:=hs k NN;rw[Oe]at hn
  have hp:=List.perm_cons_erase hk
  have e:(rs.map f).sum=f k+((rs.erase k).map f).sum:=by
   have:=(hp.map f).sum_nat
   rwa [NM,PP]at this
  rw[e,NM,PP]
  have:=kQ (f:=f) hn.2 (rs:=rs.erase k) λj hj=>by
   have h1:=hs j (NJ _ hj);exact(Td (λ(z:j=k)=>hn.1 (z▸hj))).mpr h1
  omega
def xN(L:cu ν):size L=((OQ L.length).map λk=>(most L k).natAbs).sum:=by
 unfold size
 congr 1
 apply List.ext_getElem
 ·simp
 ·intro i h1 h2
  simp only[SC,List.getElem_range];unfold most;rw[N7 (by simpa using h1)]
theorem Aa(L:cu ν):∀(ks:List Nat),(fA L ks).natAbs<=(ks.map λk=>(most L k).natAbs).sum
 |[] =>by simp[fA]
 |k::r=>by
  have:=Aa L r;rw[fA,NM,PP];omega
theorem Ch.nodup{L:cu ν}:∀{ks:List Nat}{a b:ν},Ch L a ks b->(fy L ks).Nodup->ks.Nodup
 |[],_,_,_,_=>Qh
 |k::r,a,b,h,hn=>by
  have h0:=h;rw[h.MW,Oe]at hn;obtain⟨c,m,e,h⟩:=h;rw[Oe];refine⟨λhk=>hn.1 ?_,h.nodup hn.2⟩
  unfold fy src;exact R1.mpr ⟨k,hk,by rw[e];rfl⟩
def Ch.small{L:cu ν}{a b:ν}(h:Ch L a ks b)(hn:(fy L ks).Nodup):(fA L ks).natAbs<=size L:=by
 rw[xN];exact OB (Aa L ks) (kQ (h.nodup hn) λk hk=>Pn.mpr (h.lt k hk))
def val(M:Nat)(b:cQ ν)(v:ν):Nat:=match b v with
 |none=>2*M+1
 |some x=>(x.1+M).toNat
def left(M:Nat)(b:cQ ν)(L:cu ν):Nat:=(L.map λx=>val M b x.2.1).sum
theorem zC{b b':cQ ν}:∀{L:cu ν},(∀x∈L,val M b' x.2.1<=val M b x.2.1)->left M b' L<=left M b L
 |[],_=>by simp[left]
 |x::L,h=>by
  have h1:=h x NN
  have h2:=zC (L:=L) λy hy=>h y (NJ _ hy)
  unfold left at h2 ⊢;rw[NM,PP,NM,PP];omega
theorem zB{b b':cQ ν}{x:ν×ν×Int}:∀{L:cu ν},x∈L->(∀x∈L,val M b' x.2.1<=val M b x.2.1)->val M b' x.2.1<val M b x.2.1->left M b' L<left M b L
 |[],hx,_,_=>by simp at hx
 |y::L,hx,h,hl=>by
  have h1:=h y NN
  have h2:=zC (L:=L) λy hy=>h y (NJ _ hy)
  unfold left at h2 ⊢;rw[NM,PP,NM,PP];rcases NR.mp hx with rfl|hx
  ·omega
  ·have h3:=zB (L:=L) hx (λy hy=>h y (NJ _ hy)) hl
   unfold left at h3;omega
def C9{L:cu ν}{S:List ν}{b:cQ ν}(K:Kept L S b){a c:ν}(e:L[k]?=ZA (a,c,m))(ha:b a=ZA (d,w))(hb:fq b c (d+m)=ZC)(hn:c∉fy L (w++[k])):
  left (size L) (put b c (d+m,w++[k])) L<left (size L) b L:=by
 have K':=K.put e ha hb hn;obtain⟨s,hs,h1,h2,h3,h4,h5⟩:=K'.walk c (d+m) (w++[k]) e9
 have sm:=h1.small h4;rw[h2]at sm
 have lt:val (size L) (put b c (d+m,w++[k])) c<val (size L) b c:=by
  unfold val fq at*;rw[e9]
  cases z:b c with
  |none=>simp only;omega
  |some y=>
   rw[z]at hb
   have hb:=of_decide_eq_true hb;simp only;omega
 refine zB (x:=(a,c,m)) (Qk e) (λy _=>?_) lt
 by_cases z:y.2.1=c
 ·rw[z];exact Q8 lt
 ·unfold val;rw[lq z];exact N3 _
def EB(b:cQ ν)(x:ν×ν×Int):Prop:=∀d w,b x.1=ZA (d,w)->∃d' w',b x.2.1=ZA (d',w')/\d'<=d+x.2.2
def BR{b:cQ ν}{x:ν×ν×Int}(h:∀d w,b x.1=ZA (d,w)->fq b x.2.1 (d+x.2.2)=ZD):EB b x:=λd w e=>by
 have:=h d w e;unfold fq at this
 cases z:b x.2.1 with
 |none=>rw[z]at this;cases this
 |some y=>
  rw[z]at this
  have:=of_decide_eq_false this;exact⟨y.1,y.2,rfl,by omega⟩
theorem jB{L:cu ν}{S:List ν}:∀(r:cu ν)(k:Nat)(b:cQ ν)(mv:Bool),L.drop k=r->Kept L S b->match jn L k r b mv with
  |.inr q=>Bar L q
  |.inl (b',mv')=>Kept L S b'/\(mv'=ZD->mv=ZD/\b'=b/\∀x∈r,EB b x)/\left (size L) b' L<=left (size L) b L/\(mv'=ZC->mv=ZC\/left (size L) b' L<left (size L) b L)
 |[],k,b,mv,_,K=>⟨K,λh=>⟨h,rfl,λx hx=>by simp at hx⟩,N3 _,λh=>.inl h⟩
 |x::r,k,b,mv,hr,K=>by
  have e:L[k]?=ZA x:=by
   have:=congrArg (·[0]?) hr
   simpa using this
  have hr':L.drop (k+1)=r:=by
   have:=congrArg (List.drop 1) hr
   simpa [List.drop_drop,UA]using this
  rw[jn];obtain⟨a,c,m⟩:=x;unfold iO
  cases z:b a with
  |none=>
   simp only[z]
   have ih:=jB r (k+1) b mv hr' K
   revert ih
   generalize jn L (k+1) r b mv=R
   cases R with
   |inr q=>exact id
   |inl p=>
    obtain⟨b',mv'⟩:=p
    rintro ⟨i1,i2,i3,i4⟩
    refine⟨i1,λh=>?_,i3,i4⟩
    obtain⟨j1,j2,j3⟩:=i2 h;refine⟨j1,j2,λx hx=>?_⟩
    rcases NR.mp hx with rfl|hx
    ·intro d w q;rw[z]at q;cases q
    ·exact j3 x hx
  |some y=>
   obtain⟨d,w⟩:=y;simp only[z]
   by_cases hb:fq b c (d+m)=ZC
   ·rw[if_pos hb]
    by_cases hn:c∈fy L (w++[k])
    ·rw[if_pos hn]
     exact K.round e z hb hn
    ·rw[if_neg hn]
     have K':=K.put e z hb hn
     have lt:=C9 K e z hb hn
     have ih:=jB r (k+1) (put b c (d+m,w++[k])) ZC hr' K'
     revert ih
     simp only
     generalize jn L (k+1) r (put b c (d+m,w++[k])) ZC=R
     cases R with
     |inr q=>exact id
     |inl p=>
      obtain⟨b',mv'⟩:=p
      rintro ⟨i1,i2,i3,i4⟩
      refine⟨i1,λh=>?_,by omega,λ_=>.inr (by omega)⟩
      obtain⟨j1,_⟩:=i2 h;cases j1
   ·rw[if_neg hb]
    have ih:=jB r (k+1) b mv hr' K
    revert ih
    simp only
    generalize jn L (k+1) r b mv=R
    cases R with
    |inr q=>exact id
    |inl p=>
     obtain⟨b',mv'⟩:=p
     rintro ⟨i1,i2,i3,i4⟩
     refine⟨i1,λh=>?_,i3,i4⟩
     obtain⟨j1,j2,j3⟩:=i2 h;refine⟨j1,j2,λx hx=>?_⟩
     rcases NR.mp hx with rfl|hx
     ·refine BR λd' w' q=>?_
      simp only at q;rw[z]at q;cases q
      simpa using hb
     ·exact j3 x hx
structure Settled (L:cu ν)(S:List ν)(b:cQ ν):Prop where
 walk:∀v d w,b v=ZA (d,w)->∃s∈S,Ch L s w v/\fA L w=d/\v∉fy L w/\(fy L w).Nodup
 least:∀s∈S,∀v t,Wk L s v t->∃d w,b v=ZA (d,w)/\d<=t
def xO{L:cu ν}{S:List ν}{b:cQ ν}(K:Kept L S b)(h:∀x∈L,EB b x):Settled L S b where
 walk:=λv d w e=>by
  obtain⟨s,h1,h2,h3,h4,h5,_⟩:=K.walk v d w e;exact⟨s,h1,h2,h3,h4,h5⟩
 least:=by
  have go:∀{u v:ν}{t:Int},Wk L u v t->∀d w,b u=ZA (d,w)->∃d' w',b v=ZA (d',w')/\d'<=d+t:=by
   intro u v t hw
   induction hw with
   |nil a=>exact λd w e=>⟨d,w,e,by omega⟩
   |step e _ ih=>
    intro d w q;obtain⟨d1,w1,e1,l1⟩:=h _ e d w q;obtain⟨d2,w2,e2,l2⟩:=ih d1 w1 e1;exact⟨d2,w2,e2,by simp only at l1;omega⟩
  intro s hs v t hw;obtain⟨d,w,e,l⟩:=K.start s hs;obtain⟨d2,w2,e2,l2⟩:=go hw d w e;exact⟨d2,w2,e2,by omega⟩
theorem rG{L:cu ν}{S:List ν}:∀(n:Nat)(b:cQ ν),Kept L S b->left (size L) b L<n->∃r,settle L n b=ZA r/\match r with
  |.inr q=>Bar L q
  |.inl b'=>Settled L S b'
 |0,b,K,h=>by omega
 |n+1,b,K,h=>by
  have s:=jB (S:=S) L 0 b ZD rfl K;rw[settle]
  revert s
  generalize jn L 0 L b ZD=R
  cases R with
  |inr q=>exact λs=>⟨_,rfl,s⟩
  |inl p=>
   obtain⟨b',mv'⟩:=p
   rintro ⟨i1,i2,i3,i4⟩
   cases mv' with
   |false=>
    obtain⟨_,j2,j3⟩:=i2 rfl;subst j2
    exact⟨_,rfl,xO i1 j3⟩
   |true=>
    rcases i4 rfl with z|z
    ·cases z
    ·exact rG n b' i1 (by omega)
def start(S:List ν):cQ ν:=λv=>if v∈S then ZA (0,[])else ZB
def pZ(L:cu ν)(S:List ν):Kept L S (start S) where
 walk:=λv d w e=>by
  unfold start at e
  split at e
  ·rename_i h
   cases e;refine⟨v,h,rfl,rfl,by simp[fy],by simp[fy],λp q u hpq hp=>?_⟩
   obtain⟨rfl,rfl⟩:=List.append_eq_nil_iff.mp hpq.symm;cases hp;exact⟨0,[],by unfold start;rw[if_pos h],by simp[fA]⟩
  ·cases e
 start:=λs hs=>⟨0,[],by unfold start;rw[if_pos hs],PM _⟩
def Dc(L:cu ν)(S:List ν):left (size L) (start S) L<=L.length*(2*size L+1):=by
 unfold left
 have:∀M:cu ν,(M.map λx=>val (size L) (start S) x.2.1).sum<=M.length*(2*size L+1):=by
  intro M
  induction M with
  |nil=>simp
  |cons x M ih=>
   rw[NM,PP,NS,Nat.succ_mul]
   have:val (size L) (start S) x.2.1<=2*size L+1:=by
    unfold val start;split
    ·exact N3 _
    ·rename_i h
     split at h
     ·cases h;simp;omega
     ·cases h
   omega
 exact this L
theorem xQ(L:cu ν)(S:List ν)(h:L.length*(2*size L+1)<n):∃r,settle L n (start S)=ZA r/\match r with
  |.inr q=>Bar L q
  |.inl b'=>Settled L S b':=rG n (start S) (pZ L S) (TX (Dc L S) h)
def Bar.neg{L:cu ν}{q:List Nat}(h:Bar L q):¬ nM L:=λn=>by
 obtain⟨_,⟨a,ha⟩,hc,_⟩:=h
 have:=n a _ ha.wk;omega
def Settled.holds{L:cu ν}{S:List ν}{b:cQ ν}(h:Settled L S b)(hS:∀x∈L,x.1∈S/\x.2.1∈S){t:ν->Int}(ht:∀v∈S,∃w,b v=ZA (t v,w)):Holds L t:=λa c m hx=>by
 obtain⟨ha,hc⟩:=hS _ hx;obtain⟨w,e⟩:=ht a ha;obtain⟨s,hs,h1,h2,_⟩:=h.walk a _ _ e;obtain⟨d,w',e',l⟩:=h.least s hs c _ (h1.wk.app (.one hx));obtain⟨w2,e2⟩:=ht c hc;rw[e2]at e';cases e';omega
inductive Pth (L:cu ν):ν->List ν->ν->Int->Prop
 |one {a b:ν} {m:Int}:(a,b,m)∈L->Pth L a [] b m
 |cons {a x b:ν} {ms:List ν} {m s:Int}:(a,x,m)∈L->Pth L x ms b s->Pth L a (x::ms) b (m+s)
theorem Pth.cut{L:cu ν}{x:ν}{q:List ν}:∀{p:List ν}{a b:ν}{s:Int},Pth L a (p++x::q) b s->∃s1 s2,Pth L a p x s1/\Pth L x q b s2/\s=s1+s2
 |[],a,b,s,h=>by
  cases h with
  |cons e h=>exact⟨_,_,.one e,h,rfl⟩
 |y::p,a,b,s,h=>by
  cases h with
  |cons e h=>
   obtain⟨s1,s2,h1,h2,h3⟩:=Pth.cut h;exact⟨_,s2,.cons e h1,h2,by omega⟩
def Ks(L:cu ν)(u v:ν)(s:Int):Prop:=(u=v/\s=0)\/(u≠v/\∃ms,Pth L u ms v s/\ms.Nodup/\u∉ms/\v∉ms)
def ED(L:cu ν):Prop:=∃x ms s,Pth L x ms x s/\ms.Nodup/\x∉ms/\s<0
def Wk.simple{L:cu ν}{u v:ν}(w:Wk L u v s):ED L\/∃s',s'<=s/\Ks L u v s':=by
 induction w with
 |nil a=>exact .inr ⟨0,PM _,.inl ⟨rfl,rfl⟩⟩
 |@step a b c m s e w ih=>
  rcases ih with ih|⟨s',hs,ih⟩
  ·exact .inl ih
  by_cases hab:a=b
  ·subst hab
   by_cases hm:m<0
   ·exact .inl ⟨a,[],m,.one e,Qh,by simp,hm⟩
   ·exact .inr ⟨s',by omega,ih⟩
  rcases ih with⟨rfl,rfl⟩|⟨hbc,ms,hp,hn,hb,hc⟩
  ·exact .inr ⟨m,by omega,.inr ⟨hab,[],.one e,Qh,by simp,by simp⟩⟩
  by_cases hac:a=c
  ·subst hac
   by_cases hm:m+s'<0
   ·exact .inl ⟨a,b::ms,m+s',.cons e hp,Oe.mpr ⟨hb,hn⟩,by simp[hab,hc],hm⟩
   ·exact .inr ⟨0,by omega,.inl ⟨rfl,rfl⟩⟩
  by_cases ham:a∈ms
  ·obtain⟨p,q,rfl⟩:=TY ham
   obtain⟨s1,s2,h1,h2,h3⟩:=hp.cut;rw[OK]at hn;obtain⟨n1,n2,n3⟩:=hn;rw[Oe]at n2
   have hap:a∉p:=λz=>n3 a z a NN rfl
   by_cases hm:m+s1<0
   ·refine .inl ⟨a,b::p,m+s1,.cons e h1,Oe.mpr ⟨λz=>hb (Ol _ z),n1⟩,by simp[hab,hap],hm⟩
   ·exact .inr ⟨s2,by omega,.inr ⟨hac,q,h2,n2.2,n2.1,λz=>hc (Od _ (NJ _ z))⟩⟩
  ·refine .inr ⟨m+s',by omega,.inr ⟨hac,b::ms,.cons e hp,Oe.mpr ⟨hb,hn⟩,by simp[hab,ham],?_⟩⟩
   simp only[NR,not_or];exact⟨λz=>hbc z.symm,hc⟩
abbrev fK(ν:Type):=ν->ν->Option Int
def jZ(f:fK ν)(a b:ν)(x:Int):fK ν:=λu v=>if u=a/\v=b then ZA x else f u v
def nZ(f:fK ν)(a b:ν)(x:Int):fK ν:=match f a b with
 |none=>jZ f a b x
 |some y=>if x<y then jZ f a b x else f
def mr(mid one other:ν)(f:fK ν):fK ν:=match f one mid,f mid other with
 |some x,ZA y=>nZ f one other (x+y)
 |_,_=>f
def vq(P:List ν):fK ν:=λu v=>if u∈P/\u=v then ZA 0 else ZB
def BL(P:List ν)(L:cu ν):fK ν:=L.foldl (λf x=>nZ f x.1 x.2.1 x.2.2) (vq P)
def mw(mid one:ν)(P:List ν)(f:fK ν):fK ν:=P.foldl (λf other=>mr mid one other f) f
def qi(mid:ν)(Q P:List ν)(f:fK ν):fK ν:=Q.foldl (λf one=>mw mid one P f) f
def wX(M P:List ν)(f:fK ν):fK ν:=M.foldl (λf mid=>qi mid P P f) f
def table(P:List ν)(L:cu ν):fK ν:=wX P P (BL P L)
def Le(f g:fK ν):Prop:=∀u v x,g u v=ZA x->∃y,f u v=ZA y/\y<=x
def Le.refl(f:fK ν):Le f f:=λu v x h=>⟨x,h,PM _⟩
def Le.trans{f g h:fK ν}(a:Le f g)(b:Le g h):Le f h:=λu v x e=>by
 obtain⟨y,e1,l1⟩:=b u v x e;obtain⟨z,e2,l2⟩:=a u v y e1;exact⟨z,e2,by omega⟩
variable{x:Int}
def m5{f:fK ν}{a b:ν}:jZ f a b x a b=ZA x:=by unfold jZ;rw[if_pos ⟨rfl,rfl⟩]
def uT(f:fK ν)(a b:ν)(x:Int):Le (nZ f a b x) f:=λu v y e=>by
 unfold nZ
 cases q:f a b with
 |none=>
  by_cases z:u=a/\v=b
  ·obtain⟨rfl,rfl⟩:=z;rw[q]at e;cases e
  ·exact⟨y,by simp only;unfold jZ;rw[if_neg z];exact e,PM _⟩
 |some y0=>
  simp only;split
  ·by_cases z:u=a/\v=b
   ·obtain⟨rfl,rfl⟩:=z;rw[q]at e;cases e
    exact⟨x,m5,by omega⟩
   ·exact⟨y,by unfold jZ;rw[if_neg z];exact e,PM _⟩
  ·exact⟨y,e,PM _⟩
def zT(f:fK ν)(a b:ν)(x:Int):∃y,nZ f a b x a b=ZA y/\y<=x:=by
 unfold nZ
 cases q:f a b with
 |none=>exact⟨x,m5,PM _⟩
 |some y0=>
  simp only;split
  ·exact⟨x,m5,PM _⟩
  ·exact⟨y0,q,by omega⟩
def ql{L:cu ν}{f:fK ν}{a b:ν}(h:∀u v y,f u v=ZA y->Wk L u v y)(hx:Wk L a b x):∀u v y,nZ f a b x u v=ZA y->Wk L u v y:=λu v y e=>by
 have key:jZ f a b x u v=ZA y->Wk L u v y:=λe'=>by
  unfold jZ at e'
  by_cases z:u=a/\v=b
  ·rw[if_pos z]at e';injection e' with e';rw[z.1,z.2,<-e'];exact hx
  ·rw[if_neg z]at e';exact h u v y e'
 unfold nZ at e
 cases q:f a b with
 |none=>rw[q]at e;exact key e
 |some y0=>
  rw[q]at e;simp only at e
  split at e
  ·exact key e
  ·exact h u v y e
def wV(mid one other:ν)(f:fK ν):Le (mr mid one other f) f:=by
 unfold mr;split
 ·exact uT _ _ _ _
 ·exact Le.refl f
def DN{mid one other:ν}{f:fK ν}(h1:f one mid=ZA x)(h2:f mid other=ZA y):∃z,mr mid one other f one other=ZA z/\z<=x+y:=by
 unfold mr;rw[h1,h2];exact zT _ _ _ _
theorem kH(step:fK ν->α->fK ν)(hs:∀f a,Le (step f a) f):∀(l:List α)(f:fK ν),Le (l.foldl step f) f
 |[],f=>Le.refl f
 |a::l,f=>(kH step hs l (step f a)).trans (hs f a)
def qh(mid one:ν)(P:List ν)(f:fK ν):Le (mw mid one P f) f:=kH _ (λf o=>wV mid one o f) P f
def wW(mid:ν)(Q P:List ν)(f:fK ν):Le (qi mid Q P f) f:=kH _ (λf o=>qh mid o P f) Q f
def DT(M P:List ν)(f:fK ν):Le (wX M P f) f:=kH _ (λf o=>wW o P P f) M f
theorem oB(step:fK ν->α->fK ν)(hs:∀f a,Le (step f a) f):∀(l:List α)(f:fK ν)(a:α),a∈l->∃g,Le g f/\Le (l.foldl step f) (step g a)
 |[],f,a,h=>by simp at h
 |b::l,f,a,h=>by
  rcases NR.mp h with rfl|h
  ·exact⟨f,Le.refl f,kH step hs l (step f a)⟩
  ·obtain⟨g,h1,h2⟩:=oB step hs l (step f b) a h
   exact⟨g,h1.trans (hs f b),h2⟩
def DQ{mid u v:ν}{P:List ν}{f:fK ν}(hu:u∈P)(hv:v∈P)(h1:f u mid=ZA x)(h2:f mid v=ZA y):∃z,qi mid P P f u v=ZA z/\z<=x+y:=by
 obtain⟨g,g1,g2⟩:=oB (λf one=>mw mid one P f) (λf o=>qh mid o P f) P f u hu
 obtain⟨g',g3,g4⟩:=oB (λf other=>mr mid u other f) (λf o=>wV mid u o f) P g v hv
 have l:Le g' f:=g3.trans g1;obtain⟨x',e1,l1⟩:=l _ _ _ h1;obtain⟨y',e2,l2⟩:=l _ _ _ h2;obtain⟨z,e3,l3⟩:=DN e1 e2;obtain⟨z',e4,l4⟩:=(g2.trans g4) _ _ _ e3;exact⟨z',e4,by omega⟩
def Up(L:cu ν)(M:List ν)(f:fK ν):Prop:=∀u v ms s,Pth L u ms v s->ms.Nodup->(∀x∈ms,x∈M)->∃y,f u v=ZA y/\y<=s
def Pth.ends{L:cu ν}{P:List ν}(hL:∀x∈L,x.1∈P/\x.2.1∈P){u v:ν}{ms:List ν}(h:Pth L u ms v s):u∈P/\v∈P/\∀x∈ms,x∈P:=by
 induction h with
 |one e=>exact⟨(hL _ e).1,(hL _ e).2,by simp⟩
 |cons e _ ih=>exact⟨(hL _ e).1,ih.2.1,λx hx=>by
   rcases NR.mp hx with rfl|hx
   ·exact ih.1
   ·exact ih.2.2 x hx⟩
def Up.mid{L:cu ν}{P M:List ν}{f:fK ν}(hL:∀x∈L,x.1∈P/\x.2.1∈P)(h:Up L M f)(k:ν):Up L (k::M) (qi k P P f):=λu v ms s hp hn hm=>by
 by_cases hk:k∈ms
 ·obtain⟨p,q,rfl⟩:=TY hk
  obtain⟨s1,s2,h1,h2,h3⟩:=hp.cut;rw[OK]at hn;obtain⟨n1,n2,n3⟩:=hn;rw[Oe]at n2
  have hp':∀x∈p,x∈M:=λx hx=>by
   rcases NR.mp (hm x (Ol _ hx))with rfl|z
   ·exact absurd rfl (n3 x hx x NN)
   ·exact z
  have hq':∀x∈q,x∈M:=λx hx=>by
   rcases NR.mp (hm x (Od _ (NJ _ hx)))with rfl|z
   ·exact absurd hx n2.1
   ·exact z
  obtain⟨y1,e1,l1⟩:=h u k p s1 h1 n1 hp';obtain⟨y2,e2,l2⟩:=h k v q s2 h2 n2.2 hq';obtain⟨z,e3,l3⟩:=DQ (P:=P) (h1.ends hL).1 (h2.ends hL).2.1 e1 e2;exact⟨z,e3,by omega⟩
 ·obtain⟨y,e,l⟩:=h u v ms s hp hn λx hx=>by
   rcases NR.mp (hm x hx)with rfl|z
   ·exact absurd hx hk
   ·exact z
  obtain⟨z,e2,l2⟩:=wW k P P f u v y e;exact⟨z,e2,by omega⟩
theorem Up.Nx{L:cu ν}{P:List ν}(hL:∀x∈L,x.1∈P/\x.2.1∈P):∀(Q M:List ν)(f:fK ν),Up L M f->∃M',(∀x,x∈Q\/x∈M->x∈M')/\Up L M' (wX Q P f)
 |[],M,f,h=>⟨M,λx hx=>hx.elim (λz=>by simp at z) id,h⟩
 |k::Q,M,f,h=>by
  obtain⟨M',h1,h2⟩:=Up.Nx hL Q (k::M) (qi k P P f) (h.mid hL k);refine⟨M',λx hx=>h1 x ?_,h2⟩
  rcases hx with hx|hx
  ·rcases NR.mp hx with rfl|hx
   ·exact .inr NN
   ·exact .inl hx
  ·exact .inr (NJ _ hx)
def E9{P:List ν}{L:cu ν}:Up L [] (BL P L):=λu v ms s hp hn hm=>by
 have:ms=[]:=by
  cases ms with
  |nil=>rfl
  |cons x r=>exact absurd (hm x NN) (by simp)
 subst this
 cases hp with
 |one e=>
  obtain⟨g,h1,h2⟩:=oB (λ(f:fK ν)(x:ν×ν×Int)=>nZ f x.1 x.2.1 x.2.2) (λf x=>uT f _ _ _) L (vq P) _ e
  obtain⟨y,e1,l1⟩:=zT g u v s;obtain⟨z,e2,l2⟩:=h2 u v y e1;exact⟨z,e2,by omega⟩
theorem gZ{L:cu ν}(step:fK ν->α->fK ν):∀(l:List α)(f:fK ν),(∀f,∀a∈l,(∀u v y,f u v=ZA y->Wk L u v y)->∀u v y,step f a u v=ZA y->Wk L u v y)->(∀u v y,f u v=ZA y->Wk L u v y)->∀u v y,l.foldl step f u v=ZA y->Wk L u v y
 |[],f,_,h=>h
 |a::l,f,hs,h=>gZ step l (step f a) (λf b hb=>hs f b (NJ _ hb)) (hs f a NN h)
def nt(P:List ν)(L:cu ν):∀u v y,table P L u v=ZA y->Wk L u v y:=by
 unfold table wX;refine gZ _ P _ (λf m _ h=>?_) ?_
 ·unfold qi
  refine gZ _ P _ (λf o _ h=>?_) h
  unfold mw;refine gZ _ P _ (λf v _ h=>?_) h
  unfold mr
  cases e1:f o m with
  |none=>exact h
  |some x=>
   cases e2:f m v with
   |none=>exact h
   |some y=>exact ql h ((h _ _ _ e1).app (h _ _ _ e2))
 ·unfold BL
  refine gZ _ L _ (λf x hx h=>ql h (.one hx)) λu v y e=>?_
  unfold vq at e
  split at e
  ·rename_i z;obtain⟨_,rfl⟩:=z;cases e;exact .nil u
  ·cases e
def vo{P:List ν}{L:cu ν}(hL:∀x∈L,x.1∈P/\x.2.1∈P):∀u v ms s,Pth L u ms v s->ms.Nodup->∃y,table P L u v=ZA y/\y<=s:=λu v ms s hp hn=>by
 obtain⟨M',h1,h2⟩:=Up.Nx hL P [] (BL P L) E9;exact h2 u v ms s hp hn λx hx=>h1 x (.inl ((hp.ends hL).2.2 x hx))
def oP{P:List ν}{L:cu ν}{u:ν}(hu:u∈P):∃y,table P L u u=ZA y/\y<=0:=by
 have h0:vq P u u=ZA 0:=by unfold vq;rw[if_pos ⟨hu,rfl⟩]
 have h1:Le (table P L) (vq P):=(DT P P _).trans (kH _ (λf x=>uT f _ _ _) L _)
 exact h1 u u 0 h0
structure HG (L:cu ν)(P:List ν)(f:fK ν):Prop where
 is:∀u v d,f u v=ZA d->Wk L u v d
 le:∀u∈P,∀v t,Wk L u v t->∃d,f u v=ZA d/\d<=t
def As{P:List ν}{L:cu ν}{u:ν}(h:table P L u u=ZA y)(hy:y<0):¬ nM L:=λn=>by
 have:=n u y (nt P L u u y h);omega
def vp{P:List ν}{L:cu ν}(hL:∀x∈L,x.1∈P/\x.2.1∈P)(h:∀u∈P,∀y,table P L u u=ZA y->0<=y):nM L/\HG L P (table P L):=by
 have nc:¬ ED L:=λ⟨x,ms,s,hp,hn,_,hs⟩=>by
  obtain⟨y,e,l⟩:=vo hL x x ms s hp hn
  have:=h x (hp.ends hL).1 y e;omega
 have le:∀u∈P,∀v t,Wk L u v t->∃d,table P L u v=ZA d/\d<=t:=λu hu v t w=>by
  rcases w.simple with z|⟨s',hs,z⟩
  ·exact absurd z nc
  ·rcases z with⟨rfl,rfl⟩|⟨_,ms,hp,hn,_⟩
   ·obtain⟨y,e,l⟩:=oP (L:=L) hu
    exact⟨y,e,by omega⟩
   ·obtain⟨y,e,l⟩:=vo hL u v ms s' hp hn
    exact⟨y,e,by omega⟩
 refine⟨λa s w=>?_,λu v d e=>nt P L u v d e,le⟩
 by_cases ha:a∈P
 ·obtain⟨d,e,l⟩:=le a ha a s w
  have:=h a ha d e;omega
 ·cases w with
  |nil=>exact PM _
  |step e _=>exact absurd (hL _ e).1 ha
end Gr
variable{b j:Int}
namespace G
open PySem Tr
def isI:T->Bool
 |.int _=>ZC
 |_=>ZD
def GD(t:T)(h:t.pl=ZC):i8 [t]=.ok (.bl (isI t)):=by
 cases t <;> first|rfl| (simp[T.pl]at h;done)
def aW(t:T)(a b:Int):Bool:=match t with
 |.int i=>decide (a<=i)&&decide (i<=b)
 |_=>ZD
def fm(t:T)(a b:Int)(h:t.pl=ZC):a8 [t,.int a,.int b]=.ok (.bl (aW t a b)):=by
 have w:=GD t h
 cases t with
 |int i=>
  simp[a8,val,bS,kh,aQ,aR,dt,vr,ch,cl,ae,ai,yO,aW,w,isI]
  cases decide (a<=i) <;> rfl
 |scr _=>simp[T.pl]at h
 |dct _ _=>simp[T.pl]at h
 |ob _ _ _=>simp[T.pl]at h
 |_=>simp[a8,val,bS,kh,aQ,aR,dt,vr,ch,cl,ae,ai,aW,w,isI]
def d6(t:T)(a b:Nat):Bool:=match t with
 |.tup l=>decide (a<=l.length)&&decide (l.length<=b)
 |_=>ZD
def lE(t:T)(a b:Nat)(h:t.pl=ZC):aS [t,.int a,.int b]=.ok (.bl (d6 t a b)):=by
 cases t with
 |tup l=>
  simp[aS,val,bS,sJ,aQ,aR,dt,o1,vr,Gz,T.ty,zP,ch,cl,ae,ai,bP,T.items,yO,d6]
  cases decide (a<=l.length) <;> rfl
 |scr _=>simp[T.pl]at h
 |dct _ _=>simp[T.pl]at h
 |ob _ _ _=>simp[T.pl]at h
 |_=>rfl
def nQ(x y:T):Bool:=aW x 1 9&&(match x with
 |.int i=>aW y i 9
 |_=>ZD)
def J8(x y:T)(hx:x.pl=ZC)(hy:y.pl=ZC):gE [x,y]=.ok (.bl (nQ x y)):=by
 have w:=fm x 1 9 hx;unfold nQ
 cases q:aW x 1 9 with
 |false=>rw[q]at w;simp[gE,val,bS,ni,aQ,aR,dt,vr,cn,cl,ae,ai,w]
 |true=>
  rw[q]at w
  cases x with
  |int i=>simp[gE,val,bS,ni,aQ,aR,dt,vr,cn,cl,ae,ai,w,fm y i 9 hy]
  |_=>cases q
def nC:List Int->Bool
 |a::b::r=>decide (a<b)&&nC (b::r)
 |_=>ZC
def Fo(a b:Int)(r:List Int):nC (a::b::r)=(decide (a<b)&&nC (b::r)):=rfl
variable{Z:En}{l:List T}
def u9{fe:V5}{p:T->Bool}{fi:V3}{src:List (Option Nat)}(hi:fi Z=.ok l)(hs:l.length<=sizeLine)(hn:0<src.length)(hf:∀t∈l,fe ((b9 src Z).set 0 (.va t))=.ok (.bl (p t))):
  cl rj (ae (ig fi src (gN 0) bT fe) ai) Z=.ok (.bl (l.all p)):=by
 have e:=yr (fe:=fe) (h:=λt=>T.bl (p t)) l (b9 src Z) (by unfold b9;rw[NP];exact hn) hf
 simp only[cl,ae,ai,ig,hi,ay,if_pos hs,e,all_map]
def mX(l:List T):T->Bool
 |.int k=>match L2.atI l k,L2.atI l (k+1)with
  |some (.int a),ZA (.int b)=>decide (a<b)
  |_,_=>ZD
 |_=>ZD
def tJ{t:T}(h:t∈rng 0 j):∃k:Nat,t=.int k/\(k:Int)<j:=by
 unfold rng at h;obtain⟨k,hk,e⟩:=Oj.mp h;rw[Pn]at hk;exact⟨k,by rw[<-e];simp,by omega⟩
theorem Io:(l:List Int)->l.length<=4->(rng 0 ((l.length:Int) - 1)).all (mX (l.map .int))=nC l
 |[],_=>rfl
 |[a],_=>rfl
 |[a,b],_=>by simp[rng,SX,mX,L2.atI,L2.ixN,nC]
 |[a,b,c],_=>by simp[rng,SX,mX,L2.atI,L2.ixN,nC]
 |[a,b,c,d],_=>by simp[rng,SX,mX,L2.atI,L2.ixN,nC,Bool.and_assoc]
 |a::b::c::d::e::r,h=>absurd h (by simp only[NS];omega)
def GJ(l:List Int)(h:l.length<=4):kC [.tup (l.map .int)]=.ok (.bl (nC l)):=by
 have hr:iR (ae (o2 cZ (cl bP (ae (vr 0) ai)) (cn (.int 1))) ai) [.va (.tup (l.map .int))]=.ok (rng 0 ((l.length:Int) - 1)):=by
  have:yE ((l.length:Int) - 1)=ZC:=by unfold yE;rw[NL];exact⟨decide_eq_true (by omega),decide_eq_true (by omega)⟩
  simp[iR,ae,ai,o2,cl,vr,cn,bP,T.items,cZ,this]
 have hs:(rng 0 ((l.length:Int) - 1)).length<=sizeLine:=by
  unfold rng sizeLine;rw[NP,Qo];omega
 have e:=u9 (fe:=o2 pP (o2 aV (vr 1) (vr 0)) (o2 aV (vr 1) (o2 aP (vr 0) (cn (.int 1))))) (p:=mX (l.map .int)) (src:=[ZB,ZA 0]) hr hs (by decide) (λt ht=>by
  obtain⟨k,rfl,hk⟩:=tJ ht
  have h1:(l.map T.int)[k]?=ZA (.int (l[k]'(by omega))):=by simp
  have h2:(l.map T.int)[k+1]?=ZA (.int (l[k+1]'(by omega))):=by rw[Oc,N7 (by omega)];rfl
  have g1:=lH h1
  have g2:L2.atI (l.map T.int) ((k:Int)+1)=ZA (.int (l[k+1]'(by omega))):=lH h2
  simp[o2,vr,b9,cn,aP,aV,T.items,g1,g2,yO,mX])
 rw[Io l h]at e;simp only[kC,val,Pm,if_true,Ai,bS,aR,aQ]
 show(do let f <-(do let t <-cl rj _ [.va (.tup (l.map .int))];Rs.ok (Fl.rt t));_)=_
 rw[e]
 rfl
def kL:List T->Option (List Int)
 |[] =>ZA []
 |.int i::l=>match kL l with
  |some m=>ZA (i::m)
  |none=>ZB
 |_::_=>ZB
def cO(t:T):Bool:=d6 t 1 4&&(match t with
 |.tup l=>l.all (λu=>aW u 0 99)&&(match kL l with|some m=>nC m|none=>ZD)
 |_=>ZD)
theorem pF:∀{l:List T}{m:List Int},kL l=ZA m->l=m.map .int
 |[],m,h=>by cases h;rfl
 |t::l,m,h=>by
  cases t with
  |int i=>
   unfold kL at h
   cases q:kL l with
   |none=>rw[q]at h;cases h
   |some m'=>rw[q]at h;cases h;rw[NM,<-pF q]
  |_=>cases h
theorem uq:∀{l:List T}{a b:Int},(l.all λu=>aW u a b)=ZC->∃m,kL l=ZA m
 |[],_,_,_=>⟨[],rfl⟩
 |t::l,a,b,h=>by
  rw[List.all_cons,NL]at h
  cases t with
  |int i=>
   obtain⟨m,e⟩:=uq h.2
   exact⟨i::m,by unfold kL;rw[e]⟩
  |_=>exact absurd h.1 (by simp[aW])
def dP{t:T}{a b:Nat}(h:d6 t a b=ZC):∃l,t=.tup l/\a<=l.length/\l.length<=b:=by
 cases t with
 |tup l=>unfold d6 at h;rw[NL]at h;exact⟨l,rfl,of_decide_eq_true h.1,of_decide_eq_true h.2⟩
 |_=>cases h
def small(h:n<=k)(hk:autoParam (k<=1000) aqb._auto_1):n<=sizeLine:=by unfold sizeLine;omega
def yK(t:T)(h:t.pl=ZC):b8 [t]=.ok (.bl (cO t)):=by
 have w:aS [t,.int 1,.int 4]=.ok (.bl (d6 t 1 4)):=lE t 1 4 h;unfold cO
 cases q:d6 t 1 4 with
 |false=>rw[q]at w;simp[b8,val,bS,fx,aQ,aD,eZ,cH,tb,sN,aR,cl,vr,cn,ae,ai,w]
 |true=>
  rw[q]at w;obtain⟨l,rfl,h1,h2⟩:=dP q
  have hp:∀u∈l,u.pl=ZC:=λu hu=>gx (by unfold T.pl at h;exact h) hu
  have e:=u9 (fe:=cl a8 (ae (vr 0) (ae (cn (.int 0)) (ae (cn (.int 99)) ai)))) (p:=λu=>aW u 0 99) (src:=[ZB]) (fi:=iS (vr 0)) (Z:=[.va (.tup l)]) rfl (small h2) (by decide) (λu hu=>by
   simp[cl,ae,ai,vr,cn,b9,fm u 0 99 (hp u hu)])
  have w':cl aS (ae (vr 0) (ae (cn (.int 1)) (ae (cn (.int 4)) ai))) [.va (.tup l)]=.ok (.bl ZC):=w
  show b8 _=.ok (.bl (ZC&&(l.all (λu=>aW u 0 99)&&(match kL l with|some m=>nC m|none=>ZD))))
  cases qa:l.all λu=>aW u 0 99 with
  |false=>
   rw[qa]at e
   simp[b8,val,bS,fx,aQ,aD,eZ,cH,tb,sN,aR,dt,e,w']
  |true=>
   rw[qa]at e;obtain⟨m,em⟩:=uq qa
   have el:=pF em
   have er:=GJ m (by rw[el,NP]at h2;exact h2)
   rw[<-el]at er
   have er':cl kC (ae (vr 0) ai) [.va (.tup l)]=.ok (.bl (nC m)):=er;simp[b8,val,bS,fx,aQ,aD,eZ,cH,tb,sN,aR,dt,e,w',er',em]
def at_(t:T)(k:Nat):T:=match t.items with
 |some l=>l.getD k .non
 |none=>.non
def bw(t:T):Bool:=d6 t 3 3&&(match t with
 |.tup [x,y,r] =>nQ x y&&cO r
 |_=>ZD)
def GN(t:T)(h:t.pl=ZC):dJ [t]=.ok (.bl (bw t)):=by
 have w:aS [t,.int 3,.int 3]=.ok (.bl (d6 t 3 3)):=lE t 3 3 h;unfold bw
 cases q:d6 t 3 3 with
 |false=>rw[q]at w;simp[dJ,val,bS,jf,aQ,aR,dt,cl,vr,cn,ae,ai,w]
 |true=>
  rw[q]at w;obtain⟨l,rfl,h1,h2⟩:=dP q
  match l,h1,h2 with
  |[x,y,r],_,_=>
   simp[T.pl,plS]at h;obtain⟨px,py,pr⟩:=h
   have g0:aV (.tup [x,y,r]) (.int 0)=.ok x:=rfl
   have g1:aV (.tup [x,y,r]) (.int 1)=.ok y:=rfl
   have g2:aV (.tup [x,y,r]) (.int 2)=.ok r:=rfl
   have ep:=J8 x y px py
   have er:=yK r pr
   cases qp:nQ x y with
   |false=>rw[qp]at ep;simp[dJ,val,bS,jf,aQ,aR,dt,cl,vr,cn,ae,ai,o2,w,g0,g1,ep,qp]
   |true=>rw[qp]at ep;simp[dJ,val,bS,jf,aQ,aR,dt,cl,vr,cn,ae,ai,o2,w,g0,g1,g2,ep,er,qp]
def a7(t:T):Bool:=d6 t 1 4&&(match t with
 |.tup l=>l.all bw
 |_=>ZD)
def D9(t:T)(h:t.pl=ZC):dZ [t]=.ok (.bl (a7 t)):=by
 have w:aS [t,.int 1,.int 4]=.ok (.bl (d6 t 1 4)):=lE t 1 4 h;unfold a7
 cases q:d6 t 1 4 with
 |false=>rw[q]at w;simp[dZ,val,bS,jg,aQ,aR,dt,cl,vr,cn,ae,ai,w]
 |true=>
  rw[q]at w;obtain⟨l,rfl,h1,h2⟩:=dP q
  have hp:∀u∈l,u.pl=ZC:=λu hu=>gx (by unfold T.pl at h;exact h) hu
  have e:=u9 (fe:=cl dJ (ae (vr 0) ai)) (p:=bw) (src:=[ZB]) (fi:=iS (vr 0)) (Z:=[.va (.tup l)]) rfl (small h2) (by decide) (λu hu=>by
   simp[cl,ae,ai,vr,cn,b9,GN u (hp u hu)])
  have w':cl aS (ae (vr 0) (ae (cn (.int 1)) (ae (cn (.int 4)) ai))) [.va (.tup l)]=.ok (.bl ZC):=w;simp[dZ,val,bS,jg,aQ,aR,dt,e,w']
def dD(x y:T):Bool:=aW x 0 999&&(match x,y with
 |_,.non=>ZC
 |.int i,_=>aW y i 999
 |_,_=>ZD)
def GL(x y:T)(hx:x.pl=ZC)(hy:y.pl=ZC):eI [x,y]=.ok (.bl (dD x y)):=by
 have w:=fm x 0 999 hx;unfold dD
 cases q:aW x 0 999 with
 |false=>rw[q]at w;simp[eI,val,bS,je,aQ,aR,dt,vr,cn,cl,ae,ai,w]
 |true=>
  rw[q]at w
  cases x with
  |int i=>
   have e:=fm y i 999 hy
   cases y with
   |non=>simp[eI,val,bS,je,aQ,aR,dt,EJ,vr,cn,cl,ae,ai,o2,jX,T.isN,w]
   |_=>simp[eI,val,bS,je,aQ,aR,dt,EJ,vr,cn,cl,ae,ai,o2,jX,T.isN,w,e]
  |_=>cases q
def reads(cs:List T)(c:Int):Nat:=if 0<=c then(match cs[c.toNat]? with
 |some (.tup [_,_,.tup r])=>r.length
 |_=>0)else 0
def aX(cs:List T)(t:T):Bool:=match t with
 |.tup [.int c,.int k] =>decide (0<=c)&&decide (c<cs.length)&&(decide (0<=k)&&decide (k<reads cs c))
 |_=>ZD
def nL{t:T}(h:bw t=ZC):∃x y r,t=.tup [x,y,.tup r]:=by
 unfold bw at h;rw[NL]at h;obtain⟨h1,h2⟩:=h;obtain⟨l,rfl,h3,h4⟩:=dP h1
 match l,h3,h4,h2 with
 |[x,y,r],_,_,h2=>
  simp only[NL]at h2;obtain⟨_,h5⟩:=h2;unfold cO at h5;rw[NL]at h5;obtain⟨m,rfl,_⟩:=dP h5.1;exact⟨x,y,m,rfl⟩
def cg{t:T}(h:aW t a b=ZC):∃i,t=.int i/\a<=i/\i<=b:=by
 cases t with
 |int i=>unfold aW at h;rw[NL]at h;exact⟨i,rfl,of_decide_eq_true h.1,of_decide_eq_true h.2⟩
 |_=>cases h
def zZ(cs:List T)(t:T)(hc:a7 (.tup cs)=ZC)(h:t.pl=ZC):dI [.tup cs,t]=.ok (.bl (aX cs t)):=by
 have w:aS [t,.int 2,.int 2]=.ok (.bl (d6 t 2 2)):=lE t 2 2 h
 cases q:d6 t 2 2 with
 |false=>
  rw[q]at w
  have:aX cs t=ZD:=by
   unfold aX;split
   ·cases q
   ·rfl
  simp[dI,val,bS,jd,aQ,aD,eZ,nR,cH,tb,sN,aR,cl,vr,cn,ae,ai,w,this]
 |true=>
  rw[q]at w;obtain⟨l,rfl,h1,h2⟩:=dP q
  match l,h1,h2 with
  |[x,y],_,_=>
   simp[T.pl,plS]at h;obtain⟨px,py⟩:=h
   have g0:aV (.tup [x,y]) (.int 0)=.ok x:=rfl
   have g1:aV (.tup [x,y]) (.int 1)=.ok y:=rfl
   have gl:bP [.tup cs]=.ok (.int cs.length):=rfl
   have e1:=fm x 0 ((cs.length:Int) - 1) px
   cases q1:aW x 0 ((cs.length:Int) - 1)with
   |false=>
    rw[q1]at e1
    have:aX cs (.tup [x,y])=ZD:=by
     cases x with
     |int c=>
      cases y with
      |int k=>
       simp only[aW,SY,decide_eq_false_iff_not]at q1;simp only[aX,SY,decide_eq_false_iff_not]
       omega
      |_=>rfl
     |_=>rfl
    simp[dI,val,bS,jd,aQ,aD,eZ,nR,cH,tb,sN,aR,cl,vr,cn,ae,ai,o2,cZ,w,g0,gl,e1,this]
   |true=>
    rw[q1]at e1;obtain⟨c,rfl,c1,c2⟩:=cg q1;obtain⟨n,rfl⟩:=Os c1
    have hn:n<cs.length:=by omega
    have hcl:bw cs[n]=ZC:=by
     unfold a7 at hc;rw[NL]at hc;exact Ob.mp hc.2 _ (Pt hn)
    obtain⟨a,b,r,er⟩:=nL hcl
    have g2:aV (.tup cs) (.int (n:Int))=.ok (.tup [a,b,.tup r]):=by
     simp only[aV,T.items];rw[lH (N7 hn),er]
    have g3:aV (.tup [a,b,.tup r]) (.int 2)=.ok (.tup r):=rfl
    have gr:bP [.tup r]=.ok (.int r.length):=rfl
    have e2:=fm y 0 ((r.length:Int) - 1) py
    have:aX cs (.tup [.int n,y])=aW y 0 ((r.length:Int) - 1):=by
     have er2:reads cs (n:Int)=r.length:=by
      unfold reads;rw[if_pos c1,Py,N7 hn,er]
     cases y with
     |int k=>
      simp only[aX,aW,er2];rw[decide_eq_true c1,decide_eq_true (show(n:Int)<cs.length by omega)]
      simp only[QL]
      congr 1
      exact decide_eq_decide.mpr (by omega)
     |_=>rfl
    simp[dI,val,bS,jd,aQ,aD,eZ,nR,cH,tb,sN,aR,cl,vr,cn,ae,ai,o2,cZ,w,g0,g1,g2,g3,gl,gr,e1,e2,this]
def bq(cs:List T)(t:T):Bool:=match t with
 |.tup [a,b,x,y] =>dD x y&&(aX cs a&&(aX cs b&& !bo a b))
 |_=>ZD
variable{cs:List T}
def cb{t:T}(h:aX cs t=ZC):∃c k:Int,t=.tup [.int c,.int k]:=by
 unfold aX at h
 split at h
 ·exact⟨_,_,rfl⟩
 ·cases h
def DZ(cs:List T)(t:T)(hc:a7 (.tup cs)=ZC)(h:t.pl=ZC):cp [.tup cs,t]=.ok (.bl (bq cs t)):=by
 have w:aS [t,.int 4,.int 4]=.ok (.bl (d6 t 4 4)):=lE t 4 4 h
 cases q:d6 t 4 4 with
 |false=>
  rw[q]at w
  have:bq cs t=ZD:=by
   unfold bq;split
   ·cases q
   ·rfl
  simp[cp,val,bS,eQ,aQ,aD,eZ,nR,cH,tb,sN,aR,cl,vr,cn,ae,ai,w,this]
 |true=>
  rw[q]at w;obtain⟨l,rfl,h1,h2⟩:=dP q
  match l,h1,h2 with
  |[a,b,x,y],_,_=>
   simp[T.pl,plS]at h;obtain⟨pa,pb,px,py⟩:=h
   have g0:aV (.tup [a,b,x,y]) (.int 0)=.ok a:=rfl
   have g1:aV (.tup [a,b,x,y]) (.int 1)=.ok b:=rfl
   have g2:aV (.tup [a,b,x,y]) (.int 2)=.ok x:=rfl
   have g3:aV (.tup [a,b,x,y]) (.int 3)=.ok y:=rfl
   have e1:=GL x y px py
   have e2:=zZ cs a hc pa
   have e3:=zZ cs b hc pb
   show _=Rs.ok (T.bl (dD x y&&(aX cs a&&(aX cs b&& !bo a b))))
   cases q1:dD x y with
   |false=>
    rw[q1]at e1
    simp[cp,val,bS,eQ,aQ,aD,eZ,nR,cH,tb,sN,aR,cl,vr,cn,ae,ai,o2,w,g2,g3,e1]
   |true=>
    rw[q1]at e1
    cases q2:aX cs a with
    |false=>
     rw[q2]at e2
     simp[cp,val,bS,eQ,aQ,aD,eZ,nR,cH,tb,sN,aR,dt,cl,vr,cn,ae,ai,o2,w,g0,g2,g3,e1,e2]
    |true=>
     rw[q2]at e2
     cases q3:aX cs b with
     |false=>
      rw[q3]at e3
      simp[cp,val,bS,eQ,aQ,aD,eZ,nR,cH,tb,sN,aR,dt,cl,vr,cn,ae,ai,o2,w,g0,g1,g2,g3,e1,e2,e3]
     |true=>
      rw[q3]at e3;obtain⟨c,k,rfl⟩:=cb q2
      have f:g8 (.tup [.int c,.int k]) b=ZC:=j0 (by simp[T.dep,deps]) rfl (T.M4 _ pb)
      have g4:pM (.tup [.int c,.int k]) b=.ok (.bl (!bo (.tup [.int c,.int k]) b)):=by unfold pM;rw[if_pos f]
      simp[cp,val,bS,eQ,aQ,aD,eZ,nR,cH,tb,sN,aR,dt,cl,vr,cn,ae,ai,o2,w,g0,g1,g2,g3,g4,e1,e2,e3]
def gF(cs:List T)(t:T):Bool:=d6 t 0 8&&(match t with
 |.tup l=>l.all (bq cs)
 |_=>ZD)
def A3(cs:List T)(t:T)(hc:a7 (.tup cs)=ZC)(h:t.pl=ZC):dA [.tup cs,t]=.ok (.bl (gF cs t)):=by
 have w:aS [t,.int 0,.int 8]=.ok (.bl (d6 t 0 8)):=lE t 0 8 h;unfold gF
 cases q:d6 t 0 8 with
 |false=>rw[q]at w;simp[dA,val,bS,iF,aQ,aR,dt,cl,vr,cn,ae,ai,w]
 |true=>
  rw[q]at w;obtain⟨l,rfl,h1,h2⟩:=dP q
  have hp:∀u∈l,u.pl=ZC:=λu hu=>gx (by unfold T.pl at h;exact h) hu
  have e:=u9 (fe:=cl cp (ae (vr 1) (ae (vr 0) ai))) (p:=bq cs) (src:=[ZB,ZA 0]) (fi:=iS (vr 1)) (Z:=[.va (.tup cs),.va (.tup l)]) rfl (small h2) (by decide) (λu hu=>by
   simp[cl,ae,ai,vr,cn,b9,DZ cs u hc (hp u hu)])
  have w':cl aS (ae (vr 1) (ae (cn (.int 0)) (ae (cn (.int 8)) ai))) [.va (.tup cs),.va (.tup l)]=.ok (.bl ZC):=w;simp[dA,val,bS,iF,aQ,aR,dt,e,w']
def cN(t:T):Bool:=match t with
 |.tup [.tup cs,ls] =>a7 (.tup cs)&&gF cs ls
 |_=>ZD
def qo(t:T)(h:t.pl=ZC):bH [t]=.ok (.bl (cN t)):=by
 have w:aS [t,.int 2,.int 2]=.ok (.bl (d6 t 2 2)):=lE t 2 2 h
 cases q:d6 t 2 2 with
 |false=>
  rw[q]at w
  have:cN t=ZD:=by
   unfold cN;split
   ·cases q
   ·rfl
  simp[bH,val,bS,il,aQ,aR,dt,cl,vr,cn,ae,ai,w,this]
 |true=>
  rw[q]at w;obtain⟨l,rfl,h1,h2⟩:=dP q
  match l,h1,h2 with
  |[x,y],_,_=>
   simp[T.pl,plS]at h;obtain⟨px,py⟩:=h
   have g0:aV (.tup [x,y]) (.int 0)=.ok x:=rfl
   have g1:aV (.tup [x,y]) (.int 1)=.ok y:=rfl
   have e1:=D9 x px
   cases q1:a7 x with
   |false=>
    rw[q1]at e1
    have:cN (.tup [x,y])=ZD:=by
     cases x with
     |tup cs=>show(a7 (.tup cs)&&_)=ZD;rw[q1];rfl
     |_=>rfl
    simp[bH,val,bS,il,aQ,aR,dt,cl,vr,cn,ae,ai,o2,w,g0,e1,this]
   |true=>
    rw[q1]at e1
    cases x with
    |tup cs=>
     have e2:=A3 cs y q1 py
     have:cN (.tup [.tup cs,y])=gF cs y:=by show(a7 (.tup cs)&&_)=_;rw[q1];rfl
     simp[bH,val,bS,il,aQ,aR,dt,cl,vr,cn,ae,ai,o2,w,g0,g1,e1,e2,this]
    |_=>cases q1
theorem gG:∀m:List Int,deps (m.map .int)=0
 |[] =>rfl
 |a::m=>by rw[NM,deps,gG m];rfl
def n5(i n:Nat):List T:=(rng 0 n).map λt=>T.tup [.int i,t]
def Iq:T->Nat
 |.tup [_,_,.tup r] =>r.length
 |_=>0
def d9:Nat->List T->List T
 |_,[] =>[]
 |i,c::r=>n5 i (Iq c)++d9 (i+1) r
def ik{t:T}(h:bw t=ZC):∃x y r,t=.tup [x,y,.tup r]/\1<=r.length/\r.length<=4:=by
 obtain⟨x,y,r,rfl⟩:=nL h
 have:cO (.tup r)=ZC:=by
  have h':(nQ x y&&cO (.tup r))=ZC:=h;rw[NL]at h';exact h'.2
 unfold cO at this;rw[NL]at this;obtain⟨l,e,h1,h2⟩:=dP this.1;cases e;exact⟨x,y,r,rfl,h1,h2⟩
def j7(i n:Nat):(n5 i n).length=n:=by unfold n5;rw[NP,l7]
abbrev evG:T->En->Rs En:=gT 2 (eR (gN 2) (eR (gN 3) nI))
def JY{f:V3}(h:f Z=.ok [.int j])(h0:0<=j)(h1:j<=100000):iR f Z=.ok (rng 0 j):=by
 have e:yE j=ZC:=by unfold yE;rw[NL];exact⟨decide_eq_true (by omega),decide_eq_true (by omega)⟩
 unfold iR;rw[h]
 show(if yE j=ZC then _ else _)=_
 rw[e];rfl
def vc(l m:List T)(h:(l++m).length<=1000):aP (.lst l) (.lst m)=.ok (.lst (l++m)):=by
 show lb (l++m)=_
 unfold lb;rw[if_pos (az h)]
def fT(l m:List T)(h:(l++m).length<=1000):aP (.tup l) (.tup m)=.ok (.tup (l++m)):=by
 show la (l++m)=_
 unfold la;rw[if_pos (az h)]
def Mq(c0 acc x y:T)(r:List T)(i:Nat)(h:r.length<=4):
  ig (iR (ae (cl bP (ae (o2 aV (vr 3) (cn (.int 2))) ai)) ai)) [ZB,ZA 2] (gN 0) bT (aK (ae (vr 1) (ae (vr 0) ai))) [.va c0,.va acc,.va (.int i),.va (.tup [x,y,.tup r])]=.ok (.lst (n5 i r.length)):=
 yz (JY (j:=(r.length:Int)) rfl (by omega) (by omega)) (az (k:=4) (by rw[l7];exact h)) (by simp) λt _=>mk2 _ _
def GB(c0 x y:T)(acc r:List T)(i:Nat)(h:r.length<=4)(ha:acc.length<=100):evF [.va c0,.va (.lst acc),.va (.int i),.va (.tup [x,y,.tup r])]=.ok (.nx [.va c0,.va (.lst (acc++n5 i r.length)),.va (.int i),.va (.tup [x,y,.tup r])]):=
 bW (aL (t:=.lst acc) rfl (Mq c0 (.lst acc) x y r i h) (vc _ _ (by rw[NT,j7];omega))) rfl
theorem zU:∀(cs:List T)(c0:T)(acc:List T)(i:Nat)(s2 s3:Sl),(∀c∈cs,bw c=ZC)->acc.length+4*cs.length<=100 →
  ∃y2 y3,bx evG evF (cP i cs) [.va c0,.va (.lst acc),s2,s3]=.ok (.nx [.va c0,.va (.lst (acc++d9 i cs)),y2,y3])
 |[],c0,acc,i,s2,s3,_,_=>⟨s2,s3,by simp[cP,bx,d9]⟩
 |c::cs,c0,acc,i,s2,s3,hc,hl=>by
  obtain⟨x,y,r,rfl,r1,r2⟩:=ik (hc c NN);rw[NS]at hl;obtain⟨z2,z3,ih⟩:=zU cs c0 (acc++n5 i r.length) (i+1) (.va (.int i)) (.va (.tup [x,y,.tup r])) (λc h=>hc c (NJ _ h)) (by rw[NT,j7];omega)
  refine⟨z2,z3,?_⟩
  rw[cP,dR (Z1:=[.va c0,.va (.lst acc),.va (.int i),.va (.tup [x,y,.tup r])]) rfl (GB c0 x y acc r i r2 (by omega)),ih,d9,Om]
  rfl
def bh(hc:a7 (.tup cs)=ZC):(∀c∈cs,bw c=ZC)/\1<=cs.length/\cs.length<=4:=by
 unfold a7 at hc;rw[NL]at hc;obtain⟨l,e,h1,h2⟩:=dP hc.1;cases e;exact⟨λc h=>Ob.mp hc.2 c h,h1,h2⟩
def qr(cs:List T)(hc:a7 (.tup cs)=ZC):bY [.tup cs]=.ok (.lst (d9 0 cs)):=by
 obtain⟨ha,h1,h2⟩:=bh hc;obtain⟨y2,y3,e⟩:=zU cs (.tup cs) [] 0 .em .em ha (by simp;omega)
 rw[Po]at e;refine cA rfl ?_
 unfold lh;rw[aE (Z':=[.va (.tup cs),.va (.lst []),.em,.em]) rfl,aE ((fX (ts:=cP 0 cs) rfl e))]
 rfl
def Ge(h:k<n):T.int (k:Int)∈rng 0 (n:Int):=by
 unfold rng;exact Oj.mpr ⟨k,Pn.mpr (by omega),by simp⟩
def rJ(cs:List T)(c:Nat):reads cs (c:Int)=Iq (cs.getD c .non):=by
 unfold reads;rw[if_pos (by omega),Py,List.getD_eq_getElem?_getD]
 cases cs[c]? with
 |none=>rfl
 |some t=>
  cases t with
  |tup l=>
   match l with
   |[] =>rfl
   |[_] =>rfl
   |[_,_] =>rfl
   |[_,_,z] =>cases z <;> rfl
   |_::_::z::_::_=>cases z <;> rfl
  |_=>rfl
mutual
def sm(n:Nat):T->Bool
 |.dct _ _=>ZD
 |.ob _ _ _=>ZD
 |.scr _=>ZD
 |.tup l=>decide (l.length<=n)&&sms n l
 |.lst l=>decide (l.length<=n)&&sms n l
 |_=>ZC
def sms(n:Nat):List T->Bool
 |[] =>ZC
 |t::l=>sm n t&&sms n l
end
mutual
theorem BW{n:Nat}:∀(t:T),sm n t=ZC->t.pl=ZC
 |.scr _,h=>by simp[sm]at h
 |.dct _ _,h=>by simp[sm]at h
 |.ob _ _ _,h=>by simp[sm]at h
 |.tup l,h=>by rw[sm,NL]at h;rw[T.pl];exact sms_pl l h.2
 |.lst l,h=>by rw[sm,NL]at h;rw[T.pl];exact sms_pl l h.2
 |.non,_=>by simp[T.pl]
 |.bl _,_=>by simp[T.pl]
 |.int _,_=>by simp[T.pl]
 |.str _,_=>by simp[T.pl]
theorem sms_pl{n:Nat}:∀(l:List T),sms n l=ZC->plS l=ZC
 |[],_=>by simp[plS]
 |t::l,h=>by rw[sms,NL]at h;rw[plS,BW t h.1,sms_pl l h.2];rfl
end
theorem ze:∀{l:List T},sms n l=ZC↔ ∀t∈l,sm n t=ZC
 |[] =>by simp[sms]
 |t::l=>by rw[sms,NL,ze (l:=l)];simp
def sm_tup:sm n (.tup l)=ZC↔l.length<=n/\∀t∈l,sm n t=ZC:=by rw[sm,NL,ze,decide_eq_true_iff]
def lz{i:Int}(h:0<j):mj (.int i) (.int j)=.ok (.int (i % j)):=by show(if _ then _ else _)=_;rw[if_pos h]
def oC{i:Int}(h:0<j)(h2:j<1073741824):mx (.int i) (.int j)=.ok (.int (i / j)):=by show(if _ then _ else _)=_;rw[if_pos ⟨h,h2⟩]
def k9{i:Int}(h : -18446744073709551616<i)(h2:i<18446744073709551616):b6 (.int i) (.int j)=.ok (.int (i*j)):=by
 show yi (.int i) (.int j)=_
 show(if _ then _ else _)=_
 rw[if_pos (.inl ⟨by omega,by omega⟩)]
def C1{i:Int}(h : -18446744073709551616<j)(h2:j<18446744073709551616):b6 (.int i) (.int j)=.ok (.int (i*j)):=by
 show yi (.int i) (.int j)=_
 show(if _ then _ else _)=_
 rw[if_pos (.inr ⟨by omega,by omega⟩)]
def Kc(ns:List Int)(k:Nat)(hn:ns.length<=63):∃c,fW [.scr ns,.int k]=.ok (.int c):=by
 have e0:o2 kN (vr 0) (fz ai) [.va (.scr ns),.va (.int k)]=.ok (.bl (lg ns [])):=by
  refine aL (t:=.scr ns) (u:=.lst []) rfl (mn (ts:=[]) rfl (az (k:=0) (N3 _))) ?_
  unfold kN;rw[if_pos (j0 (by simp[T.dep]) rfl rfl)]
  rfl
 cases ns with
 |nil=>
  refine⟨7*k,cA rfl ?_⟩
  unfold km
  refine gX ((dS (bf e0)).trans (cX (aL (t:=.int 7) (u:=.int k) rfl rfl (k9 (by omega) (by omega)))))
 |cons a r=>
  have hl:(0:Int)<((a::r).length:Nat):=by simp only[NS];omega
  have hl2:(((a::r).length:Nat):Int)<1073741824:=by simp only[NS]at hn ⊢;omega
  have hi:k % (a::r).length<(a::r).length:=Nat.mod_lt _ (by simp)
  have g0:o2 mj (vr 1) (cl bP (ae (vr 0) ai)) [.va (.scr (a::r)),.va (.int k)]=.ok (.int ((k % (a::r).length:Nat):Int)):=by
   refine aL (t:=.int k) (u:=.int ((a::r).length:Nat)) rfl ?_ (by rw[lz hl];rfl)
   refine aU (ts:=[.scr (a::r)]) rfl ?_
   show Rs.ok (T.int (((a::r).map T.int).length:Nat))=_
   rw[NP]
  have g1:aV (.scr (a::r)) (.int ((k % (a::r).length:Nat):Int))=.ok (.int (a::r)[k % (a::r).length]):=by
   have e:((a::r).map T.int)[k % (a::r).length]?=ZA (.int (a::r)[k % (a::r).length]):=by rw[Oc,N7 hi];rfl
   show(match L2.atI ((a::r).map T.int) ((k % (a::r).length:Nat):Int)with|some t=>Rs.ok t|none=>.bad)=_
   rw[lH e]
  have g2:o2 mx (vr 1) (cl bP (ae (vr 0) ai)) [.va (.scr (a::r)),.va (.int k)]=.ok (.int ((k:Int) / ((a::r).length:Nat))):=by
   refine aL (t:=.int k) (u:=.int ((a::r).length:Nat)) rfl ?_ (oC hl hl2)
   refine aU (ts:=[.scr (a::r)]) rfl ?_
   show Rs.ok (T.int (((a::r).map T.int).length:Nat))=_
   rw[NP]
  refine⟨(a::r)[k % (a::r).length] +6553*((k:Int) / ((a::r).length:Nat)),cA rfl ?_⟩
  unfold km
  show aD _ _ [.va (.scr (a::r)),.va (.int k)]=_
  refine(aE (Z':=[.va (.scr (a::r)),.va (.int k)]) ((d7 (bf e0)).trans rfl)).trans ?_
  exact cX (aL (aL (t:=.scr (a::r)) rfl g0 g1) (aL (t:=.int 6553) rfl g2 (k9 (by omega) (by omega))) rfl)
def dq(ns:List Int)(k:Nat)(m:Int)(hn:ns.length<=63)(hm:0<m):∃r,aF [.scr ns,.int k,.int m]=.ok (.int r)/\0<=r/\r<m:=by
 obtain⟨c,hc⟩:=Kc ns k hn
 have b1:∀x:Int,0<=x % 2147483563/\x % 2147483563<2147483563:=λx=>⟨SZ _ (by omega),R3 _ (by omega)⟩
 have b2:∀x:Int,0<=x % 2147483399/\x % 2147483399<2147483399:=λx=>⟨SZ _ (by omega),R3 _ (by omega)⟩
 generalize hx:(c % 2147483563*69069+104723*((k:Int)+1)) % 2147483563=x
 have hx':=b1 (c % 2147483563*69069+104723*((k:Int)+1));rw[hx]at hx'
 generalize hy:(x*x+x / 3) % 2147483399=y
 have hy':=b2 (x*x+x / 3);rw[hy]at hy';refine⟨(y*y+y / 7) % 2147483647 / 11 % m,cA rfl ?_,SZ _ (by omega),R3 _ hm⟩
 show jk [.va (.scr ns),.va (.int k),.va (.int m),.em]=_
 unfold jk
 have s1:cj (o2 mj (o2 aP (o2 b6 (o2 mj (cl fW (ae (vr 0) (ae (vr 1) ai))) (cn (.int 2147483563))) (cn (.int 69069))) (o2 b6 (cn (.int 104723)) (o2 aP (vr 1) (cn (.int 1))))) (cn (.int 2147483563))) (gN 3) [.va (.scr ns),.va (.int k),.va (.int m),.em]=.ok (.nx [.va (.scr ns),.va (.int k),.va (.int m),.va (.int x)]):=by
  refine bW (t:=.int x) (aL (u:=.int 2147483563) (aL (aL (u:=.int 69069) (aL (u:=.int 2147483563) (aU (ts:=[.scr ns,.int k]) rfl hc) rfl (lz (by omega))) rfl (C1 (by omega) (by omega))) (aL (t:=.int 104723) (u:=.int ((k:Int)+1)) rfl rfl (k9 (by omega) (by omega))) rfl) rfl ?_) rfl
  rw[lz (by omega),hx]
 have s2:cj (o2 mj (o2 aP (o2 b6 (vr 3) (vr 3)) (o2 mx (vr 3) (cn (.int 3)))) (cn (.int 2147483399))) (gN 3) [.va (.scr ns),.va (.int k),.va (.int m),.va (.int x)]=.ok (.nx [.va (.scr ns),.va (.int k),.va (.int m),.va (.int y)]):=by
  refine bW (t:=.int y) (aL (u:=.int 2147483399) (aL (aL (t:=.int x) (u:=.int x) rfl rfl (k9 (by omega) (by omega))) (aL (t:=.int x) (u:=.int 3) rfl rfl (oC (by omega) (by omega))) rfl) rfl ?_) rfl
  rw[lz (by omega),hy]
 rw[aE s1,aE s2];exact cX (aL (u:=.int m) (aL (u:=.int 11) (aL (u:=.int 2147483647) (aL (aL (t:=.int y) (u:=.int y) rfl rfl (k9 (by omega) (by omega))) (aL (t:=.int y) (u:=.int 7) rfl rfl (oC (by omega) (by omega))) rfl) rfl (lz (by omega))) rfl (oC (by omega) (by omega))) rfl (lz hm))
def eC{r:Int}{f g h:V5}(e:aF [.scr ns,.int k,.int m]=.ok (.int r))(h1:f Z=.ok (.scr ns))(h2:g Z=.ok (.int k))(h3:h Z=.ok (.int m)):
  cl aF (ae f (ae g (ae h ai))) Z=.ok (.int r):=aU (aq h1 (aq h2 (aq h3 rfl))) e
theorem vO:∀(l:List Int)(z y:Int),nC (l++[z])=ZC->z<y->nC (l++[z] ++[y])=ZC
 |[],z,y,_,h=>by simp[nC,h]
 |[a],z,y,h,hy=>by
  simp[nC]at h ⊢
  omega
 |a::b::l,z,y,h,hy=>by
  have h':nC (a::b::(l++[z]))=ZC:=h;rw[Fo,NL]at h'
  have ih:=vO (b::l) z y h'.2 hy
  show nC (a::b::(l++[z] ++[y]))=ZC
  rw[Fo,h'.1];exact ih
theorem jK:∀l:List Int,kL (l.map .int)=ZA l
 |[] =>rfl
 |a::l=>by rw[NM,kL,jK l]
def RdOk(l:List Int):Prop:=∃(l':List Int)(z:Int),l=l'++[z]/\nC l=ZC/\(∀x∈l,0<=x/\x<=5*l.length)/\z<=5*l.length
def uQ(l:List T)(z:T):aV (.tup (l++[z])) (.int (-1))=.ok z:=by
 have e:L2.atI (l++[z]) (-1)=ZA z:=by
  unfold L2.atI L2.ixN;simp;rw[if_pos (by omega)]
  have q:(-1+((l.length:Int)+1)).toNat=l.length:=by omega
  show(l++[z])[(-1+((l.length:Int)+1)).toNat]?=ZA z
  rw[q];simp
 show(match L2.atI (l++[z]) (-1)with|some t=>Rs.ok t|none=>.bad)=_
 rw[e]
def GW(ns:List Int)(hn:ns.length<=63)(a j:Nat)(s:T)(l:List Int)(h:RdOk l)(hl:l.length<=3):∃l2,clF [.va (.scr ns),.va (.int a),.va s,.va (.tup (l.map .int)),.va (.int j)]=.ok (.nx [.va (.scr ns),.va (.int a),.va s,.va (.tup (l2.map .int)),.va (.int j)])/\RdOk l2/\l2.length=l.length+1:=by
 obtain⟨l',z,rfl,h1,h2,h3⟩:=h;obtain⟨d,ed,d0,d1⟩:=dq ns (a+3+j) 5 hn (by omega)
 refine⟨l'++[z] ++[z+1+d],?_,⟨l'++[z],z+1+d,rfl,vO l' z _ h1 (by omega),?_,?_⟩,by simp⟩
 ·refine bW (t:=.tup ((l'++[z] ++[z+1+d]).map .int)) (aL (t:=.tup ((l'++[z]).map .int)) (u:=.tup [.int (z+1+d)]) rfl (ba (ts:=[.int (z+1+d)]) (aq (aL (t:=.int (z+1)) (u:=.int d) (aL (t:=.int z) (u:=.int 1) (aL (t:=.tup ((l'++[z]).map .int)) (u:=.int (-1)) rfl rfl ?_) rfl rfl) (eC (k:=a+3+j) ed rfl ?_ rfl) rfl) rfl) (az (k:=1) (by simp))) ?_) rfl
  ·rw[O4];exact uQ _ _
  ·refine aL (t:=.int ((a:Int)+3)) (u:=.int j) (aL (t:=.int a) (u:=.int 3) rfl rfl rfl) rfl ?_
   show Rs.ok (T.int ((a:Int)+3+j))=_
   congr 2
  ·rw[O4 (l₁:=l'++[z])]
   exact fT _ _ (by rw[NT,NP];simp at hl ⊢;omega)
 ·intro x hx
  rcases Og.mp hx with hx|hx
  ·have:=h2 x hx
   simp only[NT,Pm]at this ⊢;omega
  ·rw[N0]at hx
   subst hx
   have hz:=h2 z (by simp)
   simp only[NT,Pm]at h3 ⊢;omega
 ·simp only[NT,Pm]at h3 ⊢
  omega
theorem Ac(ns:List Int)(hn:ns.length<=63)(a:Nat)(s:T):∀(js:List Nat)(l:List Int)(s4:Sl),RdOk l->l.length+js.length<=4->∃l2 s5,bx (gN 4) clF (js.map λ(j:Nat)=>T.int j) [.va (.scr ns),.va (.int a),.va s,.va (.tup (l.map .int)),s4]=.ok (.nx [.va (.scr ns),.va (.int a),.va s,.va (.tup (l2.map .int)),s5])/\RdOk l2/\l2.length=l.length+js.length
 |[],l,s4,h,_=>⟨l,s4,rfl,h,rfl⟩
 |j::js,l,s4,h,hl=>by
  rw[NS]at hl;obtain⟨l2,e2,h2,n2⟩:=GW ns hn a j s l h (by omega)
  obtain⟨l3,s5,e3,h3,n3⟩:=Ac ns hn a s js l2 (.va (.int j)) h2 (by omega)
  refine⟨l3,s5,?_,h3,by rw[n3,n2,NS];omega⟩
  rw[NM,dR (Z1:=[.va (.scr ns),.va (.int a),.va s,.va (.tup (l.map .int)),.va (.int j)]) rfl e2];exact e3
def og(n:Nat):rng 0 (n:Int)=(OQ n).map λ(j:Nat)=>T.int j:=by
 unfold rng;simp
def RdOk.reads{l:List Int}(h:RdOk l)(hl:l.length<=4):cO (.tup (l.map .int))=ZC:=by
 obtain⟨l',z,rfl,h1,h2,h3⟩:=h;unfold cO;rw[NL];refine⟨?_,?_⟩
 ·simp[d6];simp at hl;omega
 ·show(((l'++[z]).map T.int).all (λu=>aW u 0 99)&&(match kL ((l'++[z]).map T.int)with|some m=>nC m|none=>ZD))=ZC
  rw[jK]
  show(_&&nC (l'++[z]))=ZC
  rw[h1,TZ,Ob];intro t ht;obtain⟨x,hx,rfl⟩:=Oj.mp ht
  have:=h2 x hx;simp only[aW,NL,decide_eq_true_eq];omega
def Fe(n:Nat)(l:List Int)(h:l.length<=n):sm n (.tup (l.map .int))=ZC:=sm_tup.mpr ⟨by rw[NP];exact h,λt ht=>by obtain⟨x,_,rfl⟩:=Oj.mp ht;simp[sm]⟩
def D8(ns:List Int)(hn:ns.length<=63)(a:Nat):∃c,cK [.scr ns,.int a]=.ok c/\bw c=ZC/\sm 8 c=ZC:=by
 obtain⟨d1,e1,p1,q1⟩:=dq ns a 3 hn (by omega)
 obtain⟨d2,e2,p2,q2⟩:=dq ns (a+2) 6 hn (by omega)
 obtain⟨d3,e3,p3,q3⟩:=dq ns (a+1) 3 hn (by omega)
 obtain⟨d4,e4,p4,q4⟩:=dq ns (a+6) 3 hn (by omega)
 obtain⟨n3,rfl⟩:=Os p3;obtain⟨l,s5,el,hl,nl⟩:=Ac ns hn a (.int (1+d1)) (OQ n3) [d2] .em ⟨[],d2,rfl,rfl,λx hx=>by rw[N0]at hx;subst hx;simp;omega,by simp;omega⟩ (by simp;omega)
 have nl':l.length<=4:=by rw[nl];simp;omega
 have hr:=hl.reads nl';refine⟨.tup [.int (1+d1),.int (1+d1+d4),.tup (l.map .int)],cA rfl ?_,?_,?_⟩
 ·show jl [.va (.scr ns),.va (.int a),.em,.em,.em]=_
  unfold jl;rw[aE (Z':=[.va (.scr ns),.va (.int a),.va (.int (1+d1)),.em,.em]) (bW (t:=.int (1+d1)) (aL (t:=.int 1) rfl (eC e1 rfl rfl rfl) rfl) rfl)];rw[aE (Z':=[.va (.scr ns),.va (.int a),.va (.int (1+d1)),.va (.tup ([d2].map .int)),.em]) (bW (t:=.tup [.int d2]) (ba (ts:=[.int d2]) (aq (eC (k:=a+2) e2 rfl rfl rfl) rfl) (az (k:=1) (by simp))) rfl)]
  rw[aE ((fX (JY (aq (eC (k:=a+1) e3 rfl rfl rfl) rfl) (by omega) (by omega)) (by rw[og];exact el)))]
  exact cX (ba (aq (t:=.int (1+d1)) rfl (aq (aL (t:=.int (1+d1)) rfl (eC (k:=a+6) e4 rfl rfl rfl) rfl) (aq (t:=.tup (l.map .int)) rfl rfl))) (az (k:=3) (by simp)))
 ·show(ZC&&(nQ (.int (1+d1)) (.int (1+d1+d4))&&cO _))=ZC
  rw[hr];simp only[nQ,aW,QL,TZ,NL,decide_eq_true_eq];omega
 ·refine sm_tup.mpr ⟨by simp,λt ht=>?_⟩
  rcases NR.mp ht with rfl|ht
  ·simp[sm]
  ·rcases NR.mp ht with rfl|ht
   ·simp[sm]
   ·rw[N0]at ht;subst ht;exact Fe 8 l (by omega)
variable{y:T}
theorem oo:∀(cs:List T)(i:Nat),y∈d9 i cs->∃c k:Nat,y=.tup [.int c,.int k]/\i<=c/\c<i+cs.length/\k<Iq (cs.getD (c - i) .non)
 |[],i,h=>by cases h
 |x::cs,i,h=>by
  rw[d9]at h;rcases Og.mp h with h|h
  ·unfold n5 at h
   obtain⟨t,ht,rfl⟩:=Oj.mp h;obtain⟨j,rfl,hj⟩:=tJ ht;refine⟨i,j,rfl,N3 _,by rw[NS];omega,?_⟩
   rw[SR]
   show j<Iq x
   omega
  ·obtain⟨c,k,e,h1,h2,h3⟩:=oo cs (i+1) h
   refine⟨c,k,e,by omega,by rw[NS];omega,?_⟩
   have:c - i=(c - (i+1))+1:=by omega
   rw[this];exact h3
def nJ(h:y∈d9 0 cs):aX cs y=ZC:=by
 obtain⟨c,k,rfl,_,h2,h3⟩:=oo cs 0 h
 show(decide ((0:Int)<=(c:Int))&&decide ((c:Int)<(cs.length:Int))&&(decide ((0:Int)<=(k:Int))&&decide ((k:Int)<(reads cs (c:Int):Int))))=ZC
 rw[SS]at h3;rw[rJ];simp only[NL,decide_eq_true_eq];omega
theorem mQ:∀(cs:List T)(i:Nat),(d9 i cs).Nodup
 |[],i=>Qh
 |x::cs,i=>by
  rw[d9,OK];refine⟨?_,mQ cs (i+1),?_⟩
  ·unfold n5 rng
   rw[P7];rw[RY,Uo];refine List.nodup_range.imp ?_
   intro a b hab e
   simp at e
   exact hab (by omega)
  ·intro a ha b hb e
   subst e;unfold n5 at ha;obtain⟨t,ht,rfl⟩:=Oj.mp ha;obtain⟨c,k,e,h1,_,_⟩:=oo cs (i+1) hb
   simp at e
   omega
def CV(h:l.Nodup){j:Nat}(hi:i<l.length)(hj:j<l.length)(hij:i≠j):l[i] ≠l[j]:=by
 rw[RY,List.pairwise_iff_getElem]at h;rcases Nat.lt_or_ge i j with q|q
 ·exact h i j hi hj q
 ·exact λe=>h j i hj hi (by omega) e.symm
theorem oE:∀(cs:List T)(i:Nat),(∀c∈cs,bw c=ZC)->(d9 i cs).length<=4*cs.length
 |[],i,_=>N3 _
 |x::cs,i,h=>by
  obtain⟨a,b,r,rfl,_,h2⟩:=ik (h x NN)
  have:=oE cs (i+1) λc hc=>h c (NJ _ hc)
  rw[d9,NT,j7,NS]
  show r.length+_<=_
  omega
def DW{a b:T}(ha:aX cs a=ZC)(hb:aX cs b=ZC)(h:a≠b):bo a b=ZD:=by
 obtain⟨c,k,rfl⟩:=cb ha;obtain⟨c',k',rfl⟩:=cb hb;rw[Bool.eq_false_iff];intro e;simp[bo,beqTs]at e;exact h (by rw[e.1,e.2])
def vD{a:T}(ha:aX cs a=ZC):sm 8 a=ZC:=by
 obtain⟨c,k,rfl⟩:=cb ha;simp[sm,sms]
def Dx(h:i<l.length):aV (.lst l) (.int (i:Int))=.ok l[i]:=by
 show(match L2.atI l (i:Int)with|some t=>Rs.ok t|none=>.bad)=_
 rw[lH (N7 h)]
def qm(a b:Int):kN (.int a) (.int b)=.ok (.bl (a == b)):=by
 unfold kN;rw[if_pos (j0 (by simp[T.dep]) rfl rfl)]
 rfl
def yL(ns:List Int)(hn:ns.length<=63)(a:Nat)(cs:List T)(hc:a7 (.tup cs)=ZC):∃r,bM [.scr ns,.int a,.tup cs]=.ok r/\((r=.non/\(d9 0 cs).length<2)\/(bq cs r=ZC/\sm 8 r=ZC)):=by
 obtain⟨ha,h1,h4⟩:=bh hc
 have hlen:=oE cs 0 ha
 have er:=qr cs hc
 have gl:∀s4 s5 s6 s7:Sl,cl bP (ae (vr 3) ai) [.va (.scr ns),.va (.int a),.va (.tup cs),.va (.lst (d9 0 cs)),s4,s5,s6,s7]=.ok (.int ((d9 0 cs).length:Nat)):=λ_ _ _ _=>rfl
 have s1:cj (cl bY (ae (vr 2) ai)) (gN 3) [.va (.scr ns),.va (.int a),.va (.tup cs),.em,.em,.em,.em,.em]=.ok (.nx [.va (.scr ns),.va (.int a),.va (.tup cs),.va (.lst (d9 0 cs)),.em,.em,.em,.em]):=bW (aU (ts:=[.tup cs]) rfl er) rfl
 have lt:o2 pP (cl bP (ae (vr 3) ai)) (cn (.int 2)) [.va (.scr ns),.va (.int a),.va (.tup cs),.va (.lst (d9 0 cs)),.em,.em,.em,.em]=.ok (.bl (decide (((d9 0 cs).length:Int)<2))):=aL (t:=.int ((d9 0 cs).length:Nat)) (u:=.int 2) (gl _ _ _ _) rfl rfl
 by_cases hs:(d9 0 cs).length<2
 ·refine⟨.non,cA rfl ?_,.inl ⟨rfl,hs⟩⟩
  show eh [.va (.scr ns),.va (.int a),.va (.tup cs),.em,.em,.em,.em,.em]=_
  unfold eh;rw[aE s1];rw[decide_eq_true (by omega)]at lt
  exact gX ((dS (bf lt)).trans rfl)
 ·rw[decide_eq_false (by omega)]at lt
  generalize hN:(d9 0 cs).length=n at*
  obtain⟨d1,e1,p1,q1⟩:=dq ns a (n:Int) hn (by omega)
  obtain⟨d2,e2,p2,q2⟩:=dq ns (a+1) ((n:Int) - 1) hn (by omega)
  obtain⟨d3,e3,p3,q3⟩:=dq ns (a+2) 8 hn (by omega)
  obtain⟨d4,e4,p4,q4⟩:=dq ns (a+3) 3 hn (by omega)
  obtain⟨d5,e5,p5,q5⟩:=dq ns (a+4) 9 hn (by omega)
  obtain⟨i,rfl⟩:=Os p1;obtain⟨d2,rfl⟩:=Os p2
  have hi:i<(d9 0 cs).length:=by omega
  have hj:(i+1+d2) % n<(d9 0 cs).length:=by rw[hN];exact Nat.mod_lt _ (by omega)
  have hij:i≠(i+1+d2) % n:=by
   rcases Nat.lt_or_ge (i+1+d2) n with q|q
   ·rw[UQ q];omega
   ·have:(i+1+d2) % n=i+1+d2 - n:=by
     rw[Nat.mod_eq_sub_mod q,UQ (by omega)]
    rw[this];omega
  have eA:=nJ (Pt hi)
  have eB:=nJ (Pt hj)
  have eN:(d9 0 cs)[i] ≠(d9 0 cs)[(i+1+d2) % n]:=CV (mQ cs 0) hi hj hij
  generalize hA:(d9 0 cs)[i]=A at*
  generalize hB:(d9 0 cs)[(i+1+d2) % n]=B at*
  let y:T:=if d4 == 0 then .non else .int (d3+d5)
  refine⟨.tup [A,B,.int d3,y],cA rfl ?_,.inr ⟨?_,?_⟩⟩
  ·show eh [.va (.scr ns),.va (.int a),.va (.tup cs),.em,.em,.em,.em,.em]=_
   unfold eh;rw[aE s1];rw[aE (Z':=[.va (.scr ns),.va (.int a),.va (.tup cs),.va (.lst (d9 0 cs)),.em,.em,.em,.em]) ((d7 (bf lt)).trans rfl)];rw[aE (Z':=[.va (.scr ns),.va (.int a),.va (.tup cs),.va (.lst (d9 0 cs)),.va (.int (i:Nat)),.em,.em,.em]) (bW (eC e1 rfl rfl (gl _ _ _ _)) rfl)];rw[aE (Z':=[.va (.scr ns),.va (.int a),.va (.tup cs),.va (.lst (d9 0 cs)),.va (.int (i:Nat)),.va (.int ((i+1+d2) % n:Nat)),.em,.em]) (bW (t:=.int ((i+1+d2) % n:Nat)) (aL (t:=.int ((i:Int)+1+d2)) (u:=.int n) (aL (t:=.int ((i:Int)+1)) (u:=.int d2) rfl (eC (k:=a+1) e2 rfl rfl (aL (t:=.int n) (u:=.int 1) (gl _ _ _ _) rfl rfl)) rfl) (gl _ _ _ _) (lz (by omega))) rfl)]
   rw[aE (Z':=[.va (.scr ns),.va (.int a),.va (.tup cs),.va (.lst (d9 0 cs)),.va (.int (i:Nat)),.va (.int ((i+1+d2) % n:Nat)),.va (.int d3),.em]) (bW (eC (k:=a+2) e3 rfl rfl rfl) rfl)]
   have ey:yD (tb (o2 kN (cl aF (ae (vr 0) (ae (o2 aP (vr 1) (cn (.int 3))) (ae (cn (.int 3)) ai)))) (cn (.int 0)))) (cn .non) (o2 aP (vr 6) (cl aF (ae (vr 0) (ae (o2 aP (vr 1) (cn (.int 4))) (ae (cn (.int 9)) ai))))) [.va (.scr ns),.va (.int a),.va (.tup cs),.va (.lst (d9 0 cs)),.va (.int (i:Nat)),.va (.int ((i+1+d2) % n:Nat)),.va (.int d3),.em]=.ok y:=by
    rw[se (bf (aL (u:=.int 0) (eC (k:=a+3) e4 rfl rfl rfl) rfl (qm _ _)))]
    show _=Rs.ok (if d4 == 0 then T.non else .int (d3+d5))
    cases d4 == 0 with
    |true=>rfl
    |false=>exact aL (t:=.int d3) rfl (eC (k:=a+4) e5 rfl rfl rfl) rfl
   rw[aE (Z':=[.va (.scr ns),.va (.int a),.va (.tup cs),.va (.lst (d9 0 cs)),.va (.int (i:Nat)),.va (.int ((i+1+d2) % n:Nat)),.va (.int d3),.va y]) (bW ey rfl)];refine cX (ba (aq (t:=A) (aL (t:=.lst (d9 0 cs)) (u:=.int (i:Nat)) rfl rfl ?_) (aq (t:=B) (aL (t:=.lst (d9 0 cs)) (u:=.int ((i+1+d2) % n:Nat)) rfl rfl ?_) (aq (t:=.int d3) rfl (aq (t:=y) rfl rfl)))) (az (k:=4) (by simp)))
   ·rw[<-hA];exact Dx hi
   ·rw[<-hB];exact Dx hj
  ·show(dD (.int d3) y&&(aX cs A&&(aX cs B&& !bo A B)))=ZC
   rw[eA,eB,DW eA eB eN]
   have:dD (.int d3) y=ZC:=by
    show(aW (.int d3) 0 999&&(match(T.int d3),(if d4 == 0 then T.non else .int (d3+d5))with|_,.non=>ZC|.int i,_=>aW (if d4 == 0 then T.non else .int (d3+d5)) i 999|_,_=>ZD))=ZC
    cases d4 == 0 with
    |true=>simp[aW];omega
    |false=>simp[aW];omega
   rw[this];rfl
  ·refine sm_tup.mpr ⟨by simp,λt ht=>?_⟩
   have hy:sm 8 y=ZC:=by show sm 8 (if d4 == 0 then T.non else .int (d3+d5))=ZC;cases d4 == 0 <;> simp[sm]
   simp only[NR,Pk,or_false]at ht;rcases ht with rfl|rfl|rfl|rfl
   ·exact vD eA
   ·exact vD eB
   ·simp[sm]
   ·exact hy
def sr(ns:List Int)(hn:ns.length<=63)(a:Nat)(cs:List T)(hc:a7 (.tup cs)=ZC):∃r,bM [.scr ns,.int a,.tup cs]=.ok r/\(r=.non\/(bq cs r=ZC/\sm 8 r=ZC)):=by
 obtain⟨r,e,h⟩:=yL ns hn a cs hc;exact⟨r,e,h.imp_left (·.1)⟩
def okv:Rs T->T
 |.ok t=>t
 |_=>.non
def zw(l:List T)(k:Int)(h : -(2 ^ 63)<=k/\k<2 ^ 63/\l.length*k.toNat<=sizeLine):b6 (.lst l) (.int k)=.ok (.lst (N9 k.toNat l).flatten):=by
 show yi (.lst l) (.int k)=_
 unfold yi;exact if_pos h
def mul_one(x:T)(b:Bool):b6 (.lst [x]) (.int (if b then 1 else 0))=.ok (.lst (if b then [x]else [])):=by
 cases b with
 |true=>exact zw [x] 1 ⟨by decide,by decide,az (k:=1) (by simp)⟩
 |false=>exact zw [x] 0 ⟨by decide,by decide,az (k:=1) (by simp)⟩
def Bm(cs ls:List T):Prop:=∀t∈ls,bq cs t=ZC/\sm 8 t=ZC
def Gi(ns:List Int)(hn:ns.length<=63)(a j:Nat)(m:T)(cs ls:List T)(hc:a7 (.tup cs)=ZC)(h:Bm cs ls)(hl:ls.length<=100)(s6:Sl):
  ∃ls2 s7,leF [.va (.scr ns),.va (.int a),.va m,.va (.tup cs),.va (.lst ls),.va (.int j),s6]=.ok (.nx [.va (.scr ns),.va (.int a),.va m,.va (.tup cs),.va (.lst ls2),.va (.int j),s7])/\Bm cs ls2/\ls2.length<=ls.length+1:=by
 obtain⟨r,er,hr⟩:=sr ns hn (a+31+6*j) cs hc
 have e1:∀G,aD (cj (cl bM (ae (vr 0) (ae (o2 aP (o2 aP (vr 1) (cn (.int 31))) (o2 b6 (cn (.int 6)) (vr 5))) (ae (vr 3) ai)))) (gN 6)) G [.va (.scr ns),.va (.int a),.va m,.va (.tup cs),.va (.lst ls),.va (.int j),s6]=G [.va (.scr ns),.va (.int a),.va m,.va (.tup cs),.va (.lst ls),.va (.int j),.va r]:=λG=>by
  refine aE (bW (t:=r) (aU (ts:=[.scr ns,.int (a+31+6*j:Nat),.tup cs]) (aq (t:=.scr ns) rfl (aq (t:=.int (a+31+6*j:Nat)) (aL (t:=.int ((a:Int)+31)) (u:=.int (6*(j:Int))) rfl (aL (t:=.int 6) (u:=.int j) rfl rfl (k9 (by omega) (by omega))) rfl) (aq (t:=.tup cs) rfl rfl))) er) rfl)
 have e2:cl wU (ae (o2 dw (vr 6) (cn .non)) ai) [.va (.scr ns),.va (.int a),.va m,.va (.tup cs),.va (.lst ls),.va (.int j),.va r]=.ok (.int (if !r.isN then 1 else 0)):=aU (ts:=[.bl (!r.isN)]) rfl rfl
 refine⟨ls++(if !r.isN then [r]else []),.va r,?_,?_,?_⟩
 ·refine(e1 _).trans (bW (aL (t:=.lst ls) (u:=.lst (if !r.isN then [r]else [])) rfl (aL (t:=.lst [r]) (mn (ts:=[r]) rfl (az (k:=1) (by simp))) e2 (mul_one _ _)) (vc _ _ ?_)) rfl)
  rw[NT];cases r.isN <;> simp <;> omega
 ·intro t ht
  rcases Og.mp ht with ht|ht
  ·exact h t ht
  ·rcases hr with rfl|hr
   ·cases ht
   ·cases q:r.isN with
    |true=>rw[q]at ht;cases ht
    |false=>
     rw[q]at ht;rw[show t=r by simpa using ht]
     exact hr
 ·rw[NT]
  cases r.isN <;> simp
theorem zD(ns:List Int)(hn:ns.length<=63)(a:Nat)(m:T)(cs:List T)(hc:a7 (.tup cs)=ZC):∀(js:List Nat)(ls:List T)(s5 s6:Sl),Bm cs ls->ls.length+js.length<=100 →
  ∃ls2 t5 t6,bx (gN 5) leF (js.map λ(j:Nat)=>T.int j) [.va (.scr ns),.va (.int a),.va m,.va (.tup cs),.va (.lst ls),s5,s6]=.ok (.nx [.va (.scr ns),.va (.int a),.va m,.va (.tup cs),.va (.lst ls2),t5,t6])/\Bm cs ls2/\ls2.length<=ls.length+js.length
 |[],ls,s5,s6,h,_=>⟨ls,s5,s6,rfl,h,N3 _⟩
 |j::js,ls,s5,s6,h,hl=>by
  rw[NS]at hl;obtain⟨l2,s7,e2,h2,n2⟩:=Gi ns hn a j m cs ls hc h (by omega) s6
  obtain⟨l3,t5,t6,e3,h3,n3⟩:=zD ns hn a m cs hc js l2 (.va (.int j)) s7 h2 (by omega)
  refine⟨l3,t5,t6,?_,h3,by rw[NS];omega⟩
  rw[NM,dR (Z1:=[.va (.scr ns),.va (.int a),.va m,.va (.tup cs),.va (.lst ls),.va (.int j),s6]) rfl e2];exact e3
def Kb(ns:List Int)(hn:ns.length<=63)(a m:Nat)(hm:m<=8):∃cs ls,fP [.scr ns,.int a,.int m]=.ok (RR cs ls)/\a7 (.tup cs)=ZC/\cs.length<=3/\(∀c∈cs,sm 8 c=ZC)/\Bm cs ls/\ls.length<=m:=by
 obtain⟨d1,e1,p1,q1⟩:=dq ns a 3 hn (by omega)
 obtain⟨d2,e2,p2,q2⟩:=dq ns (a+30) ((m:Int)+1) hn (by omega)
 obtain⟨d1,rfl⟩:=Os p1;obtain⟨d2,rfl⟩:=Os p2
 let hcl:T->T:=λt=>match t with
  |.int k=>okv (cK [.scr ns,.int ((a:Int)+1+8*k)])
  |_=>.non
 have hh:∀t∈rng 0 ((1+d1:Nat):Int),∃k:Nat,t=.int k/\cK [.scr ns,.int ((a+1+8*k:Nat):Int)]=.ok (hcl t)/\bw (hcl t)=ZC/\sm 8 (hcl t)=ZC:=λt ht=>by
  obtain⟨k,rfl,_⟩:=tJ ht;obtain⟨c,ec,h1,h2⟩:=D8 ns hn (a+1+8*k)
  have e:hcl (.int k)=c:=by
   show okv (cK [.scr ns,.int ((a+1+8*k:Nat):Int)])=c
   rw[ec];rfl
  exact⟨k,rfl,by rw[e];exact ec,by rw[e];exact h1,by rw[e];exact h2⟩
 generalize hcs:(rng 0 ((1+d1:Nat):Int)).map hcl=cs
 have lc:cs.length=1+d1:=by rw[<-hcs,NP,l7]
 have hc:a7 (.tup cs)=ZC:=by
  show(d6 (.tup cs) 1 4&&cs.all bw)=ZC
  rw[NL,Ob];refine⟨by simp[d6];omega,λc h=>?_⟩
  rw[<-hcs]at h;obtain⟨t,ht,rfl⟩:=Oj.mp h;obtain⟨_,_,_,h1,_⟩:=hh t ht;exact h1
 have hsm:∀c∈cs,sm 8 c=ZC:=λc h=>by
  rw[<-hcs]at h;obtain⟨t,ht,rfl⟩:=Oj.mp h;obtain⟨_,_,_,_,h1⟩:=hh t ht;exact h1
 obtain⟨ls,t5,t6,el,hl,nl⟩:=zD ns hn a (.int m) cs hc (OQ d2) [] .em .em (λt h=>by cases h) (by simp;omega)
 refine⟨cs,ls,cA rfl ?_,hc,by omega,hsm,hl,by simp at nl;omega⟩
 show iG [.va (.scr ns),.va (.int a),.va (.int m),.em,.em,.em,.em]=_
 unfold iG
 have s1:cj (cl iZ (ae (ig (iR (ae (o2 aP (cn (.int 1)) (cl aF (ae (vr 0) (ae (vr 1) (ae (cn (.int 3)) ai))))) ai)) [ZB,ZA 0,ZA 1] (gN 0) bT (cl cK (ae (vr 1) (ae (o2 aP (o2 aP (vr 2) (cn (.int 1))) (o2 b6 (cn (.int 8)) (vr 0))) ai)))) ai)) (gN 3) [.va (.scr ns),.va (.int a),.va (.int m),.em,.em,.em,.em]=.ok (.nx [.va (.scr ns),.va (.int a),.va (.int m),.va (.tup cs),.em,.em,.em]):=by
  refine bW (t:=.tup cs) (aU (ts:=[.lst cs]) (aq (t:=.lst cs) ?_ rfl) rfl) rfl
  rw[<-hcs];refine yz (ts:=rng 0 ((1+d1:Nat):Int)) (h:=hcl) (JY (aq (t:=.int ((1+d1:Nat):Int)) (aL (t:=.int 1) (u:=.int d1) rfl (eC e1 rfl rfl rfl) rfl) rfl) (by omega) (by omega)) (az (k:=3) (by rw[l7];omega)) (by simp) λt ht=>?_
  obtain⟨k,rfl,ek,_,_⟩:=hh t ht;refine aU (ts:=[.scr ns,.int ((a+1+8*k:Nat):Int)]) (aq (t:=.scr ns) rfl (aq (aL (t:=.int ((a:Int)+1)) (u:=.int (8*(k:Int))) rfl (aL (t:=.int 8) (u:=.int k) rfl rfl (k9 (by omega) (by omega))) rfl) rfl)) ek
 rw[aE s1];rw[aE (Z':=[.va (.scr ns),.va (.int a),.va (.int m),.va (.tup cs),.va (.lst []),.em,.em]) (bW (mn (ts:=[]) rfl (az (k:=0) (by simp))) rfl)]
 rw[aE ((fX (JY (aq (eC (k:=a+30) e2 rfl rfl (aL (t:=.int m) (u:=.int 1) rfl rfl rfl)) rfl) (by omega) (by omega)) (by rw[og];exact el)))]
 exact cX (ba (aq (t:=.tup cs) rfl (aq (t:=.tup ls) rfl rfl)) (az (k:=2) (by simp)))
def dj{t:T}(h:bq cs t=ZC):∃a b x y,t=.tup [a,b,x,y]/\dD x y=ZC/\aX cs a=ZC/\aX cs b=ZC/\bo a b=ZD:=by
 unfold bq at h
 split at h
 ·simp only[NL,Um]at h
  exact⟨_,_,_,_,rfl,h.1,h.2.1,h.2.2.1,h.2.2.2⟩
 ·cases h
def Ip{ls:List T}(hc:a7 (.tup cs)=ZC)(hs:∀c∈cs,sm 8 c=ZC)(hl:Bm cs ls)(hn:ls.length<=8):cN (RR cs ls)=ZC/\sm 8 (RR cs ls)=ZC:=by
 refine⟨?_,?_⟩
 ·show(a7 (.tup cs)&&(d6 (.tup ls) 0 8&&ls.all (bq cs)))=ZC
  rw[hc,QL,NL,Ob];exact⟨by simp[d6];exact hn,λt ht=>(hl t ht).1⟩
 ·refine sm_tup.mpr ⟨by simp,λt ht=>?_⟩
  simp only[NR,Pk,or_false]at ht;rcases ht with rfl|rfl
  ·exact sm_tup.mpr ⟨by have:=(bh hc).2.2;omega,hs⟩
  ·exact sm_tup.mpr ⟨hn,λt ht=>(hl t ht).2⟩
end G
namespace Tr
open PySem
section
variable {f fa fb:V5}{fs:V3}{b c:V6}{F G:V4}{Z Z' Z1 Z2:En}{t u r:T}{ts l m:List T}
mutual
theorem ng:∀(t:T),t.pl=ZC->bo t t=ZC
 |.non,_=>rfl
 |.bl a,_=>by simp[bo]
 |.int a,_=>by simp[bo]
 |.str a,_=>by simp[bo]
 |.tup l,h=>by rw[bo];exact beqTs_refl l (by unfold T.pl at h;exact h)
 |.lst l,h=>by rw[bo];exact beqTs_refl l (by unfold T.pl at h;exact h)
 |.scr _,h=>by simp[T.pl]at h
theorem beqTs_refl:∀(l:List T),plS l=ZC->beqTs l l=ZC
 |[],_=>rfl
 |t::l,h=>by
  unfold plS at h;rw[NL]at h;rw[beqTs,ng t h.1,beqTs_refl l h.2];rfl
end
def i6(hp:t.pl=ZC)(hd:t.dep<=60):pM t t=.ok (.bl ZD):=by
 unfold pM;rw[if_pos (j0 hd (T.M4 _ hp) (T.M4 _ hp)),ng t hp];rfl
def zV(hp:t.pl=ZC)(hd:t.dep<=60):kN t t=.ok (.bl ZC):=by
 unfold kN;rw[if_pos (j0 hd (T.M4 _ hp) (T.M4 _ hp)),ng t hp]
theorem z9:∀{l:List T},(∀t∈l,t.dep<=n)->deps l<=n
 |[],_=>by unfold deps;omega
 |t::l,h=>by
  unfold deps
  have:=z9 (l:=l) λu hu=>h u (NJ _ hu)
  have:=h t NN;omega
theorem gj:∀{l:List T},(∀t∈l,t.pl=ZC)->plS l=ZC
 |[],_=>rfl
 |t::l,h=>by unfold plS;rw[h t NN,gj λu hu=>h u (NJ _ hu)];rfl
end
end Tr
namespace G
open PySem Tr
def dr(r:List Int)(k:Nat):Int:=r.getD (k+1) 0 - r.getD k 0
def pr(n:Nat)(x y:Int)(r:List Int)(k:Nat):List T:=
 [.tup [.tup [.int n,.int k],.tup [.int n,.int ((k+1:Nat):Int)],.int (dr r k*y)],.tup [.tup [.int n,.int ((k+1:Nat):Int)],.tup [.int n,.int k],.int (-dr r k*x)]]
def cB(n:Nat)(x y:Int)(r:List Int):List T:=(OQ (r.length - 1)).flatMap (pr n x y r)
abbrev Et(n:Nat)(x y:Int)(r:List Int)(acc:List T)(s4 s5 s6 s7:Sl):En:=[.va (.int n),.va (.tup [.int x,.int y,.tup (r.map .int)]),.va (.tup (r.map .int)),.ow (.lst acc),s4,s5,s6,s7]
def kG{r:List Int}(h:k<r.length):(r.map T.int)[k]?=ZA (.int (r.getD k 0)):=by
 rw[Oc,N7 h]
 simp[h]
def GZ(n:Nat)(x y:Int)(r:List Int)(acc:List T)(k:Nat)(s5 s6 s7:Sl)(hk:k+1<r.length)(hx:0<=x/\x<=9)(hy:0<=y/\y<=9)(ha:acc.length<=100):
  bcF (Et n x y r acc (.va (.int k)) s5 s6 s7)=.ok (.nx (Et n x y r (acc++pr n x y r k) (.va (.int k)) (.va (.tup [.int n,.int k])) (.va (.tup [.int n,.int ((k+1:Nat):Int)])) (.va (.int (dr r k))))):=by
 have h2:([T.int n,T.int k]:List T).length<=sizeLine:=az (k:=2) (by simp)
 have ek:((k:Int)+1)=((k+1:Nat):Int):=by omega
 refine(aE (Z':=Et n x y r acc (.va (.int k)) (.va (.tup [.int n,.int k])) s6 s7) (bW (ba rfl (az (k:=2) (by simp))) rfl)).trans ?_
 refine(aE (Z':=Et n x y r acc (.va (.int k)) (.va (.tup [.int n,.int k])) (.va (.tup [.int n,.int ((k+1:Nat):Int)])) s7) (bW (ba (aq rfl (aq (t:=.int ((k+1:Nat):Int)) (aL (t:=.int k) (u:=.int 1) rfl rfl (congrArg (λz=>Rs.ok (T.int z)) ek)) rfl)) (az (k:=2) (by simp))) rfl)).trans ?_
 refine(aE (Z':=Et n x y r acc (.va (.int k)) (.va (.tup [.int n,.int k])) (.va (.tup [.int n,.int ((k+1:Nat):Int)])) (.va (.int (dr r k)))) (bW (t:=.int (dr r k)) (aL (t:=.int (r.getD (k+1) 0)) (u:=.int (r.getD k 0)) (iA (n:=k+1) rfl (aL (t:=.int k) (u:=.int 1) rfl rfl (congrArg (λz=>Rs.ok (T.int z)) ek)) (kG hk)) (iA (n:=k) rfl rfl (kG (by omega))) rfl) rfl)).trans ?_
 refine(aE (Z':=Et n x y r (acc++[.tup [.tup [.int n,.int k],.tup [.int n,.int ((k+1:Nat):Int)],.int (dr r k*y)]]) (.va (.int k)) (.va (.tup [.int n,.int k])) (.va (.tup [.int n,.int ((k+1:Nat):Int)])) (.va (.int (dr r k)))) (qc (l:=acc) (ba (aq rfl (aq rfl (aq (aL (t:=.int (dr r k)) (u:=.int y) rfl rfl (C1 (by omega) (by omega))) rfl))) (az (k:=3) (by simp))) rfl (by omega))).trans ?_
 refine(qc (l:=acc++[.tup [.tup [.int n,.int k],.tup [.int n,.int ((k+1:Nat):Int)],.int (dr r k*y)]]) (ba (aq rfl (aq rfl (aq (aL (t:=.int (-dr r k)) (u:=.int x) rfl rfl (C1 (by omega) (by omega))) rfl))) (az (k:=3) (by simp))) rfl (by rw[NT];simp;omega)).trans ?_
 rw[Om]
 rfl
theorem Af(n:Nat)(x y:Int)(r:List Int)(hx:0<=x/\x<=9)(hy:0<=y/\y<=9):∀(js:List Nat)(acc:List T)(s4 s5 s6 s7:Sl),(∀k∈js,k+1<r.length)->acc.length+2*js.length<=100 →
  ∃t4 t5 t6 t7,bx (gN 4) bcF (js.map λ(k:Nat)=>T.int k) (Et n x y r acc s4 s5 s6 s7)=.ok (.nx (Et n x y r (acc++js.flatMap (pr n x y r)) t4 t5 t6 t7))
 |[],acc,s4,s5,s6,s7,_,_=>⟨s4,s5,s6,s7,by simp[bx]⟩
 |k::js,acc,s4,s5,s6,s7,hk,hl=>by
  rw[NS]at hl
  have e:=GZ n x y r acc k s5 s6 s7 (hk k NN) hx hy (by omega)
  obtain⟨t4,t5,t6,t7,ih⟩:=Af n x y r hx hy js (acc++pr n x y r k) (.va (.int k)) (.va (.tup [.int n,.int k])) (.va (.tup [.int n,.int ((k+1:Nat):Int)])) (.va (.int (dr r k))) (λj hj=>hk j (NJ _ hj)) (by rw[NT];simp[pr];omega)
  refine⟨t4,t5,t6,t7,?_⟩
  rw[NM,dR (Z1:=Et n x y r acc (.va (.int k)) s5 s6 s7) rfl e,ih,QP,Om]
def Ee(n:Nat)(x y:Int)(r:List Int)(hx:0<=x/\x<=9)(hy:0<=y/\y<=9)(h1:1<=r.length)(h4:r.length<=4):cJ [.int n,.tup [.int x,.int y,.tup (r.map .int)]]=.ok (.lst (cB n x y r)):=by
 refine cA rfl ?_
 show fw [.va (.int n),.va (.tup [.int x,.int y,.tup (r.map .int)]),.em,.em,.em,.em,.em,.em]=_
 unfold fw;rw[aE (Z':=[.va (.int n),.va (.tup [.int x,.int y,.tup (r.map .int)]),.va (.tup (r.map .int)),.em,.em,.em,.em,.em]) (bW (t:=.tup (r.map .int)) rfl rfl)];rw[aE (Z':=Et n x y r [] .em .em .em .em) rfl];obtain⟨t4,t5,t6,t7,e⟩:=Af n x y r hx hy (OQ (r.length - 1)) [] .em .em .em .em (λk hk=>by have:=Pn.mp hk;omega) (by simp;omega)
 have e1:iR (ae (o2 cZ (cl bP (ae (vr 2) ai)) (cn (.int 1))) ai) (Et n x y r [] .em .em .em .em)=.ok (rng 0 ((r.length - 1:Nat):Int)):=by
  refine JY (j:=((r.length - 1:Nat):Int)) (aq (aL (t:=.int (r.length:Nat)) (u:=.int 1) (aU (ts:=[.tup (r.map .int)]) rfl (by show Rs.ok (T.int ((r.map T.int).length:Nat))=_;rw[NP])) rfl (congrArg (λz=>Rs.ok (T.int z)) (by omega))) rfl) (by omega) (by omega)
 rw[aE ((fX (ts:=(OQ (r.length - 1)).map λ(k:Nat)=>T.int k) (by rw[e1,og]) e))]
 rfl
def cS{t:T}(h:bw t=ZC):∃(x y:Int)(r:List Int),t=.tup [.int x,.int y,.tup (r.map .int)]/\(0<=x/\x<=9)/\(0<=y/\y<=9)/\1<=r.length/\r.length<=4:=by
 obtain⟨x,y,r,rfl,h1,h4⟩:=ik h
 have h':(nQ x y&&cO (.tup r))=ZC:=h;rw[NL]at h';obtain⟨hp,hr⟩:=h';unfold nQ at hp;rw[NL]at hp;obtain⟨i,rfl,i1,i2⟩:=cg hp.1;obtain⟨j,rfl,j1,j2⟩:=cg (t:=y) (a:=i) (b:=9) hp.2;unfold cO at hr;rw[NL]at hr
 have hr2:((r.all λu=>aW u 0 99)&&(match kL r with|some m=>nC m|none=>ZD))=ZC:=hr.2
 rw[NL]at hr2;obtain⟨m,em⟩:=uq hr2.1
 have e:=pF em;subst e;rw[NP]at h1 h4;exact⟨i,j,m,rfl,⟨by omega,by omega⟩,⟨by omega,by omega⟩,h1,h4⟩
def xB(n:Nat)(t:T):List T:=match t with
 |.tup [.int x,.int y,.tup r] =>match kL r with
  |some m=>cB n x y m
  |none=>[]
 |_=>[]
def bC:Nat->List T->List T
 |_,[] =>[]
 |i,c::r=>xB i c++bC (i+1) r
def lB(t:T):List T:=match t with
 |.tup [a,b,.int le,mo] =>.tup [b,a,.int (-le)] ::(if mo.isN then []else [.tup [a,b,mo]])
 |_=>[]
def Ko(cs ls:List T):List T:=bC 0 cs++ls.flatMap lB
def rB(n:Nat)(x y:Int)(r:List Int):xB n (.tup [.int x,.int y,.tup (r.map .int)])=cB n x y r:=by
 unfold xB;simp only[jK]
def Km(n:Nat)(x y:Int)(r:List Int):(cB n x y r).length=2*(r.length - 1):=by
 unfold cB;rw[List.length_flatMap]
 have:∀l:List Nat,(l.map λk=>(pr n x y r k).length).sum=2*l.length:=by
  intro l
  induction l with
  |nil=>rfl
  |cons a l ih=>rw[NM,PP,ih,NS];simp[pr];omega
 rw[this,Qo]
def xE{t:T}(h:bw t=ZC):(xB n t).length<=6:=by
 obtain⟨x,y,r,rfl,_,_,h1,h4⟩:=cS h;rw[rB,Km];omega
theorem u6:∀{cs:List T}{i:Nat},(∀c∈cs,bw c=ZC)->(bC i cs).length<=6*cs.length
 |[],i,_=>by simp[bC]
 |c::cs,i,h=>by
  rw[bC,NT,NS]
  have:=xE (n:=i) (h c NN)
  have:=u6 (cs:=cs) (i:=i+1) λc hc=>h c (NJ _ hc)
  omega
def yu(t:T):(lB t).length<=2:=by
 unfold lB;split
 ·rename_i a b le mo
  cases mo.isN <;> simp
 ·simp
theorem zH:∀(ls:List T),(ls.flatMap lB).length<=2*ls.length
 |[] =>by simp
 |t::ls=>by
  rw[QP,NT,NS]
  have:=yu t
  have:=zH ls;omega
variable{cs:List T}
def jT{t:T}(h:bq cs t=ZC):∃(a b mo:T)(le:Int),t=.tup [a,b,.int le,mo]/\aX cs a=ZC/\aX cs b=ZC:=by
 obtain⟨a,b,x,y,rfl,hd,ha,hb,_⟩:=dj h;unfold dD at hd;rw[NL]at hd;obtain⟨i,rfl,_⟩:=cg hd.1;exact⟨a,b,y,i,rfl,ha,hb⟩
def A5{t:T}(h:bq cs t=ZC):cx [t]=.ok (.lst (lB t)):=by
 obtain⟨a,b,mo,le,rfl,_,_⟩:=jT h;refine cA rfl ?_
 show eJ [.va (.tup [a,b,.int le,mo]),.em]=_
 unfold eJ;rw[aE (Z':=[.va (.tup [a,b,.int le,mo]),.ow (.lst [.tup [b,a,.int (-le)]])]) (Dr (l:=[.tup [b,a,.int (-le)]]) (aq (ba (aq rfl (aq rfl (aq rfl rfl))) (az (k:=3) (by simp))) rfl) (by simp) (by simp))]
 have e:∀(Z:En) l,Z=[.va (.tup [a,b,.int le,mo]),.ow (.lst l)]->o2 dw (o2 aV (vr 0) (cn (.int 3))) (cn .non) Z=.ok (.bl (!mo.isN)):=λZ l z=>by subst z;rfl
 have e2:lB (.tup [a,b,.int le,mo])=.tup [b,a,.int (-le)] ::(if mo.isN then []else [.tup [a,b,mo]]):=rfl
 rw[e2]
 cases q:mo.isN with
 |true=>
  rw[aE (Z':=[.va (.tup [a,b,.int le,mo]),.ow (.lst [.tup [b,a,.int (-le)]])]) ((d7 (bf (by rw[e _ _ rfl,q];rfl))).trans rfl)]
  rfl
 |false=>
  rw[aE (Z':=[.va (.tup [a,b,.int le,mo]),.ow (.lst ([.tup [b,a,.int (-le)]] ++[.tup [a,b,mo]]))]) ((dS (bf (by rw[e _ _ rfl,q];rfl))).trans (qc (l:=[.tup [b,a,.int (-le)]]) (ba (aq rfl (aq rfl (aq rfl rfl))) (az (k:=3) (by simp))) rfl (by simp)))]
  rfl
abbrev bdG:T->En->Rs En:=gT 2 (eR (gN 2) (eR (gN 3) nI))
theorem Ae(R:T)(s4:Sl):∀(cs:List T)(acc:List T)(i:Nat)(s2 s3:Sl),(∀c∈cs,bw c=ZC)->acc.length+6*cs.length<=100 →
  ∃y2 y3,bx bdG bdF (cP i cs) [.va R,.ow (.lst acc),s2,s3,s4]=.ok (.nx [.va R,.ow (.lst (acc++bC i cs)),y2,y3,s4])
 |[],acc,i,s2,s3,_,_=>⟨s2,s3,by simp[cP,bx,bC]⟩
 |c::cs,acc,i,s2,s3,hc,hl=>by
  have h0:=hc c NN
  have hx:=xE (n:=i) h0;obtain⟨x,y,r,rfl,a1,a2,a3,a4⟩:=cS h0;rw[NS]at hl;rw[rB]at hx
  have st:bdF [.va R,.ow (.lst acc),.va (.int i),.va (.tup [.int x,.int y,.tup (r.map .int)]),s4]=.ok (.nx [.va R,.ow (.lst (acc++cB i x y r)),.va (.int i),.va (.tup [.int x,.int y,.tup (r.map .int)]),s4]):=
   Du (l:=acc) (aU (ts:=[.int i,.tup [.int x,.int y,.tup (r.map .int)]]) rfl (Ee i x y r a1 a2 a3 a4)) rfl (by omega)
  obtain⟨z2,z3,ih⟩:=Ae R s4 cs (acc++cB i x y r) (i+1) (.va (.int i)) (.va (.tup [.int x,.int y,.tup (r.map .int)])) (λc h=>hc c (NJ _ h)) (by rw[NT];omega)
  refine⟨z2,z3,?_⟩
  rw[cP,dR (Z1:=[.va R,.ow (.lst acc),.va (.int i),.va (.tup [.int x,.int y,.tup (r.map .int)]),s4]) rfl st,ih,bC,rB,Om]
abbrev blF:V4:=o8 1 (cl cx (ae (vr 4) ai))
theorem Ad(R:T)(cs:List T)(s2 s3:Sl):∀(ls:List T)(acc:List T)(s4:Sl),(∀t∈ls,bq cs t=ZC)->acc.length+2*ls.length<=100 →
  ∃y4,bx (gN 4) blF ls [.va R,.ow (.lst acc),s2,s3,s4]=.ok (.nx [.va R,.ow (.lst (acc++ls.flatMap lB)),s2,s3,y4])
 |[],acc,s4,_,_=>⟨s4,by simp[bx]⟩
 |t::ls,acc,s4,hl,hn=>by
  rw[NS]at hn
  have:=yu t
  have st:blF [.va R,.ow (.lst acc),s2,s3,.va t]=.ok (.nx [.va R,.ow (.lst (acc++lB t)),s2,s3,.va t]):=Du (l:=acc) (aU (ts:=[t]) rfl (A5 (hl t NN))) rfl (by omega)
  obtain⟨y4,ih⟩:=Ad R cs s2 s3 ls (acc++lB t) (.va t) (λu h=>hl u (NJ _ h)) (by rw[NT];omega)
  refine⟨y4,?_⟩
  rw[dR (Z1:=[.va R,.ow (.lst acc),s2,s3,.va t]) rfl st,ih,QP,Om]
variable{R:T}
def fV(hp:R.pl=ZC)(h:cN R=ZC):aY [R]=.ok .non:=by
 refine yv (Z:=[.va R]) rfl ?_
 show ee [.va R]=_
 unfold ee;exact(d7 ((gY (k:=ZC) (bf (aU (ts:=[R]) rfl (by rw[qo R hp,h])))))).trans rfl
def rS(hp:R.pl=ZC)(h:cN R=ZD):aY [R]=.err "NoRecord":=by
 refine gW rfl ?_
 show ee [.va R]=_
 unfold ee;exact(dS ((gY (k:=ZD) (bf (aU (ts:=[R]) rfl (by rw[qo R hp,h])))))).trans rfl
structure Good (cs ls:List T):Prop where
 c:a7 (.tup cs)=ZC
 l:∀t∈ls,bq cs t=ZC
 n:ls.length<=8
 p:(RR cs ls).pl=ZC
variable{ls:List T}
def Good.ok(g:Good cs ls):cN (RR cs ls)=ZC:=by
 show(a7 (.tup cs)&&(d6 (.tup ls) 0 8&&ls.all (bq cs)))=ZC
 rw[g.c,QL,NL,Ob];exact⟨by simp[d6];exact g.n,g.l⟩
def Eb(g:Good cs ls):iQ [RR cs ls]=.ok (.lst (Ko cs ls)):=by
 obtain⟨hc,c1,c4⟩:=bh g.c
 have hn:=g.n;refine cA rfl ?_
 show qF [.va (RR cs ls),.em,.em,.em,.em]=_
 unfold qF;rw[aE (rh (t:=.non) (aU (ts:=[RR cs ls]) rfl (fV g.p g.ok)))];rw[aE (Z':=[.va (RR cs ls),.ow (.lst []),.em,.em,.em]) (yx (by simp))]
 obtain⟨y2,y3,e⟩:=Ae (RR cs ls) .em cs [] 0 .em .em hc (by simp;omega)
 rw[aE ((fX (ts:=cP 0 cs) rfl e))]
 have:=u6 (i:=0) hc;obtain⟨y4,e2⟩:=Ad (RR cs ls) cs y2 y3 ls ([] ++bC 0 cs) .em g.l (by rw[Po];omega)
 rw[aE ((fX (ts:=ls) rfl e2))]
 rfl
abbrev Bp(R:T)(acc:List T)(n:Nat)(x y:Int)(r:List Int)(s6 s7 s8 s9 s10 s11:Sl):En:=[.va R,.ow (.lst acc),.va (.int n),.va (.int x),.va (.int y),.va (.tup (r.map .int)),s6,s7,s8,s9,s10,s11]
def Gh(R:T)(n:Nat)(x y:Int)(r:List Int)(acc:List T)(k:Nat)(s7 s8 s9 s10 s11:Sl)(hk:k+1<r.length)(hx:0<=x/\x<=9)(hy:0<=y/\y<=9)(ha:acc.length<=100):
  lkF (Bp R acc n x y r (.va (.int ((k+1:Nat):Int))) s7 s8 s9 s10 s11)=.ok (.nx (Bp R (acc++pr n x y r k) n x y r (.va (.int ((k+1:Nat):Int))) (.va (.int (dr r k))) s8 s9 s10 s11)):=by
 have sb:∀acc s7,o2 cZ (vr 6) (cn (.int 1)) (Bp R acc n x y r (.va (.int ((k+1:Nat):Int))) s7 s8 s9 s10 s11)=.ok (.int k):=λacc s7=>aL (t:=.int ((k+1:Nat):Int)) (u:=.int 1) rfl rfl (congrArg (λz=>Rs.ok (T.int z)) (by omega))
 refine(aE (Z':=Bp R acc n x y r (.va (.int ((k+1:Nat):Int))) (.va (.int (dr r k))) s8 s9 s10 s11) (bW (t:=.int (dr r k)) (aL (t:=.int (r.getD (k+1) 0)) (u:=.int (r.getD k 0)) (iA (n:=k+1) rfl rfl (kG hk)) (iA (n:=k) rfl (sb acc s7) (kG (by omega))) rfl) rfl)).trans ?_
 refine(aE (Z':=Bp R (acc++[.tup [.tup [.int n,.int k],.tup [.int n,.int ((k+1:Nat):Int)],.int (dr r k*y)]]) n x y r (.va (.int ((k+1:Nat):Int))) (.va (.int (dr r k))) s8 s9 s10 s11) (qc (l:=acc) (ba (aq (ba (aq rfl (aq (sb _ _) rfl)) (az (k:=2) (by simp))) (aq (ba rfl (az (k:=2) (by simp))) (aq (aL (t:=.int y) (u:=.int (dr r k)) rfl rfl ((k9 (by omega) (by omega)).trans (by rw[Int.mul_comm]))) rfl))) (az (k:=3) (by simp))) rfl (by omega))).trans ?_
 refine(qc (l:=acc++[.tup [.tup [.int n,.int k],.tup [.int n,.int ((k+1:Nat):Int)],.int (dr r k*y)]]) (t:=.tup [.tup [.int n,.int ((k+1:Nat):Int)],.tup [.int n,.int k],.int (-dr r k*x)]) (ba (aq (ba rfl (az (k:=2) (by simp))) (aq (ba (aq rfl (aq (sb _ _) rfl)) (az (k:=2) (by simp))) (aq (aL (t:=.int 0) (u:=.int (x*dr r k)) rfl (aL (t:=.int x) (u:=.int (dr r k)) rfl rfl (k9 (by omega) (by omega))) (congrArg (λz=>Rs.ok (T.int z)) (by rw[Int.neg_mul,Int.mul_comm x,Int.zero_sub]))) rfl))) (az (k:=3) (by simp))) rfl (by rw[NT];simp;omega)).trans ?_
 rw[Om]
 rfl
theorem zA(R:T)(n:Nat)(x y:Int)(r:List Int)(s8 s9 s10 s11:Sl)(hx:0<=x/\x<=9)(hy:0<=y/\y<=9):∀(js:List Nat)(acc:List T)(s6 s7:Sl),(∀k∈js,k+1<r.length)->acc.length+2*js.length<=100 →
  ∃t6 t7,bx (gN 6) lkF (js.map λ(k:Nat)=>T.int ((k+1:Nat):Int)) (Bp R acc n x y r s6 s7 s8 s9 s10 s11)=.ok (.nx (Bp R (acc++js.flatMap (pr n x y r)) n x y r t6 t7 s8 s9 s10 s11))
 |[],acc,s6,s7,_,_=>⟨s6,s7,by simp[bx]⟩
 |k::js,acc,s6,s7,hk,hl=>by
  rw[NS]at hl
  have e:=Gh R n x y r acc k s7 s8 s9 s10 s11 (hk k NN) hx hy (by omega)
  obtain⟨t6,t7,ih⟩:=zA R n x y r s8 s9 s10 s11 hx hy js (acc++pr n x y r k) (.va (.int ((k+1:Nat):Int))) (.va (.int (dr r k))) (λj hj=>hk j (NJ _ hj)) (by rw[NT];simp[pr];omega)
  refine⟨t6,t7,?_⟩
  rw[NM,dR (Z1:=Bp R acc n x y r (.va (.int ((k+1:Nat):Int))) s7 s8 s9 s10 s11) rfl e,ih,QP,Om]
def Fm(n:Nat)(h:1<=n):rng 1 (n:Int)=(OQ (n - 1)).map λ(k:Nat)=>T.int ((k+1:Nat):Int):=by
 unfold rng
 have:((n:Int) - 1).toNat=n - 1:=by omega
 rw[this];exact OP λk _=>congrArg T.int (by omega)
variable{Z:En}
def iR2{f:V3}{i:Int}(h:f Z=.ok [.int i,.int j])(h0:0<=i)(h1:i<=100000)(h2:0<=j)(h3:j<=100000):iR f Z=.ok (rng i j):=by
 unfold iR;rw[h]
 have e:(yE i&&yE j)=ZC:=by unfold yE;simp;omega
 show(if (yE i&&yE j)=ZC then _ else _)=_
 rw[e];rfl
abbrev LV:V4:=(fH (iR (ae (cn (.int 1)) (ae (cl bP (ae (vr 5) ai)) ai))) (gN 6) lkF)
abbrev lcG:T->En->Rs En:=gT 2 (eR (gN 2) (eR (gT 3 (eR (gN 3) (eR (gN 4) (eR (gN 5) nI)))) nI))
theorem zF(R:T)(s8 s9 s10 s11:Sl):∀(cs:List T)(acc:List T)(i:Nat)(s2 s3 s4 s5 s6 s7:Sl),(∀c∈cs,bw c=ZC)->acc.length+6*cs.length<=90 →
  ∃y2 y3 y4 y5 y6 y7,bx lcG LV (cP i cs) [.va R,.ow (.lst acc),s2,s3,s4,s5,s6,s7,s8,s9,s10,s11]=.ok (.nx [.va R,.ow (.lst (acc++bC i cs)),y2,y3,y4,y5,y6,y7,s8,s9,s10,s11])
 |[],acc,i,s2,s3,s4,s5,s6,s7,_,_=>⟨s2,s3,s4,s5,s6,s7,by simp[cP,bx,bC]⟩
 |c::cs,acc,i,s2,s3,s4,s5,s6,s7,hc,hl=>by
  have h0:=hc c NN
  have hx:=xE (n:=i) h0;obtain⟨x,y,r,rfl,a1,a2,a3,a4⟩:=cS h0;rw[NS]at hl;rw[rB]at hx;obtain⟨t6,t7,e⟩:=zA R i x y r s8 s9 s10 s11 a1 a2 (OQ (r.length - 1)) acc s6 s7 (λk hk=>by have:=Pn.mp hk;omega) (by rw[Qo];omega)
  have e1:iR (ae (cn (.int 1)) (ae (cl bP (ae (vr 5) ai)) ai)) (Bp R acc i x y r s6 s7 s8 s9 s10 s11)=.ok (rng 1 (r.length:Nat)):=
   iR2 (i:=1) (j:=(r.length:Nat)) (aq rfl (aq (aU (ts:=[.tup (r.map .int)]) rfl (by show Rs.ok (T.int ((r.map T.int).length:Nat))=_;rw[NP])) rfl)) (by omega) (by omega) (by omega) (by omega)
  have st:LV (Bp R acc i x y r s6 s7 s8 s9 s10 s11)=.ok (.nx (Bp R (acc++cB i x y r) i x y r t6 t7 s8 s9 s10 s11)):=(fX (ts:=(OQ (r.length - 1)).map λ(k:Nat)=>T.int ((k+1:Nat):Int)) (by rw[e1,Fm _ a3]) e)
  obtain⟨z2,z3,z4,z5,z6,z7,ih⟩:=zF R s8 s9 s10 s11 cs (acc++cB i x y r) (i+1) (.va (.int i)) (.va (.int x)) (.va (.int y)) (.va (.tup (r.map .int))) t6 t7 (λc h=>hc c (NJ _ h)) (by rw[NT];omega)
  refine⟨z2,z3,z4,z5,z6,z7,?_⟩
  rw[cP,dR (Z1:=Bp R acc i x y r s6 s7 s8 s9 s10 s11) rfl st,ih,bC,rB,Om]
abbrev llG:T->En->Rs En:=gT 4 (eR (gN 8) (eR (gN 9) (eR (gN 10) (eR (gN 11) nI))))
theorem zy(R:T)(cs:List T)(s2 s3 s4 s5 s6 s7:Sl):∀(ls:List T)(acc:List T)(s8 s9 s10 s11:Sl),(∀t∈ls,bq cs t=ZC)->acc.length+2*ls.length<=100 →
  ∃y8 y9 y10 y11,bx llG llF ls [.va R,.ow (.lst acc),s2,s3,s4,s5,s6,s7,s8,s9,s10,s11]=.ok (.nx [.va R,.ow (.lst (acc++ls.flatMap lB)),s2,s3,s4,s5,s6,s7,y8,y9,y10,y11])
 |[],acc,s8,s9,s10,s11,_,_=>⟨s8,s9,s10,s11,by simp[bx]⟩
 |t::ls,acc,s8,s9,s10,s11,hl,hn=>by
  rw[NS]at hn
  have hlb:=yu t;obtain⟨a,b,mo,le,rfl,_,_⟩:=jT (hl t NN)
  have e2:lB (.tup [a,b,.int le,mo])=.tup [b,a,.int (-le)] ::(if mo.isN then []else [.tup [a,b,mo]]):=rfl
  have e:∀l,o2 dw (vr 11) (cn .non) [.va R,.ow (.lst l),s2,s3,s4,s5,s6,s7,.va a,.va b,.va (.int le),.va mo]=.ok (.bl (!mo.isN)):=λl=>rfl
  have st:llF [.va R,.ow (.lst acc),s2,s3,s4,s5,s6,s7,.va a,.va b,.va (.int le),.va mo]=.ok (.nx [.va R,.ow (.lst (acc++lB (.tup [a,b,.int le,mo]))),s2,s3,s4,s5,s6,s7,.va a,.va b,.va (.int le),.va mo]):=by
   refine(aE (Z':=[.va R,.ow (.lst (acc++[.tup [b,a,.int (-le)]])),s2,s3,s4,s5,s6,s7,.va a,.va b,.va (.int le),.va mo]) (qc (l:=acc) (t:=.tup [b,a,.int (-le)]) (ba (aq rfl (aq rfl (aq (aL (t:=.int 0) (u:=.int le) rfl rfl (congrArg (λz=>Rs.ok (T.int z)) (Int.zero_sub le))) rfl))) (az (k:=3) (by simp))) rfl (by omega))).trans ?_
   rw[e2]
   cases q:mo.isN with
   |true=>exact(d7 (bf (by rw[e,q];rfl))).trans rfl
   |false=>
    refine(dS (bf (by rw[e,q];rfl))).trans ((qc (l:=acc++[.tup [b,a,.int (-le)]]) (t:=.tup [a,b,mo]) (ba (aq rfl (aq rfl (aq rfl rfl))) (az (k:=3) (by simp))) rfl (by rw[NT];simp;omega)).trans ?_)
    rw[Om]
    rfl
  obtain⟨y8,y9,y10,y11,ih⟩:=zy R cs s2 s3 s4 s5 s6 s7 ls (acc++lB (.tup [a,b,.int le,mo])) (.va a) (.va b) (.va (.int le)) (.va mo) (λu h=>hl u (NJ _ h)) (by rw[NT];omega)
  refine⟨y8,y9,y10,y11,?_⟩
  rw[dR (Z1:=[.va R,.ow (.lst acc),s2,s3,s4,s5,s6,s7,.va a,.va b,.va (.int le),.va mo]) rfl st,ih,QP,Om]
def A4(hcs:a7 (.tup cs)=ZC)(hls:∀t∈ls,bq cs t=ZC)(hn:ls.length<=8):fQ [RR cs ls]=.ok (.lst (Ko cs ls)):=by
 obtain⟨hc,c1,c4⟩:=bh hcs;refine cA rfl ?_
 show iH [.va (RR cs ls),.em,.em,.em,.em,.em,.em,.em,.em,.em,.em,.em]=_
 unfold iH;rw[aE (Z':=[.va (RR cs ls),.ow (.lst []),.em,.em,.em,.em,.em,.em,.em,.em,.em,.em]) (yx (by simp))]
 obtain⟨y2,y3,y4,y5,y6,y7,e⟩:=zF (RR cs ls) .em .em .em .em cs [] 0 .em .em .em .em .em .em hc (by simp;omega)
 rw[aE ((fX (ts:=cP 0 cs) rfl e))]
 have:=u6 (i:=0) hc;obtain⟨y8,y9,y10,y11,e2⟩:=zy (RR cs ls) cs y2 y3 y4 y5 y6 y7 ls ([] ++bC 0 cs) .em .em .em .em hls (by rw[Po];omega)
 rw[aE ((fX (ts:=ls) rfl e2))]
 rfl
def fI{l:List T}:(T.tup l).pl=plS l:=by unfold T.pl;rfl
def Good.parts(g:Good cs ls):(T.tup cs).pl=ZC/\∀t∈ls,t.pl=ZC:=by
 have:=g.p;rw[fI]at this;unfold plS at this;rw[NL]at this
 have h2:=this.2;unfold plS at h2;rw[NL,fI]at h2;exact⟨this.1,λt ht=>gx h2.1 ht⟩
def Good.sub{ms:List T}(g:Good cs ls)(hm:∀t∈ms,t∈ls)(hn:ms.length<=8):Good cs ms:=⟨g.c,λt ht=>g.l t (hm t ht),hn,by
 obtain⟨h1,h2⟩:=g.parts;rw[fI];refine gj λt ht=>?_
 simp only[NR,Pk,or_false]at ht;rcases ht with rfl|rfl
 ·exact h1
 ·rw[fI];exact gj λt ht=>h2 t (hm t ht)⟩
def HA{y:T}(h:aX cs y=ZC):y.pl=ZC/\y.dep<=1:=by
 obtain⟨c,k,rfl⟩:=cb h;exact⟨rfl,by simp[T.dep,deps]⟩
def LL{a b x y:T}(h:bq cs (.tup [a,b,x,y])=ZC):y.pl=ZC/\y.dep=0:=by
 obtain⟨a',b',x',y',e,hd,_⟩:=dj h;cases e;unfold dD at hd;rw[NL]at hd;obtain⟨i,rfl,_⟩:=cg hd.1
 cases y with
 |non=>exact⟨rfl,rfl⟩
 |int j=>exact⟨rfl,rfl⟩
 |bl j=>exact⟨rfl,rfl⟩
 |str j=>exact⟨rfl,rfl⟩
 |tup j=>cases hd.2
 |lst j=>cases hd.2
 |scr j=>cases hd.2
 |dct _ _=>cases hd.2
 |ob _ _ _=>cases hd.2
def vV(c0 s1:Sl)(x y:T)(r:List T)(i:Nat)(h:r.length<=4):
  ig (iR (ae (cl bP (ae (o2 aV (vr 3) (cn (.int 2))) ai)) ai)) [ZB,ZA 2] (gN 0) bT (aK (ae (vr 1) (ae (vr 0) ai))) [c0,s1,.va (.int i),.va (.tup [x,y,.tup r])]=.ok (.lst (n5 i r.length)):=
 yz (JY (j:=(r.length:Int)) rfl (by omega) (by omega)) (az (k:=4) (by rw[l7];exact h)) (by simp) λt _=>mk2 _ _
theorem zm:∀(cs:List T)(c0:T)(acc:List T)(i:Nat)(s2 s3:Sl),(∀c∈cs,bw c=ZC)->acc.length+4*cs.length<=100 →
  ∃y2 y3,bx evG peF (cP i cs) [.va c0,.ow (.lst acc),s2,s3]=.ok (.nx [.va c0,.ow (.lst (acc++d9 i cs)),y2,y3])
 |[],c0,acc,i,s2,s3,_,_=>⟨s2,s3,by simp[cP,bx,d9]⟩
 |c::cs,c0,acc,i,s2,s3,hc,hl=>by
  obtain⟨x,y,r,rfl,r1,r2⟩:=ik (hc c NN);rw[NS]at hl
  have st:peF [.va c0,.ow (.lst acc),.va (.int i),.va (.tup [x,y,.tup r])]=.ok (.nx [.va c0,.ow (.lst (acc++n5 i r.length)),.va (.int i),.va (.tup [x,y,.tup r])]):=Du (l:=acc) (vV _ _ x y r i r2) rfl (by rw[j7];omega)
  obtain⟨z2,z3,ih⟩:=zm cs c0 (acc++n5 i r.length) (i+1) (.va (.int i)) (.va (.tup [x,y,.tup r])) (λc h=>hc c (NJ _ h)) (by rw[NT,j7];omega)
  refine⟨z2,z3,?_⟩
  rw[cP,dR (Z1:=[.va c0,.ow (.lst acc),.va (.int i),.va (.tup [x,y,.tup r])]) rfl st,ih,d9,Om]
  rfl
def CK(g:Good cs ls):jR [RR cs ls]=.ok (.lst (d9 0 cs)):=by
 obtain⟨hc,c1,c4⟩:=bh g.c;refine cA rfl ?_
 show qE [.va (RR cs ls),.em,.em,.em]=_
 unfold qE;rw[aE (rh (t:=.non) (aU (ts:=[RR cs ls]) rfl (fV g.p g.ok)))];rw[aE (Z':=[.va (RR cs ls),.ow (.lst []),.em,.em]) (yx (by simp))]
 obtain⟨y2,y3,e⟩:=zm cs (RR cs ls) [] 0 .em .em hc (by simp;omega)
 rw[aE ((fX (ts:=cP 0 cs) rfl e))]
 rfl
def p2{a b:V5}{t u:T}(ha:a Z=.ok t)(hb:b Z=.ok u):aK (ae a (ae b ai)) Z=.ok (.tup [t,u]):=ba (aq ha (aq hb rfl)) (az (k:=2) (by simp))
def GY(g:Good cs ls):(Ko cs ls).length<=60:=by
 unfold Ko;rw[NT];obtain⟨hc,c1,c4⟩:=bh g.c
 have:=u6 (i:=0) hc
 have:=zH ls
 have:=g.n;omega
end G
variable{m:Nat}
namespace G
open PySem Tr Gr
structure N2 where
 c:Int
 k:Int
deriving DecidableEq
theorem N2.ext':∀{u v:N2},u.c=v.c->u.k=v.k->u=v
 |⟨_,_⟩,⟨_,_⟩,rfl,rfl=>rfl
def en(v:N2):T:=.tup [.int v.c,.int v.k]
def eB(x:N2×N2×Int):T:=.tup [en x.1,en x.2.1,.int x.2.2]
def eN(ks:List Nat):List T:=ks.map λk=>.int (k:Nat)
def eW(x:Int×List Nat):T:=.tup [.int x.1,.lst (eN x.2)]
def ky(v:N2):List L2.Key:=[.inl v.c,.inl v.k]
def bA(v:N2):keyOf (en v)=ZA (ky v):=rfl
variable{v:N2}
def i9{u:N2}(h:ZA (ky u)=ZA (ky v)):u=v:=by
 injection h with h
 injection h with h1 h2
 injection h2 with h2 _
 injection h1 with h1
 injection h2 with h2
 exact N2.ext' h1 h2
def J4{u:N2}(h:en u=en v):u=v:=i9 (by rw[<-bA u,<-bA v,h])
def Es(u v:N2):bo (en u) (en v)=decide (u=v):=by
 unfold en bo beqTs bo beqTs beqTs
 by_cases h:u=v
 ·subst h;simp[bo]
 ·have:¬ (u.c=v.c/\u.k=v.k):=λz=>h (N2.ext' z.1 z.2)
  simp[h,bo];exact λz=>λy=>this ⟨z,y⟩
theorem oG(g:N2->T)(v:N2):∀(ns:List N2),n6 (ns.map en) (ns.map g) (ky v)=if v∈ns then ZA (g v)else ZB
 |[] =>rfl
 |u::ns=>by
  rw[NM,NM,n6,bA]
  by_cases h:u=v
  ·subst h;rw[if_pos rfl,if_pos NN]
  ·rw[if_neg (λz=>h (i9 z)),oG g v ns]
   have:(v∈u::ns)↔v∈ns:=by rw[NR];exact⟨λz=>z.elim (λy=>absurd y.symm h) id,.inr⟩
   simp only[this]
theorem qt(x:T)(v:N2)(g:N2->T):∀(ns:List N2),v∉ns->hI (en v) x (ns.map en) (ns.map g)=(ns.map en++[en v],ns.map g++[x])
 |[],_=>rfl
 |u::ns,h=>by
  rw[NR,not_or]at h;rw[NM,NM,hI,bA,bA,if_neg (λz=>h.1 (i9 z).symm),qt x v g ns h.2]
  rfl
theorem uU(x:T)(v:N2)(g:N2->T):∀(ns:List N2),ns.Nodup->v∈ns->hI (en v) x (ns.map en) (ns.map g)=(ns.map en,ns.map λu=>if u=v then x else g u)
 |[],_,h=>by simp at h
 |u::ns,hn,h=>by
  rw[Oe]at hn;rw[NM,NM,NM,hI,bA,bA]
  by_cases z:u=v
  ·subst z
   rw[if_pos rfl,if_pos rfl]
   congr 2
   exact OP λw hw=>by rw[if_neg (λ(y:w=u)=>hn.1 (y▸hw))]
  ·rw[if_neg (λy=>z (i9 y)),if_neg z]
   have h':v∈ns:=(NR.mp h).elim (λy=>absurd y.symm z) id
   rw[uU x v g ns hn.2 h']
theorem kA [DecidableEq α]:∀{l m:List α},l.Nodup->(∀x∈l,x∈m)->l.length<=m.length
 |[],_,_,_=>Qg _
 |x::l,m,hn,h=>by
  rw[Oe]at hn
  have hx:=h x NN
  have:=kA (m:=m.erase x) hn.2 λy hy=>(Td (λ(z:y=x)=>hn.1 (z▸hy))).mpr (h y (NJ _ hy))
  rw[List.length_erase_of_mem hx]at this
  have:0<m.length:=List.length_pos_of_mem hx;rw[NS];omega
def oW(o:Option (Int×List Nat)):T:=match o with
 |some x=>eW x
 |none=>.non
structure DR (P ns:List N2)(b:cQ N2):Prop where
 nd:ns.Nodup
 mem:∀v,v∈ns↔(b v).isSome=ZC
 sub:∀v∈ns,v∈P
def dV(ns:List N2)(b:cQ N2):List T:=ns.map λv=>oW (b v)
variable{P ns:List N2}{b:cQ N2}
def DR.get(D:DR P ns b)(v:N2):n6 (ns.map en) (dV ns b) (ky v)=(b v).map eW:=by
 unfold dV;rw[oG (λv=>oW (b v))]
 have:=D.mem v
 cases q:b v with
 |none=>rw[q]at this;rw[if_neg (λz=>by simpa using this.mp z)];rfl
 |some x=>rw[q]at this;rw[if_pos (this.mpr rfl)];rfl
def DR.put(D:DR P ns b)(hv:v∈P)(y:Int×List Nat):∃ns',DR P ns' (Gr.put b v y)/\hI (en v) (eW y) (ns.map en) (dV ns b)=(ns'.map en,dV ns' (Gr.put b v y)):=by
 by_cases h:v∈ns
 ·refine⟨ns,⟨D.nd,λu=>?_,D.sub⟩,?_⟩
  ·by_cases z:u=v
   ·subst z;rw[e9];exact⟨λ_=>rfl,λ_=>h⟩
   ·rw[lq z];exact D.mem u
  ·unfold dV
   rw[uU _ _ _ _ D.nd h]
   congr 1
   refine OP λu _=>?_
   by_cases z:u=v
   ·subst z;rw[if_pos rfl,e9];rfl
   ·rw[if_neg z,lq z]
 ·refine⟨ns++[v],⟨?_,λu=>?_,λu hu=>?_⟩,?_⟩
  ·exact OK.mpr ⟨D.nd,by simp,λx hx y hy=>by simp at hy;subst hy;exact λz=>h (z▸hx)⟩
  ·rw[Og,N0]
   by_cases z:u=v
   ·subst z;rw[e9];exact⟨λ_=>rfl,λ_=>.inr rfl⟩
   ·rw[lq z,<-D.mem u];exact⟨λw=>w.elim id λy=>absurd y z,.inl⟩
  ·rcases Og.mp hu with w|w
   ·exact D.sub u w
   ·rw[N0.mp w];exact hv
  ·unfold dV
   rw[qt _ _ _ _ h,O4,O4]
   congr 1
   congr 1
   ·refine OP λu hu=>?_
    rw[lq (λ(z:u=v)=>h (z▸hu))]
   ·simp[e9,oW]
def Ed(D:DR P ns b)(x:N2×N2×Int)(d:Int)(w:List Nat):
  dM [.dct (ns.map en) (dV ns b),eB x,eW (d,w)]=.ok (.bl (fq b x.2.1 (d+x.2.2))):=by
 refine cA rfl ?_
 show kj [.va (.dct (ns.map en) (dV ns b)),.va (eB x),.va (eW (d,w)),.em]=_
 unfold kj
 have g:oD jv (vr 0) (o2 aV (vr 1) (cn (.int 1))) [.va (.dct (ns.map en) (dV ns b)),.va (eB x),.va (eW (d,w)),.em]=.ok (oW (b x.2.1)):=by
  refine L1 (ks:=ns.map en) (vs:=dV ns b) (u:=en x.2.1) rfl rfl ?_
  unfold jv;rw[bA];simp only[D.get];cases b x.2.1 <;> rfl
 rw[aE (bW (t:=oW (b x.2.1)) (Z':=[.va (.dct (ns.map en) (dV ns b)),.va (eB x),.va (eW (d,w)),.va (oW (b x.2.1))]) g rfl)];refine cX ?_
 unfold fq
 cases q:b x.2.1 with
 |none=>exact JM (aL (t:=.non) (u:=.non) rfl rfl rfl)
 |some y=>exact(JN (aL (t:=eW y) (u:=.non) rfl rfl rfl)).trans (aL (t:=.int (d+x.2.2)) (u:=.int y.1) rfl rfl rfl)
abbrev MF:T->En->Rs En:=gT 2 (eR (gN 4) (eR (gN 5) nI))
def eL(L:cu N2):T:=.lst (L.map eB)
def BU(L:cu N2)(t:T):T:=match t with
 |.int j=>match L[j.toNat]? with
  |some x=>en x.1
  |none=>.non
 |_=>.non
variable{L:cu N2}
theorem zu:∀{ks:List Nat}{a b:N2},Ch L a ks b->(eN ks).map (BU L)=(fy L ks).map en
 |[],_,_,_=>rfl
 |k::r,a,b,h=>by
  rw[h.MW];obtain⟨c,m,e,h⟩:=h
  show BU L (.int k)::(eN r).map (BU L)=en a::(fy L r).map en
  rw[zu h]
  congr 1
  unfold BU;simp only[Py,e]
theorem Ex(v:N2):∀(l:List N2),fE (en v) (l.map en)=decide (v∈l)
 |[] =>rfl
 |u::l=>by
  have ih:=Ex v l;unfold fE at ih ⊢;rw[NM,P5,ih,Es]
  by_cases h:u=v
  ·subst h;simp
  ·have h':¬ v=u:=λz=>h z.symm
   simp[h,h']
theorem wZ(v:N2):∀(l:List N2)(n:Nat),v∈l->kJ (en v) (l.map en) n=ZA (n+l.idxOf v)
 |[],n,h=>by simp at h
 |u::l,n,h=>by
  rw[NM,kJ,Es,Va]
  by_cases z:u=v
  ·subst z;simp
  ·have h':v∈l:=(NR.mp h).elim (λy=>absurd y.symm z) id
   have zb:(u == v)=ZD:=by rw[beq_eq_false_iff_ne];exact z
   rw[zb,decide_eq_false z,if_neg NZ,wZ v l (n+1) h'];simp only[cond_false]
   congr 1
   omega
def Hm(v:N2):(en v).nd=ZC:=rfl
theorem uL(f:α->T)(h:∀a,(f a).nd=ZC):∀l:List α,nds (l.map f)=ZC
 |[] =>rfl
 |a::l=>by rw[NM,nds,h a,uL f h l];rfl
def Ei(v:N2):(en v).dep<=60:=by show(T.tup [.int v.c,.int v.k]).dep<=60;simp[T.dep,deps]
def Mf(v:N2)(l:List N2):AZ (en v) (.lst (l.map en))=.ok (.bl (decide (v∈l))):=by
 show(if (_\/_)/\_/\(T.lst (l.map en)).nd=ZC then _ else _)=_
 rw[if_pos ⟨.inl (Ei v),rfl,uL en Hm l⟩,Ex]
def DA(v:N2)(l:List N2)(h:v∈l):hZ (.lst (l.map en)) (en v)=.ok (.int ((l.idxOf v:Nat):Int)):=by
 unfold hZ;simp only;rw[if_pos ⟨.inl (Ei v),rfl,uL en Hm l⟩,wZ v l 0 h,Nat.zero_add]
def Kd(p q:List Nat):eN (p++q)=eN p++eN q:=by unfold eN;rw[O4]
theorem CZ(D:Bool):∀ks:List Nat,nks D (eN ks)=ZC
 |[] =>rfl
 |k::r=>by show nks D (.int k::eN r)=ZC;unfold nks;rw[CZ D r];rfl
def Ch.len{a b:N2}(h:Ch L a ks b)(hn:(fy L ks).Nodup):ks.length<=L.length:=by
 have:=kA (h.nodup hn) (m:=OQ L.length) λk hk=>Pn.mpr (h.lt k hk)
 rwa [Qo]at this
abbrev sE(L:cu N2)(st:T)(o:OT)(b:Bool)(k:Nat)(x:N2×N2×Int)(s6 s7 s8:Sl):En:=[.va (eL L),.va st,.ow o,.va (.bl b),.va (.int k),.va (eB x),s6,s7,s8]
def HD(L:cu N2)(P ns:List N2)(b:cQ N2)(k:Nat)(x:N2×N2×Int)(st:T)(mv:Bool)(s6 s7 s8:Sl):Sum (Option (cQ N2)) (List Nat)->Prop
 |.inl ZB=>∃s6' s7' s8',EI (sE L st (.dct (ns.map en) (dV ns b)) mv k x s6 s7 s8)=.ok (.ct (sE L st (.dct (ns.map en) (dV ns b)) mv k x s6' s7' s8'))
 |.inl (ZA b')=>∃ns' s6' s7' s8',DR P ns' b'/\EI (sE L st (.dct (ns.map en) (dV ns b)) mv k x s6 s7 s8)=.ok (.nx (sE L st (.dct (ns'.map en) (dV ns' b')) ZC k x s6' s7' s8'))
 |.inr q=>EI (sE L st (.dct (ns.map en) (dV ns b)) mv k x s6 s7 s8)=.ok (.rt (.tup [.non,.lst (eN q)]))
variable{S:List N2}
def Fi{x:N2×N2×Int}(K:Kept L S b)(D:DR P ns b)(hL:L.length<=500)(hP:P.length<1000)(e:L[k]?=ZA x)(hx:x.2.1∈P)(st:T)(mv:Bool)(s6 s7 s8:Sl):
  HD L P ns b k x st mv s6 s7 s8 (iO L b k x):=by
 obtain⟨a,c,m⟩:=x;unfold HD
 generalize hks:ns.map en=ks
 generalize hvs:dV ns b=vs
 have get:∀s7 s8,ln 2 (oD jv (vr 2) (o2 aV (vr 5) (cn (.int 0)))) (sE L st (.dct ks vs) mv k (a,c,m) s6 s7 s8)=.ok (oW (b a)):=λs7 s8=>by
  refine Gs (o:=.dct ks vs) rfl (L1 (ks:=ks) (vs:=vs) (u:=en a) rfl rfl ?_) ?_
  ·unfold jv
   rw[bA,<-hks,<-hvs];simp only[D.get];cases b a <;> rfl
  ·cases b a with
   |none=>rfl
   |some y=>show nks ZC [.int y.1,.lst (eN y.2)]=ZC;simp[nks,T.nk,CZ]
 have s1:∀G,aD (cj (ln 2 (oD jv (vr 2) (o2 aV (vr 5) (cn (.int 0))))) (gN 6)) G (sE L st (.dct ks vs) mv k (a,c,m) s6 s7 s8)=G (sE L st (.dct ks vs) mv k (a,c,m) (.va (oW (b a))) s7 s8):=λG=>
  aE (bW (t:=oW (b a)) (get s7 s8) rfl)
 cases qa:b a with
 |none=>
  rw[show iO L b k (a,c,m)=.inl ZB from by unfold iO;simp only[qa]]
  simp only;refine⟨.va .non,s7,s8,?_⟩
  unfold EI;rw[s1,qa]
  exact Dp (dS (F:=Hj) (Ht (bf (aL (t:=.non) (u:=.non) rfl rfl rfl))))
 |some y=>
  obtain⟨d,w⟩:=y
  have bt:∀s7 s8,JA 2 (tb (cl dM (ae (vr 2) (ae (vr 5) (ae (vr 6) ai))))) (sE L st (.dct ks vs) mv k (a,c,m) (.va (eW (d,w))) s7 s8)=.ok (fq b c (d+m)):=λs7 s8=>by
   refine L4 (bf (aU (ts:=[.dct ks vs,eB (a,c,m),eW (d,w)]) rfl ?_))
   rw[<-hks,<-hvs];exact Ed D (a,c,m) d w
  have nn:tb (o2 jX (vr 6) (cn .non)) (sE L st (.dct ks vs) mv k (a,c,m) (.va (eW (d,w))) s7 s8)=.ok ZD:=bf (aL (t:=eW (d,w)) (u:=.non) rfl rfl rfl)
  have cond:=zK nn (gY (bt s7 s8))
  have s1':∀G,aD (cj (ln 2 (oD jv (vr 2) (o2 aV (vr 5) (cn (.int 0))))) (gN 6)) G (sE L st (.dct ks vs) mv k (a,c,m) s6 s7 s8)=G (sE L st (.dct ks vs) mv k (a,c,m) (.va (eW (d,w))) s7 s8):=λG=>by rw[s1 G,qa];rfl
  cases hb:fq b c (d+m)with
  |false=>
   rw[show iO L b k (a,c,m)=.inl ZB from by unfold iO;simp only[qa,hb];rfl]
   simp only;rw[hb]at cond;refine⟨.va (eW (d,w)),s7,s8,?_⟩
   unfold EI;rw[s1']
   exact Dp (dS (F:=Hj) cond)
  |true=>
   rw[hb]at cond;obtain⟨s,hs,h1,h2,h3,h4,h5⟩:=K.walk a d w qa
   have hch:Ch L s (w++[k]) c:=h1.snoc e
   have hwl:w.length<=500:=OB (Ch.len h1 h4) hL
   have s2:∀G,aD (eZ (nR (tb (o2 jX (vr 6) (cn .non))) (cH (JA 2 (tb (cl dM (ae (vr 2) (ae (vr 5) (ae (vr 6) ai)))))))) Hj sN) G (sE L st (.dct ks vs) mv k (a,c,m) (.va (eW (d,w))) s7 s8)=G (sE L st (.dct ks vs) mv k (a,c,m) (.va (eW (d,w))) s7 s8):=λG=>
    aE (Z':=(sE L st (.dct ks vs) mv k (a,c,m) (.va (eW (d,w))) s7 s8)) ((d7 (F:=Hj) (G:=sN) cond).trans rfl)
   have wk:o2 aP (o2 aV (vr 6) (cn (.int 1))) (fz (ae (vr 4) ai)) (sE L st (.dct ks vs) mv k (a,c,m) (.va (eW (d,w))) s7 s8)=.ok (.lst (eN (w++[k]))):=by
    refine aL (t:=.lst (eN w)) (u:=.lst (eN [k])) rfl (mn (ts:=[.int k]) rfl (az (k:=1) (by simp))) ?_
    show lb (eN w++eN [k])=_
    rw[<-Kd];unfold lb;rw[if_pos (az (k:=1000) (by unfold eN;rw[NP,NT];simp;omega))]
   have s3:∀G,aD (cj (o2 aP (o2 aV (vr 6) (cn (.int 1))) (fz (ae (vr 4) ai))) (gN 7)) G (sE L st (.dct ks vs) mv k (a,c,m) (.va (eW (d,w))) s7 s8)=G (sE L st (.dct ks vs) mv k (a,c,m) (.va (eW (d,w))) (.va (.lst (eN (w++[k])))) s8):=λG=>aE (bW wk rfl)
   have ps:ig (iS (vr 7)) [ZB,ZA 0] (gN 0) bT (o2 aV (o2 aV (vr 1) (vr 0)) (cn (.int 0))) (sE L st (.dct ks vs) mv k (a,c,m) (.va (eW (d,w))) (.va (.lst (eN (w++[k])))) s8)=.ok (.lst ((fy L (w++[k])).map en)):=by
    rw[<-zu hch];refine yz (ts:=eN (w++[k])) (Dt rfl) (az (k:=1000) (by unfold eN;rw[NP,NT];simp;omega)) (by simp) λt ht=>?_
    unfold eN at ht;obtain⟨j,hj,rfl⟩:=Oj.mp ht
    have hjl:=hch.lt j hj;refine aL (t:=eB L[j]) (u:=.int 0) (L7 (l:=L.map eB) (n:=j) rfl rfl (by rw[Oc,N7 hjl];rfl)) rfl ?_
    unfold BU;simp only[Py,N7 hjl]
    rfl
   have s4:∀G,aD (cj (ig (iS (vr 7)) [ZB,ZA 0] (gN 0) bT (o2 aV (o2 aV (vr 1) (vr 0)) (cn (.int 0)))) (gN 8)) G (sE L st (.dct ks vs) mv k (a,c,m) (.va (eW (d,w))) (.va (.lst (eN (w++[k])))) s8)=G (sE L st (.dct ks vs) mv k (a,c,m) (.va (eW (d,w))) (.va (.lst (eN (w++[k])))) (.va (.lst ((fy L (w++[k])).map en)))):=λG=>aE (bW ps rfl)
   have inn:tb (o2 AZ (o2 aV (vr 5) (cn (.int 1))) (vr 8)) (sE L st (.dct ks vs) mv k (a,c,m) (.va (eW (d,w))) (.va (.lst (eN (w++[k])))) (.va (.lst ((fy L (w++[k])).map en))))=.ok (decide (c∈fy L (w++[k]))):=
    bf (aL (t:=en c) (u:=.lst ((fy L (w++[k])).map en)) rfl rfl (Mf c _))
   by_cases hn:c∈fy L (w++[k])
   ·rw[show iO L b k (a,c,m)=.inr ((w++[k]).drop ((fy L (w++[k])).idxOf c))from by unfold iO;simp only[qa,hb,if_pos hn,if_true]]
    simp only;unfold EI;rw[s1',s2,s3,s4];rw[decide_eq_true hn]at inn;refine gX ((dS inn).trans (cX ?_))
    have sle:sl (vr 7) (pS (oL hZ (vr 8) (o2 aV (vr 5) (cn (.int 1))))) pN (sE L st (.dct ks vs) mv k (a,c,m) (.va (eW (d,w))) (.va (.lst (eN (w++[k])))) (.va (.lst ((fy L (w++[k])).map en))))=.ok (.lst (eN ((w++[k]).drop ((fy L (w++[k])).idxOf c)))):=by
     rw[Hs (l:=eN (w++[k])) (lo:=ZA (((fy L (w++[k])).idxOf c:Nat):Int)) (hi:=ZB) rfl (wO (k_oL (ks:=(fy L (w++[k])).map en) (u:=en c) rfl rfl (DA c _ hn))) rfl,xi];unfold eN;rw[List.map_drop]
    exact(ba (ts:=[.non,.lst (eN ((w++[k]).drop ((fy L (w++[k])).idxOf c)))]) (aq rfl (aq sle rfl)) (az (k:=2) (by simp)))
   ·rw[show iO L b k (a,c,m)=.inl (ZA (Gr.put b c (d+m,w++[k])))from by unfold iO;simp only[qa,hb,if_neg hn,if_true]]
    simp only;rw[decide_eq_false hn]at inn;obtain⟨ns',D',hd⟩:=D.put hx (d+m,w++[k]);refine⟨ns',.va (eW (d,w)),.va (.lst (eN (w++[k]))),.va (.lst ((fy L (w++[k])).map en)),D',?_⟩
    unfold EI;rw[s1',s2,s3,s4];rw[aE (Z':=(sE L st (.dct ks vs) mv k (a,c,m) (.va (eW (d,w))) (.va (.lst (eN (w++[k])))) (.va (.lst ((fy L (w++[k])).map en))))) ((d7 (G:=sN) inn).trans rfl)]
    have pt:Aw 2 (o2 aV (vr 5) (cn (.int 1))) (aK (ae (o2 aP (o2 aV (vr 6) (cn (.int 0))) (o2 aV (vr 5) (cn (.int 2)))) (ae (vr 7) ai))) (sE L st (.dct ks vs) mv k (a,c,m) (.va (eW (d,w))) (.va (.lst (eN (w++[k])))) (.va (.lst ((fy L (w++[k])).map en))))
      = .ok (.nx (sE L st (.dct (ns'.map en) (dV ns' (Gr.put b c (d+m,w++[k])))) mv k (a,c,m) (.va (eW (d,w))) (.va (.lst (eN (w++[k])))) (.va (.lst ((fy L (w++[k])).map en))))):=by
     have ev:aK (ae (o2 aP (o2 aV (vr 6) (cn (.int 0))) (o2 aV (vr 5) (cn (.int 2)))) (ae (vr 7) ai)) (sE L st (.dct ks vs) mv k (a,c,m) (.va (eW (d,w))) (.va (.lst (eN (w++[k])))) (.va (.lst ((fy L (w++[k])).map en))))=.ok (eW (d+m,w++[k])):=
      ba (ts:=[.int (d+m),.lst (eN (w++[k]))]) rfl (az (k:=2) (by simp))
     have ek:o2 aV (vr 5) (cn (.int 1)) (sE L st (.dct ks vs) mv k (a,c,m) (.va (eW (d,w))) (.va (.lst (eN (w++[k])))) (.va (.lst ((fy L (w++[k])).map en))))=.ok (en c):=rfl
     show(aK _ _ >>= λv=>o2 aV (vr 5) (cn (.int 1)) _ >>= λkk=>match keyOf kk with|some _=>if ks.length<1000 then Rs.ok (Fl.nx _)else .bad|none=>.bad)=_
     rw[ev,ay,ek,ay,bA]
     have hlen:ks.length<1000:=by rw[<-hks,NP];exact TX (kA D.nd D.sub) hP
     simp only[if_pos hlen]
     have hd1:hI (en c) (eW (d+m,w++[k])) ks vs=(ns'.map en,dV ns' (Gr.put b c (d+m,w++[k]))):=by rw[<-hks,<-hvs];exact hd
     rw[hd1]
     rfl
    rw[aE pt];exact bW (t:=.bl ZC) rfl rfl
def Bo(L:cu N2)(st:T)(ns:List N2)(b:cQ N2)(mv:Bool)(s4 s5 s6 s7 s8:Sl):En:=[.va (eL L),.va st,.ow (.dct (ns.map en) (dV ns b)),.va (.bl mv),s4,s5,s6,s7,s8]
def EA(L:cu N2)(P:List N2)(st:T)(X:Rs Fl):Sum (cQ N2×Bool) (List Nat)->Prop
 |.inr q=>X=.ok (.rt (.tup [.non,.lst (eN q)]))
 |.inl (b',mv')=>∃ns' s4 s5 s6 s7 s8,DR P ns' b'/\X=.ok (.nx (Bo L st ns' b' mv' s4 s5 s6 s7 s8))
theorem sY(hL:L.length<=500)(hP:P.length<1000)(hx:∀x∈L,x.2.1∈P)(st:T):∀(r:cu N2)(k:Nat)(b:cQ N2)(mv:Bool)(ns:List N2)(s4 s5 s6 s7 s8:Sl),L.drop k=r->Kept L S b->DR P ns b →
  EA L P st (bx MF EI (cP k (r.map eB)) (Bo L st ns b mv s4 s5 s6 s7 s8)) (jn L k r b mv)
 |[],k,b,mv,ns,s4,s5,s6,s7,s8,_,K,D=>⟨ns,s4,s5,s6,s7,s8,D,rfl⟩
 |x::r,k,b,mv,ns,s4,s5,s6,s7,s8,hr,K,D=>by
  have e:L[k]?=ZA x:=by
   have:=congrArg (·[0]?) hr
   simpa using this
  have hr':L.drop (k+1)=r:=by
   have:=congrArg (List.drop 1) hr
   simpa [List.drop_drop,UA]using this
  have tg:MF (.tup [.int k,eB x]) (Bo L st ns b mv s4 s5 s6 s7 s8)=.ok [.va (eL L),.va st,.ow (.dct (ns.map en) (dV ns b)),.va (.bl mv),.va (.int k),.va (eB x),s6,s7,s8]:=rfl
  have tn:=Fi K D hL hP e (hx x (Qk e)) st mv s6 s7 s8;rw[jn,NM,cP]
  cases q:iO L b k x with
  |inr w=>
   rw[q]at tn;simp only;unfold EA
   exact Gp tg tn
  |inl o=>
   rw[q]at tn
   cases o with
   |none=>
    obtain⟨s6',s7',s8',tn⟩:=tn;simp only;rw[Gq tg tn]
    exact sY hL hP hx st r (k+1) b mv ns _ _ _ _ _ hr' K D
   |some b'=>
    obtain⟨ns',s6',s7',s8',D',tn⟩:=tn;simp only;rw[dR tg tn];refine sY (S:=S) hL hP hx st r (k+1) b' ZC ns' _ _ _ _ _ hr' ?_ D'
    -- what is kept stays so
    obtain⟨a,c,m⟩:=x;unfold iO at q
    cases qa:b a with
    |none=>simp only[qa]at q;cases q
    |some y=>
     obtain⟨d,w⟩:=y;simp only[qa]at q
     split at q
     ·rename_i hb
      split at q
      ·cases q
      ·rename_i hn
       cases q;exact K.put e qa hb hn
     ·cases q
abbrev wF:V4:=aD (cj (cn (.bl ZD)) (gN 3)) (fH (iE (ae (vr 0) ai)) MF EI)
def SetP(L:cu N2)(P:List N2)(st:T)(X:Rs Fl):Sum (cQ N2) (List Nat)->Prop
 |.inr q=>X=.ok (.rt (.tup [.non,.lst (eN q)]))
 |.inl b'=>∃ns' s4 s5 s6 s7 s8,DR P ns' b'/\X=.ok (.nx (Bo L st ns' b' ZD s4 s5 s6 s7 s8))
theorem vF(hL:L.length<=500)(hP:P.length<1000)(hx:∀x∈L,x.2.1∈P)(st:T):∀(n:Nat)(b:cQ N2)(ns:List N2)(s4 s5 s6 s7 s8:Sl)(r:Sum (cQ N2) (List Nat)),Kept L S b->DR P ns b->Gr.settle L n b=ZA r →
  SetP L P st (bZ (tb (vr 3)) wF (n+1) (Bo L st ns b ZC s4 s5 s6 s7 s8)) r
 |0,_,_,_,_,_,_,_,_,_,_,h=>by cases h
 |n+1,b,ns,s4,s5,s6,s7,s8,r,K,D,h=>by
  have sw:=sY hL hP hx st L 0 b ZD ns s4 s5 s6 s7 s8 rfl K D
  have ok:=jB (S:=S) L 0 b ZD rfl K
  have body:∀X,bx MF EI (cP 0 (L.map eB)) (Bo L st ns b ZD s4 s5 s6 s7 s8)=.ok X->wF (Bo L st ns b ZC s4 s5 s6 s7 s8)=.ok X:=λX hX=>by
   show aD _ _ _=_
   rw[aE (Z':=Bo L st ns b ZD s4 s5 s6 s7 s8) (bW (t:=.bl ZD) rfl rfl)];exact fX (ts:=cP 0 (L.map eB)) (Ma rfl) hX
  have tt:tb (vr 3) (Bo L st ns b ZC s4 s5 s6 s7 s8)=.ok ZC:=rfl;rw[Gr.settle]at h
  revert sw ok h
  generalize jn L 0 L b ZD=R
  intro h sw ok
  cases R with
  |inr q=>
   simp only at h;cases h
   exact Dl tt (body _ sw)
  |inl p=>
   obtain⟨b',mv'⟩:=p;obtain⟨ns',t4,t5,t6,t7,t8,D',sw⟩:=sw;obtain⟨K',_⟩:=ok
   cases mv' with
   |true=>
    simp only at h
    have ih:=vF hL hP hx st n b' ns' t4 t5 t6 t7 t8 r K' D' h;rw[wN tt (body _ sw)]
    exact ih
   |false=>
    simp only at h;cases h;refine⟨ns',t4,t5,t6,t7,t8,D',?_⟩
    rw[wN tt (body _ sw)];exact Dm rfl
variable{F:V4}
theorem iX{c:V6}{x:Fl}:∀{n m:Nat}{Z:En},n<=m->bZ c F n Z=.ok x->bZ c F m Z=.ok x
 |0,_,_,_,h=>by cases h
 |n+1,0,_,hl,_=>absurd hl (by omega)
 |n+1,m+1,Z,hl,h=>by
  unfold bZ at h ⊢
  cases q:c Z with
  |bad=>rw[q]at h;cases h
  |err _=>rw[q]at h;cases h
  |ok k=>
   rw[q]at h
   cases k with
   |false=>exact h
   |true=>
    simp only at h ⊢
    cases q2:F Z with
    |bad=>rw[q2]at h;cases h
    |err _=>rw[q2]at h;cases h
    |ok f=>
     rw[q2]at h
     cases f with
     |nx Z'=>exact iX (by omega) h
     |ct Z'=>exact iX (by omega) h
     |bk Z'=>exact h
     |rt t=>exact h
theorem Cy(w:T):∀S:List N2,Kv (S.map λv=>.tup [en v,w])=ZA (S.map λv=>(en v,w))
 |[] =>rfl
 |v::S=>by rw[NM,Kv,bA,Cy w S];rfl
theorem xb(w:T):∀(S ns:List N2)(g:N2->T),(ns++S).Nodup->(∀v∈S,g v=w)->j8 (S.map λv=>(en v,w)) (ns.map en,ns.map g)=((ns++S).map en,(ns++S).map g)
 |[],ns,g,_,_=>by rw[Oi];rfl
 |v::S,ns,g,hn,hg=>by
  have hv:v∉ns:=λz=>by
   rw[OK]at hn;exact hn.2.2 v z v NN rfl
  rw[NM,j8,qt _ _ _ _ hv]
  have e1:ns.map en++[en v]=(ns++[v]).map en:=by rw[O4];rfl
  have e2:ns.map g++[w]=(ns++[v]).map g:=by rw[O4,<-hg v NN];rfl
  rw[e1,e2,xb w S (ns++[v]) g (by rw[Om];exact hn) λu hu=>hg u (NJ _ hu),Om]
  rfl
def GP(w:T)(S:List N2)(hn:S.Nodup)(hl:S.length<=1000):z8 [.lst (S.map λv=>.tup [en v,w])]=.ok (.dct (S.map en) (S.map λ_=>w)):=by
 unfold z8;simp only[Cy];rw[if_pos (by rw[NP];exact hl)]
 have:=xb w S [] (λ_=>w) (by simpa using hn) (λ_ _=>rfl)
 rw[Po]at this;rw[show(([]:List T),([]:List T))=(([]:List N2).map en,([]:List N2).map λ_=>w)from rfl,this]
def eS(S:List N2):T:=.lst (S.map en)
def G5(L:cu N2)(P:List N2)(X:Rs T):Sum (cQ N2) (List Nat)->Prop
 |.inr q=>X=.ok (.tup [.non,.lst (eN q)])
 |.inl b'=>∃ns',DR P ns' b'/\X=.ok (.tup [.dct (ns'.map en) (dV ns' b'),.non])
structure MC (L:cu N2)(P:List N2):Prop where
 len:L.length<=500
 size:size L<=100000000
 ends:∀x∈L,x.1∈P/\x.2.1∈P
 pl:P.length<1000
def SOk(L:cu N2)(S:List N2):Sum (cQ N2) (List Nat)->Prop
 |.inr q=>Bar L q
 |.inl b'=>Settled L S b'
def DY(F:MC L P)(hS:S.Nodup)(hSP:∀v∈S,v∈P):∃r,G5 L P (gR [eL L,eS S]) r/\SOk L S r:=by
 have bound:L.length*(2*size L+1)<1000000000000 - 1:=by
  have h1:=F.len
  have h2:=F.size
  have:L.length*(2*size L+1)<=500*(2*100000000+1):=Nat.mul_le_mul h1 (by omega)
  omega
 obtain⟨r,hr,ok⟩:=xQ L S bound
 have ok':SOk L S r:=by cases r <;> exact ok
 refine⟨r,?_,ok'⟩
 have hSl:S.length<=1000:=OB (kA hS hSP) (by have:=F.pl;omega)
 have D0:DR P S (Gr.start S):=⟨hS,λv=>by unfold Gr.start;by_cases h:v∈S <;> simp[h],hSP⟩
 have dv0:dV S (Gr.start S)=S.map λ_=>eW (0,[]):=OP λv hv=>by unfold Gr.start;rw[if_pos hv];rfl
 have w:=vF F.len F.pl (λx hx=>(F.ends x hx).2) (eS S) _ (Gr.start S) S .em .em .em .em .em r (pZ L S) D0 hr
 have lc:ig (iS (vr 1)) [ZB] (gN 0) bT (aK (ae (vr 0) (ae (aK (ae (cn (.int 0)) (ae (fz ai) ai))) ai))) [.va (eL L),.va (eS S),.em,.em,.em,.em,.em,.em,.em]=.ok (.lst (S.map λv=>.tup [en v,eW (0,[])])):=by
  have:=yz (fi:=iS (vr 1)) (src:=[ZB]) (fe:=aK (ae (vr 0) (ae (aK (ae (cn (.int 0)) (ae (fz ai) ai))) ai))) (h:=λt=>.tup [t,eW (0,[])]) (Z:=[.va (eL L),.va (eS S),.em,.em,.em,.em,.em,.em,.em]) (ts:=S.map en) (Dt rfl) (az (k:=1000) (by rw[NP];exact hSl)) (by simp) λt _=>
   ba (ts:=[t,eW (0,[])]) (aq rfl (aq (ba (ts:=[.int 0,.lst []]) (aq rfl (aq (mn (ts:=[]) rfl (Qg _)) rfl)) (az (k:=2) (by simp))) rfl)) (az (k:=2) (by simp))
  rw[this,P7];rfl
 have n0:rH 2 (ig (iS (vr 1)) [ZB] (gN 0) bT (aK (ae (vr 0) (ae (aK (ae (cn (.int 0)) (ae (fz ai) ai))) ai)))) [.va (eL L),.va (eS S),.em,.em,.em,.em,.em,.em,.em]=.ok (.nx [.va (eL L),.va (eS S),.ow (.dct (S.map en) (dV S (Gr.start S))),.em,.em,.em,.em,.em,.em]):=by
  unfold rH;rw[lc,ay,GP _ S hS hSl,ay,dv0]
  rfl
 have main:∀G X,bZ (tb (vr 3)) wF FU (Bo L (eS S) S (Gr.start S) ZC .em .em .em .em .em)=.ok X->kg [.va (eL L),.va (eS S),.em,.em,.em,.em,.em,.em,.em]=G->(aD (bZ (tb (vr 3)) wF FU) (nP 2 (aR (aK (ae (vr 2) (ae (cn .non) ai)))))) (Bo L (eS S) S (Gr.start S) ZC .em .em .em .em .em)=G:=λG X _ h=>by
  rw[<-h];unfold kg;rw[aE n0,aE (Z':=Bo L (eS S) S (Gr.start S) ZC .em .em .em .em .em) (bW (t:=.bl ZC) rfl rfl)]
 cases r with
 |inr q=>
  have w':=iX (m:=FU) (by unfold FU;omega) w
  refine cA rfl ?_
  show kg [.va (eL L),.va (eS S),.em,.em,.em,.em,.em,.em,.em]=_
  rw[<-main _ _ w' rfl]
  exact gX w'
 |inl b'=>
  obtain⟨ns',s4,s5,s6,s7,s8,D',w⟩:=w
  have w':=iX (m:=FU) (by unfold FU;omega) w
  refine⟨ns',D',cA rfl ?_⟩
  show kg [.va (eL L),.va (eS S),.em,.em,.em,.em,.em,.em,.em]=_
  rw[<-main _ _ w' rfl,aE w'];exact Dv (cX (ba (ts:=[.dct (ns'.map en) (dV ns' b'),.non]) rfl (az (k:=2) (by simp))))
theorem pR{f:α->T}{p:α->Prop}:∀{l:List T},(∀t∈l,∃x,t=f x/\p x)->∃L:List α,l=L.map f/\∀x∈L,p x
 |[],_=>⟨[],rfl,λ_ h=>nomatch h⟩
 |t::l,h=>by
  obtain⟨x,e,hx⟩:=h t NN;obtain⟨L,e2,h2⟩:=pR (l:=l) λu hu=>h u (NJ _ hu)
  exact⟨x::L,by rw[e,e2];rfl,λy hy=>(NR.mp hy).elim (λz=>z▸hx) (h2 y)⟩
def yQ{t:T}(h:bw t=ZC):∃(x y:Int)(r:List Int),t=.tup [.int x,.int y,.tup (r.map .int)]/\(0<=x/\x<=9)/\(0<=y/\y<=9)/\∀k,0<=r.getD k 0/\r.getD k 0<=99:=by
 obtain⟨x,y,r,rfl,h1,h2,h3,h4⟩:=cS h;refine⟨x,y,r,rfl,h1,h2,λk=>?_⟩
 have h':(nQ (.int x) (.int y)&&cO (.tup (r.map .int)))=ZC:=h;rw[NL]at h'
 have hr:=h'.2;unfold cO at hr;rw[NL]at hr
 have hr2:(((r.map T.int).all λu=>aW u 0 99)&&(match kL (r.map .int)with|some m=>nC m|none=>ZD))=ZC:=hr.2
 rw[NL]at hr2
 by_cases hk:k<r.length
 ·have:=Ob.mp hr2.1 (.int r[k]) (Oj.mpr ⟨_,Pt hk,rfl⟩)
  obtain⟨i,e,a,b⟩:=cg this;cases e;simp[hk];exact⟨a,b⟩
 ·simp[hk]
def zx{cs:List T}:∀{cs0:List T}{c k:Nat},i<=c->c<i+cs0.length->k<Iq (cs0.getD (c - i) .non)->T.tup [.int c,.int k] ∈d9 i cs0:=by
 intro cs0
 induction cs0 generalizing i with
 |nil=>intro c k h1 h2;simp at h2;omega
 |cons a r ih=>
  intro c k h1 h2 h3;rw[d9,Og]
  by_cases e:c=i
  ·subst e
   rw[SR]at h3
   have h3':k<Iq a:=h3;exact .inl (Oj.mpr ⟨.int k,Ge h3',rfl⟩)
  ·refine .inr (ih (by omega) (by rw[NS]at h2;omega) ?_)
   rw[show c - i=(c - (i+1))+1 by omega]at h3
   exact h3
variable{cs:List T}
def si{t:T}(h:aX cs t=ZC):t∈d9 0 cs:=by
 obtain⟨c,k,rfl⟩:=cb h;unfold aX at h;simp only[NL,decide_eq_true_eq]at h;obtain⟨⟨h1,h2⟩,h3,h4⟩:=h;obtain⟨c,rfl⟩:=Os h1;obtain⟨k,rfl⟩:=Os h3;rw[rJ]at h4;exact zx (cs:=cs) (Qg _) (by omega) (by rw[SS];omega)
def DX{t:T}(h:t∈d9 0 cs):∃v:N2,t=en v/\True:=by
 obtain⟨c,k,rfl,_⟩:=oo cs 0 h;exact⟨⟨c,k⟩,rfl,trivial⟩
def big(x:N2×N2×Int):Prop:=x.2.2.natAbs<=999
def rW{b:Int}(ha : -99<=a/\a<=99)(hb:0<=b/\b<=9):(a*b).natAbs<=999:=by
 rw[Int.natAbs_mul]
 have h1:a.natAbs<=99:=by omega
 have h2:b.natAbs<=9:=by omega
 exact OB (Nat.mul_le_mul h1 h2) (by decide)
theorem HC{cs0:List T}:∀{cs:List T}{i:Nat},(∀c∈cs,bw c=ZC)->(∀c k:Nat,i<=c->c<i+cs.length->k<Iq (cs.getD (c - i) .non)->T.tup [.int c,.int k] ∈d9 0 cs0) →
  ∀t∈bC i cs,∃x,t=eB x/\(en x.1∈d9 0 cs0/\en x.2.1∈d9 0 cs0/\big x)
 |[],_,_,_,t,h=>by simp[bC]at h
 |c::cs,i,hc,hm,t,h=>by
  rw[bC,Og]at h;rcases h with h|h
  ·obtain⟨x,y,r,rfl,hx,hy,hr⟩:=yQ (hc c NN)
   have hm0:∀k,k<r.length->T.tup [.int i,.int k] ∈d9 0 cs0:=λk hk=>hm i k (N3 _) (by simp) (by rw[SR];show k<(r.map T.int).length;rw[NP];exact hk)
   rw[rB]at h;unfold cB at h;obtain⟨k,hk,hp⟩:=UR.mp h
   have hk:=Pn.mp hk
   have d : -99<=dr r k/\dr r k<=99:=by have:=hr k;have:=hr (k+1);unfold dr;omega
   unfold pr at hp;simp only[NR,Pk,or_false]at hp;rcases hp with rfl|rfl
   ·exact⟨(⟨i,k⟩,⟨i,((k+1:Nat):Int)⟩,dr r k*y),rfl,hm0 k (by omega),hm0 (k+1) (by omega),rW d hy⟩
   ·exact⟨(⟨i,((k+1:Nat):Int)⟩,⟨i,k⟩,-dr r k*x),rfl,hm0 (k+1) (by omega),hm0 k (by omega),rW (by omega) hx⟩
  ·exact HC (cs:=cs) (i:=i+1) (λc h=>hc c (NJ _ h)) (λc k h1 h2 h3=>hm c k (by omega) (by rw[NS];omega) (by rw[show c - i=(c - (i+1))+1 by omega];exact h3)) t h
def LW{u:T}(hu:bq cs u=ZC):∀t∈lB u,∃x,t=eB x/\(en x.1∈d9 0 cs/\en x.2.1∈d9 0 cs/\big x):=by
 intro t ht;obtain⟨a,b,x,y,rfl,hd,ha,hb,_⟩:=dj hu
 have ma:=si ha
 have mb:=si hb;obtain⟨va,rfl,_⟩:=DX ma;obtain⟨vb,rfl,_⟩:=DX mb;unfold dD at hd;rw[NL]at hd;obtain⟨i,rfl,i1,i2⟩:=cg hd.1
 have e2:lB (.tup [en va,en vb,.int i,y])=.tup [en vb,en va,.int (-i)] ::(if y.isN then []else [.tup [en va,en vb,y]]):=rfl
 rw[e2]at ht;rcases NR.mp ht with rfl|ht
 ·exact⟨(vb,va,-i),rfl,mb,ma,by unfold big;simp only;omega⟩
 ·cases q:y.isN with
  |true=>rw[q]at ht;simp at ht
  |false=>
   rw[q]at ht
   have ht:t=.tup [en va,en vb,y]:=by simpa using ht
   have hw:aW y i 999=ZC:=by
    cases y with
    |non=>cases q
    |_=>exact hd.2
   obtain⟨j,rfl,j1,j2⟩:=cg hw;exact⟨(va,vb,j),ht,ma,mb,by unfold big;simp only;omega⟩
structure Rd (cs ls:List T)(L:cu N2)(P:List N2):Prop where
 g:Good cs ls
 b:Ko cs ls=L.map eB
 e:d9 0 cs=P.map en
 f:MC L P
 nd:P.Nodup
 pl:P.length<=16
 ll:L.length<=60
 bg:∀x∈L,big x
def Fg(h:∀x∈L,big x):size L<=999*L.length:=by
 unfold size
 induction L with
 |nil=>simp
 |cons x L ih=>
  rw[NM,PP,NS]
  have:=ih λy hy=>h y (NJ _ hy)
  have:=h x NN;unfold big at this;omega
def CU(h:(P.map en).Nodup):P.Nodup:=by
 induction P with
 |nil=>exact Qh
 |cons a r ih=>
  rw[NM,Oe]at h;exact Oe.mpr ⟨λz=>h.1 (Oj.mpr ⟨a,z,rfl⟩),ih h.2⟩
variable{ls:List T}
def vR(g:Good cs ls):∃L P,Rd cs ls L P:=by
 obtain⟨hc,c1,c4⟩:=bh g.c;obtain⟨P,eP,_⟩:=pR (f:=en) (p:=λ_=>True) (l:=d9 0 cs) λt ht=>DX ht
 have key:∀t∈Ko cs ls,∃x,t=eB x/\(en x.1∈d9 0 cs/\en x.2.1∈d9 0 cs/\big x):=λt ht=>by
  unfold Ko at ht;rw[Og]at ht;rcases ht with h|h
  ·exact HC hc (λc k h1 h2 h3=>zx (cs:=cs) h1 h2 h3) t h
  ·obtain⟨u,hu,h⟩:=UR.mp h
   exact LW (g.l u hu) t h
 obtain⟨L,eL,hL⟩:=pR key
 have mem:∀v:N2,en v∈d9 0 cs->v∈P:=λv hv=>by
  rw[eP]at hv;obtain⟨u,hu,e⟩:=Oj.mp hv;rw[<-J4 e];exact hu
 have hl:=GY g;rw[eL,NP]at hl
 have hp:=oE cs 0 hc;rw[eP,NP]at hp
 have hs:=Fg λx hx=>(hL x hx).2.2
 exact⟨L,P,g,eL,eP,⟨by omega,by omega,λx hx=>⟨mem _ (hL x hx).1,mem _ (hL x hx).2.1⟩,by omega⟩,CU (eP▸mQ cs 0),by omega,hl,λx hx=>(hL x hx).2.2⟩
def run(L:cu N2):N2->List Nat->Option N2
 |a,[] =>ZA a
 |a,k::r=>match L[k]? with
  |some x=>if x.1=a then run L x.2.1 r else ZB
  |none=>ZB
def Rd.bounds(R:Rd cs ls L P):iQ [RR cs ls]=.ok (eL L):=by rw[Eb R.g,R.b];rfl
def Rd.events(R:Rd cs ls L P):jR [RR cs ls]=.ok (eS P):=by rw[CK R.g,R.e];rfl
def Kf(D:DR P ns b){x:Int×List Nat}(e:b v=ZA x):bJ (.dct (ns.map en) (dV ns b)) (en v)=.ok (eW x):=by
 unfold bJ;simp only[bA];rw[D.get,e];rfl
def Rd.Ny(R:Rd cs ls L P):∃hw:Bool,b7 [RR cs ls]=.ok (.bl hw)/\(hw=ZC↔nM L):=by
 obtain⟨r,hr,ok⟩:=DY R.f R.nd (λv h=>h)
 have wrap:∀{w:T},dY [RR cs ls,eL L]=.ok w->b7 [RR cs ls]=.ok (.bl (!w.isN)):=λ{w} e=>by
  have e2:ml [RR cs ls]=.ok w:=by
   refine cA rfl (cX (aU (ts:=[RR cs ls,eL L]) (aq rfl (aq (aU (ts:=[RR cs ls]) rfl R.bounds) rfl)) e))
  refine cA rfl (cX (aL (t:=w) (u:=.non) (aU (ts:=[RR cs ls]) rfl e2) rfl ?_))
  cases w <;> rfl
 have begin_:∀{x:T}{y:Rs Fl},gR [eL L,eS P]=.ok (.tup [x,.non])\/(∃q,gR [eL L,eS P]=.ok (.tup [x,.lst q]))->((aD (eZ (tb (o2 jX (vr 3) (cn .non))) (aR (cn .non)) sN) (aR (cl iZ (ae (ig (iS (vr 2)) [ZB,ZA 3] (gN 0) bT (o2 aV (o2 bJ (vr 1) (vr 0)) (cn (.int 0)))) ai)))) [.va (RR cs ls),.va (eL L),.va (eS P),.va x]=y) →
   fL [.va (RR cs ls),.va (eL L),.em,.em]=y:=λ{x y} hs hy=>by
  unfold fL;rw[aE (Z':=[.va (RR cs ls),.va (eL L),.va (eS P),.em]) (bW (aU (ts:=[RR cs ls]) rfl R.events) rfl)]
  have:o2 aV (cl gR (ae (vr 1) (ae (vr 2) ai))) (cn (.int 0)) [.va (RR cs ls),.va (eL L),.va (eS P),.em]=.ok x:=by
   rcases hs with e|⟨q,e⟩
   ·exact aL (u:=.int 0) (aU (ts:=[eL L,eS P]) rfl e) rfl rfl
   ·exact aL (u:=.int 0) (aU (ts:=[eL L,eS P]) rfl e) rfl rfl
  rw[aE (Z':=[.va (RR cs ls),.va (eL L),.va (eS P),.va x]) (bW this rfl)];exact hy
 cases r with
 |inr q=>
  refine⟨ZD,wrap (w:=.non) (cA rfl (begin_ (x:=.non) (.inr ⟨_,hr⟩) (gX ((dS (bf (aL (t:=.non) (u:=.non) rfl rfl rfl))).trans rfl)))),λz=>(by cases z),λn=>absurd n (Bar.neg ok)⟩
 |inl b=>
  obtain⟨ns,D,hr⟩:=hr
  have ok:Settled L P b:=ok
  have all:∀v∈P,∃d w,b v=ZA (d,w):=λv hv=>by
   obtain⟨d,w,e,_⟩:=ok.least v hv v 0 (.nil v);exact⟨d,w,e⟩
  let tm:N2->Int:=λv=>match b v with|some x=>x.1|none=>0
  have htm:∀v∈P,∃w,b v=ZA (tm v,w):=λv hv=>by
   obtain⟨d,w,e⟩:=all v hv;refine⟨w,?_⟩
   show b v=ZA ((match b v with|some x=>x.1|none=>0),w)
   rw[e]
  have lc:ig (iS (vr 2)) [ZB,ZA 3] (gN 0) bT (o2 aV (o2 bJ (vr 1) (vr 0)) (cn (.int 0))) [.va (RR cs ls),.va (eL L),.va (eS P),.va (.dct (ns.map en) (dV ns b))]=.ok (.lst ((P.map en).map λt=>match t with|.tup [.int c,.int k] =>.int (tm ⟨c,k⟩)|_=>.non)):=
   yz (ts:=P.map en) (Dt rfl) (az (k:=16) (by rw[NP];exact R.pl)) (by simp) λt ht=>by
    obtain⟨v,hv,rfl⟩:=Oj.mp ht;obtain⟨w,e⟩:=htm v hv;exact aL (t:=eW (tm v,w)) (u:=.int 0) (aL (t:=.dct (ns.map en) (dV ns b)) (u:=en v) rfl rfl (Kf D e)) rfl rfl
  refine⟨ZC,wrap (w:=.tup ((P.map en).map λt=>match t with|.tup [.int c,.int k] =>.int (tm ⟨c,k⟩)|_=>.non)) (cA rfl (begin_ (.inl hr) ?_)),λ_=>(ok.holds R.f.ends htm).Nv,λ_=>rfl⟩
  rw[aE (Z':=[.va (RR cs ls),.va (eL L),.va (eS P),.va (.dct (ns.map en) (dV ns b))]) ((d7 (bf (aL (t:=.dct (ns.map en) (dV ns b)) (u:=.non) rfl rfl rfl))).trans rfl)];exact cX (aU (aq lc rfl) rfl)
def oI(o:Option Int):T:=match o with
 |some x=>.int x
 |none=>.non
def gv(P:List N2)(f:fK N2):List (List T×List T):=P.map λu=>(P.map en,P.map λv=>oI (f u v))
def sV(P:List N2)(f:fK N2):T:=.dct (P.map en) (P.map λu=>.dct (P.map en) (P.map λv=>oI (f u v)))
abbrev i0(P:List N2)(L:cu N2)(f:fK N2)(s3 s4 s5 s6 s7:Sl):En:=[.va (eS P),.va (eL L),.ow (.dd (P.map en) (gv P f)),s3,s4,s5,s6,s7]
abbrev Ie(P:List N2)(L:cu N2)(f:fK N2)(s3 s4 s5 s6 s7:Sl):En:=[.va (eS P),.va (eL L),.va (sV P f),s3,s4,s5,s6,s7]
variable{Z:En}{a b:V5}{s3 s4 s5 s6 s7:Sl}
section
variable {f:fK N2}
def yM(s3 s4 s5 s6 s7:Sl):disown 2 (i0 P L f s3 s4 s5 s6 s7)=Ie P L f s3 s4 s5 s6 s7:=by
 show [Sl.va (eS P),.va (eL L),.va (OT.view (.dd (P.map en) (gv P f))),s3,s4,s5,s6,s7]=_
 have e:OT.view (.dd (P.map en) (gv P f))=sV P f:=by
  show T.dct (P.map en) ((gv P f).map λr=>T.dct r.1 r.2)=_
  unfold gv sV;rw[P7]
  rfl
 rw[e]
variable{c:V5}
def BK{u:N2}(hc:c Z=.ok (sV P f))(ha:a Z=.ok (en u))(hb:b Z=.ok (en v))(hu:u∈P)(hv:v∈P):o2 bJ (o2 bJ c a) b Z=.ok (oI (f u v)):=by
 refine aL (t:=.dct (P.map en) (P.map λw=>oI (f u w))) (u:=en v) (aL (t:=sV P f) (u:=en u) hc ha ?_) hb ?_
 ·show(match n6 (P.map en) (P.map λu=>T.dct (P.map en) (P.map λv=>oI (f u v))) (ky u)with|some t=>Rs.ok t|none=>.bad)=_
  rw[oG (λu=>T.dct (P.map en) (P.map λv=>oI (f u v))),if_pos hu]
 ·show(match n6 (P.map en) (P.map λw=>oI (f u w)) (ky v)with|some t=>Rs.ok t|none=>.bad)=_
  rw[oG (λw=>oI (f u w)),if_pos hv]
def C6{u:N2}(ha:a (Ie P L f s3 s4 s5 s6 s7)=.ok (en u))(hb:b (Ie P L f s3 s4 s5 s6 s7)=.ok (en v))(hu:u∈P)(hv:v∈P):ln 2 (o2 bJ (o2 bJ (vr 2) a) b) (i0 P L f s3 s4 s5 s6 s7)=.ok (oI (f u v)):=
 Gs (o:=.dd (P.map en) (gv P f)) rfl (by rw[yM];exact BK rfl ha hb hu hv) (by cases f u v <;> rfl)
theorem Cc(g:N2->List T×List T)(u:N2):∀(Q:List N2),u∈Q->qL (Q.map en) (Q.map g) (ky u)=ZA (g u)
 |w::Q,h=>by
  rw[NM,NM,qL,bA]
  by_cases e:w=u
  ·subst e;rw[if_pos rfl]
  ·rw[if_neg (λz=>e (i9 z)),Cc g u Q ((NR.mp h).elim (λz=>absurd z.symm e) id)]
theorem Ca(g:N2->List T×List T)(u:N2)(x:List T×List T):∀(Q:List N2),Q.Nodup->qK (ky u) x (Q.map en) (Q.map g)=Q.map λw=>if w=u then x else g w
 |[],_=>rfl
 |w::Q,h=>by
  rw[Oe]at h;rw[NM,NM,qK,bA,NM]
  by_cases e:w=u
  ·subst e
   rw[if_pos rfl,if_pos rfl]
   congr 1
   exact OP λz hz=>by rw[if_neg (λ(y:z=w)=>h.1 (y▸hz))]
  ·rw[if_neg (λz=>e (i9 z)),if_neg e,Ca g u x Q h.2]
def Cq(nd:P.Nodup)(pl:P.length<1000){u:N2}(ha:a (i0 P L f s3 s4 s5 s6 s7)=.ok (en u))(hb:b (i0 P L f s3 s4 s5 s6 s7)=.ok (en v))(hc:c (i0 P L f s3 s4 s5 s6 s7)=.ok (.int x))(hu:u∈P)(hv:v∈P):
  jq 2 a b c (i0 P L f s3 s4 s5 s6 s7)=.ok (.nx (i0 P L (jZ f u v x) s3 s4 s5 s6 s7)):=by
 unfold jq
 show(c (i0 P L f s3 s4 s5 s6 s7) >>= λw=>a (i0 P L f s3 s4 s5 s6 s7) >>= λz=>match(keyOf z).bind λka=>(qL (P.map en) (gv P f) ka).map λr=>(ka,r)with
  |some (ka,r)=>b (i0 P L f s3 s4 s5 s6 s7) >>= λy=>if (keyOf y).isSome=ZC/\r.1.length<1000 then Rs.ok (Fl.nx ((i0 P L f s3 s4 s5 s6 s7).set 2 (.ow (.dd (P.map en) (qK ka (hI y w r.1 r.2) (P.map en) (gv P f))))))else .bad
  |none=>.bad)=_
 rw[hc,ay,ha,ay,bA]
 have e1:qL (P.map en) (gv P f) (ky u)=ZA (P.map en,P.map λv=>oI (f u v)):=Cc (λu=>(P.map en,P.map λv=>oI (f u v))) u P hu
 simp only[Option.bind_some,e1,U8];rw[hb,ay,bA,if_pos ⟨rfl,by rw[NP];exact pl⟩,uU (.int x) v (λv=>oI (f u v)) P nd hv]
 have e2:=Ca (λu=>(P.map en,P.map λv=>oI (f u v))) u (P.map en,P.map λw=>if w=v then T.int x else oI (f u w)) P nd
 have e3:(P.map λw=>if w=u then(P.map en,P.map λw=>if w=v then T.int x else oI (f u w))else(P.map en,P.map λv=>oI (f w v)))=gv P (jZ f u v x):=by
  unfold gv jZ;refine OP λw _=>?_
  by_cases e:w=u
  ·subst e
   rw[if_pos rfl]
   congr 1
   refine OP λz _=>?_
   by_cases h:z=v
   ·rw[if_pos h,if_pos ⟨rfl,h⟩];rfl
   ·rw[if_neg h,if_neg (λq=>h q.2)]
  ·rw[if_neg e]
   congr 1
   exact OP λz _=>by rw[if_neg (λq=>e q.1)]
 show Rs.ok (Fl.nx [.va (eS P),.va (eL L),.ow (.dd (P.map en) (qK (ky u) (P.map en,P.map λw=>if w=v then T.int x else oI (f u w)) (P.map en) (gv P f))),s3,s4,s5,s6,s7])=_
 rw[show qK (ky u) (P.map en,P.map λw=>if w=v then T.int x else oI (f u w)) (P.map en) (gv P f)=gv P (jZ f u v x)from e2.trans e3]
def DD(nd:P.Nodup)(pl:P.length<1000){u:N2}(ha:a (i0 P L f s3 s4 s5 s6 s7)=.ok (en u))(hb:b (i0 P L f s3 s4 s5 s6 s7)=.ok (en v))(ha':a (Ie P L f s3 s4 s5 s6 s7)=.ok (en u))(hb':b (Ie P L f s3 s4 s5 s6 s7)=.ok (en v))(hc:c (i0 P L f s3 s4 s5 s6 s7)=.ok (.int x))(hu:u∈P)(hv:v∈P):
  eZ (nR (tb (o2 jX (ln 2 (o2 bJ (o2 bJ (vr 2) a) b)) (cn .non))) (tb (o2 pP c (ln 2 (o2 bJ (o2 bJ (vr 2) a) b))))) (jq 2 a b c) sN (i0 P L f s3 s4 s5 s6 s7)=.ok (.nx (i0 P L (nZ f u v x) s3 s4 s5 s6 s7)):=by
 have g:=C6 (P:=P) (L:=L) (f:=f) ha' hb' hu hv
 have p:=Cq (P:=P) (L:=L) (f:=f) nd pl ha hb hc hu hv;unfold nZ
 cases q:f u v with
 |none=>
  rw[q]at g
  exact(dS (Ht (bf (aL (t:=.non) (u:=.non) g rfl rfl)))).trans p
 |some y=>
  rw[q]at g
  have c2:tb (o2 pP c (ln 2 (o2 bJ (o2 bJ (vr 2) a) b))) (i0 P L f s3 s4 s5 s6 s7)=.ok (decide (x<y)):=bf (aL (t:=.int x) (u:=.int y) hc g rfl)
  by_cases h:x<y
  ·rw[decide_eq_true h]at c2
   simp only[if_pos h];exact(dS (zK (bf (aL (t:=.int y) (u:=.non) g rfl rfl)) c2)).trans p
  ·rw[decide_eq_false h]at c2
   simp only[if_neg h];exact(d7 (zK (bf (aL (t:=.int y) (u:=.non) g rfl rfl)) c2)).trans rfl
end
theorem wM:∀(P:List N2),nH (P.map en)=ZC
 |[] =>rfl
 |u::P=>by
  have:=wM P;simp[nH,bA,this]
def JF(nd:P.Nodup):((P.map en).map keyOf).Nodup:=by
 rw[P7];exact nd.map _ λa b h e=>h (i9 e)
def Ib(nd:P.Nodup)(pl:P.length<=1000):o7 2 0 [.va (eS P),.va (eL L),.em,.em,.em,.em,.em,.em]=.ok (.nx (i0 P L (λ_ _=>ZB) .em .em .em .em .em)):=by
 show(if (2:Nat)<8/\nH (P.map en)=ZC/\((P.map en).map keyOf).Nodup/\(P.map en).length<=1000 then Rs.ok (Fl.nx [.va (eS P),.va (eL L),.ow (.dd (P.map en) ((P.map en).map λ_=>(P.map en,(P.map en).map λ_=>T.non))),.em,.em,.em,.em,.em])else .bad)=_
 rw[if_pos ⟨by omega,wM P,JF nd,by rw[NP];exact pl⟩,P7,P7]
 rfl
theorem Hi(nd:P.Nodup)(pl:P.length<1000):∀(Q:List N2)(f:fK N2)(s3 s4 s5 s6 s7:Sl),(∀u∈Q,u∈P)->∃s3',
  bx (gN 3) (jq 2 (vr 3) (vr 3) (cn (.int 0))) (Q.map en) (i0 P L f s3 s4 s5 s6 s7)=.ok (.nx (i0 P L (Q.foldl (λf u=>jZ f u u 0) f) s3' s4 s5 s6 s7))
 |[],f,s3,s4,s5,s6,s7,_=>⟨s3,rfl⟩
 |u::Q,f,s3,s4,s5,s6,s7,h=>by
  have hu:=h u NN;rw[NM,dR (Z1:=i0 P L f (.va (en u)) s4 s5 s6 s7) rfl (Cq nd pl (u:=u) (v:=u) (x:=0) rfl rfl rfl hu hu)];exact Hi nd pl Q _ _ _ _ _ _ λw hw=>h w (NJ _ hw)
theorem sg:∀(Q:List N2)(f:fK N2)(u v:N2),Q.foldl (λf u=>jZ f u u 0) f u v=if u∈Q/\u=v then ZA 0 else f u v
 |[],f,u,v=>by rw[if_neg (λh=>nomatch h.1)];rfl
 |w::Q,f,u,v=>by
  rw[U2,sg Q]
  by_cases e:u=v
  ·subst e
   by_cases m:u∈Q
   ·rw[if_pos ⟨m,rfl⟩,if_pos ⟨NJ _ m,rfl⟩]
   ·rw[if_neg (λz=>m z.1)]
    unfold jZ
    by_cases q:u=w
    ·subst q;rw[if_pos ⟨rfl,rfl⟩,if_pos ⟨NN,rfl⟩]
    ·rw[if_neg (λz=>q z.1),if_neg (λz=>(NR.mp z.1).elim q m)]
  ·rw[if_neg (λz=>e z.2),if_neg (λz=>e z.2)]
   unfold jZ;rw[if_neg (λz=>e (z.1.trans z.2.symm))]
def A2(P:List N2):P.foldl (λf u=>jZ f u u 0) (λ_ _=>ZB)=vq P:=by
 funext u v
 rw[sg]
 rfl
theorem Hh(nd:P.Nodup)(pl:P.length<1000):∀(M:cu N2)(f:fK N2)(s3 s4 s5 s6 s7:Sl),(∀x∈M,x.1∈P/\x.2.1∈P)->∃s3' s4' s5',
  bx (gT 3 (eR (gN 3) (eR (gN 4) (eR (gN 5) nI)))) (eZ (nR (tb (o2 jX (ln 2 (o2 bJ (o2 bJ (vr 2) (vr 3)) (vr 4))) (cn .non))) (tb (o2 pP (vr 5) (ln 2 (o2 bJ (o2 bJ (vr 2) (vr 3)) (vr 4)))))) (jq 2 (vr 3) (vr 4) (vr 5)) sN) (M.map eB) (i0 P L f s3 s4 s5 s6 s7)=.ok (.nx (i0 P L (M.foldl (λf x=>nZ f x.1 x.2.1 x.2.2) f) s3' s4' s5' s6 s7))
 |[],f,s3,s4,s5,s6,s7,_=>⟨s3,s4,s5,rfl⟩
 |x::M,f,s3,s4,s5,s6,s7,h=>by
  have hx:=h x NN;rw[NM,dR (Z1:=i0 P L f (.va (en x.1)) (.va (en x.2.1)) (.va (.int x.2.2)) s6 s7) rfl (DD nd pl (u:=x.1) (v:=x.2.1) (x:=x.2.2) rfl rfl rfl rfl rfl hx.1 hx.2)];exact Hh nd pl M _ _ _ _ _ _ λw hw=>h w (NJ _ hw)
def E8(nd:P.Nodup)(pl:P.length<1000){mid one other:N2}(hm:mid∈P)(h1:one∈P)(h2:other∈P)(f:fK N2)(s5 s7:Sl):∃s7',
  KN (i0 P L f (.va (en one)) (.va (en other)) s5 (.va (en mid)) s7)=.ok (.nx (i0 P L (mr mid one other f) (.va (en one)) (.va (en other)) s5 (.va (en mid)) s7')):=by
 have ga:∀s7,ln 2 (o2 bJ (o2 bJ (vr 2) (vr 3)) (vr 6)) (i0 P L f (.va (en one)) (.va (en other)) s5 (.va (en mid)) s7)=.ok (oI (f one mid)):=λs7=>C6 rfl rfl h1 hm
 have gb:∀s7,ln 2 (o2 bJ (o2 bJ (vr 2) (vr 6)) (vr 4)) (i0 P L f (.va (en one)) (.va (en other)) s5 (.va (en mid)) s7)=.ok (oI (f mid other)):=λs7=>C6 rfl rfl hm h2
 unfold mr KN
 cases qa:f one mid with
 |none=>
  have ga:=ga s7;rw[qa]at ga
  exact⟨s7,(d7 (yA (bf (aL (t:=.non) (u:=.non) ga rfl rfl)))).trans rfl⟩
 |some x=>
  have ga:=ga s7;rw[qa]at ga
  have c1:=bf (aL (g:=dw) (t:=.int x) (u:=.non) (fb:=cn .non) ga rfl rfl)
  cases qb:f mid other with
  |none=>
   have gb:=gb s7;rw[qb]at gb
   exact⟨s7,(d7 (qe c1 (bf (aL (t:=.non) (u:=.non) gb rfl rfl)))).trans rfl⟩
  |some y=>
   have gb:=gb s7;rw[qb]at gb;refine⟨.va (.int (x+y)),(dS (qe c1 (bf (aL (t:=.int y) (u:=.non) gb rfl rfl)))).trans ?_⟩
   rw[aE (bW (Z':=i0 P L f (.va (en one)) (.va (en other)) s5 (.va (en mid)) (.va (.int (x+y)))) (aL (t:=.int x) (u:=.int y) ga gb rfl) rfl)];exact DD nd pl (u:=one) (v:=other) (x:=x+y) rfl rfl rfl rfl rfl h1 h2
theorem Hg(nd:P.Nodup)(pl:P.length<1000){mid one:N2}(hm:mid∈P)(h1:one∈P):∀(Q:List N2)(f:fK N2)(s4 s5 s7:Sl),(∀u∈Q,u∈P)->∃s4' s7',
  bx (gN 4) KN (Q.map en) (i0 P L f (.va (en one)) s4 s5 (.va (en mid)) s7)=.ok (.nx (i0 P L (mw mid one Q f) (.va (en one)) s4' s5 (.va (en mid)) s7'))
 |[],f,s4,s5,s7,_=>⟨s4,s7,rfl⟩
 |u::Q,f,s4,s5,s7,h=>by
  have hu:=h u NN;obtain⟨s7',e⟩:=E8 (L:=L) nd pl hm h1 hu f s5 s7;rw[NM,dR (Z1:=i0 P L f (.va (en one)) (.va (en u)) s5 (.va (en mid)) s7) rfl e];exact Hg nd pl hm h1 Q _ _ _ _ λw hw=>h w (NJ _ hw)
theorem Hf(nd:P.Nodup)(pl:P.length<1000){mid:N2}(hm:mid∈P):∀(Q:List N2)(f:fK N2)(s3 s4 s5 s7:Sl),(∀u∈Q,u∈P)->∃s3' s4' s7',
  bx (gN 3) (fH (iS (vr 0)) (gN 4) KN) (Q.map en) (i0 P L f s3 s4 s5 (.va (en mid)) s7)=.ok (.nx (i0 P L (qi mid Q P f) s3' s4' s5 (.va (en mid)) s7'))
 |[],f,s3,s4,s5,s7,_=>⟨s3,s4,s7,rfl⟩
 |u::Q,f,s3,s4,s5,s7,h=>by
  have hu:=h u NN;obtain⟨s4',s7',e⟩:=Hg (L:=L) nd pl hm hu P f s4 s5 s7 λ_ z=>z
  rw[NM,dR (Z1:=i0 P L f (.va (en u)) s4 s5 (.va (en mid)) s7) rfl (fX (ts:=P.map en) rfl e)];exact Hf nd pl hm Q _ _ _ _ _ λw hw=>h w (NJ _ hw)
theorem He(nd:P.Nodup)(pl:P.length<1000):∀(Q:List N2)(f:fK N2)(s3 s4 s5 s6 s7:Sl),(∀u∈Q,u∈P)->∃s3' s4' s6' s7',
  bx (gN 6) (fH (iS (vr 0)) (gN 3) (fH (iS (vr 0)) (gN 4) KN)) (Q.map en) (i0 P L f s3 s4 s5 s6 s7)=.ok (.nx (i0 P L (wX Q P f) s3' s4' s5 s6' s7'))
 |[],f,s3,s4,s5,s6,s7,_=>⟨s3,s4,s6,s7,rfl⟩
 |u::Q,f,s3,s4,s5,s6,s7,h=>by
  have hu:=h u NN;obtain⟨s3',s4',s7',e⟩:=Hf (L:=L) nd pl hu P f s3 s4 s5 s7 λ_ z=>z
  rw[NM,dR (Z1:=i0 P L f s3 s4 s5 (.va (en u)) s7) rfl (fX (ts:=P.map en) rfl e)];exact He nd pl Q _ _ _ _ _ _ λw hw=>h w (NJ _ hw)
def G9(P:List N2)(f:fK N2):Prop:=∀u∈P,∀y,f u u=ZA y->0<=y
def Ic(hd:∀u∈P,∃y,table P L u u=ZA y)(pl:P.length<1000)(s3 s4 s5 s6 s7:Sl):
  ∃t,((G9 P (table P L)/\t=sV P (table P L))\/(¬G9 P (table P L)/\t=.non))/\nP 2 (aR (yD (tb (o2 kN (ig (iS (vr 0)) [ZB,ZA 2] (gN 0) (tb (o2 pP (o2 bJ (o2 bJ (vr 1) (vr 0)) (vr 0)) (cn (.int 0)))) (vr 0)) (fz ai))) (vr 2) (cn .non))) (i0 P L (table P L) s3 s4 s5 s6 s7)=.ok (.rt t):=by
 generalize hf:table P L=f
 rw[hf]at hd
 have lc:ig (iS (vr 0)) [ZB,ZA 2] (gN 0) (tb (o2 pP (o2 bJ (o2 bJ (vr 1) (vr 0)) (vr 0)) (cn (.int 0)))) (vr 0) (Ie P L f s3 s4 s5 s6 s7)=.ok (.lst (((P.map en).filter λt=>P.any λu=>decide (keyOf t=ZA (ky u))&&(match f u u with|some y=>decide (y<0)|none=>ZD)).map id)):=by
  refine Hv (ts:=P.map en) rfl (az (k:=1000) (by rw[NP];omega)) (by simp) λt ht=>?_
  obtain⟨u,hu,rfl⟩:=Oj.mp ht;obtain⟨y,hy⟩:=hd u hu;refine⟨?_,λ_=>rfl⟩
  have e:(P.any λw=>decide (keyOf (en u)=ZA (ky w))&&(match f w w with|some y=>decide (y<0)|none=>ZD))=decide (y<0):=by
   by_cases h:y<0
   ·rw[decide_eq_true h]
    exact RF.mpr ⟨u,hu,by rw[hy];simp[h,bA]⟩
   ·rw[decide_eq_false h,Sh]
    intro w hw
    by_cases q:w=u
    ·subst q;rw[hy];simp[h]
    ·rw[decide_eq_false (λz=>q (i9 ((bA u).symm.trans z)).symm)];simp
  rw[e]
  have g:=BK (P:=P) (f:=f) (u:=u) (v:=u) (Z:=[.va (en u),.va (sV P f)]) (c:=vr 1) (a:=vr 0) (b:=vr 0) rfl rfl rfl hu hu;rw[hy]at g;exact bf (aL (t:=.int y) (u:=.int 0) g rfl rfl)
 rw[Tv]at lc
 generalize hp:(λt=>P.any λu=>decide (keyOf t=ZA (ky u))&&(match f u u with|some y=>decide (y<0)|none=>ZD))=p at lc
 have pu:∀u∈P,∀y,f u u=ZA y->p (en u)=decide (y<0):=by
  intro u hu y hy;rw[<-hp]
  show(P.any λw=>decide (keyOf (en u)=ZA (ky w))&&(match f w w with|some y=>decide (y<0)|none=>ZD))=decide (y<0)
  by_cases h:y<0
  ·rw[decide_eq_true h]
   exact RF.mpr ⟨u,hu,by rw[hy];simp[h,bA]⟩
  ·rw[decide_eq_false h,Sh]
   intro w hw
   by_cases q:w=u
   ·subst q;rw[hy];simp[h]
   ·rw[decide_eq_false (λz=>q (i9 ((bA u).symm.trans z)).symm)];simp
 have iff:(P.map en).filter p=[] ↔G9 P f:=by
  rw[List.filter_eq_nil_iff]
  constructor
  ·intro h u hu y hy
   have:=h (en u) (Oj.mpr ⟨u,hu,rfl⟩);rw[pu u hu y hy]at this
   simpa using this
  ·intro h t ht
   obtain⟨u,hu,rfl⟩:=Oj.mp ht;obtain⟨y,hy⟩:=hd u hu;rw[pu u hu y hy]
   have:=h u hu y hy
   simpa using this
 have nd:nds ((P.map en).filter p)=ZC:=yh λt ht=>by
  obtain⟨u,_,rfl⟩:=Oj.mp (Rc.mp ht).1
  rfl
 have eq:o2 kN (ig (iS (vr 0)) [ZB,ZA 2] (gN 0) (tb (o2 pP (o2 bJ (o2 bJ (vr 1) (vr 0)) (vr 0)) (cn (.int 0)))) (vr 0)) (fz ai) (Ie P L f s3 s4 s5 s6 s7)=.ok (.bl (bo (.lst ((P.map en).filter p)) (.lst []))):=
  aL (u:=.lst []) lc (mn rfl (az (k:=1) (by simp))) (by unfold kN;rw[if_pos (DU (by simp[T.dep,deps]) (by simpa [T.nd]using nd) rfl)])
 by_cases D:G9 P f
 ·refine⟨sV P f,.inl ⟨D,rfl⟩,?_⟩
  rw[iff.mpr D]at eq;refine Dv ?_
  rw[yM];exact cX ((se (p:=ZC) (bf eq)).trans rfl)
 ·refine⟨.non,.inr ⟨D,rfl⟩,?_⟩
  have:(P.map en).filter p≠ []:=λz=>D (iff.mp z)
  cases q:(P.map en).filter p with
  |nil=>exact absurd q this
  |cons a l=>
   rw[q]at eq;refine Dv ?_
   rw[yM];exact cX ((se (p:=ZD) (bf (eq.trans (by simp[bo,beqTs])))).trans rfl)
def GH(nd:P.Nodup)(pl:P.length<1000)(hL:∀x∈L,x.1∈P/\x.2.1∈P):
  ∃t,((nM L/\HG L P (table P L)/\t=sV P (table P L))\/(¬nM L/\t=.non))/\gA [eS P,eL L]=.ok t:=by
 obtain⟨a3,e1⟩:=Hi (L:=L) nd pl P (λ_ _=>ZB) .em .em .em .em .em λ_ z=>z
 rw[A2]at e1;obtain⟨b3,b4,b5,e2⟩:=Hh (L:=L) nd pl L (vq P) a3 .em .em .em .em hL;obtain⟨c3,c4,c6,c7,e3⟩:=He (L:=L) nd pl P (BL P L) b3 b4 b5 .em .em λ_ z=>z
 obtain⟨t,ht,e4⟩:=Ic (P:=P) (L:=L) (λu hu=>let ⟨y,h,_⟩:=oP (L:=L) hu;⟨y,h⟩) pl c3 c4 b5 c6 c7
 refine⟨t,ht.elim (λh=>.inl ?_) (λh=>.inr ⟨λn=>h.1 λu hu y hy=>?_,h.2⟩),cA rfl ?_⟩
 ·have:=vp hL h.1
  exact⟨this.1,this.2,h.2⟩
 ·exact Int.not_lt.mp λz=>As hy z n
 ·show jh [.va (eS P),.va (eL L),.em,.em,.em,.em,.em,.em]=_
  unfold jh;rw[aE (Ib nd (by omega)),aE (fX (ts:=P.map en) rfl e1),aE (fX (ts:=L.map eB) rfl e2)]
  exact(aE (fX (ts:=P.map en) rfl e3)).trans e4
def wy{n:Int}{t:T}(ht:t.pl=ZC)(h:aW t 0 (n - 1)=ZC):cR [.int n,t]=.ok .non:=by
 refine yv (Z:=[.va (.int n),.va t]) rfl ?_
 show ef [.va (.int n),.va t]=_
 unfold ef;exact(d7 (gY (k:=ZC) (bf (aU (ts:=[t,.int 0,.int (n - 1)]) rfl (by rw[fm _ _ _ ht,h]))))).trans rfl
def D5{t:T}(hp:t.pl=ZC)(h:cN t=ZC):c9 [t]=.ok t:=by
 refine cA rfl ?_
 show fZ [.va t]=_
 unfold fZ;rw[aE (rh (t:=.non) (aU (ts:=[t]) rfl (fV hp h)))];exact cX rfl
def D6{t:T}(hp:t.pl=ZC)(h:cN t=ZD):c9 [t]=.err "NoRecord":=by
 refine gW rfl ?_
 show fZ [.va t]=_
 unfold fZ;exact uO (zM (aU (ts:=[t]) rfl (rS hp h)))
def pd(t:T):Rs T:=if cN t then .ok t else .err "NoRecord"
def zY{t:T}(hp:t.pl=ZC):c9 [t]=pd t:=by
 unfold pd
 cases h:cN t with
 |true=>exact D5 hp h
 |false=>exact D6 hp h
variable{f:V5}
def tK{t:T}(h:f Z=pd t):aR f Z=(if cN t then .ok (.rt t)else .err "NoRecord"):=by
 unfold pd at h
 cases q:cN t with
 |true=>rw[q]at h;exact cX h
 |false=>rw[q]at h;exact yw h
def sT{ts:List T}{t:T}(hl:ts.length=n)(h:F (aQ m ts)=(if cN t then .ok (.rt t)else .err "NoRecord")):val n m F ts=pd t:=by
 unfold pd
 cases q:cN t with
 |true=>rw[q]at h;exact cA hl h
 |false=>rw[q]at h;exact gW hl h
def i5{a b:T}(ha:a.pl=ZC)(hb:b.pl=ZC):(T.tup [a,b]).pl=ZC:=by simp[T.pl,plS,ha,hb]
variable{l:List T}
def tQ{m:List T}(h1:(T.tup l).pl=ZC)(h2:(T.tup m).pl=ZC):(T.tup (l++m)).pl=ZC:=by
 rw[fI]at*;exact gj λt ht=>(Og.mp ht).elim (gx h1) (gx h2)
def Good.pls(g:Good cs ls):(T.tup ls).pl=ZC:=by rw[fI];exact gj g.parts.2
def tV{t:T}(hc:(T.tup cs).pl=ZC)(hl:(T.tup ls).pl=ZC)(hn:ls.length<=20)(ht:t.pl=ZC)(ok:cN (RR cs ls)=ZC):dz [RR cs ls,t]=pd (.tup [.tup cs,.tup (ls++[t])]):=by
 refine sT rfl ?_
 show iD [.va (RR cs ls),.va t]=_
 unfold iD;rw[aE (rh (t:=.non) (aU (ts:=[RR cs ls]) rfl (fV (i5 hc hl) ok)))];refine tK (aU (ts:=[.tup [.tup cs,.tup (ls++[t])]]) (aq (ba (aq (t:=.tup cs) rfl (aq (t:=.tup (ls++[t])) (aL (t:=.tup ls) (u:=.tup [t]) rfl (ba rfl (az (k:=1) (by simp))) (fT _ _ (by simp;omega))) rfl)) (az (k:=2) (by simp))) rfl) (zY (i5 hc (tQ hl (by simp[T.pl,plS,ht])))))
variable{g:V5}
def yN(h:f Z=.ok (.tup l))(hg:g Z=.ok (.int n)):sl f pN (pS g) Z=.ok (.tup (l.take n)):=by
 rw[<-kc];exact AV h rfl (wO hg)
def Ki(h:f Z=.ok (.tup l))(hg:g Z=.ok (.int n)):sl f (pS g) pN Z=.ok (.tup (l.drop n)):=by
 rw[<-xi];exact AV h (wO hg) rfl
def uX(h:f Z=.ok (.tup l))(hg:g Z=.ok (.int n)):sl f (pS (o2 aP g (cn (.int 1)))) pN Z=.ok (.tup (l.drop (n+1))):=
 Ki h (aL (t:=.int n) (u:=.int 1) hg rfl rfl)
def tY(l:List T)(n:Nat):List T:=l.take n++l.drop (n+1)
def tW(l:List T)(n:Nat):(tY l n).length<=l.length:=by unfold tY;rw[NT,OS,Qt];omega
def rL(g:Good cs ls)(hn:n<ls.length):cv [RR cs ls,.int n]=.ok (.tup [.tup cs,.tup (tY ls n)]):=by
 have hl:=g.n;refine cA rfl ?_
 show cY [.va (RR cs ls),.va (.int n),.em]=_
 unfold cY;rw[aE (rh (t:=.non) (aU (ts:=[RR cs ls]) rfl (fV g.p g.ok)))];rw[aE (Z':=[.va (RR cs ls),.va (.int n),.va (.tup ls)]) ((bW (t:=.tup ls) rfl rfl))]
 have w:aW (.int n) 0 ((ls.length:Int) - 1)=ZC:=by unfold aW;simp;omega
 rw[aE (rh (t:=.non) (aU (ts:=[.int (ls.length:Int),.int n]) rfl (wy rfl w)))];exact cX (ba (aq (t:=.tup cs) rfl (aq (t:=.tup (tY ls n)) (aL (t:=.tup (ls.take n)) (u:=.tup (ls.drop (n+1))) (yN rfl rfl) (uX rfl rfl) (fT _ _ (by have:=tW ls n;unfold tY at this;omega))) rfl)) (az (k:=2) (by simp)))
def jx(l:List T)(n:Nat)(c:T):List T:=(l.take n++[c])++l.drop (n+1)
def FQ(l:List T)(n:Nat)(c:T):(jx l n c).length<=l.length+1:=by unfold jx;rw[NT,NT,OS,Qt];simp;omega
variable{c:T}
def Cr(h:(T.tup l).pl=ZC)(hc:c.pl=ZC):(T.tup (jx l n c)).pl=ZC:=by
 rw[fI]at*;refine gj λt ht=>?_
 unfold jx at ht;rcases Og.mp ht with ht|ht
 ·rcases Og.mp ht with ht|ht
  ·exact gx h (PN ht)
  ·cases N0.mp ht;exact hc
 ·exact gx h (Te ht)
def Dq{h:V5}(hl:l.length<=100)(hf:f Z=.ok (.tup l))(hg:g Z=.ok (.int n))(hc:h Z=.ok c):
  o2 aP (o2 aP (sl f pN (pS g)) (aK (ae h ai))) (sl f (pS (o2 aP g (cn (.int 1)))) pN) Z=.ok (.tup (jx l n c)):=by
 have:=FQ l n c;refine aL (t:=.tup (l.take n++[c])) (u:=.tup (l.drop (n+1))) (aL (t:=.tup (l.take n)) (u:=.tup [c]) (yN hf hg) (ba (aq hc rfl) (az (k:=1) (by simp))) (fT _ _ (by simp;omega))) (uX hf hg) (fT _ _ (by unfold jx at this;omega))
def v5(g:Good cs ls)(hc:c.pl=ZC):gz [RR cs ls,.int n,c]=pd (.tup [.tup (jx cs n c),.tup ls]):=by
 obtain⟨_,_,h4⟩:=bh g.c;refine sT rfl ?_
 show jc [.va (RR cs ls),.va (.int n),.va c,.em]=_
 unfold jc;rw[aE (Z':=[.va (RR cs ls),.va (.int n),.va c,.va (.tup cs)]) (bW (t:=.tup cs) rfl rfl)];exact tK (aU (ts:=[.tup [.tup (jx cs n c),.tup ls]]) (aq (ba (aq (t:=.tup (jx cs n c)) (Dq (by omega) rfl rfl rfl) (aq (t:=.tup ls) rfl rfl)) (az (k:=2) (by simp))) rfl) (zY (i5 (Cr g.parts.1 hc) g.pls)))
def w_in(h:n<m):aW (.int n) 0 ((m:Int) - 1)=ZC:=by unfold aW;simp;omega
def xk(g:Good cs ls)(hn:n<cs.length):∃(x y:Int)(r:List Int),cs[n]?=ZA (.tup [.int x,.int y,.tup (r.map .int)])/\1<=r.length/\r.length<=4:=by
 obtain⟨hc,_,h4⟩:=bh g.c;obtain⟨x,y,r,e,_,_,h1,h2⟩:=cS (hc _ (Pt hn));exact⟨x,y,r,by rw[N7 hn,e],h1,h2⟩
def qM{x y u:T}{r:List T}(g:Good cs ls)(hn:n<cs.length)(e:cs[n]?=ZA (.tup [x,y,.tup r]))(hr:r.length<=4)(hx:x.pl=ZC)(hy:y.pl=ZC)(hp:(T.tup r).pl=ZC)(hu:u.pl=ZC):
  cW [RR cs ls,.int n,u]=pd (.tup [.tup (jx cs n (.tup [x,y,.tup (r++[u])])),.tup ls]):=by
 refine sT rfl ?_
 show dW [.va (RR cs ls),.va (.int n),.va u,.em]=_
 unfold dW;rw[aE (rh (t:=.non) (aU (ts:=[RR cs ls]) rfl (fV g.p g.ok)))];rw[aE (rh (t:=.non) (aU (ts:=[.int (cs.length:Int),.int n]) rfl (wy rfl (w_in hn))))];rw[aE (Z':=[.va (RR cs ls),.va (.int n),.va u,.va (.tup [x,y,.tup r])]) (bW (t:=.tup [x,y,.tup r]) (iA (n:=n) (l:=cs) rfl rfl e) rfl)];refine tK (aU (ts:=[RR cs ls,.int n,.tup [x,y,.tup (r++[u])]]) (aq rfl (aq rfl (aq (ba (aq (t:=x) rfl (aq (t:=y) rfl (aq (t:=.tup (r++[u])) (aL (t:=.tup r) (u:=.tup [u]) rfl (ba rfl (az (k:=1) (by simp))) (fT _ _ (by simp;omega))) rfl))) (az (k:=3) (by simp))) rfl))) (v5 g ?_))
 have:=tQ hp (m:=[u]) (by simp[T.pl,plS,hu])
 simp[T.pl,plS,hx,hy]at this ⊢;exact this
def mB(h:∀t∈l,t.dep<=n):(T.tup l).dep<=n+1:=by unfold T.dep;have:=z9 h;omega
def Bc(h:bw c=ZC):c.dep<=2:=by
 obtain⟨x,y,r,rfl,_⟩:=cS h;refine mB λt ht=>?_
 simp only[NR,Pk,or_false]at ht;rcases ht with rfl|rfl|rfl
 ·simp[T.dep]
 ·simp[T.dep]
 ·exact mB (n:=0) λt ht=>by obtain⟨i,_,rfl⟩:=Oj.mp ht;simp[T.dep]
def yq{t:T}(h:bq cs t=ZC):t.dep<=2:=by
 obtain⟨a,b,x,y,rfl,hd,ha,hb,_⟩:=dj h;obtain⟨m1,m2⟩:=LL h
 have:=(HA ha).2
 have:=(HA hb).2
 have hx:x.dep<=2:=by
  unfold dD at hd;rw[NL]at hd;obtain⟨i,rfl,_⟩:=cg hd.1;simp[T.dep]
 unfold T.dep deps deps deps deps deps;obtain⟨a',b',mo,le,e,_⟩:=jT h;cases e;simp only[T.dep];omega
def zg(g:Good cs ls):(T.tup cs).dep<=3/\(T.tup ls).dep<=3:=⟨mB λt ht=>Bc ((bh g.c).1 t ht),mB λt ht=>yq (g.l t ht)⟩
def zf(h:cN (RR cs ls)=ZC)(hp:(RR cs ls).pl=ZC):Good cs ls:=by
 have h':(a7 (.tup cs)&&(d6 (.tup ls) 0 8&&ls.all (bq cs)))=ZC:=h;rw[NL,NL,Ob]at h';exact⟨h'.1,h'.2.2,by have:=h'.2.1;simp[d6]at this;exact this,hp⟩
end G
namespace G
open PySem Tr Gr
theorem CY:∀{l:List T},(∀t∈l,t.nk D=ZC)->nks D l=ZC
 |[],_=>rfl
 |t::l,h=>by unfold nks;rw[h t (.head _),CY λu hu=>h u (.tail _ hu)];rfl
def mU{l:List T}(h:∀t∈l,t.nk D=ZC):(T.tup l).nk D=ZC:=by unfold T.nk;exact CY h
def Er{c:T}(h:bw c=ZC):c.nk ZD=ZC:=by
 obtain⟨x,y,r,rfl,_⟩:=cS h;refine mU λt ht=>?_
 simp at ht
 rcases ht with rfl|rfl|rfl
 ·rfl
 ·rfl
 ·exact mU λu hu=>by obtain⟨k,_,rfl⟩:=Oj.mp hu;rfl
variable{cs:List T}
def w4{t:T}(h:aX cs t=ZC):t.nk ZD=ZC:=by
 obtain⟨c,k,rfl⟩:=cb h;rfl
def AQ{t:T}(h:bq cs t=ZC):t.nk ZD=ZC:=by
 obtain⟨a,b,x,y,rfl,hd,ha,hb,_⟩:=dj h;unfold dD at hd;rw[NL]at hd;obtain⟨i,rfl,_⟩:=cg hd.1;refine mU λt ht=>?_
 simp at ht
 rcases ht with rfl|rfl|rfl|rfl
 ·exact w4 ha
 ·exact w4 hb
 ·rfl
 ·have:=hd.2
  cases t <;> first|rfl|simp[aW]at this
def GR(r:T):Prop:=∃cs ls,r=RR cs ls/\Good cs ls
variable{r:T}
def GR.pl(h:GR r):r.pl=ZC:=by obtain⟨cs,ls,rfl,g⟩:=h;exact g.p
def GR.nk(h:GR r):r.nk ZD=ZC:=by
 obtain⟨cs,ls,rfl,g⟩:=h;refine mU λt ht=>?_
 simp at ht
 rcases ht with rfl|rfl
 ·exact mU λc hc=>Er ((bh g.c).1 c hc)
 ·exact mU λu hu=>AQ (g.l u hu)
def GR.dep(h:GR r):r.dep<=4:=by
 obtain⟨cs,ls,rfl,g⟩:=h;refine mB λt ht=>?_
 simp at ht
 rcases ht with rfl|rfl
 ·exact(zg g).1
 ·exact(zg g).2
def GR.hw(h:GR r):∃b,b7 [r]=.ok (.bl b):=by
 obtain⟨cs,ls,rfl,g⟩:=h;obtain⟨L,P,R⟩:=vR g;obtain⟨b,e,_⟩:=R.Ny;exact⟨b,e⟩
variable{ls:List T}
def GR.of(hp:(RR cs ls).pl=ZC)(h:cN (RR cs ls)=ZC):GR (RR cs ls):=⟨cs,ls,rfl,zf h hp⟩
def wR(l:List T)(z:T):aV (.lst (l++[z])) (.int (-1))=.ok z:=by
 have:=uQ l z;exact this
def fY(r:T):Bool:=match b7 [r]with
 |.ok (.bl b)=>b
 |_=>ZD
def GR.has(h:GR r):b7 [r]=.ok (.bl (fY r)):=by
 obtain⟨b,e⟩:=h.hw;unfold fY;rw[e]
def DE{L:cu N2}{P:List N2}(R:Rd cs ls L P):fY (RR cs ls)=ZC↔nM L:=by
 obtain⟨b,e,h⟩:=R.Ny;unfold fY;rw[e];exact h
def GR.ne(h:GR r):pM r r=.ok (.bl ZD):=i6 h.pl (by have:=h.dep;omega)
def GR.Nj(h:GR r):di [r]=.ok (.bl (fY r)):=by
 obtain⟨cs,ls,rfl,g⟩:=h;obtain⟨L,P,R⟩:=vR g;obtain⟨t,ht,e⟩:=GH R.nd (by have:=R.e;have:=congrArg O0 this;have h2:=oE cs 0 (bh g.c).1;have h3:=(bh g.c).2.2;simp at this;omega) R.f.ends
 refine cA rfl (cX (aL (t:=t) (u:=.non) (aU (ts:=[eS P,eL L]) (aq (aU (ts:=[.tup cs]) (aq (iA (n:=0) (l:=[.tup cs,.tup ls]) rfl rfl rfl) rfl) (by rw[qr cs g.c,R.e];rfl)) (aq (aU (ts:=[RR cs ls]) rfl (by rw[A4 g.c g.l g.n,R.b];rfl)) rfl)) e) rfl ?_))
 show Rs.ok (T.bl (!t.isN))=_
 rcases ht with⟨n,_,rfl⟩|⟨n,rfl⟩
 ·rw[(DE R).mpr n];rfl
 ·have:fY (RR cs ls)=ZD:=by
   cases hb:fY (RR cs ls)
   ·rfl
   ·exact absurd ((DE R).mp hb) n
  rw[this];rfl
def GR.nw(h:GR r)(hw:fY r=ZC):cI [r]=.ok .non:=by
 refine yv rfl (Z:=[.va r]) ?_
 show ft [.va r]=_
 unfold ft;exact(d7 (gY (k:=ZC) (bf (aU (ts:=[r]) rfl (by rw[h.has,hw]))))).trans rfl
def GR.nwe(h:GR r)(hw:fY r=ZD):cI [r]=.err "NoWorld":=by
 refine gW rfl ?_
 show ft [.va r]=_
 unfold ft;exact(dS (gY (k:=ZD) (bf (aU (ts:=[r]) rfl (by rw[h.has,hw]))))).trans rfl
variable{Z:En}{c:Str}
def Gu{f:V5}{fs:V3}{t:T}(h:f Z=.ok t)(hs:fs Z=.err c):ae f fs Z=.err c:=by unfold ae;rw[h,ay,hs];rfl
def F9(hp:r.pl=ZC)(h:cN r=ZD):cI [r]=.err "NoRecord":=by
 have hb:iQ [r]=.err "NoRecord":=gW rfl (uO (zM (aU (ts:=[r]) rfl (rS hp h))))
 have hw:ml [r]=.err "NoRecord":=gW rfl (yw (Me (Gu (t:=r) rfl (zN (aU (ts:=[r]) rfl hb)))))
 have hh:b7 [r]=.err "NoRecord":=gW rfl (yw (L3 (aU (ts:=[r]) rfl hw)));exact gW rfl (JT (JO (L0 (aU (ts:=[r]) rfl hh))))
abbrev DK(K:List T):OT:=.ob "Desk" ["kept"] [K]
abbrev DV(K:List T):T:=.ob "Desk" ["kept"] [.lst K]
def uS(K:α):my "kept" ["kept"] [K]=ZA K:=by unfold my;rw[if_pos rfl]
def CJ(K Q:List T):lD "kept" Q ["kept"] [K]=[Q]:=by unfold lD;rw[if_pos rfl]
def GK(h:GR r)(hw:fY r=ZC):dy [.ow (.ob "Desk" [] []),.va r]=.ok (.non,DK [r]):=by
 refine ou (Z:=[.ow (DK [r]),.va r]) rfl ?_ rfl
 show gq [.ow (.ob "Desk" [] []),.va r]=_
 unfold gq;refine p8 (Z':=[.ow (.ob "Desk" [] []),.va r]) (wQ (t:=.non) (JJ (aU (ts:=[r]) rfl (h.nw hw)))) ?_
 exact(JR (c:="Desk") (ns:=[]) (ls:=[]) (l:=[r]) rfl rfl (by simp) (by simp)).trans rfl
def Ms(K:List T)(r:T):aZ [DV (K++[r])]=.ok r:=
 cA rfl (cX (aL (Hw (ns:=["kept"]) (ts:=[.lst (K++[r])]) rfl (uS _)) (Gj rfl rfl) (wR K r)))
variable{F:En->Rs (T ⊕ OT)}{X:V5}{g:List Sl->Rs (T×OT)}{hh:Str->Rs T}{ts:List T}
section
variable {K:List T}{r' t:T}
def fh(hi:Z[i]?=ZA (.ow (DK (K++[r]))))(h:GR r):ln i (wB "Desk" "record" aZ (vr i) ai) Z=.ok r:=by
 have hl:i<Z.length:=(NU.mp hi).1
 refine Gs hi (Hu (c:="Desk") (ns:=["kept"]) (ts:=[.lst (K++[r])]) (Dn ?_) (by decide) rfl (Ms K r)) h.nk
 unfold disown;rw[hi];simp[hl];rfl
def D2(h:GR r)(hw:fY r=ZC)(hl:K.length<=1000):bR [.ow (DK K),.va r]=.ok (.non,DK (K++[r])):=by
 refine ou (Z:=[.ow (DK (K++[r])),.va r]) rfl ?_ rfl
 show gf [.ow (DK K),.va r]=_
 unfold gf;refine p8 (Z':=[.ow (DK K),.va r]) ((zL (k:=ZD) (gY (k:=ZC) (bf (aU (ts:=[r]) rfl (by rw[h.has,hw]))))).trans rfl) ?_
 exact wQ (t:=.non) ((JL (ns:=["kept"]) (ls:=[K]) (l:=K) (t:=r) rfl (uS _) rfl hl).trans (by rw[CJ];rfl))
def zX(h:GR r)(hw:fY r=ZD):bR [.ow (DK K),.va r]=.err "Barred":=by
 refine fS rfl ?_
 show gf [.ow (DK K),.va r]=_
 unfold gf;exact ij ((zL (k:=ZC) (gY (k:=ZD) (bf (aU (ts:=[r]) rfl (by rw[h.has,hw]))))).trans rfl)
def J6(h:GR r)(hx:dz [r,t]=.ok (RR cs ls))(h':GR (RR cs ls))(hw:fY (RR cs ls)=ZC)(hl:(K++[r]).length<=1000):
  eO [.ow (DK (K++[r])),.va t]=.ok (.int ((ls.length:Int) - 1),DK (K++[r] ++[RR cs ls])):=by
 refine uN (Z:=[.ow (DK (K++[r] ++[RR cs ls])),.va t]) rfl ?_ rfl
 show gd [.ow (DK (K++[r])),.va t]=_
 unfold gd;refine p8 (wQ (kD (c:="Desk") (ns:=["kept"]) (ls:=[K++[r]]) (ts:=[RR cs ls]) rfl (by decide) (aq (aU (aq (fh rfl h) rfl) hx) rfl) (D2 h' hw hl))) ?_
 exact mZ (JJ (aL (t:=.int (ls.length:Nat)) (u:=.int 1) (aU (ts:=[.tup ls]) (aq (iA (n:=1) (l:=[.tup cs,.tup ls]) (fh (K:=K++[r]) rfl h') rfl rfl) rfl) rfl) rfl rfl))
def GG(h:GR r)(hx:dz [r,t]=.ok r')(h':GR r')(hw:fY r'=ZD):eO [.ow (DK (K++[r])),.va t]=.err "Barred":=by
 refine fS rfl ?_
 show gd [.ow (DK (K++[r])),.va t]=_
 unfold gd;exact ij (uP (gV (c:="Desk") (ns:=["kept"]) (ls:=[K++[r]]) (ts:=[r']) rfl (by decide) (aq (aU (aq (fh rfl h) rfl) hx) rfl) (zX h' hw)))
def Gm{fs:V3}{o:OT}(h:fs Z=.ok ts)(hg:g (.ow (.ob c [] [])::ts.map Sl.va)=.ok (.non,o)):k8 c g fs Z=.ok (.inr o):=by unfold k8;rw[h,ay,hg];rfl
def Ds{d:Str}{fs:V3}(h:fs Z=.ok ts)(hg:g (.ow (.ob c [] [])::ts.map Sl.va)=.err d):k8 c g fs Z=.err d:=by unfold k8;rw[h,ay,hg];rfl
def JP{v:T ⊕ OT}(h:F Z=.ok v):wA F hh Z=.ok v:=by unfold wA;rw[h]
def Gk(h:F Z=.err c)(hc:hh c=.ok t):wA F hh Z=.ok (.inl t):=by unfold wA;rw[h];dsimp only;rw[hc]
def r0:jb "NoRecord" =.ok (dv 0):=by unfold jb;rw[if_pos rfl]
def r2:jb "NoNumber" =.ok (dv 2):=by unfold jb;rw[if_neg (by decide),if_neg (by decide),if_pos rfl]
def r3:jb "NoWorld" =.ok (dv 3):=by unfold jb;rw[if_neg (by decide),if_neg (by decide),if_neg (by decide),if_pos rfl]
def r4:jb "Barred" =.ok (dv 4):=by unfold jb;rw[if_neg (by decide),if_neg (by decide),if_neg (by decide),if_neg (by decide),if_pos rfl]
def r5:jb "Nothing" =.ok (dv 5):=by unfold jb;rw[if_neg (by decide),if_neg (by decide),if_neg (by decide),if_neg (by decide),if_neg (by decide),if_pos rfl]
def D7(h:cI [r]=.err c):dy [.ow (.ob "Desk" [] []),.va r]=.err c:=
 fS rfl (ij (uP (LY (aU (ts:=[r]) rfl h))))
def GO(h:GR r)(hw:fY r=ZC):bB [r]=.ok (.inr (DK [r])):=by
 unfold bB xF;rw[if_pos (show [r].length=1 from rfl)]
 exact JP (Gm (ts:=[r]) rfl (GK h hw))
def w8(h:cI [r]=.err c)(hc:jb c=.ok t):bB [r]=.ok (.inl t):=by
 unfold bB xF;rw[if_pos (show [r].length=1 from rfl)]
 exact Gk (Ds (ts:=[r]) rfl (D7 h)) hc
def J9(K:List T):de [DV K]=.ok (.int ((K.length:Int) - 1)):=
 cA rfl (cX (aL (aU (ts:=[.lst K]) (aq (Hw (ns:=["kept"]) (ts:=[.lst K]) rfl (uS _)) rfl) rfl) rfl rfl))
def yy(hi:Z[i]?=ZA (.ow (DK K))):ln i (wB "Desk" "many" de (vr i) ai) Z=.ok (.int ((K.length:Int) - 1)):=by
 have hl:i<Z.length:=(NU.mp hi).1
 refine Gs hi (Hu (c:="Desk") (ns:=["kept"]) (ts:=[.lst K]) (Dn ?_) (by decide) rfl (J9 K)) rfl
 unfold disown;rw[hi];simp[hl];rfl
def D1(hi:Z[0]?=ZA (.ow (DK K)))(hx:X Z=.ok r')(h:GR r')(hw:fY r'=ZC)(hl:K.length<=1000):xy (c8 0 "Desk" "keep" bR (ae X ai)) Z=.ok (.nx (Z.set 0 (.ow (DK (K++[r']))))):=
 wQ (kD (c:="Desk") (ns:=["kept"]) (ls:=[K]) (ts:=[r']) hi (by decide) (aq hx rfl) (D2 h hw hl))
def zW(hi:Z[0]?=ZA (.ow (DK K)))(hx:X Z=.ok r')(h:GR r')(hw:fY r'=ZD):xy (c8 0 "Desk" "keep" bR (ae X ai)) Z=.err "Barred" :=
 uP (gV (c:="Desk") (ns:=["kept"]) (ls:=[K]) (ts:=[r']) hi (by decide) (aq hx rfl) (zX h hw))
def oF(hi:Z[0]?=ZA (.ow (DK K)))(hx:X Z=.err c):xy (c8 0 "Desk" "keep" bR (ae X ai)) Z=.err c:=
 uP (Di (c:="Desk") (ns:=["kept"]) (ls:=[K]) hi (by decide) (zN hx))
end
end G
namespace G
open PySem Tr Gr
def Kj:T->T
 |.tup [x,y,.tup r] =>.tup [x,y,.tup (r.take 2)]
 |t=>t
def Ba{c:T}(h:bw c=ZC):bw (Kj c)=ZC:=by
 obtain⟨x,y,r,rfl,_⟩:=cS h
 have h':(nQ (.int x) (.int y)&&cO (.tup (r.map .int)))=ZC:=h;rw[NL]at h'
 show(nQ (.int x) (.int y)&&cO (.tup ((r.map .int).take 2)))=ZC
 rw[h'.1,QL]
 have hr:=h'.2;unfold cO at hr ⊢;rw[NL]at hr;obtain⟨h1,h2⟩:=hr
 have h2':(((r.map T.int).all λu=>aW u 0 99)&&(match kL (r.map .int)with|some m=>nC m|none=>ZD))=ZC:=h2
 rw[NL,jK,Ob]at h2'
 show(d6 (.tup ((r.map T.int).take 2)) 1 4&&((((r.map T.int).take 2).all λu=>aW u 0 99)&&(match kL ((r.map .int).take 2)with|some m=>nC m|none=>ZD)))=ZC
 have h1':(decide (1<=(r.map T.int).length)&&decide ((r.map T.int).length<=4))=ZC:=h1;rw[NL]at h1'
 have e1:=of_decide_eq_true h1'.1
 have e2:=of_decide_eq_true h1'.2
 have hl:d6 (.tup ((r.map T.int).take 2)) 1 4=ZC:=by
  show(decide (1<=((r.map T.int).take 2).length)&&decide (((r.map T.int).take 2).length<=4))=ZC
  rw[OS,NL];exact⟨decide_eq_true (by omega),decide_eq_true (by omega)⟩
 rw[hl,QL,NL,Ob,<-T1,jK];refine⟨λu hu=>h2'.1 u (by rw[T1]at hu;exact PN hu),?_⟩
 match r,h2'.2 with
 |[],_=>rfl
 |[a],_=>rfl
 |a::b::r,q=>
  show nC [a,b]=ZC
  have q:nC (a::b::r)=ZC:=q;rw[Fo,NL]at q;rw[Fo,q.1];rfl
variable{cs:List T}{x:T}
theorem yI{cs':List T}(hx:aX cs x=ZC):∀{l:List T},(∀t∈l,aX cs' t=ZC)->fE x l=ZC->x∈l
 |[],_,h=>by cases h
 |t::l,hl,h=>by
  unfold fE at h;rw[P5,RP]at h;rcases h with h|h
  ·obtain⟨c,k,rfl⟩:=cb hx
   obtain⟨d,m,rfl⟩:=cb (hl t (.head _))
   have h':((d == c)&&((m == k)&&ZC))=ZC:=h;rw[TZ,NL]at h';rw[eq_of_beq h'.1,eq_of_beq h'.2];exact .head _
  ·exact .tail _ (yI hx (λu hu=>hl u (.tail _ hu)) h)
def Hy{cs':List T}{l:List T}(hx:aX cs x=ZC)(hl:∀t∈l,aX cs' t=ZC):AZ x (.lst l)=.ok (.bl (fE x l)):=by
 obtain⟨c,k,rfl⟩:=cb hx
 show(if _ then _ else _)=_
 have:(T.lst l).nd=ZC:=by
  unfold T.nd;exact yh λt ht=>by obtain⟨d,m,rfl⟩:=cb (hl t ht);rfl
 rw[if_pos ⟨.inl (by simp[T.dep,deps]),rfl,this⟩]
abbrev smK(l:List T)(t:T):Bool:=match t with
 |.tup [a,b,_,_] =>fE a l&&fE b l
 |_=>ZD
abbrev lF(cs:List T):List T:=(cs.take 2).map Kj
abbrev ls2(cs ls:List T):List T:=ls.filter (smK (d9 0 (lF cs)))
section
variable {ls:List T}
def Em(h:a7 (.tup cs)=ZC):a7 (.tup (lF cs))=ZC:=by
 obtain⟨ha,h1,h4⟩:=bh h
 show(d6 (.tup (lF cs)) 1 4&&(lF cs).all bw)=ZC
 rw[NL,Ob];refine⟨?_,λc hc=>?_⟩
 ·show(decide (1<=(lF cs).length)&&decide ((lF cs).length<=4))=ZC
  rw[NP,OS,NL];exact⟨decide_eq_true (by omega),decide_eq_true (by omega)⟩
 ·obtain⟨d,hd,rfl⟩:=Oj.mp hc
  exact Ba (ha d (PN hd))
def Jz(g:Good cs ls):∀t∈ls2 cs ls,bq (lF cs) t=ZC:=λt ht=>by
 obtain⟨h1,h2⟩:=Rc.mp ht;obtain⟨a,b,x,y,rfl,hd,ha,hb,hn⟩:=dj (g.l t h1)
 have h2':(fE a (d9 0 (lF cs))&&fE b (d9 0 (lF cs)))=ZC:=h2;rw[NL]at h2'
 have e1:=nJ (yI ha (λu hu=>nJ hu) h2'.1)
 have e2:=nJ (yI hb (λu hu=>nJ hu) h2'.2)
 show(dD x y&&(aX (lF cs) a&&(aX (lF cs) b&& !bo a b)))=ZC
 rw[hd,e1,e2,hn];rfl
def BV(g:Good cs ls):GR (RR (lF cs) (ls2 cs ls)):=by
 have hp:(RR (lF cs) (ls2 cs ls)).pl=ZC:=by
  refine i5 ?_ (by rw[fI];exact gj λt ht=>g.parts.2 t (Rc.mp ht).1)
  rw[fI];refine gj λt ht=>?_
  obtain⟨d,hd,rfl⟩:=Oj.mp ht;obtain⟨x,y,r,rfl,_⟩:=cS ((bh g.c).1 d (PN hd))
  show(T.tup [.int x,.int y,.tup ((r.map .int).take 2)]).pl=ZC
  rw[<-T1,fI]
  have:(T.tup ((r.take 2).map .int)).pl=ZC:=by rw[fI];exact gj λt ht=>by obtain⟨k,_,rfl⟩:=Oj.mp ht;rfl
  exact gj λu hu=>by
   simp only[NR,Pk,or_false]at hu;rcases hu with rfl|rfl|rfl
   ·rfl
   ·rfl
   ·exact this
 exact⟨_,_,rfl,Em g.c,Jz g,OB (List.length_filter_le _ _) g.n,hp⟩
def GI(g:Good cs ls):gB [RR cs ls]=.ok (RR (lF cs) (ls2 cs ls)):=by
 obtain⟨ha,h1,h4⟩:=bh g.c;refine cA rfl ?_
 show ji [.va (RR cs ls),.em,.em]=_
 unfold ji
 have hc:ig (iS (sl (o2 aV (vr 0) (cn (.int 0))) pN (pS (cn (.int 2))))) [ZB] (gN 0) bT (o2 aP (sl (vr 0) pN (pS (cn (.int 2)))) (aK (ae (sl (o2 aV (vr 0) (cn (.int 2))) pN (pS (cn (.int 2)))) ai))) [.va (RR cs ls),.em,.em]=.ok (.lst (lF cs)):=by
  refine yz (ts:=cs.take 2) (h:=Kj) (L9 ?_) (by unfold sizeLine;rw[OS];omega) (by simp) λc hc=>?_
  ·rw[AV (l:=cs) (lo:=ZB) (hi:=ZA ((2:Nat):Int)) (iA (n:=0) (l:=[.tup cs,.tup ls]) rfl rfl rfl) rfl (wO rfl),kc]
  ·obtain⟨x,y,r,rfl,_,_,_,hr4⟩:=cS (ha c (PN hc))
   refine aL (t:=.tup [.int x,.int y]) (u:=.tup [.tup ((r.map .int).take 2)]) ?_ (ba (aq ?_ rfl) (az (k:=1) (by simp))) (fT _ _ (by simp))
   ·exact(AV (l:=[.int x,.int y,.tup (r.map .int)]) (lo:=ZB) (hi:=ZA ((2:Nat):Int)) rfl rfl (wO rfl)).trans (by rw[kc];rfl)
   ·rw[AV (l:=r.map .int) (lo:=ZB) (hi:=ZA ((2:Nat):Int)) (iA (n:=2) (l:=[.int x,.int y,.tup (r.map .int)]) rfl rfl rfl) rfl (wO rfl),kc]
 rw[aE (Z':=[.va (RR cs ls),.va (.tup (lF cs)),.em]) (bW (t:=.tup (lF cs)) (aU (ts:=[.lst (lF cs)]) (aq hc rfl) rfl) rfl)];rw[aE (Z':=[.va (RR cs ls),.va (.tup (lF cs)),.va (.lst (d9 0 (lF cs)))]) (bW (aU (ts:=[.tup (lF cs)]) rfl (qr _ (Em g.c))) rfl)]
 have hl:ig (iS (o2 aV (vr 0) (cn (.int 1)))) [ZB,ZA 2] (gN 0) (lI (tb (o2 AZ (o2 aV (vr 0) (cn (.int 0))) (vr 1))) (tb (o2 AZ (o2 aV (vr 0) (cn (.int 1))) (vr 1)))) (vr 0) [.va (RR cs ls),.va (.tup (lF cs)),.va (.lst (d9 0 (lF cs)))]=.ok (.lst (ls2 cs ls)):=by
  refine(Hv (ts:=ls) (p:=smK (d9 0 (lF cs))) (h:=id) (L9 (iA (n:=1) (l:=[.tup cs,.tup ls]) rfl rfl rfl)) (by have:=g.n;unfold sizeLine;omega) (by simp) λt ht=>?_).trans (by rw[Tv])
  obtain⟨a,b,x,y,rfl,hd,h1,h2,hn⟩:=dj (g.l t ht);refine⟨?_,λ_=>rfl⟩
  have c1:tb (o2 AZ (o2 aV (vr 0) (cn (.int 0))) (vr 1)) [.va (.tup [a,b,x,y]),.va (.lst (d9 0 (lF cs)))]=.ok (fE a (d9 0 (lF cs))):=bf (aL (iA (n:=0) (l:=[a,b,x,y]) rfl rfl rfl) rfl (Hy h1 λu hu=>nJ hu))
  have c2:tb (o2 AZ (o2 aV (vr 0) (cn (.int 1))) (vr 1)) [.va (.tup [a,b,x,y]),.va (.lst (d9 0 (lF cs)))]=.ok (fE b (d9 0 (lF cs))):=bf (aL (iA (n:=1) (l:=[a,b,x,y]) rfl rfl rfl) rfl (Hy h2 λu hu=>nJ hu))
  show(lI _ _ _)=.ok (fE a (d9 0 (lF cs))&&fE b (d9 0 (lF cs)))
  cases hq:fE a (d9 0 (lF cs))with
  |true=>rw[hq]at c1;exact qe c1 c2
  |false=>rw[hq]at c1;exact yA c1
 exact cX (ba (aq rfl (aq (aU (ts:=[.lst (ls2 cs ls)]) (aq hl rfl) rfl) rfl)) (az (k:=2) (by simp)))
end
end G
variable{n:Int}
namespace G
open PySem Tr Gr
def rV{t:T}(ht:t.pl=ZC)(h:aW t 0 (n - 1)=ZD):cR [.int n,t]=.err "NoNumber":=by
 refine gW rfl ?_
 show ef [.va (.int n),.va t]=_
 unfold ef;exact(dS (gY (k:=ZD) (bf (aU (ts:=[t,.int 0,.int (n - 1)]) rfl (by rw[fm _ _ _ ht,h]))))).trans rfl
variable{cs ls:List T}
def x9(g:Good cs ls)(hn:aW (.int n) 0 ((ls.length:Int) - 1)=ZD):cv [RR cs ls,.int n]=.err "NoNumber":=by
 refine gW rfl ?_
 show cY [.va (RR cs ls),.va (.int n),.em]=_
 unfold cY;rw[aE (rh (t:=.non) (aU (ts:=[RR cs ls]) rfl (fV g.p g.ok)))];rw[aE (Z':=[.va (RR cs ls),.va (.int n),.va (.tup ls)]) ((bW (t:=.tup ls) rfl rfl))];exact uO (zM (aU (ts:=[.int (ls.length:Int),.int n]) rfl (rV rfl hn)))
def v3{u:T}(g:Good cs ls)(hn:aW (.int n) 0 ((cs.length:Int) - 1)=ZD):cW [RR cs ls,.int n,u]=.err "NoNumber":=by
 refine gW rfl ?_
 show dW [.va (RR cs ls),.va (.int n),.va u,.em]=_
 unfold dW;rw[aE (rh (t:=.non) (aU (ts:=[RR cs ls]) rfl (fV g.p g.ok)))];exact uO (zM (aU (ts:=[.int (cs.length:Int),.int n]) rfl (rV rfl hn)))
abbrev NE(R:T)(ask:Nat)(S:T)(cs ls t n u f8 f9 f10 f11:Sl):En:=[.va R,.va (.int (ask:Nat)),.va S,cs,ls,t,n,u,f8,f9,f10,f11]
abbrev NF(cs ls:List T)(ask:Nat)(t:T)(n u:Int)(f8 f9 f10 f11:Sl):En:=NE (RR cs ls) ask (.tup [t,.int n,.int u]) (.va (.tup cs)) (.va (.tup ls)) (.va t) (.va (.int n)) (.va (.int u)) f8 f9 f10 f11
abbrev Ky(o:OT)(ask:Nat)(t:T)(n u:Int):En:=[.ow o,.va (.int (ask:Nat)),.va (.tup [t,.int n,.int u]),.em]
variable{Z:En}
def chI{fa fb fc:V5}{z:Int}(ha:fa Z=.ok (.int x))(hb:fb Z=.ok (.int y))(hc:fc Z=.ok (.int z)):ch Bq pP fa fb fc Z=.ok (.bl (decide (x<=y)&&decide (y<z))):=by
 unfold ch;rw[ha,ay,hb,ay]
 show((Rs.ok (T.bl (decide (x<=y))):Rs T) >>= _)=_
 rw[ay]
 by_cases h0:x<=y
 ·rw[decide_eq_true h0,QL]
  show(fc Z >>= _)=_
  rw[hc,ay];rfl
 ·rw[decide_eq_false h0,Bool.false_and]
def DB:(decide ((0:Int)<=n)&&decide (n<(m:Nat)))=aW (.int n) 0 ((m:Int) - 1):=by
 show _=(decide (0<=n)&&decide (n<=(m:Int) - 1))
 rw[show decide (n<((m:Nat):Int))=decide (n<=(m:Int) - 1)from decide_eq_decide.mpr (by omega)]
variable{f:V6}
def p9{F G':En->Rs Fx}{z:Rs Fx}(h:f Z=.ok ZC)(h2:F Z=z)(hz:MJ z=z):pO f F G' Z=z:=by unfold pO;rw[h];show MJ (F Z)=_;rw[h2];exact hz
def iB{F G':En->Rs Fx}(h:f Z=.ok ZD):pO f F G' Z=G' Z:=by unfold pO;rw[h];rfl
def Dj{x y:En->Rs (T×En)}(h:f Z=.ok ZC):E5 f x y Z=x Z:=by unfold E5;rw[h];rfl
def Dk{x y:En->Rs (T×En)}(h:f Z=.ok ZD):E5 f x y Z=y Z:=by unfold E5;rw[h];rfl
variable{c:Str}{o':OT}{v:T}
section
variable {t:T}{u:Int}
def za{o:OT}(h:tdB (Ky o ask t n u)=.ok (.rt v (Ky o' ask t n u))):bz [.ow o,.va (.int (ask:Nat)),.va (.tup [t,.int n,.int u])]=.ok (v,o'):=uN (Z:=Ky o' ask t n u) rfl (JQ h) rfl
def vn{o:OT}(h:tdB (Ky o ask t n u)=.err c)(hc:jb c=.ok v):bz [.ow o,.va (.int (ask:Nat)),.va (.tup [t,.int n,.int u])]=.ok (v,o):=uN (Z:=Ky o ask t n u) rfl (Gn h hc) rfl
def Gy{o:OT}{j:Nat}(e:[t,.int n,.int u][j]?=ZA v):o2 aV (vr 2) (cn (.int (j:Nat))) (Ky o ask t n u)=.ok v:=iA (n:=j) (l:=[t,.int n,.int u]) rfl rfl e
end
abbrev Kr(ask:Nat)(r t:T)(n u:Int)(K:List T):Rs (T×OT):=bz [.ow (DK (K++[r])),.va (.int (ask:Nat)),.va (.tup [t,.int n,.int u])]
def MS(ask:Nat)(r t:T)(n u:Int):Prop:=
 (∃r' v,GR r'/\cq [r,.int (ask:Nat),.tup [t,.int n,.int u]]=.ok (.tup [r',v])/\pM v v=.ok (.bl ZD) ∧
  (fY r'=ZC->∀K:List T,(K++[r]).length<=1000->Kr ask r t n u K=.ok (v,DK (K++[r] ++[r'])))/\(fY r'=ZD->∀K:List T,Kr ask r t n u K=.ok (dv 4,DK (K++[r])))) ∨
 ∃j,cq [r,.int (ask:Nat),.tup [t,.int n,.int u]]=.ok (.tup [.non,dv j])/\∀K:List T,Kr ask r t n u K=.ok (dv j,DK (K++[r]))
variable{K:List T}
section
variable {t r r':T}{u:Int}
def mh(e:(aD X2 (aD X3 (aD X4 (aD X5 (aD X6 X7))))) (NF cs ls ask t n u .em .em .em .em)=.ok (.rt v)):cq [RR cs ls,.int (ask:Nat),.tup [t,.int n,.int u]]=.ok v:=by
 refine cA rfl ?_
 show kl (NE (RR cs ls) ask (.tup [t,.int n,.int u]) .em .em .em .em .em .em .em .em .em)=_
 unfold kl;rw[aE (Z':=NE (RR cs ls) ask (.tup [t,.int n,.int u]) (.va (.tup cs)) (.va (.tup ls)) .em .em .em .em .em .em .em) (bW (t:=RR cs ls) rfl rfl)];rw[aE (Z':=NF cs ls ask t n u .em .em .em .em) (bW (t:=.tup [t,.int n,.int u]) rfl rfl)];exact e
def tM(j:Nat):aK (ae (cn .non) (ae (aK (ae (cn (.str "refused")) (ae (cn (.int (j:Nat))) ai))) ai)) Z=.ok (.tup [.non,dv j]):=ba (aq rfl (aq (ba rfl (az (k:=2) (by simp))) rfl)) (az (k:=2) (by simp))
def K4{f:T}{g:V5}(h8:Z[8]?=ZA (.va f))(hp:f.pl=ZC)(hg:g Z=.ok v):aR (yD (tb (cl bH (ae (vr 8) ai))) (aK (ae (vr 8) (ae g ai))) (aK (ae (cn .non) (ae (aK (ae (cn (.str "refused")) (ae (cn (.int 0)) ai))) ai)))) Z=.ok (.rt (if cN f then .tup [f,v]else .tup [.non,dv 0])):=by
 refine cX ((se (p:=cN f) (bf (aU (ts:=[f]) (aq (Dn h8) rfl) (qo f hp)))).trans ?_)
 cases cN f
 ·exact tM 0
 ·exact ba (aq (Dn h8) (aq hg rfl)) (az (k:=2) (by simp))
def nx0(g:Good cs ls)(ht:t.pl=ZC):MS 0 (RR cs ls) t n u:=by
 have hG:GR (RR cs ls):=⟨_,_,rfl,g⟩
 have hp:(RR cs (ls++[t])).pl=ZC:=i5 g.parts.1 (tQ g.pls (by simp[T.pl,plS,ht]))
 have hn:cq [RR cs ls,.int (0:Nat),.tup [t,.int n,.int u]]=.ok (if cN (RR cs (ls++[t]))then .tup [RR cs (ls++[t]),.int (ls.length:Nat)]else .tup [.non,dv 0]):=by
  refine mh ?_
  refine gX ((dS (bf rfl)).trans ?_)
  rw[aE (bW (t:=RR cs (ls++[t])) (ba (aq rfl (aq (aL (t:=.tup ls) (u:=.tup [t]) rfl (ba rfl (az (k:=1) (by simp))) (fT _ _ (by have:=g.n;simp;omega))) rfl)) (az (k:=2) (by simp))) rfl)]
  exact K4 rfl hp (aU (ts:=[.tup ls]) rfl rfl)
 have hw:=tV g.parts.1 g.pls (by have:=g.n;omega) ht g.ok
 unfold pd at hw
 cases hr:cN (RR cs (ls++[t]))with
 |true=>
  rw[hr,if_pos rfl]at hn;rw[if_pos hr]at hw
  have h':GR (RR cs (ls++[t])):=GR.of hp hr;refine .inl ⟨_,_,h',hn,i6 rfl (by simp[T.dep]),λb K hl=>za (p9 (bf rfl) (mZ (kD (c:="Desk") (ns:=["kept"]) (ls:=[K++[RR cs ls]]) (ts:=[t]) rfl (by decide) (aq (Gy (j:=0) rfl) rfl) ((J6 hG hw h' b hl).trans ?_))) rfl),λb K=>vn (p9 (bf rfl) (mm (gV (c:="Desk") (ns:=["kept"]) (ls:=[K++[RR cs ls]]) (ts:=[t]) rfl (by decide) (aq (Gy (j:=0) rfl) rfl) (GG hG hw h' b))) rfl) r4⟩
  rw[show(((ls++[t]).length:Int) - 1)=(ls.length:Nat)by simp]
 |false=>
  rw[hr,if_neg NZ]at hn;rw[if_neg (by rw[hr];exact NZ)]at hw
  exact .inr ⟨0,hn,λK=>vn (p9 (bf rfl) (mm (gV (c:="Desk") (ns:=["kept"]) (ls:=[K++[RR cs ls]]) (ts:=[t]) rfl (by decide) (aq (Gy (j:=0) rfl) rfl) (fS rfl (ij (oF (Z:=[.ow (DK (K++[RR cs ls])),.va t]) rfl (aU (aq (fh rfl hG) rfl) hw)))))) rfl) r0⟩
def Ka(h:GR r)(hx:cv [r,t]=.ok r')(h':GR r')(hw:fY r'=ZC)(K:List T)(hl:(K++[r]).length<=1000):dO [.ow (DK (K++[r])),.va t]=.ok (.non,DK (K++[r] ++[r'])):=
 ou (Z:=[.ow (DK (K++[r] ++[r'])),.va t]) rfl (D1 (Z:=[.ow (DK (K++[r])),.va t]) rfl (aU (aq (fh rfl h) rfl) hx) h' hw hl) rfl
def td2(ha:ask=2)(h:dO [.ow (DK K),.va (.int n)]=.ok (v,o')):bz [.ow (DK K),.va (.int (2:Nat)),.va (.tup [t,.int n,.int u])]=.ok (v,o'):=
 za ((iB (bf rfl)).trans ((iB (bf rfl)).trans (mZ ((Dj (bf rfl)).trans (kD (c:="Desk") (ns:=["kept"]) (ls:=[K]) (ts:=[.int n]) rfl (by decide) (aq (Gy (j:=1) rfl) rfl) h)))))
def KL(h:dO [.ow (DK K),.va (.int n)]=.err c)(hc:jb c=.ok v):bz [.ow (DK K),.va (.int (2:Nat)),.va (.tup [t,.int n,.int u])]=.ok (v,DK K):=
 vn ((iB (bf rfl)).trans ((iB (bf rfl)).trans (mm ((Dj (bf rfl)).trans (gV (c:="Desk") (ns:=["kept"]) (ls:=[K]) (ts:=[.int n]) rfl (by decide) (aq (Gy (j:=1) rfl) rfl) h))))) hc
def td1(h:dN [.ow (DK K),.va (.int n),.va (.int u)]=.ok (v,o')):bz [.ow (DK K),.va (.int (1:Nat)),.va (.tup [t,.int n,.int u])]=.ok (v,o'):=
 za ((iB (bf rfl)).trans (p9 (bf rfl) (mZ (kD (c:="Desk") (ns:=["kept"]) (ls:=[K]) (ts:=[.int n,.int u]) rfl (by decide) (aq (Gy (j:=1) rfl) (aq (Gy (j:=2) rfl) rfl)) h)) rfl))
def Ia(h:dN [.ow (DK K),.va (.int n),.va (.int u)]=.err c)(hc:jb c=.ok v):bz [.ow (DK K),.va (.int (1:Nat)),.va (.tup [t,.int n,.int u])]=.ok (v,DK K):=
 vn ((iB (bf rfl)).trans (p9 (bf rfl) (mm (gV (c:="Desk") (ns:=["kept"]) (ls:=[K]) (ts:=[.int n,.int u]) rfl (by decide) (aq (Gy (j:=1) rfl) (aq (Gy (j:=2) rfl) rfl)) h)) rfl)) hc
def nx2(g:Good cs ls):MS 2 (RR cs ls) t n u:=by
 have hg:=g.n
 have hG:GR (RR cs ls):=⟨_,_,rfl,g⟩
 have h2:X2 (NF cs ls 2 t n u .em .em .em .em)=.ok (.nx (NF cs ls 2 t n u .em .em .em .em)):=(d7 (bf rfl)).trans rfl
 have hx:cH (tb (ch Bq pP (cn (.int 0)) (vr 6) (cl bP (ae (vr 4) ai)))) (NF cs ls 2 t n u .em .em .em .em)=.ok (!aW (.int n) 0 ((ls.length:Int) - 1)):=by
  rw[<-DB];exact gY (bf (chI (x:=0) (y:=n) (z:=(ls.length:Nat)) rfl rfl (aU (ts:=[.tup ls]) rfl rfl)))
 cases hw:aW (.int n) 0 ((ls.length:Int) - 1)with
 |false=>
  rw[hw]at hx
  exact .inr ⟨2,mh ((aE h2).trans (gX ((dS (bf rfl)).trans (gX ((dS hx).trans (cX (tM 2))))))),λK=>KL (fS rfl (oF (Z:=[.ow (DK (K++[RR cs ls])),.va (.int n)]) rfl (aU (aq (fh rfl hG) rfl) (x9 g hw)))) r2⟩
 |true=>
  rw[hw]at hx;obtain⟨i,hi,h0,h1⟩:=cg hw;cases hi;obtain⟨k,rfl⟩:=Os h0
  have hk:k<ls.length:=by omega
  have h':GR (RR cs (tY ls k)):=⟨cs,_,rfl,g.sub (λv hv=>by
   unfold tY at hv;rcases Og.mp hv with z|z
   ·exact PN z
   ·exact Te z) (OB (tW _ _) g.n)⟩
  exact .inl ⟨_,.non,h',mh ((aE h2).trans (gX ((dS (bf rfl)).trans ((aE ((d7 hx).trans rfl)).trans (cX (ba (aq (ba (aq (t:=.tup cs) rfl (aq (t:=.tup (tY ls k)) (aL (t:=.tup (ls.take k)) (u:=.tup (ls.drop (k+1))) (yN rfl rfl) (uX rfl rfl) (fT _ _ (by have:=tW ls k;unfold tY at this;omega))) rfl)) (az (k:=2) (by simp))) (aq rfl rfl)) (az (k:=2) (by simp)))))))),i6 rfl (by simp[T.dep]),λb K hl=>td2 rfl (Ka hG (rL g hk) h' b K hl),λb K=>KL (fS rfl (zW (Z:=[.ow (DK (K++[RR cs ls])),.va (.int (k:Nat))]) rfl (aU (aq (fh rfl hG) rfl) (rL g hk)) h' b)) r4⟩
def IV{l:List T}{c:T}(h:k<l.length):(jx l k c)[k]?=ZA c:=by
 unfold jx;rw[Om,Pu (by simp;omega)]
 have:k - (l.take k).length=0:=by simp;omega
 rw[this];rfl
def J7{rr:List T}{cs' ls':List T}(h:GR r)(hx:cW [r,.int (k:Nat),.int u]=.ok (RR cs' ls'))(h':GR (RR cs' ls'))(hw:fY (RR cs' ls')=ZC)(e:cs'[k]?=ZA (.tup [.int x,.int y,.tup rr]))(K:List T)(hl:(K++[r]).length<=1000):
  dN [.ow (DK (K++[r])),.va (.int (k:Nat)),.va (.int u)]=.ok (.tup [.int (k:Nat),.int ((rr.length:Int) - 1)],DK (K++[r] ++[RR cs' ls'])):=by
 refine uN (Z:=[.ow (DK (K++[r] ++[RR cs' ls'])),.va (.int (k:Nat)),.va (.int u)]) rfl ?_ rfl
 show kn [.ow (DK (K++[r])),.va (.int (k:Nat)),.va (.int u)]=_
 unfold kn;refine p8 (D1 (Z:=[.ow (DK (K++[r])),.va (.int (k:Nat)),.va (.int u)]) rfl (aU (aq (fh rfl h) rfl) hx) h' hw hl) ?_
 exact mZ (JJ (ba (aq rfl (aq (aL (t:=.int (rr.length:Nat)) (u:=.int 1) (aU (ts:=[.tup rr]) (aq (iA (n:=2) (l:=[.int x,.int y,.tup rr]) (iA (n:=k) (l:=cs') (iA (n:=0) (l:=[.tup cs',.tup ls']) (fh (K:=K++[r]) rfl h') rfl rfl) rfl e) rfl rfl) rfl) rfl) rfl rfl) rfl)) (az (k:=2) (by simp))))
def nx1(g:Good cs ls):MS 1 (RR cs ls) t n u:=by
 have hc4:=(bh g.c).2.2
 have hG:GR (RR cs ls):=⟨_,_,rfl,g⟩
 have h2:X2 (NF cs ls 1 t n u .em .em .em .em)=.ok (.nx (NF cs ls 1 t n u .em .em .em .em)):=(d7 (bf rfl)).trans rfl
 have h3:X3 (NF cs ls 1 t n u .em .em .em .em)=.ok (.nx (NF cs ls 1 t n u .em .em .em .em)):=(d7 (bf rfl)).trans rfl
 have hx:cH (tb (ch Bq pP (cn (.int 0)) (vr 6) (cl bP (ae (vr 3) ai)))) (NF cs ls 1 t n u .em .em .em .em)=.ok (!aW (.int n) 0 ((cs.length:Int) - 1)):=by
  rw[<-DB];exact gY (bf (chI (x:=0) (y:=n) (z:=(cs.length:Nat)) rfl rfl (aU (ts:=[.tup cs]) rfl rfl)))
 cases hw:aW (.int n) 0 ((cs.length:Int) - 1)with
 |false=>
  rw[hw]at hx
  exact .inr ⟨2,mh ((aE h2).trans ((aE h3).trans (gX ((dS hx).trans (cX (tM 2)))))),λK=>Ia (fS rfl (ij (oF (Z:=[.ow (DK (K++[RR cs ls])),.va (.int n),.va (.int u)]) rfl (aU (aq (fh rfl hG) rfl) (v3 g hw))))) r2⟩
 |true=>
  rw[hw]at hx;obtain⟨i,hi,h0,h1⟩:=cg hw;cases hi;obtain⟨k,rfl⟩:=Os h0
  have hk:k<cs.length:=by omega
  obtain⟨x,y,rr,er,h1',h4⟩:=xk g (n:=k) hk
  have plr:(T.tup (rr.map .int)).pl=ZC:=by rw[fI];exact gj λt ht=>by obtain⟨k,_,rfl⟩:=Oj.mp ht;rfl
  have hw2:=qM (u:=.int u) g (n:=k) hk er (by rw[NP];exact h4) rfl rfl plr rfl
  have hp:(RR (jx cs k (.tup [.int x,.int y,.tup (rr.map .int++[.int u])])) ls).pl=ZC:=by
   refine i5 (Cr g.parts.1 ?_) g.pls
   have:=tQ plr (m:=[.int u]) rfl;simp[T.pl,plS]at this ⊢;exact this
  have hn:cq [RR cs ls,.int (1:Nat),.tup [t,.int (k:Nat),.int u]]=.ok (if cN (RR (jx cs k (.tup [.int x,.int y,.tup (rr.map .int++[.int u])])) ls)then .tup [RR (jx cs k (.tup [.int x,.int y,.tup (rr.map .int++[.int u])])) ls,.tup [.int (k:Nat),.int (rr.length:Nat)]]else .tup [.non,dv 0]):=by
   refine mh ((aE h2).trans ((aE h3).trans ((aE ((d7 hx).trans rfl)).trans ?_)))
   rw[aE (Z':=NF cs ls 1 t (k:Nat) u .em (.va (.int x)) (.va (.int y)) (.va (.tup (rr.map .int)))) (bW (t:=.tup [.int x,.int y,.tup (rr.map .int)]) (iA (n:=k) (l:=cs) rfl rfl er) rfl)];rw[aE (bW (t:=RR (jx cs k (.tup [.int x,.int y,.tup (rr.map .int++[.int u])])) ls) (ba (aq (t:=.tup (jx cs k (.tup [.int x,.int y,.tup (rr.map .int++[.int u])]))) (Dq (by omega) rfl rfl (ba (aq rfl (aq rfl (aq (aL (t:=.tup (rr.map .int)) (u:=.tup [.int u]) rfl (ba rfl (az (k:=1) (by simp))) (fT _ _ (by simp;omega))) rfl))) (az (k:=3) (by simp)))) (aq rfl rfl)) (az (k:=2) (by simp))) rfl)]
   refine K4 rfl hp (ba (aq rfl (aq (aU (ts:=[.tup (rr.map .int)]) rfl ?_) rfl)) (az (k:=2) (by simp)))
   show Rs.ok (T.int ((rr.map T.int).length:Nat))=_
   rw[NP]
  unfold pd at hw2
  cases hr:cN (RR (jx cs k (.tup [.int x,.int y,.tup (rr.map .int++[.int u])])) ls)with
  |true=>
   rw[hr,if_pos rfl]at hn;rw[if_pos hr]at hw2
   have h':=GR.of hp hr;refine .inl ⟨_,_,h',hn,i6 rfl (by simp[T.dep,deps]),λb K hl=>td1 ((J7 hG hw2 h' b (IV hk) K hl).trans ?_),λb K=>Ia (fS rfl (ij (zW (Z:=[.ow (DK (K++[RR cs ls])),.va (.int (k:Nat)),.va (.int u)]) rfl (aU (aq (fh rfl hG) rfl) hw2) h' b))) r4⟩
   rw[show(((rr.map T.int++[T.int u]).length:Int) - 1)=(rr.length:Nat)by simp]
  |false=>
   rw[hr,if_neg NZ]at hn;rw[if_neg (by rw[hr];exact NZ)]at hw2
   exact .inr ⟨0,hn,λK=>Ia (fS rfl (ij (oF (Z:=[.ow (DK (K++[RR cs ls])),.va (.int (k:Nat)),.va (.int u)]) rfl (aU (aq (fh rfl hG) rfl) hw2)))) r0⟩
end
def Jq{r t:T}{u:Int}(ha:ask<3)(h:GR r)(ht:t.pl=ZC):MS ask r t n u:=by
 obtain⟨cs,ls,rfl,g⟩:=h
 match ask,ha with
 |0,_=>exact nx0 g ht
 |1,_=>exact nx1 g
 |2,_=>exact nx2 g
end G
namespace G
open PySem Tr Gr
def Ho(h:a<b):rg [.int a,.int b]=.ok (.int b):=by
 show Rs.ok (T.int (if a<b then b else a))=_
 rw[if_pos h]
def C5(h:b<=a):rg [.int a,.int b]=.ok (.int a):=by
 show Rs.ok (T.int (if a<b then b else a))=_
 rw[if_neg (by omega)]
def GF(r:T):da [.ow (DK [r])]=.err "Nothing":=by
 refine fS rfl ?_
 show gc [.ow (DK [r])]=_
 unfold gc;exact ij ((zL (k:=ZC) (bf (aL (t:=.int (([r].length:Int) - 1)) (u:=.int 0) (yy (K:=[r]) rfl) rfl (zV rfl (by simp[T.dep]))))).trans rfl)
variable{K:List T}
def J5(r:T)(h:K≠ []):da [.ow (DK (K++[r]))]=.ok (.non,DK K):=by
 refine ou (Z:=[.ow (DK K)]) rfl ?_ rfl
 show gc [.ow (DK (K++[r]))]=_
 unfold gc
 have hk:0<K.length:=List.length_pos_iff.mpr h;refine p8 (Z':=[.ow (DK (K++[r]))]) ((zL (k:=ZD) (bf (aL (t:=.int (((K++[r]).length:Int) - 1)) (u:=.int 0) (yy (K:=K++[r]) rfl) rfl ?_))).trans rfl) ?_
 ·rw[qm,NT,Pm]
  congr 2
  exact beq_eq_false_iff_ne.mpr (by omega)
 ·exact wQ ((JI (ns:=["kept"]) (ls:=[K++[r]]) (l:=K) (t:=r) rfl (uS _)).trans (by rw[CJ];rfl))
variable{D:List T}{v:T}
section
variable {r t:T}{u:Int}
abbrev LE(ns:List Int)(F:T)(D R:List T)(k he re ak le rd so du fo:Sl):En:=[.va (.scr ns),.va F,.ow (DK D),.va (.lst R),k,he,re,ak,le,rd,so,du,fo]
structure St (R:List T):Prop where
 g:∀r∈R,GR r/\fY r=ZC
 n:R.length<=50
def o9(j:Nat):pM (dv j) (dv j)=.ok (.bl ZD):=i6 rfl (by simp[dv,T.dep,deps])
def GR.NA(h:GR r):r.isN=ZD:=by obtain⟨cs,ls,rfl,g⟩:=h;rfl
def yU(ns:List Int)(F:T)(K:List T)(r:T)(k he:Sl)(ask:Nat)(le rd:Sl)(t:T)(n u:Int)(du fo:Sl):Prop:=∃K' r' D fo',St (K'++[r'])/\K'.length<=K.length+1 ∧
  B6 (LE ns F (K++[r]) (K++[r]) k he (.va r) (.va (.int (ask:Nat))) le rd (.va (.tup [t,.int n,.int u])) du fo)=.ok (.nx (LE ns F (K++[r]) (K'++[r']) k he (.va r) (.va (.int (ask:Nat))) le rd (.va (.tup [t,.int n,.int u])) (.va D) fo')) ∧
  bz [.ow (DK (K++[r])),.va (.int (ask:Nat)),.va (.tup [t,.int n,.int u])]=.ok (D,DK (K'++[r']))/\pM D D=.ok (.bl ZD)
def Kq(h:St (K++[r]))(hl:K.length<40)(hk:ask<3)(ht:t.pl=ZC)(F:T)(k he le rd du fo:Sl):yU ns F K r k he ask le rd t n u du fo:=by
 have hr:=(h.g r (by simp)).1
 have hgt:tb (o2 kN (vr 7) (cn (.int 3))) (LE ns F (K++[r]) (K++[r]) k he (.va r) (.va (.int (ask:Nat))) le rd (.va (.tup [t,.int n,.int u])) du fo)=.ok ZD:=bf (aL (t:=.int (ask:Nat)) (u:=.int 3) rfl rfl (by rw[qm];congr 2;exact beq_eq_false_iff_ne.mpr (by omega)))
 have step:∀(x v x' v':T),cq [r,.int (ask:Nat),.tup [t,.int n,.int u]]=.ok (.tup [x,v])->(x'=x/\v'=v/\(x.isN=ZD->GR x/\fY x=ZC)\/(x'=.non/\v'=dv 4/\GR x/\fY x=ZD)) →
   B6 (LE ns F (K++[r]) (K++[r]) k he (.va r) (.va (.int (ask:Nat))) le rd (.va (.tup [t,.int n,.int u])) du fo)=.ok (.nx (LE ns F (K++[r]) (K++[r] ++(if !x'.isN then [x']else [])) k he (.va r) (.va (.int (ask:Nat))) le rd (.va (.tup [t,.int n,.int u])) (.va v') (.va x'))):=by
  intro x v x' v' e hc;refine(d7 hgt).trans ?_
  rw[aE (Z':=LE ns F (K++[r]) (K++[r]) k he (.va r) (.va (.int (ask:Nat))) le rd (.va (.tup [t,.int n,.int u])) (.va v) (.va x)) (bW (aU (ts:=[r,.int (ask:Nat),.tup [t,.int n,.int u]]) rfl e) rfl)]
  have c1:tb (o2 dw (vr 12) (cn .non)) (LE ns F (K++[r]) (K++[r]) k he (.va r) (.va (.int (ask:Nat))) le rd (.va (.tup [t,.int n,.int u])) (.va v) (.va x))=.ok (!x.isN):=bf rfl
  have last:∀(fo:Sl),(cj (o2 aP (vr 3) (o2 b6 (fz (ae (vr 12) ai)) (cl wU (ae (o2 dw (vr 12) (cn .non)) ai)))) (gN 3)) (LE ns F (K++[r]) (K++[r]) k he (.va r) (.va (.int (ask:Nat))) le rd (.va (.tup [t,.int n,.int u])) (.va v') (.va x'))=.ok (.nx (LE ns F (K++[r]) (K++[r] ++(if !x'.isN then [x']else [])) k he (.va r) (.va (.int (ask:Nat))) le rd (.va (.tup [t,.int n,.int u])) (.va v') (.va x'))):=λ_=>by
   refine bW (aL (t:=.lst (K++[r])) (u:=.lst (if !x'.isN then [x']else [])) rfl (aL (t:=.lst [x']) (mn (ts:=[x']) rfl (az (k:=1) (by simp))) (aU (ts:=[.bl (!x'.isN)]) rfl rfl) (mul_one _ _)) (vc _ _ ?_)) rfl
   rw[NT,NT];cases x'.isN <;> simp <;> omega
  rcases hc with⟨rfl,rfl,hx⟩|⟨rfl,rfl,hx,hw⟩
  ·have c2:lI (tb (o2 dw (vr 12) (cn .non))) (cH (tb (cl di (ae (vr 12) ai)))) (LE ns F (K++[r]) (K++[r]) k he (.va r) (.va (.int (ask:Nat))) le rd (.va (.tup [t,.int n,.int u])) (.va v') (.va x'))=.ok ZD:=by
    cases hn:x'.isN with
    |true=>rw[hn]at c1;exact yA c1
    |false=>
     rw[hn]at c1;obtain⟨g1,g2⟩:=hx hn;exact qe c1 (gY (k:=ZC) (bf (aU (ts:=[x']) rfl (by rw[g1.Nj,g2]))))
   rw[aE ((d7 c2).trans rfl)];exact last .em
  ·rw[hx.NA]at c1
   have c2:lI (tb (o2 dw (vr 12) (cn .non))) (cH (tb (cl di (ae (vr 12) ai)))) (LE ns F (K++[r]) (K++[r]) k he (.va r) (.va (.int (ask:Nat))) le rd (.va (.tup [t,.int n,.int u])) (.va v) (.va x))=.ok ZC:=
    qe c1 (gY (k:=ZD) (bf (aU (ts:=[x]) rfl (by rw[hx.Nj,hw]))))
   rw[aE (Z':=LE ns F (K++[r]) (K++[r]) k he (.va r) (.va (.int (ask:Nat))) le rd (.va (.tup [t,.int n,.int u])) (.va (dv 4)) (.va .non)) ((dS c2).trans (bW (t:=.tup [.non,dv 4]) (ba (aq rfl (aq (ba rfl (az (k:=2) (by simp))) rfl)) (az (k:=2) (by simp))) rfl))]
   exact last .em
 rcases Jq (n:=n) (u:=u) hk hr ht with⟨r',v,g',e,hv,a1,a2⟩|⟨j,e,a1⟩
 ·cases hw:fY r' with
  |true=>
   refine⟨K++[r],r',v,.va r',⟨λx hx=>?_,by simp;omega⟩,by simp,?_,a1 hw K (by simp;omega),hv⟩
   ·rcases Og.mp hx with z|z
    ·exact h.g x z
    ·rw[N0.mp z];exact⟨g',hw⟩
   ·have:=step r' v r' v e (.inl ⟨rfl,rfl,λ_=>⟨g',hw⟩⟩)
    rw[g'.NA]at this
    exact this
  |false=>
   refine⟨K,r,dv 4,.va .non,h,by omega,?_,a2 hw K,o9 4⟩
   have:=step r' v .non (dv 4) e (.inr ⟨rfl,rfl,g',hw⟩);rw[show(if !T.non.isN then [T.non]else [])=([]:List T)from rfl,Oi]at this
   exact this
 ·refine⟨K,r,dv j,.va .non,h,by omega,?_,a1 K,o9 j⟩
  have:=step .non (dv j) .non (dv j) e (.inl ⟨rfl,rfl,λz=>by cases z⟩)
  rw[show(if !T.non.isN then [T.non]else [])=([]:List T)from rfl,Oi]at this
  exact this
def td3{o':OT}(h:da [.ow (DK D)]=.ok (v,o')):bz [.ow (DK D),.va (.int (3:Nat)),.va (.tup [t,.int n,.int u])]=.ok (v,o'):=
 za ((iB (bf rfl)).trans ((iB (bf rfl)).trans (mZ ((Dk (bf rfl)).trans (kD (c:="Desk") (ns:=["kept"]) (ls:=[D]) (ts:=[]) rfl (by decide) rfl h)))))
def td3e{c:Str}(h:da [.ow (DK D)]=.err c)(hc:jb c=.ok v):bz [.ow (DK D),.va (.int (3:Nat)),.va (.tup [t,.int n,.int u])]=.ok (v,DK D):=
 vn ((iB (bf rfl)).trans ((iB (bf rfl)).trans (mm ((Dk (bf rfl)).trans (gV (c:="Desk") (ns:=["kept"]) (ls:=[D]) (ts:=[]) rfl (by decide) rfl h))))) hc
def G0(h:St (K++[r]))(F:T)(k he le rd du fo:Sl):yU ns F K r k he 3 le rd t n u du fo:=by
 have hgt:tb (o2 kN (vr 7) (cn (.int 3))) (LE ns F (K++[r]) (K++[r]) k he (.va r) (.va (.int (3:Nat))) le rd (.va (.tup [t,.int n,.int u])) du fo)=.ok ZC:=bf rfl
 have hlen:∀du,cl bP (ae (vr 3) ai) (LE ns F (K++[r]) (K++[r]) k he (.va r) (.va (.int (3:Nat))) le rd (.va (.tup [t,.int n,.int u])) du fo)=.ok (.int ((K++[r]).length:Nat)):=λ_=>aU (ts:=[.lst (K++[r])]) rfl rfl
 have hcut:∀(m:Nat)(du:Sl),rg [.int 1,.int (((K++[r]).length:Nat) - 1:Int)]=.ok (.int (m:Nat))->(cj (sl (vr 3) pN (pS (cl rg (ae (cn (.int 1)) (ae (o2 cZ (cl bP (ae (vr 3) ai)) (cn (.int 1))) ai))))) (gN 3)) (LE ns F (K++[r]) (K++[r]) k he (.va r) (.va (.int (3:Nat))) le rd (.va (.tup [t,.int n,.int u])) du fo)=.ok (.nx (LE ns F (K++[r]) ((K++[r]).take m) k he (.va r) (.va (.int (3:Nat))) le rd (.va (.tup [t,.int n,.int u])) du fo)):=λm du e=>by
  refine bW ?_ rfl
  rw[Hs (l:=K++[r]) (lo:=ZB) (hi:=ZA (m:Int)) rfl rfl (wO (aU (ts:=[.int 1,.int (((K++[r]).length:Nat) - 1:Int)]) (aq rfl (aq (aL (hlen du) rfl rfl) rfl)) e)),kc]
 rcases(show K=[]\/∃L q,K=L++[q]from by
   rcases List.eq_nil_or_concat K with h|⟨L,q,h⟩
   ·exact .inl h
   ·exact .inr ⟨L,q,by rw[h,List.concat_eq_append]⟩)with rfl|⟨L,q,rfl⟩
 ·refine⟨[],r,dv 5,fo,h,by simp,?_,td3e (GF r) r5,o9 5⟩
  refine(dS hgt).trans ?_
  rw[aE (Z':=LE ns F ([] ++[r]) ([] ++[r]) k he (.va r) (.va (.int (3:Nat))) le rd (.va (.tup [t,.int n,.int u])) (.va (dv 5)) fo) (bW (t:=dv 5) ((se (p:=ZC) (bf (aL (hlen du) rfl (by rw[qm];rfl)))).trans ((if_pos rfl).trans (ba (ts:=[.str "refused",.int 5]) rfl (az (k:=2) (by simp))))) rfl)]
  exact hcut 1 _ (C5 (by simp))
 ·refine⟨L,q,.non,fo,⟨λx hx=>h.g x (Ol _ hx),by have:=h.n;simp at this ⊢;omega⟩,by simp;omega,?_,td3 (J5 r (by simp)),i6 rfl (by simp[T.dep])⟩
  refine(dS hgt).trans ?_
  have hlL:((L++[q] ++[r]).length:Int)=(L.length:Int)+2:=by simp
  rw[aE (Z':=LE ns F (L++[q] ++[r]) (L++[q] ++[r]) k he (.va r) (.va (.int (3:Nat))) le rd (.va (.tup [t,.int n,.int u])) (.va .non) fo) (bW (t:=.non) ((se (p:=ZD) (bf (aL (hlen du) rfl (by rw[qm];congr 2;exact beq_eq_false_iff_ne.mpr (by rw[hlL];omega))))).trans rfl) rfl)]
  have:=hcut (L.length+1) (.va .non) (by
   rw[hlL]
   by_cases hz:L.length=0
   ·rw[C5 (by omega),hz];rfl
   ·rw[Ho (by omega),show((L.length:Int)+2 - 1)=((L.length+1:Nat):Int)by omega])
  rw[List.take_left' (by simp)]at this
  exact this
end
end G
namespace G
open PySem Tr Gr
variable{Z:En}
section
variable {K:List T}{r:T}
def Dw{l:List T}{z:T}(h:Z[i]?=ZA (.va (.lst (l++[z])))):o2 aV (vr i) (o1 jP (cn (.int 1))) Z=.ok z:=aL (t:=.lst (l++[z])) (u:=.int (-1)) (Dn h) (Gj rfl rfl) (wR l z)
def Mt{d:Nat}(h:d<6):∃ask:Nat,ask<4/\aV (.lst [.int 0,.int 0,.int 0,.int 1,.int 2,.int 3]) (.int (d:Nat))=.ok (.int (ask:Nat)):=by
 match d,h with
 |0,_=>exact⟨0,by omega,rfl⟩
 |1,_=>exact⟨0,by omega,rfl⟩
 |2,_=>exact⟨0,by omega,rfl⟩
 |3,_=>exact⟨1,by omega,rfl⟩
 |4,_=>exact⟨2,by omega,rfl⟩
 |5,_=>exact⟨3,by omega,rfl⟩
abbrev B8:V4:=aD B0 (aD B1 (aD B2 (aD B3 (aD B4 (aD B5 (aD B6 B7))))))
def Kp(hn:ns.length<=63)(h:St (K++[r]))(hl:K.length<40)(F:T)(j:Nat)(he re ak le rd so du fo:Sl):∃K' r' he' re' ak' le' rd' so' du' fo',St (K'++[r'])/\K'.length<=K.length+1 ∧
  B8 (LE ns F (K++[r]) (K++[r]) (.va (.int (j:Nat))) he re ak le rd so du fo)=.ok (.nx (LE ns F (K'++[r']) (K'++[r']) (.va (.int (j:Nat))) he' re' ak' le' rd' so' du' fo')):=by
 obtain⟨cs,ls,er,g⟩:=(h.g r (by simp)).1
 obtain⟨d0,e0,p0,q0⟩:=dq ns (80+12*j) 6 hn (by omega)
 obtain⟨d0,rfl⟩:=Os p0;obtain⟨ask,hask,eask⟩:=Mt (d:=d0) (by omega)
 obtain⟨t,et,ht⟩:=sr ns hn (80+12*j+4) cs g.c
 have htp:t.pl=ZC:=by
  rcases ht with rfl|⟨_,z⟩
  ·rfl
  ·exact BW _ z
 obtain⟨d1,e1,p1,q1⟩:=dq ns (80+12*j+1) 4 hn (by omega)
 obtain⟨d2,e2,p2,q2⟩:=dq ns (80+12*j+2) 9 hn (by omega)
 obtain⟨x,y,rr,ec,hr1,hr4⟩:=xk g (n:=0) (by have:=(bh g.c).2.1;omega)
 obtain⟨rr',z,rfl⟩:∃rr' z,rr=rr'++[z]:=⟨rr.dropLast,rr.getLast (by intro q;rw[q]at hr1;simp at hr1),(List.dropLast_concat_getLast _).symm⟩
 have hT:yU ns F K r (.va (.int (j:Nat))) (.va (.int ((80+12*j:Nat):Int))) ask (.va t) (.va (.tup ((rr'++[z]).map .int))) t (d1 - 1) (z+d2 - 1) du fo:=by
  by_cases hk:ask<3
  ·exact Kq h hl hk htp F _ _ _ _ _ _
  ·obtain rfl:ask=3:=by omega
   exact G0 h F _ _ _ _ _ _
 obtain⟨K',r',D,fo',h',hl',eb,etd,hD⟩:=hT;refine⟨K',r',.va (.int ((80+12*j:Nat):Int)),.va r,.va (.int (ask:Nat)),.va t,.va (.tup ((rr'++[z]).map .int)),.va (.tup [t,.int (d1 - 1),.int (z+d2 - 1)]),.va D,fo',h',hl',?_⟩
 unfold B8;rw[aE (Z':=LE ns F (K++[r]) (K++[r]) (.va (.int (j:Nat))) (.va (.int ((80+12*j:Nat):Int))) re ak le rd so du fo) (bW (t:=.int ((80+12*j:Nat):Int)) (aL (t:=.int 80) (u:=.int (12*(j:Int))) rfl (aL (t:=.int 12) (u:=.int (j:Nat)) rfl rfl (k9 (by omega) (by omega))) (by show Rs.ok (T.int (80+12*(j:Int)))=_;rw[show(80+12*(j:Int))=((80+12*j:Nat):Int)by omega])) rfl)]
 rw[aE (Z':=LE ns F (K++[r]) (K++[r]) (.va (.int (j:Nat))) (.va (.int ((80+12*j:Nat):Int))) (.va r) ak le rd so du fo) (bW (t:=r) (Dw rfl) rfl)];rw[aE (Z':=LE ns F (K++[r]) (K++[r]) (.va (.int (j:Nat))) (.va (.int ((80+12*j:Nat):Int))) (.va r) (.va (.int (ask:Nat))) le rd so du fo) (bW (t:=.int (ask:Nat)) (aL (t:=.lst [.int 0,.int 0,.int 0,.int 1,.int 2,.int 3]) (u:=.int (d0:Nat)) (mn rfl (by unfold sizeLine;simp)) (aU (ts:=[.scr ns,.int ((80+12*j:Nat):Int),.int 6]) rfl e0) eask) rfl)]
 have hrc:∀(k he ak le rd so du fo:Sl),o2 aV (vr 6) (cn (.int 0)) (LE ns F (K++[r]) (K++[r]) k he (.va r) ak le rd so du fo)=.ok (.tup cs):=λk he ak le rd so du fo=>by
  rw[er];exact iA (n:=0) (l:=[.tup cs,.tup ls]) rfl rfl rfl
 rw[aE (Z':=LE ns F (K++[r]) (K++[r]) (.va (.int (j:Nat))) (.va (.int ((80+12*j:Nat):Int))) (.va r) (.va (.int (ask:Nat))) (.va t) rd so du fo) (bW (t:=t) (aU (ts:=[.scr ns,.int ((80+12*j+4:Nat):Int),.tup cs]) (aq rfl (aq rfl (aq (hrc _ _ _ _ _ _ _ _) rfl))) et) rfl)];rw[aE (Z':=LE ns F (K++[r]) (K++[r]) (.va (.int (j:Nat))) (.va (.int ((80+12*j:Nat):Int))) (.va r) (.va (.int (ask:Nat))) (.va t) (.va (.tup ((rr'++[z]).map .int))) so du fo) (bW (t:=.tup ((rr'++[z]).map .int)) (iA (n:=2) (l:=[.int x,.int y,.tup ((rr'++[z]).map .int)]) (iA (n:=0) (l:=cs) (hrc _ _ _ _ _ _ _ _) rfl ec) rfl rfl) rfl)]
 have hlast:o2 aV (vr 9) (o1 jP (cn (.int 1))) (LE ns F (K++[r]) (K++[r]) (.va (.int (j:Nat))) (.va (.int ((80+12*j:Nat):Int))) (.va r) (.va (.int (ask:Nat))) (.va t) (.va (.tup ((rr'++[z]).map .int))) so du fo)=.ok (.int z):=by
  refine aL (t:=.tup ((rr'++[z]).map .int)) (u:=.int (-1)) rfl (Gj rfl rfl) ?_
  rw[O4];exact uQ _ _
 rw[aE (Z':=LE ns F (K++[r]) (K++[r]) (.va (.int (j:Nat))) (.va (.int ((80+12*j:Nat):Int))) (.va r) (.va (.int (ask:Nat))) (.va t) (.va (.tup ((rr'++[z]).map .int))) (.va (.tup [t,.int (d1 - 1),.int (z+d2 - 1)])) du fo) (bW (t:=.tup [t,.int (d1 - 1),.int (z+d2 - 1)]) (ba (aq rfl (aq (aL (t:=.int d1) (u:=.int 1) (aU (ts:=[.scr ns,.int ((80+12*j+1:Nat):Int),.int 4]) rfl e1) rfl rfl) (aq (aL (t:=.int (z+d2)) (u:=.int 1) (aL hlast (aU (ts:=[.scr ns,.int ((80+12*j+2:Nat):Int),.int 9]) rfl e2) rfl) rfl rfl) rfl))) (az (k:=3) (by simp))) rfl)]
 rw[aE eb]
 have hr':=(h'.g r' (by simp)).1
 refine(L8 (b:=ZD) (zJ (LX (LZ (JK (o:=DK (K++[r])) (ts:=[.int (ask:Nat),.tup [t,.int (d1 - 1),.int (z+d2 - 1)]]) rfl rfl etd) rfl hD)) (zJ (Hr (bf (aL (fh rfl hr') (Dw rfl) hr'.ne))) (Hr (bf (aL (yy (K:=K'++[r']) rfl) (aL (t:=.int ((K'++[r']).length:Nat)) (u:=.int 1) (aU (ts:=[.lst (K'++[r'])]) rfl rfl) rfl rfl) (i6 rfl (by simp[T.dep])))))))).trans rfl
theorem Eu(hn:ns.length<=63)(F:T):∀(js:List Nat){K:List T}{r:T}(k he re ak le rd so du fo:Sl),St (K++[r])->K.length+js.length<=40->∃K' r' k' he' re' ak' le' rd' so' du' fo',St (K'++[r']) ∧
  bx (gN 4) B8 (js.map λ(j:Nat)=>T.int j) (LE ns F (K++[r]) (K++[r]) k he re ak le rd so du fo)=.ok (.nx (LE ns F (K'++[r']) (K'++[r']) k' he' re' ak' le' rd' so' du' fo'))
 |[],K,r,k,he,re,ak,le,rd,so,du,fo,h,hl=>⟨K,r,k,he,re,ak,le,rd,so,du,fo,h,rfl⟩
 |j::js,K,r,k,he,re,ak,le,rd,so,du,fo,h,hl=>by
  rw[NS]at hl;obtain⟨K',r',he',re',ak',le',rd',so',du',fo',h',hl',e⟩:=Kp hn h (by omega) F j he re ak le rd so du fo
  obtain⟨K2,r2,k2,he2,re2,ak2,le2,rd2,so2,du2,fo2,h2,e2⟩:=Eu hn F js (.va (.int (j:Nat))) he' re' ak' le' rd' so' du' fo' h' (by omega)
  refine⟨K2,r2,k2,he2,re2,ak2,le2,rd2,so2,du2,fo2,h2,?_⟩
  rw[NM,dR (Z1:=LE ns F (K++[r]) (K++[r]) (.va (.int (j:Nat))) he re ak le rd so du fo) rfl e];exact e2
end
variable{g:List T->Rs (T ⊕ OT)}{ts:List T}
def Gw{fs:V3}{o:OT}(h:fs Z=.ok ts)(hg:g ts=.ok (.inr o))(hi:i<Z.length):jJ i g fs Z=.ok (.nx (Z.set i (.ow o))):=by unfold jJ;rw[h,ay,hg,ay,if_pos hi]
def Gv{fs:V3}{v:T}(h:fs Z=.ok ts)(hg:g ts=.ok (.inl v))(hi:i<Z.length):jJ i g fs Z=.ok (.nx (Z.set i (.va v))):=by unfold jJ;rw[h,ay,hg,ay,if_pos hi]
def pure_law(ns:List Int)(hn:ns.length<=63):m_law [.scr ns]=.ok (.bl ZC):=by
 refine cA rfl ?_
 show EG [.va (.scr ns),.em,.em,.em,.em,.em,.em,.em,.em,.em,.em,.em,.em]=_
 unfold EG;obtain⟨cs0,ls0,e0,hc,_,hs,hl,h2⟩:=Kb ns hn 0 2 (by omega)
 obtain⟨hr,hsm⟩:=Ip hc hs hl (by omega)
 have hg0:=zf hr (BW _ hsm);obtain⟨cs,ls,ecs,hg⟩:=BV hg0
 have es:=GI hg0;rw[ecs]at es
 have hG:GR (RR cs ls):=⟨_,_,rfl,hg⟩;rw[aE (Z':=[.va (.scr ns),.va (RR cs ls),.em,.em,.em,.em,.em,.em,.em,.em,.em,.em,.em]) (bW (aU (aq (aU (ts:=[.scr ns,.int 0,.int 2]) rfl e0) rfl) es) rfl)]
 cases hw:fY (RR cs ls)with
 |false=>
  rw[aE (Z':=[.va (.scr ns),.va (RR cs ls),.va (dv 3),.em,.em,.em,.em,.em,.em,.em,.em,.em,.em]) (Gv (ts:=[RR cs ls]) rfl (w8 (hG.nwe hw) r3) (by simp))]
  exact gX ((dS (gY (k:=ZD) (bf (aU (ts:=[RR cs ls]) rfl (by rw[hG.Nj,hw]))))).trans (cX (aL (t:=dv 3) (u:=dv 3) rfl (ba rfl (az (k:=2) (by simp))) (zV rfl (by simp[dv,T.dep,deps])))))
 |true=>
  rw[aE (Z':=[.va (.scr ns),.va (RR cs ls),.ow (DK [RR cs ls]),.em,.em,.em,.em,.em,.em,.em,.em,.em,.em]) (Gw (ts:=[RR cs ls]) rfl (GO hG hw) (by simp))]
  rw[aE (Z':=[.va (.scr ns),.va (RR cs ls),.ow (DK [RR cs ls]),.em,.em,.em,.em,.em,.em,.em,.em,.em,.em]) ((d7 (gY (k:=ZC) (bf (aU (ts:=[RR cs ls]) rfl (by rw[hG.Nj,hw]))))).trans rfl)]
  have hbad:∀{x:T},x.pl=ZC->cN x=ZD->iw bB [x]=.ok (dv 0):=λhp hx=>by
   unfold iw;rw[w8 (F9 hp hx) r0]
  have hpc:=hg.parts.1
  have b1:tb (o2 pM (cl (iw bB) (ae (sl (vr 1) pN (pS (cn (.int 1)))) ai)) (aK (ae (cn (.str "refused")) (ae (cn (.int 0)) ai)))) [.va (.scr ns),.va (RR cs ls),.ow (DK [RR cs ls]),.em,.em,.em,.em,.em,.em,.em,.em,.em,.em]=.ok ZD:=
   bf (aL (aU (ts:=[.tup [.tup cs]]) (aq ((AV (l:=[.tup cs,.tup ls]) (lo:=ZB) (hi:=ZA 1) rfl rfl (wO rfl)).trans rfl) rfl) (hbad (by rw[fI];exact gj λy hy=>by rw[N0.mp hy];exact hpc) rfl)) (ba rfl (az (k:=2) (by simp))) (o9 0))
  have b2:tb (o2 pM (cl (iw bB) (ae (aK (ae (o2 aV (vr 1) (cn (.int 0))) (ae (cn .non) ai))) ai)) (aK (ae (cn (.str "refused")) (ae (cn (.int 0)) ai)))) [.va (.scr ns),.va (RR cs ls),.ow (DK [RR cs ls]),.em,.em,.em,.em,.em,.em,.em,.em,.em,.em]=.ok ZD:=
   bf (aL (aU (ts:=[.tup [.tup cs,.non]]) (aq (ba (aq (iA (n:=0) (l:=[.tup cs,.tup ls]) rfl rfl rfl) rfl) (az (k:=2) (by simp))) rfl) (hbad (i5 hpc rfl) (by show(a7 (.tup cs)&&gF cs .non)=ZD;rw[show gF cs .non=ZD from rfl,Bool.and_false]))) (ba rfl (az (k:=2) (by simp))) (o9 0))
  rw[aE ((d7 (zK b1 b2)).trans rfl)];rw[aE (Z':=LE ns (RR cs ls) ([] ++[RR cs ls]) ([] ++[RR cs ls]) .em .em .em .em .em .em .em .em .em) (bW (t:=.lst [RR cs ls]) (mn rfl (by unfold sizeLine;simp)) rfl)]
  have hS:St ([] ++[RR cs ls]):=⟨λx hx=>by rw[Po,N0]at hx;rw[hx];exact⟨hG,hw⟩,by simp⟩
  obtain⟨c,hc2,hi⟩:∃c:Nat,c<=10/\iR (ae (cl rg (ae (cn (.int 1)) (ae (cl C3 (ae (cn (.int 10)) (ae (cl bP (ae (vr 0) ai)) ai))) ai))) ai) (LE ns (RR cs ls) ([] ++[RR cs ls]) ([] ++[RR cs ls]) .em .em .em .em .em .em .em .em .em)=.ok ((OQ c).map λ(j:Nat)=>T.int j):=by
   have hm:cl C3 (ae (cn (.int 10)) (ae (cl bP (ae (vr 0) ai)) ai)) (LE ns (RR cs ls) ([] ++[RR cs ls]) ([] ++[RR cs ls]) .em .em .em .em .em .em .em .em .em)=.ok (.int ((min 10 ns.length:Nat):Int)):=by
    refine aU (ts:=[.int 10,.int (ns.length:Nat)]) (aq rfl (aq (aU (ts:=[.scr ns]) rfl (by show Rs.ok (T.int ((ns.map T.int).length:Nat))=_;rw[NP])) rfl)) ?_
    show Rs.ok (T.int (if ((ns.length:Nat):Int)<10 then((ns.length:Nat):Int)else 10))=_
    by_cases h:ns.length<10
    ·rw[if_pos (by omega),UP (by omega)]
    ·rw[if_neg (by omega),U9 (by omega)];rfl
   refine⟨max 1 (min 10 ns.length),by omega,?_⟩
   rw[<-og];refine JY (aq (aU (ts:=[.int 1,.int ((min 10 ns.length:Nat):Int)]) (aq rfl (aq hm rfl)) ?_) rfl) (by omega) (by omega)
   by_cases h:1<min 10 ns.length
   ·rw[Ho (by omega),Nat.max_eq_right (by omega)]
   ·rw[C5 (by omega),Nat.max_eq_left (by omega)];rfl
  obtain⟨K',r',k',he',re',ak',le',rd',so',du',fo',h',e2⟩:=Eu hn (RR cs ls) (OQ c) .em .em .em .em .em .em .em .em .em hS (by simp;omega)
  rw[aE (fX hi e2)];obtain⟨g1,g2⟩:=h'.g r' (by simp)
  exact cX (aU (aq (fh rfl g1) rfl) (by rw[g1.Nj,g2]))
end G
end
open PySem PySem.W PyProof.Rows
set_option maxRecDepth 100000 in
set_option maxHeartbeats 0 in
theorem PySem.Challenge.cw_farclocks_k80_desks_holds : PySem.Challenge.rw_farclocks_k80_desks.Holds := by
  w_on; o_law
  refine holds_open (q :=G.vw) (loose :=G.lse) (Xt :=λ_ =>true) (XP :=λ_ _ =>True) (Yf :=(Tr.hookC G.asks G.top).obs) (Ya :=(Tr.hookC G.asks G.top).val) (YP :=(Tr.hookC G.asks G.top).says) (N :=9000) (Tr.left_of (by rfl) (by rfl) (λ_ =>rfl) λw os =>?hl) (Tr.hookC G.asks G.top).of (Tr.hookC G.asks G.top).keeps (λ_ _ =>trivial) (λ_ _ _ _ _ =>trivial) (by rfl) (by rfl) (by rfl) (λs _ =>recFacts_of (s :=s) rfl) (by rfl) (by assumption) (by decide +kernel) ⟨rfl, rfl, rfl, rfl, rfl, by decide +kernel⟩ ?hw ?hc
  case hl =>exact ((congrFun (congrFun (congrFun (congrFun (congrFun PySem.W.Fast.lhsz_eq w) _) _) _) os).trans (G.NB w os)).trans (congrFun PySem.W.Fast.rhsz_eq w).symm
  case hw =>w_witness2
  case hc =>exact Tr.walk_c (n :=63) (k :=16) (x := "_law_script") (CX :=L2.CX0) (sp :=λK =>Tr.spP K 1 G.m_law) rfl (by decide) rfl ⟨rfl, by decide, by decide⟩ (λw K mg fa h X e g hf =>G.all_ok X e g hf) (λK H a ns hl _ hS =>Tr.sp_script hS (G.pure_law ns hl)) λ_ _ _ _ z =>z
